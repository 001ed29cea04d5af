/-
  NARROWER THAN 'FOR EVERY INPUT', by the rows' own cells (each row's printed sentence says how): SpecReads: laid · SpecPoints: laid · SpecLines: laid.
  DERIVED. THE GIVEN ROWS OF THIS SEAT. 3 by the template 'for every input the law returns true; each argument reads behind the call as it read before'; 0 by the template 'total and deterministic' (their statements: YtckmjampgeojbaaDoorTotals.lean).
  GIVEN WITH THE SEED: the statements are not yours to turn. If you find one false, say at which input.
  Laid BY PROGRAM, IN A SANDBOX (cutbox-rows.mjs): the forced cells as the released guide's own fill.sh prints them over the translation 0f9b378b3d8157cb… (all of the seat's roots in one cut). By AI agents, Wed Nov 11 2026. No macro, syntax, notation, axiom, sorry.
-/
import Derived.Test.YtckmjampgeojbaaDoorChecked
import GoSem.Claim
import GoSem.ClaimJoined
import GoSem.ClaimMapViews
import Derived.JoinedTies
import Derived.KernelRfl
namespace Go.Proofs.YtckmjampgeojbaaDoor
/- THE CELL 'sum', in the pinned program and in every row, IS THE sha256 OF THE DUMP (.gsa) THAT YtckmjampgeojbaaDoorProg.lean LOADS. Nothing in Lean hashes anything: it is a label: what it is worth is what the hold of that sum in a sandbox is worth. -/
noncomputable def Tryd.pinned : Pinned := { name := "ytckmjampgeojbaadoor", sum := "0f9b378b3d8157cb1f4c9dabc7980a0a4932a34cf6f0a35962a4bd2248b9d50b", checked := Tryd.checked }
namespace Rows
def none {H : Type} : Left H := { results := [], args := [] }

/- WHAT THE LISTED PACKAGE-LEVEL VARIABLES READ AS WHEN THE CALL BEGINS. Each datum BY PROGRAM (the guide's laid-datum.mjs) off the statement by which the dump's own 'gosem.cut.vars' lays the variable. In a bare row this is a premise. The card (YtckmjampgeojbaaDoorCards.lean) ties it to the program's text. -/
def laid_drawknife_pla_kindWords {H : Type} : DataW H := .agg [.lit (.string [102]), .lit (.string [102, 100]), .lit (.string [102, 114]), .lit (.string [102, 100, 114])]

/-- 'drawknifelaw04.SpecReads': WHATEVER THE INPUT: true; the input reads as it did. -/
def specReadsSpec : ChangeSpec := { name := "specReads", fn := fun _ => fun
  | [d] => { results := [.lit (.bool true)], args := [d] }
  | _ => none }
def specReadsRow : OpenClaim := { program := "ytckmjampgeojbaadoor", sum := "0f9b378b3d8157cb1f4c9dabc7980a0a4932a34cf6f0a35962a4bd2248b9d50b", func := "drawknife/drawknifelaw04.SpecReads", spec := "specReads", inPlace := ["internal/bytealg.IndexByteString", "internal/bytealg.IndexString"], unfollowed := true, recurses := true, named := ["drawknife/pla.kindWords", "internal/bytealg.MaxLen"], apart := false, laid := [("drawknife/pla.kindWords", laid_drawknife_pla_kindWords)] }
def SpecReadsSaid : Prop := specReadsRow.holds Tryd.pinned (OpenSpec.ofChange specReadsSpec)

/-- ITS FALSE NEIGHBOUR: 'it returns false'. Refute it at one input. -/
def specReadsWrong : ChangeSpec := { name := "specReads", fn := fun _ => fun
  | [d] => { results := [.lit (.bool false)], args := [d] }
  | _ => none }
def SpecReadsWrongFalsely : Prop := specReadsRow.holds Tryd.pinned (OpenSpec.ofChange specReadsWrong)

/-- 'drawknifelaw04.SpecPoints': WHATEVER THE INPUT: true; the input reads as it did. -/
def specPointsSpec : ChangeSpec := { name := "specPoints", fn := fun _ => fun
  | [d1, d2, d3] => { results := [.lit (.bool true)], args := [d1, d2, d3] }
  | _ => none }
def specPointsRow : OpenClaim := { program := "ytckmjampgeojbaadoor", sum := "0f9b378b3d8157cb1f4c9dabc7980a0a4932a34cf6f0a35962a4bd2248b9d50b", func := "drawknife/drawknifelaw04.SpecPoints", spec := "specPoints", inPlace := ["internal/bytealg.IndexByteString", "internal/bytealg.IndexString"], unfollowed := true, recurses := true, named := ["drawknife/pla.kindWords", "internal/bytealg.MaxLen"], apart := false, laid := [("drawknife/pla.kindWords", laid_drawknife_pla_kindWords)] }
def SpecPointsSaid : Prop := specPointsRow.holds Tryd.pinned (OpenSpec.ofChange specPointsSpec)

/-- ITS FALSE NEIGHBOUR: 'it returns false'. Refute it at one input. -/
def specPointsWrong : ChangeSpec := { name := "specPoints", fn := fun _ => fun
  | [d1, d2, d3] => { results := [.lit (.bool false)], args := [d1, d2, d3] }
  | _ => none }
def SpecPointsWrongFalsely : Prop := specPointsRow.holds Tryd.pinned (OpenSpec.ofChange specPointsWrong)

/-- 'drawknifelaw04.SpecLines': WHATEVER THE INPUT: true; the input reads as it did. -/
def specLinesSpec : ChangeSpec := { name := "specLines", fn := fun _ => fun
  | [d] => { results := [.lit (.bool true)], args := [d] }
  | _ => none }
def specLinesRow : OpenClaim := { program := "ytckmjampgeojbaadoor", sum := "0f9b378b3d8157cb1f4c9dabc7980a0a4932a34cf6f0a35962a4bd2248b9d50b", func := "drawknife/drawknifelaw04.SpecLines", spec := "specLines", inPlace := ["internal/bytealg.IndexByteString", "internal/bytealg.IndexString"], unfollowed := true, recurses := true, named := ["drawknife/pla.kindWords", "internal/bytealg.MaxLen"], apart := false, laid := [("drawknife/pla.kindWords", laid_drawknife_pla_kindWords)] }
def SpecLinesSaid : Prop := specLinesRow.holds Tryd.pinned (OpenSpec.ofChange specLinesSpec)

/-- ITS FALSE NEIGHBOUR: 'it returns false'. Refute it at one input. -/
def specLinesWrong : ChangeSpec := { name := "specLines", fn := fun _ => fun
  | [d] => { results := [.lit (.bool false)], args := [d] }
  | _ => none }
def SpecLinesWrongFalsely : Prop := specLinesRow.holds Tryd.pinned (OpenSpec.ofChange specLinesWrong)

/- THE SECOND FORM. 'bulk': how many values and letters a reading holds, each counted each time it is reached (what is shared counts as often as it is met; a slice's spare places count too). A statement '..UptoSaid' is the law's where the arguments, and the package variables that the reading takes, are together of bulk at most 1048576: NARROWER than '..Said'. Prove '..Said' where nothing that the law and all that it calls make is longer than what came in: it says more and counts as full. Else prove '..UptoSaid'. A law counts once. -/
mutual
def uptoBulk {H : Type} : DataW H → Nat
  | .lit (.string bytes) => bytes.length + 1
  | .lit _ => 1
  | .nil => 1
  | .ptr d => uptoBulk d + 1
  | .slice elems spare => uptoBulkAll elems + uptoBulkAll spare + 1
  | .agg parts => uptoBulkAll parts + 1
  | .iface _ d => uptoBulk d + 1
  | .map entries => uptoBulkEntries entries + 1
  | .held _ => 1
def uptoBulkAll {H : Type} : List (DataW H) → Nat
  | [] => 0
  | d :: r => uptoBulk d + uptoBulkAll r
def uptoBulkEntries {H : Type} : List (Lit × DataW H) → Nat
  | [] => 0
  | x :: r => uptoBulkEntry x + uptoBulkEntries r
def uptoBulkEntry {H : Type} : Lit × DataW H → Nat
  | (.string bytes, d) => bytes.length + uptoBulk d + 1
  | (_, d) => uptoBulk d + 1
 end
def uptoSmall : (H : Type) → List (DataW H) → Bool := fun _ ds => decide (uptoBulkAll ds ≤ 1048576)
def OpenSpec.upto (s : _root_.Go.ChangeSpec) : _root_.Go.OpenSpec := { _root_.Go.OpenSpec.ofChange s with cond := some uptoSmall }

/-- 'drawknifelaw04.SpecReads', WHERE WHAT IT READS IS OF BULK AT MOST 1048576: true; the input reads as it did. -/
def specReadsUptoRow : OpenClaim := { program := "ytckmjampgeojbaadoor", sum := "0f9b378b3d8157cb1f4c9dabc7980a0a4932a34cf6f0a35962a4bd2248b9d50b", func := "drawknife/drawknifelaw04.SpecReads", spec := "specReads", inPlace := ["internal/bytealg.IndexByteString", "internal/bytealg.IndexString"], unfollowed := true, recurses := true, named := ["drawknife/pla.kindWords", "internal/bytealg.MaxLen"], apart := false, laid := [("drawknife/pla.kindWords", laid_drawknife_pla_kindWords)], narrowed := true }
def SpecReadsUptoSaid : Prop := specReadsUptoRow.holds Tryd.pinned (OpenSpec.upto specReadsSpec)

/-- 'drawknifelaw04.SpecPoints', WHERE WHAT IT READS IS OF BULK AT MOST 1048576: true; the input reads as it did. -/
def specPointsUptoRow : OpenClaim := { program := "ytckmjampgeojbaadoor", sum := "0f9b378b3d8157cb1f4c9dabc7980a0a4932a34cf6f0a35962a4bd2248b9d50b", func := "drawknife/drawknifelaw04.SpecPoints", spec := "specPoints", inPlace := ["internal/bytealg.IndexByteString", "internal/bytealg.IndexString"], unfollowed := true, recurses := true, named := ["drawknife/pla.kindWords", "internal/bytealg.MaxLen"], apart := false, laid := [("drawknife/pla.kindWords", laid_drawknife_pla_kindWords)], narrowed := true }
def SpecPointsUptoSaid : Prop := specPointsUptoRow.holds Tryd.pinned (OpenSpec.upto specPointsSpec)

/-- 'drawknifelaw04.SpecLines', WHERE WHAT IT READS IS OF BULK AT MOST 1048576: true; the input reads as it did. -/
def specLinesUptoRow : OpenClaim := { program := "ytckmjampgeojbaadoor", sum := "0f9b378b3d8157cb1f4c9dabc7980a0a4932a34cf6f0a35962a4bd2248b9d50b", func := "drawknife/drawknifelaw04.SpecLines", spec := "specLines", inPlace := ["internal/bytealg.IndexByteString", "internal/bytealg.IndexString"], unfollowed := true, recurses := true, named := ["drawknife/pla.kindWords", "internal/bytealg.MaxLen"], apart := false, laid := [("drawknife/pla.kindWords", laid_drawknife_pla_kindWords)], narrowed := true }
def SpecLinesUptoSaid : Prop := specLinesUptoRow.holds Tryd.pinned (OpenSpec.upto specLinesSpec)

end Rows
end Go.Proofs.YtckmjampgeojbaaDoor
