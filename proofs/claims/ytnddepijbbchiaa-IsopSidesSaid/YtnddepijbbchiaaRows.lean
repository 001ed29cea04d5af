/-
  No cell of these rows narrows 'for every input' (looked for: loops, veiled, ifaces, maps, wideKeys, modest, calm, conditions, laid).
  DERIVED. THE GIVEN ROWS OF THIS SEAT. 5 by the template 'for every input the law returns true; each argument reads behind the call as it read before'; 0 by the template 'total and deterministic' (their statements: YtnddepijbbchiaaTotals.lean).
  GIVEN WITH THE SEED: the statements are not yours to turn. If you find one false, say at which input.
  Laid BY PROGRAM, IN A SANDBOX (cutbox-rows.mjs): the forced cells as the released guide's own fill.sh prints them over the translation 6cbd4b35f5884fe7… (all of the seat's roots in one cut). By AI agents, Wed Nov 11 2026. No macro, syntax, notation, axiom, sorry.
-/
import Derived.Test.YtnddepijbbchiaaChecked
import GoSem.Claim
import GoSem.ClaimJoined
import GoSem.ClaimMapViews
import Derived.JoinedTies
import Derived.KernelRfl
namespace Go.Proofs.Ytnddepijbbchiaa
/- THE CELL 'sum', in the pinned program and in every row, IS THE sha256 OF THE DUMP (.gsa) THAT YtnddepijbbchiaaProg.lean LOADS. Nothing in Lean hashes anything: it is a label: what it is worth is what the hold of that sum in a sandbox is worth. -/
noncomputable def Try.pinned : Pinned := { name := "ytnddepijbbchiaa", sum := "6cbd4b35f5884fe70cc23d5b8ff3b0f75865f80bfff58f1a76e1db81d7d3f7de", checked := Try.checked }
namespace Rows
def none {H : Type} : Left H := { results := [], args := [] }

/-- 'drawknifelaw12.IsopSides': WHATEVER THE INPUT: true; the input reads as it did. -/
def isopSidesSpec : ChangeSpec := { name := "isopSides", fn := fun _ => fun
  | [d1, d2, d3] => { results := [.lit (.bool true)], args := [d1, d2, d3] }
  | _ => none }
def isopSidesRow : OpenClaim := { program := "ytnddepijbbchiaa", sum := "6cbd4b35f5884fe70cc23d5b8ff3b0f75865f80bfff58f1a76e1db81d7d3f7de", func := "drawknife/drawknifelaw12.IsopSides", spec := "isopSides", unfollowed := true, recurses := true, apart := false }
def IsopSidesSaid : Prop := isopSidesRow.holds Try.pinned (OpenSpec.ofChange isopSidesSpec)

/-- ITS FALSE NEIGHBOUR: 'it returns false'. Refute it at one input. -/
def isopSidesWrong : ChangeSpec := { name := "isopSides", fn := fun _ => fun
  | [d1, d2, d3] => { results := [.lit (.bool false)], args := [d1, d2, d3] }
  | _ => none }
def IsopSidesWrongFalsely : Prop := isopSidesRow.holds Try.pinned (OpenSpec.ofChange isopSidesWrong)

/-- 'drawknifelaw12.IsopCovers': WHATEVER THE INPUT: true; the input reads as it did. -/
def isopCoversSpec : ChangeSpec := { name := "isopCovers", fn := fun _ => fun
  | [d1, d2, d3] => { results := [.lit (.bool true)], args := [d1, d2, d3] }
  | _ => none }
def isopCoversRow : OpenClaim := { program := "ytnddepijbbchiaa", sum := "6cbd4b35f5884fe70cc23d5b8ff3b0f75865f80bfff58f1a76e1db81d7d3f7de", func := "drawknife/drawknifelaw12.IsopCovers", spec := "isopCovers", unfollowed := true, recurses := true, apart := false }
def IsopCoversSaid : Prop := isopCoversRow.holds Try.pinned (OpenSpec.ofChange isopCoversSpec)

/-- ITS FALSE NEIGHBOUR: 'it returns false'. Refute it at one input. -/
def isopCoversWrong : ChangeSpec := { name := "isopCovers", fn := fun _ => fun
  | [d1, d2, d3] => { results := [.lit (.bool false)], args := [d1, d2, d3] }
  | _ => none }
def IsopCoversWrongFalsely : Prop := isopCoversRow.holds Try.pinned (OpenSpec.ofChange isopCoversWrong)

/-- 'drawknifelaw12.IsopBetween': WHATEVER THE INPUT: true; the input reads as it did. -/
def isopBetweenSpec : ChangeSpec := { name := "isopBetween", fn := fun _ => fun
  | [d1, d2, d3] => { results := [.lit (.bool true)], args := [d1, d2, d3] }
  | _ => none }
def isopBetweenRow : OpenClaim := { program := "ytnddepijbbchiaa", sum := "6cbd4b35f5884fe70cc23d5b8ff3b0f75865f80bfff58f1a76e1db81d7d3f7de", func := "drawknife/drawknifelaw12.IsopBetween", spec := "isopBetween", unfollowed := true, recurses := true, apart := false }
def IsopBetweenSaid : Prop := isopBetweenRow.holds Try.pinned (OpenSpec.ofChange isopBetweenSpec)

/-- ITS FALSE NEIGHBOUR: 'it returns false'. Refute it at one input. -/
def isopBetweenWrong : ChangeSpec := { name := "isopBetween", fn := fun _ => fun
  | [d1, d2, d3] => { results := [.lit (.bool false)], args := [d1, d2, d3] }
  | _ => none }
def IsopBetweenWrongFalsely : Prop := isopBetweenRow.holds Try.pinned (OpenSpec.ofChange isopBetweenWrong)

/-- 'drawknifelaw12.IsopNone': WHATEVER THE INPUT: true; the input reads as it did. -/
def isopNoneSpec : ChangeSpec := { name := "isopNone", fn := fun _ => fun
  | [d1, d2, d3, d4] => { results := [.lit (.bool true)], args := [d1, d2, d3, d4] }
  | _ => none }
def isopNoneRow : OpenClaim := { program := "ytnddepijbbchiaa", sum := "6cbd4b35f5884fe70cc23d5b8ff3b0f75865f80bfff58f1a76e1db81d7d3f7de", func := "drawknife/drawknifelaw12.IsopNone", spec := "isopNone", unfollowed := true, recurses := true, apart := false }
def IsopNoneSaid : Prop := isopNoneRow.holds Try.pinned (OpenSpec.ofChange isopNoneSpec)

/-- ITS FALSE NEIGHBOUR: 'it returns false'. Refute it at one input. -/
def isopNoneWrong : ChangeSpec := { name := "isopNone", fn := fun _ => fun
  | [d1, d2, d3, d4] => { results := [.lit (.bool false)], args := [d1, d2, d3, d4] }
  | _ => none }
def IsopNoneWrongFalsely : Prop := isopNoneRow.holds Try.pinned (OpenSpec.ofChange isopNoneWrong)

/-- 'drawknifelaw12.IsopGrown': WHATEVER THE INPUT: true; the input reads as it did. -/
def isopGrownSpec : ChangeSpec := { name := "isopGrown", fn := fun _ => fun
  | [d1, d2, d3] => { results := [.lit (.bool true)], args := [d1, d2, d3] }
  | _ => none }
def isopGrownRow : OpenClaim := { program := "ytnddepijbbchiaa", sum := "6cbd4b35f5884fe70cc23d5b8ff3b0f75865f80bfff58f1a76e1db81d7d3f7de", func := "drawknife/drawknifelaw12.IsopGrown", spec := "isopGrown", unfollowed := true, recurses := true, apart := false }
def IsopGrownSaid : Prop := isopGrownRow.holds Try.pinned (OpenSpec.ofChange isopGrownSpec)

/-- ITS FALSE NEIGHBOUR: 'it returns false'. Refute it at one input. -/
def isopGrownWrong : ChangeSpec := { name := "isopGrown", fn := fun _ => fun
  | [d1, d2, d3] => { results := [.lit (.bool false)], args := [d1, d2, d3] }
  | _ => none }
def IsopGrownWrongFalsely : Prop := isopGrownRow.holds Try.pinned (OpenSpec.ofChange isopGrownWrong)

/- THE SECOND FORM. 'bulk': how many values and letters a reading holds, each counted each time it is reached (what is shared counts as often as it is met; a slice's spare places count too). A statement '..UptoSaid' is the law's where the arguments, and the package variables that the reading takes, are together of bulk at most 1048576: NARROWER than '..Said'. Prove '..Said' where nothing that the law and all that it calls make is longer than what came in: it says more and counts as full. Else prove '..UptoSaid'. A law counts once. -/
mutual
def uptoBulk {H : Type} : DataW H → Nat
  | .lit (.string bytes) => bytes.length + 1
  | .lit _ => 1
  | .nil => 1
  | .ptr d => uptoBulk d + 1
  | .slice elems spare => uptoBulkAll elems + uptoBulkAll spare + 1
  | .agg parts => uptoBulkAll parts + 1
  | .iface _ d => uptoBulk d + 1
  | .map entries => uptoBulkEntries entries + 1
  | .held _ => 1
def uptoBulkAll {H : Type} : List (DataW H) → Nat
  | [] => 0
  | d :: r => uptoBulk d + uptoBulkAll r
def uptoBulkEntries {H : Type} : List (Lit × DataW H) → Nat
  | [] => 0
  | x :: r => uptoBulkEntry x + uptoBulkEntries r
def uptoBulkEntry {H : Type} : Lit × DataW H → Nat
  | (.string bytes, d) => bytes.length + uptoBulk d + 1
  | (_, d) => uptoBulk d + 1
 end
def uptoSmall : (H : Type) → List (DataW H) → Bool := fun _ ds => decide (uptoBulkAll ds ≤ 1048576)
def OpenSpec.upto (s : _root_.Go.ChangeSpec) : _root_.Go.OpenSpec := { _root_.Go.OpenSpec.ofChange s with cond := some uptoSmall }

/-- 'drawknifelaw12.IsopSides', WHERE WHAT IT READS IS OF BULK AT MOST 1048576: true; the input reads as it did. -/
def isopSidesUptoRow : OpenClaim := { program := "ytnddepijbbchiaa", sum := "6cbd4b35f5884fe70cc23d5b8ff3b0f75865f80bfff58f1a76e1db81d7d3f7de", func := "drawknife/drawknifelaw12.IsopSides", spec := "isopSides", unfollowed := true, recurses := true, apart := false, narrowed := true }
def IsopSidesUptoSaid : Prop := isopSidesUptoRow.holds Try.pinned (OpenSpec.upto isopSidesSpec)

/-- 'drawknifelaw12.IsopCovers', WHERE WHAT IT READS IS OF BULK AT MOST 1048576: true; the input reads as it did. -/
def isopCoversUptoRow : OpenClaim := { program := "ytnddepijbbchiaa", sum := "6cbd4b35f5884fe70cc23d5b8ff3b0f75865f80bfff58f1a76e1db81d7d3f7de", func := "drawknife/drawknifelaw12.IsopCovers", spec := "isopCovers", unfollowed := true, recurses := true, apart := false, narrowed := true }
def IsopCoversUptoSaid : Prop := isopCoversUptoRow.holds Try.pinned (OpenSpec.upto isopCoversSpec)

/-- 'drawknifelaw12.IsopBetween', WHERE WHAT IT READS IS OF BULK AT MOST 1048576: true; the input reads as it did. -/
def isopBetweenUptoRow : OpenClaim := { program := "ytnddepijbbchiaa", sum := "6cbd4b35f5884fe70cc23d5b8ff3b0f75865f80bfff58f1a76e1db81d7d3f7de", func := "drawknife/drawknifelaw12.IsopBetween", spec := "isopBetween", unfollowed := true, recurses := true, apart := false, narrowed := true }
def IsopBetweenUptoSaid : Prop := isopBetweenUptoRow.holds Try.pinned (OpenSpec.upto isopBetweenSpec)

/-- 'drawknifelaw12.IsopNone', WHERE WHAT IT READS IS OF BULK AT MOST 1048576: true; the input reads as it did. -/
def isopNoneUptoRow : OpenClaim := { program := "ytnddepijbbchiaa", sum := "6cbd4b35f5884fe70cc23d5b8ff3b0f75865f80bfff58f1a76e1db81d7d3f7de", func := "drawknife/drawknifelaw12.IsopNone", spec := "isopNone", unfollowed := true, recurses := true, apart := false, narrowed := true }
def IsopNoneUptoSaid : Prop := isopNoneUptoRow.holds Try.pinned (OpenSpec.upto isopNoneSpec)

/-- 'drawknifelaw12.IsopGrown', WHERE WHAT IT READS IS OF BULK AT MOST 1048576: true; the input reads as it did. -/
def isopGrownUptoRow : OpenClaim := { program := "ytnddepijbbchiaa", sum := "6cbd4b35f5884fe70cc23d5b8ff3b0f75865f80bfff58f1a76e1db81d7d3f7de", func := "drawknife/drawknifelaw12.IsopGrown", spec := "isopGrown", unfollowed := true, recurses := true, apart := false, narrowed := true }
def IsopGrownUptoSaid : Prop := isopGrownUptoRow.holds Try.pinned (OpenSpec.upto isopGrownSpec)

end Rows
end Go.Proofs.Ytnddepijbbchiaa
