/-
  No cell of these rows narrows 'for every input' (looked for: loops, veiled, ifaces, maps, wideKeys, modest, calm, conditions, laid).
  DERIVED. THE GIVEN ROWS OF THIS SEAT. 4 by the template 'for every input the law returns true; each argument reads behind the call as it read before'; 0 by the template 'total and deterministic' (their statements: YtpdmlngbagjhjaaTotals.lean).
  GIVEN WITH THE SEED: the statements are not yours to turn. If you find one false, say at which input.
  Laid BY PROGRAM, IN A SANDBOX (cutbox-rows.mjs): the forced cells as the released guide's own fill.sh prints them over the translation 2bbe95e4adb76faa… (all of the seat's roots in one cut). By AI agents, Wed Nov 11 2026. No macro, syntax, notation, axiom, sorry.
-/
import Derived.Test.YtpdmlngbagjhjaaChecked
import GoSem.Claim
import GoSem.ClaimJoined
import GoSem.ClaimMapViews
import Derived.JoinedTies
import Derived.KernelRfl
namespace Go.Proofs.Ytpdmlngbagjhjaa
/- THE CELL 'sum', in the pinned program and in every row, IS THE sha256 OF THE DUMP (.gsa) THAT YtpdmlngbagjhjaaProg.lean LOADS. Nothing in Lean hashes anything: it is a label: what it is worth is what the hold of that sum in a sandbox is worth. -/
noncomputable def Try.pinned : Pinned := { name := "ytpdmlngbagjhjaa", sum := "2bbe95e4adb76faa0949071bd3972457e659f83f568572cece71868d0609da3b", checked := Try.checked }
namespace Rows
def none {H : Type} : Left H := { results := [], args := [] }

/-- 'drawknifelaw01.SetPoints': WHATEVER THE INPUT: true; the input reads as it did. -/
def setPointsSpec : ChangeSpec := { name := "setPoints", fn := fun _ => fun
  | [d1, d2, d3] => { results := [.lit (.bool true)], args := [d1, d2, d3] }
  | _ => none }
def setPointsRow : OpenClaim := { program := "ytpdmlngbagjhjaa", sum := "2bbe95e4adb76faa0949071bd3972457e659f83f568572cece71868d0609da3b", func := "drawknife/drawknifelaw01.SetPoints", spec := "setPoints", unfollowed := true, recurses := true, apart := false }
def SetPointsSaid : Prop := setPointsRow.holds Try.pinned (OpenSpec.ofChange setPointsSpec)

/-- ITS FALSE NEIGHBOUR: 'it returns false'. Refute it at one input. -/
def setPointsWrong : ChangeSpec := { name := "setPoints", fn := fun _ => fun
  | [d1, d2, d3] => { results := [.lit (.bool false)], args := [d1, d2, d3] }
  | _ => none }
def SetPointsWrongFalsely : Prop := setPointsRow.holds Try.pinned (OpenSpec.ofChange setPointsWrong)

/-- 'drawknifelaw01.SetBoth': WHATEVER THE INPUT: true; the input reads as it did. -/
def setBothSpec : ChangeSpec := { name := "setBoth", fn := fun _ => fun
  | [d1, d2] => { results := [.lit (.bool true)], args := [d1, d2] }
  | _ => none }
def setBothRow : OpenClaim := { program := "ytpdmlngbagjhjaa", sum := "2bbe95e4adb76faa0949071bd3972457e659f83f568572cece71868d0609da3b", func := "drawknife/drawknifelaw01.SetBoth", spec := "setBoth", unfollowed := true, recurses := true, apart := false }
def SetBothSaid : Prop := setBothRow.holds Try.pinned (OpenSpec.ofChange setBothSpec)

/-- ITS FALSE NEIGHBOUR: 'it returns false'. Refute it at one input. -/
def setBothWrong : ChangeSpec := { name := "setBoth", fn := fun _ => fun
  | [d1, d2] => { results := [.lit (.bool false)], args := [d1, d2] }
  | _ => none }
def SetBothWrongFalsely : Prop := setBothRow.holds Try.pinned (OpenSpec.ofChange setBothWrong)

/-- 'drawknifelaw01.SetHalves': WHATEVER THE INPUT: true; the input reads as it did. -/
def setHalvesSpec : ChangeSpec := { name := "setHalves", fn := fun _ => fun
  | [d1, d2, d3] => { results := [.lit (.bool true)], args := [d1, d2, d3] }
  | _ => none }
def setHalvesRow : OpenClaim := { program := "ytpdmlngbagjhjaa", sum := "2bbe95e4adb76faa0949071bd3972457e659f83f568572cece71868d0609da3b", func := "drawknife/drawknifelaw01.SetHalves", spec := "setHalves", unfollowed := true, recurses := true, apart := false }
def SetHalvesSaid : Prop := setHalvesRow.holds Try.pinned (OpenSpec.ofChange setHalvesSpec)

/-- ITS FALSE NEIGHBOUR: 'it returns false'. Refute it at one input. -/
def setHalvesWrong : ChangeSpec := { name := "setHalves", fn := fun _ => fun
  | [d1, d2, d3] => { results := [.lit (.bool false)], args := [d1, d2, d3] }
  | _ => none }
def SetHalvesWrongFalsely : Prop := setHalvesRow.holds Try.pinned (OpenSpec.ofChange setHalvesWrong)

/-- 'drawknifelaw01.SetParts': WHATEVER THE INPUT: true; the input reads as it did. -/
def setPartsSpec : ChangeSpec := { name := "setParts", fn := fun _ => fun
  | [d1, d2, d3] => { results := [.lit (.bool true)], args := [d1, d2, d3] }
  | _ => none }
def setPartsRow : OpenClaim := { program := "ytpdmlngbagjhjaa", sum := "2bbe95e4adb76faa0949071bd3972457e659f83f568572cece71868d0609da3b", func := "drawknife/drawknifelaw01.SetParts", spec := "setParts", unfollowed := true, recurses := true, apart := false }
def SetPartsSaid : Prop := setPartsRow.holds Try.pinned (OpenSpec.ofChange setPartsSpec)

/-- ITS FALSE NEIGHBOUR: 'it returns false'. Refute it at one input. -/
def setPartsWrong : ChangeSpec := { name := "setParts", fn := fun _ => fun
  | [d1, d2, d3] => { results := [.lit (.bool false)], args := [d1, d2, d3] }
  | _ => none }
def SetPartsWrongFalsely : Prop := setPartsRow.holds Try.pinned (OpenSpec.ofChange setPartsWrong)

/- THE SECOND FORM. 'bulk': how many values and letters a reading holds, each counted each time it is reached (what is shared counts as often as it is met; a slice's spare places count too). A statement '..UptoSaid' is the law's where the arguments, and the package variables that the reading takes, are together of bulk at most 1048576: NARROWER than '..Said'. Prove '..Said' where nothing that the law and all that it calls make is longer than what came in: it says more and counts as full. Else prove '..UptoSaid'. A law counts once. -/
mutual
def uptoBulk {H : Type} : DataW H → Nat
  | .lit (.string bytes) => bytes.length + 1
  | .lit _ => 1
  | .nil => 1
  | .ptr d => uptoBulk d + 1
  | .slice elems spare => uptoBulkAll elems + uptoBulkAll spare + 1
  | .agg parts => uptoBulkAll parts + 1
  | .iface _ d => uptoBulk d + 1
  | .map entries => uptoBulkEntries entries + 1
  | .held _ => 1
def uptoBulkAll {H : Type} : List (DataW H) → Nat
  | [] => 0
  | d :: r => uptoBulk d + uptoBulkAll r
def uptoBulkEntries {H : Type} : List (Lit × DataW H) → Nat
  | [] => 0
  | x :: r => uptoBulkEntry x + uptoBulkEntries r
def uptoBulkEntry {H : Type} : Lit × DataW H → Nat
  | (.string bytes, d) => bytes.length + uptoBulk d + 1
  | (_, d) => uptoBulk d + 1
 end
def uptoSmall : (H : Type) → List (DataW H) → Bool := fun _ ds => decide (uptoBulkAll ds ≤ 1048576)
def OpenSpec.upto (s : _root_.Go.ChangeSpec) : _root_.Go.OpenSpec := { _root_.Go.OpenSpec.ofChange s with cond := some uptoSmall }

/-- 'drawknifelaw01.SetPoints', WHERE WHAT IT READS IS OF BULK AT MOST 1048576: true; the input reads as it did. -/
def setPointsUptoRow : OpenClaim := { program := "ytpdmlngbagjhjaa", sum := "2bbe95e4adb76faa0949071bd3972457e659f83f568572cece71868d0609da3b", func := "drawknife/drawknifelaw01.SetPoints", spec := "setPoints", unfollowed := true, recurses := true, apart := false, narrowed := true }
def SetPointsUptoSaid : Prop := setPointsUptoRow.holds Try.pinned (OpenSpec.upto setPointsSpec)

/-- 'drawknifelaw01.SetBoth', WHERE WHAT IT READS IS OF BULK AT MOST 1048576: true; the input reads as it did. -/
def setBothUptoRow : OpenClaim := { program := "ytpdmlngbagjhjaa", sum := "2bbe95e4adb76faa0949071bd3972457e659f83f568572cece71868d0609da3b", func := "drawknife/drawknifelaw01.SetBoth", spec := "setBoth", unfollowed := true, recurses := true, apart := false, narrowed := true }
def SetBothUptoSaid : Prop := setBothUptoRow.holds Try.pinned (OpenSpec.upto setBothSpec)

/-- 'drawknifelaw01.SetHalves', WHERE WHAT IT READS IS OF BULK AT MOST 1048576: true; the input reads as it did. -/
def setHalvesUptoRow : OpenClaim := { program := "ytpdmlngbagjhjaa", sum := "2bbe95e4adb76faa0949071bd3972457e659f83f568572cece71868d0609da3b", func := "drawknife/drawknifelaw01.SetHalves", spec := "setHalves", unfollowed := true, recurses := true, apart := false, narrowed := true }
def SetHalvesUptoSaid : Prop := setHalvesUptoRow.holds Try.pinned (OpenSpec.upto setHalvesSpec)

/-- 'drawknifelaw01.SetParts', WHERE WHAT IT READS IS OF BULK AT MOST 1048576: true; the input reads as it did. -/
def setPartsUptoRow : OpenClaim := { program := "ytpdmlngbagjhjaa", sum := "2bbe95e4adb76faa0949071bd3972457e659f83f568572cece71868d0609da3b", func := "drawknife/drawknifelaw01.SetParts", spec := "setParts", unfollowed := true, recurses := true, apart := false, narrowed := true }
def SetPartsUptoSaid : Prop := setPartsUptoRow.holds Try.pinned (OpenSpec.upto setPartsSpec)

end Rows
end Go.Proofs.Ytpdmlngbagjhjaa
