/-
  No cell of these rows narrows 'for every input' (looked for: loops, veiled, ifaces, maps, wideKeys, modest, calm, conditions, laid).
  DERIVED. THE GIVEN ROWS OF THIS SEAT. 3 by the template 'for every input the law returns true; each argument reads behind the call as it read before'; 0 by the template 'total and deterministic' (their statements: YtmackldgkofedaaTotals.lean).
  GIVEN WITH THE SEED: the statements are not yours to turn. If you find one false, say at which input.
  Laid BY PROGRAM, IN A SANDBOX (cutbox-rows.mjs): the forced cells as the released guide's own fill.sh prints them over the translation 1c902bcbedb9de64… (all of the seat's roots in one cut). By AI agents, Wed Nov 11 2026. No macro, syntax, notation, axiom, sorry.
-/
import Derived.Test.YtmackldgkofedaaChecked
import GoSem.Claim
import GoSem.ClaimJoined
import GoSem.ClaimMapViews
import Derived.JoinedTies
import Derived.KernelRfl
namespace Go.Proofs.Ytmackldgkofedaa
/- THE CELL 'sum', in the pinned program and in every row, IS THE sha256 OF THE DUMP (.gsa) THAT YtmackldgkofedaaProg.lean LOADS. Nothing in Lean hashes anything: it is a label: what it is worth is what the hold of that sum in a sandbox is worth. -/
noncomputable def Try.pinned : Pinned := { name := "ytmackldgkofedaa", sum := "1c902bcbedb9de64ce780369ed0634ff6ae48ce932d17c64dc5186516ba67ce1", checked := Try.checked }
namespace Rows
def none {H : Type} : Left H := { results := [], args := [] }

/-- 'drawknifelaw02.CubePoints': WHATEVER THE INPUT: true; the input reads as it did. -/
def cubePointsSpec : ChangeSpec := { name := "cubePoints", fn := fun _ => fun
  | [d1, d2] => { results := [.lit (.bool true)], args := [d1, d2] }
  | _ => none }
def cubePointsRow : OpenClaim := { program := "ytmackldgkofedaa", sum := "1c902bcbedb9de64ce780369ed0634ff6ae48ce932d17c64dc5186516ba67ce1", func := "drawknife/drawknifelaw02.CubePoints", spec := "cubePoints", unfollowed := true, recurses := true, apart := false }
def CubePointsSaid : Prop := cubePointsRow.holds Try.pinned (OpenSpec.ofChange cubePointsSpec)

/-- ITS FALSE NEIGHBOUR: 'it returns false'. Refute it at one input. -/
def cubePointsWrong : ChangeSpec := { name := "cubePoints", fn := fun _ => fun
  | [d1, d2] => { results := [.lit (.bool false)], args := [d1, d2] }
  | _ => none }
def CubePointsWrongFalsely : Prop := cubePointsRow.holds Try.pinned (OpenSpec.ofChange cubePointsWrong)

/-- 'drawknifelaw02.CubeParses': WHATEVER THE INPUT: true; the input reads as it did. -/
def cubeParsesSpec : ChangeSpec := { name := "cubeParses", fn := fun _ => fun
  | [d1, d2, d3] => { results := [.lit (.bool true)], args := [d1, d2, d3] }
  | _ => none }
def cubeParsesRow : OpenClaim := { program := "ytmackldgkofedaa", sum := "1c902bcbedb9de64ce780369ed0634ff6ae48ce932d17c64dc5186516ba67ce1", func := "drawknife/drawknifelaw02.CubeParses", spec := "cubeParses", unfollowed := true, recurses := true, apart := false }
def CubeParsesSaid : Prop := cubeParsesRow.holds Try.pinned (OpenSpec.ofChange cubeParsesSpec)

/-- ITS FALSE NEIGHBOUR: 'it returns false'. Refute it at one input. -/
def cubeParsesWrong : ChangeSpec := { name := "cubeParses", fn := fun _ => fun
  | [d1, d2, d3] => { results := [.lit (.bool false)], args := [d1, d2, d3] }
  | _ => none }
def CubeParsesWrongFalsely : Prop := cubeParsesRow.holds Try.pinned (OpenSpec.ofChange cubeParsesWrong)

/-- 'drawknifelaw02.CubeSets': WHATEVER THE INPUT: true; the input reads as it did. -/
def cubeSetsSpec : ChangeSpec := { name := "cubeSets", fn := fun _ => fun
  | [d1, d2, d3, d4] => { results := [.lit (.bool true)], args := [d1, d2, d3, d4] }
  | _ => none }
def cubeSetsRow : OpenClaim := { program := "ytmackldgkofedaa", sum := "1c902bcbedb9de64ce780369ed0634ff6ae48ce932d17c64dc5186516ba67ce1", func := "drawknife/drawknifelaw02.CubeSets", spec := "cubeSets", unfollowed := true, recurses := true, apart := false }
def CubeSetsSaid : Prop := cubeSetsRow.holds Try.pinned (OpenSpec.ofChange cubeSetsSpec)

/-- ITS FALSE NEIGHBOUR: 'it returns false'. Refute it at one input. -/
def cubeSetsWrong : ChangeSpec := { name := "cubeSets", fn := fun _ => fun
  | [d1, d2, d3, d4] => { results := [.lit (.bool false)], args := [d1, d2, d3, d4] }
  | _ => none }
def CubeSetsWrongFalsely : Prop := cubeSetsRow.holds Try.pinned (OpenSpec.ofChange cubeSetsWrong)

/- THE SECOND FORM. 'bulk': how many values and letters a reading holds, each counted each time it is reached (what is shared counts as often as it is met; a slice's spare places count too). A statement '..UptoSaid' is the law's where the arguments, and the package variables that the reading takes, are together of bulk at most 1048576: NARROWER than '..Said'. Prove '..Said' where nothing that the law and all that it calls make is longer than what came in: it says more and counts as full. Else prove '..UptoSaid'. A law counts once. -/
mutual
def uptoBulk {H : Type} : DataW H → Nat
  | .lit (.string bytes) => bytes.length + 1
  | .lit _ => 1
  | .nil => 1
  | .ptr d => uptoBulk d + 1
  | .slice elems spare => uptoBulkAll elems + uptoBulkAll spare + 1
  | .agg parts => uptoBulkAll parts + 1
  | .iface _ d => uptoBulk d + 1
  | .map entries => uptoBulkEntries entries + 1
  | .held _ => 1
def uptoBulkAll {H : Type} : List (DataW H) → Nat
  | [] => 0
  | d :: r => uptoBulk d + uptoBulkAll r
def uptoBulkEntries {H : Type} : List (Lit × DataW H) → Nat
  | [] => 0
  | x :: r => uptoBulkEntry x + uptoBulkEntries r
def uptoBulkEntry {H : Type} : Lit × DataW H → Nat
  | (.string bytes, d) => bytes.length + uptoBulk d + 1
  | (_, d) => uptoBulk d + 1
 end
def uptoSmall : (H : Type) → List (DataW H) → Bool := fun _ ds => decide (uptoBulkAll ds ≤ 1048576)
def OpenSpec.upto (s : _root_.Go.ChangeSpec) : _root_.Go.OpenSpec := { _root_.Go.OpenSpec.ofChange s with cond := some uptoSmall }

/-- 'drawknifelaw02.CubePoints', WHERE WHAT IT READS IS OF BULK AT MOST 1048576: true; the input reads as it did. -/
def cubePointsUptoRow : OpenClaim := { program := "ytmackldgkofedaa", sum := "1c902bcbedb9de64ce780369ed0634ff6ae48ce932d17c64dc5186516ba67ce1", func := "drawknife/drawknifelaw02.CubePoints", spec := "cubePoints", unfollowed := true, recurses := true, apart := false, narrowed := true }
def CubePointsUptoSaid : Prop := cubePointsUptoRow.holds Try.pinned (OpenSpec.upto cubePointsSpec)

/-- 'drawknifelaw02.CubeParses', WHERE WHAT IT READS IS OF BULK AT MOST 1048576: true; the input reads as it did. -/
def cubeParsesUptoRow : OpenClaim := { program := "ytmackldgkofedaa", sum := "1c902bcbedb9de64ce780369ed0634ff6ae48ce932d17c64dc5186516ba67ce1", func := "drawknife/drawknifelaw02.CubeParses", spec := "cubeParses", unfollowed := true, recurses := true, apart := false, narrowed := true }
def CubeParsesUptoSaid : Prop := cubeParsesUptoRow.holds Try.pinned (OpenSpec.upto cubeParsesSpec)

/-- 'drawknifelaw02.CubeSets', WHERE WHAT IT READS IS OF BULK AT MOST 1048576: true; the input reads as it did. -/
def cubeSetsUptoRow : OpenClaim := { program := "ytmackldgkofedaa", sum := "1c902bcbedb9de64ce780369ed0634ff6ae48ce932d17c64dc5186516ba67ce1", func := "drawknife/drawknifelaw02.CubeSets", spec := "cubeSets", unfollowed := true, recurses := true, apart := false, narrowed := true }
def CubeSetsUptoSaid : Prop := cubeSetsUptoRow.holds Try.pinned (OpenSpec.upto cubeSetsSpec)

end Rows
end Go.Proofs.Ytmackldgkofedaa
