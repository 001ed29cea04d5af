/-
  No cell of these rows narrows 'for every input' (looked for: loops, veiled, ifaces, maps, wideKeys, modest, calm, conditions, laid).
  DERIVED. THE GIVEN ROWS OF THIS SEAT. 4 by the template 'for every input the law returns true; each argument reads behind the call as it read before'; 0 by the template 'total and deterministic' (their statements: YtbffcnnfkfjpgaaTotals.lean).
  GIVEN WITH THE SEED: the statements are not yours to turn. If you find one false, say at which input.
  Laid BY PROGRAM, IN A SANDBOX (cutbox-rows.mjs): the forced cells as the released guide's own fill.sh prints them over the translation 60f9dd2ccc9e7790… (all of the seat's roots in one cut). By AI agents, Wed Nov 11 2026. No macro, syntax, notation, axiom, sorry.
-/
import Derived.Test.YtbffcnnfkfjpgaaChecked
import GoSem.Claim
import GoSem.ClaimJoined
import GoSem.ClaimMapViews
import Derived.JoinedTies
import Derived.KernelRfl
namespace Go.Proofs.Ytbffcnnfkfjpgaa
/- THE CELL 'sum', in the pinned program and in every row, IS THE sha256 OF THE DUMP (.gsa) THAT YtbffcnnfkfjpgaaProg.lean LOADS. Nothing in Lean hashes anything: it is a label: what it is worth is what the hold of that sum in a sandbox is worth. -/
noncomputable def Try.pinned : Pinned := { name := "ytbffcnnfkfjpgaa", sum := "60f9dd2ccc9e77906959e7db79c1ce0cfbdd20ac3f82f99cae8a5f743a9e63c8", checked := Try.checked }
namespace Rows
def none {H : Type} : Left H := { results := [], args := [] }

/-- 'drawknifelaw06.BddSets': WHATEVER THE INPUT: true; the input reads as it did. -/
def bddSetsSpec : ChangeSpec := { name := "bddSets", fn := fun _ => fun
  | [d1, d2] => { results := [.lit (.bool true)], args := [d1, d2] }
  | _ => none }
def bddSetsRow : OpenClaim := { program := "ytbffcnnfkfjpgaa", sum := "60f9dd2ccc9e77906959e7db79c1ce0cfbdd20ac3f82f99cae8a5f743a9e63c8", func := "drawknife/drawknifelaw06.BddSets", spec := "bddSets", unfollowed := true, recurses := true, plainKeys := false, apart := false }
def BddSetsSaid : Prop := bddSetsRow.holds Try.pinned (OpenSpec.ofChange bddSetsSpec)

/-- ITS FALSE NEIGHBOUR: 'it returns false'. Refute it at one input. -/
def bddSetsWrong : ChangeSpec := { name := "bddSets", fn := fun _ => fun
  | [d1, d2] => { results := [.lit (.bool false)], args := [d1, d2] }
  | _ => none }
def BddSetsWrongFalsely : Prop := bddSetsRow.holds Try.pinned (OpenSpec.ofChange bddSetsWrong)

/-- 'drawknifelaw06.BddDoes': WHATEVER THE INPUT: true; the input reads as it did. -/
def bddDoesSpec : ChangeSpec := { name := "bddDoes", fn := fun _ => fun
  | [d1, d2, d3, d4, d5] => { results := [.lit (.bool true)], args := [d1, d2, d3, d4, d5] }
  | _ => none }
def bddDoesRow : OpenClaim := { program := "ytbffcnnfkfjpgaa", sum := "60f9dd2ccc9e77906959e7db79c1ce0cfbdd20ac3f82f99cae8a5f743a9e63c8", func := "drawknife/drawknifelaw06.BddDoes", spec := "bddDoes", unfollowed := true, recurses := true, plainKeys := false, apart := false }
def BddDoesSaid : Prop := bddDoesRow.holds Try.pinned (OpenSpec.ofChange bddDoesSpec)

/-- ITS FALSE NEIGHBOUR: 'it returns false'. Refute it at one input. -/
def bddDoesWrong : ChangeSpec := { name := "bddDoes", fn := fun _ => fun
  | [d1, d2, d3, d4, d5] => { results := [.lit (.bool false)], args := [d1, d2, d3, d4, d5] }
  | _ => none }
def BddDoesWrongFalsely : Prop := bddDoesRow.holds Try.pinned (OpenSpec.ofChange bddDoesWrong)

/-- 'drawknifelaw06.BddOne': WHATEVER THE INPUT: true; the input reads as it did. -/
def bddOneSpec : ChangeSpec := { name := "bddOne", fn := fun _ => fun
  | [d1, d2, d3, d4] => { results := [.lit (.bool true)], args := [d1, d2, d3, d4] }
  | _ => none }
def bddOneRow : OpenClaim := { program := "ytbffcnnfkfjpgaa", sum := "60f9dd2ccc9e77906959e7db79c1ce0cfbdd20ac3f82f99cae8a5f743a9e63c8", func := "drawknife/drawknifelaw06.BddOne", spec := "bddOne", unfollowed := true, recurses := true, plainKeys := false, apart := false }
def BddOneSaid : Prop := bddOneRow.holds Try.pinned (OpenSpec.ofChange bddOneSpec)

/-- ITS FALSE NEIGHBOUR: 'it returns false'. Refute it at one input. -/
def bddOneWrong : ChangeSpec := { name := "bddOne", fn := fun _ => fun
  | [d1, d2, d3, d4] => { results := [.lit (.bool false)], args := [d1, d2, d3, d4] }
  | _ => none }
def BddOneWrongFalsely : Prop := bddOneRow.holds Try.pinned (OpenSpec.ofChange bddOneWrong)

/-- 'drawknifelaw06.BddRoom': WHATEVER THE INPUT: true; the input reads as it did. -/
def bddRoomSpec : ChangeSpec := { name := "bddRoom", fn := fun _ => fun
  | [d1, d2, d3, d4] => { results := [.lit (.bool true)], args := [d1, d2, d3, d4] }
  | _ => none }
def bddRoomRow : OpenClaim := { program := "ytbffcnnfkfjpgaa", sum := "60f9dd2ccc9e77906959e7db79c1ce0cfbdd20ac3f82f99cae8a5f743a9e63c8", func := "drawknife/drawknifelaw06.BddRoom", spec := "bddRoom", unfollowed := true, recurses := true, plainKeys := false, apart := false }
def BddRoomSaid : Prop := bddRoomRow.holds Try.pinned (OpenSpec.ofChange bddRoomSpec)

/-- ITS FALSE NEIGHBOUR: 'it returns false'. Refute it at one input. -/
def bddRoomWrong : ChangeSpec := { name := "bddRoom", fn := fun _ => fun
  | [d1, d2, d3, d4] => { results := [.lit (.bool false)], args := [d1, d2, d3, d4] }
  | _ => none }
def BddRoomWrongFalsely : Prop := bddRoomRow.holds Try.pinned (OpenSpec.ofChange bddRoomWrong)

/- THE SECOND FORM. 'bulk': how many values and letters a reading holds, each counted each time it is reached (what is shared counts as often as it is met; a slice's spare places count too). A statement '..UptoSaid' is the law's where the arguments, and the package variables that the reading takes, are together of bulk at most 1048576: NARROWER than '..Said'. Prove '..Said' where nothing that the law and all that it calls make is longer than what came in: it says more and counts as full. Else prove '..UptoSaid'. A law counts once. -/
mutual
def uptoBulk {H : Type} : DataW H → Nat
  | .lit (.string bytes) => bytes.length + 1
  | .lit _ => 1
  | .nil => 1
  | .ptr d => uptoBulk d + 1
  | .slice elems spare => uptoBulkAll elems + uptoBulkAll spare + 1
  | .agg parts => uptoBulkAll parts + 1
  | .iface _ d => uptoBulk d + 1
  | .map entries => uptoBulkEntries entries + 1
  | .held _ => 1
def uptoBulkAll {H : Type} : List (DataW H) → Nat
  | [] => 0
  | d :: r => uptoBulk d + uptoBulkAll r
def uptoBulkEntries {H : Type} : List (Lit × DataW H) → Nat
  | [] => 0
  | x :: r => uptoBulkEntry x + uptoBulkEntries r
def uptoBulkEntry {H : Type} : Lit × DataW H → Nat
  | (.string bytes, d) => bytes.length + uptoBulk d + 1
  | (_, d) => uptoBulk d + 1
 end
def uptoSmall : (H : Type) → List (DataW H) → Bool := fun _ ds => decide (uptoBulkAll ds ≤ 1048576)
def OpenSpec.upto (s : _root_.Go.ChangeSpec) : _root_.Go.OpenSpec := { _root_.Go.OpenSpec.ofChange s with cond := some uptoSmall }

/-- 'drawknifelaw06.BddSets', WHERE WHAT IT READS IS OF BULK AT MOST 1048576: true; the input reads as it did. -/
def bddSetsUptoRow : OpenClaim := { program := "ytbffcnnfkfjpgaa", sum := "60f9dd2ccc9e77906959e7db79c1ce0cfbdd20ac3f82f99cae8a5f743a9e63c8", func := "drawknife/drawknifelaw06.BddSets", spec := "bddSets", unfollowed := true, recurses := true, plainKeys := false, apart := false, narrowed := true }
def BddSetsUptoSaid : Prop := bddSetsUptoRow.holds Try.pinned (OpenSpec.upto bddSetsSpec)

/-- 'drawknifelaw06.BddDoes', WHERE WHAT IT READS IS OF BULK AT MOST 1048576: true; the input reads as it did. -/
def bddDoesUptoRow : OpenClaim := { program := "ytbffcnnfkfjpgaa", sum := "60f9dd2ccc9e77906959e7db79c1ce0cfbdd20ac3f82f99cae8a5f743a9e63c8", func := "drawknife/drawknifelaw06.BddDoes", spec := "bddDoes", unfollowed := true, recurses := true, plainKeys := false, apart := false, narrowed := true }
def BddDoesUptoSaid : Prop := bddDoesUptoRow.holds Try.pinned (OpenSpec.upto bddDoesSpec)

/-- 'drawknifelaw06.BddOne', WHERE WHAT IT READS IS OF BULK AT MOST 1048576: true; the input reads as it did. -/
def bddOneUptoRow : OpenClaim := { program := "ytbffcnnfkfjpgaa", sum := "60f9dd2ccc9e77906959e7db79c1ce0cfbdd20ac3f82f99cae8a5f743a9e63c8", func := "drawknife/drawknifelaw06.BddOne", spec := "bddOne", unfollowed := true, recurses := true, plainKeys := false, apart := false, narrowed := true }
def BddOneUptoSaid : Prop := bddOneUptoRow.holds Try.pinned (OpenSpec.upto bddOneSpec)

/-- 'drawknifelaw06.BddRoom', WHERE WHAT IT READS IS OF BULK AT MOST 1048576: true; the input reads as it did. -/
def bddRoomUptoRow : OpenClaim := { program := "ytbffcnnfkfjpgaa", sum := "60f9dd2ccc9e77906959e7db79c1ce0cfbdd20ac3f82f99cae8a5f743a9e63c8", func := "drawknife/drawknifelaw06.BddRoom", spec := "bddRoom", unfollowed := true, recurses := true, plainKeys := false, apart := false, narrowed := true }
def BddRoomUptoSaid : Prop := bddRoomUptoRow.holds Try.pinned (OpenSpec.upto bddRoomSpec)

end Rows
end Go.Proofs.Ytbffcnnfkfjpgaa
