/-
  No cell of these rows narrows 'for every input' (looked for: loops, veiled, ifaces, maps, wideKeys, modest, calm, conditions, laid).
  DERIVED. THE GIVEN ROWS OF THIS SEAT. 2 by the template 'for every input the law returns true; each argument reads behind the call as it read before'; 0 by the template 'total and deterministic' (their statements: YtehpccanjlaokaaGreatTotals.lean).
  GIVEN WITH THE SEED: the statements are not yours to turn. If you find one false, say at which input.
  Laid BY PROGRAM, IN A SANDBOX (cutbox-rows.mjs): the forced cells as the released guide's own fill.sh prints them over the translation a696c4772f6c352c… (all of the seat's roots in one cut). By AI agents, Wed Nov 11 2026. No macro, syntax, notation, axiom, sorry.
-/
import Derived.Test.YtehpccanjlaokaaGreatChecked
import GoSem.Claim
import GoSem.ClaimJoined
import GoSem.ClaimMapViews
import Derived.JoinedTies
import Derived.KernelRfl
namespace Go.Proofs.YtehpccanjlaokaaGreat
/- THE CELL 'sum', in the pinned program and in every row, IS THE sha256 OF THE DUMP (.gsa) THAT YtehpccanjlaokaaGreatProg.lean LOADS. Nothing in Lean hashes anything: it is a label: what it is worth is what the hold of that sum in a sandbox is worth. -/
noncomputable def Tryz.pinned : Pinned := { name := "ytehpccanjlaokaagreat", sum := "a696c4772f6c352cab01891b7b5f14a52414d399b194557a325530081d863174", checked := Tryz.checked }
namespace Rows
def none {H : Type} : Left H := { results := [], args := [] }

/-- 'drawknifelaw11.TaggedAll': WHATEVER THE INPUT: true; the input reads as it did. -/
def taggedAllSpec : ChangeSpec := { name := "taggedAll", fn := fun _ => fun
  | [d] => { results := [.lit (.bool true)], args := [d] }
  | _ => none }
def taggedAllRow : OpenClaim := { program := "ytehpccanjlaokaagreat", sum := "a696c4772f6c352cab01891b7b5f14a52414d399b194557a325530081d863174", func := "drawknife/drawknifelaw11.TaggedAll", spec := "taggedAll", inPlace := ["slices.overlaps[drawknife/api.Cube]"], unfollowed := true, recurses := true, plainKeys := false, apart := false }
def TaggedAllSaid : Prop := taggedAllRow.holds Tryz.pinned (OpenSpec.ofChange taggedAllSpec)

/-- ITS FALSE NEIGHBOUR: 'it returns false'. Refute it at one input. -/
def taggedAllWrong : ChangeSpec := { name := "taggedAll", fn := fun _ => fun
  | [d] => { results := [.lit (.bool false)], args := [d] }
  | _ => none }
def TaggedAllWrongFalsely : Prop := taggedAllRow.holds Tryz.pinned (OpenSpec.ofChange taggedAllWrong)

/-- 'drawknifelaw11.TaggedRoom': WHATEVER THE INPUT: true; the input reads as it did. -/
def taggedRoomSpec : ChangeSpec := { name := "taggedRoom", fn := fun _ => fun
  | [d1, d2] => { results := [.lit (.bool true)], args := [d1, d2] }
  | _ => none }
def taggedRoomRow : OpenClaim := { program := "ytehpccanjlaokaagreat", sum := "a696c4772f6c352cab01891b7b5f14a52414d399b194557a325530081d863174", func := "drawknife/drawknifelaw11.TaggedRoom", spec := "taggedRoom", inPlace := ["slices.overlaps[drawknife/api.Cube]"], unfollowed := true, recurses := true, plainKeys := false, apart := false }
def TaggedRoomSaid : Prop := taggedRoomRow.holds Tryz.pinned (OpenSpec.ofChange taggedRoomSpec)

/-- ITS FALSE NEIGHBOUR: 'it returns false'. Refute it at one input. -/
def taggedRoomWrong : ChangeSpec := { name := "taggedRoom", fn := fun _ => fun
  | [d1, d2] => { results := [.lit (.bool false)], args := [d1, d2] }
  | _ => none }
def TaggedRoomWrongFalsely : Prop := taggedRoomRow.holds Tryz.pinned (OpenSpec.ofChange taggedRoomWrong)

/- THE SECOND FORM. 'bulk': how many values and letters a reading holds, each counted each time it is reached (what is shared counts as often as it is met; a slice's spare places count too). A statement '..UptoSaid' is the law's where the arguments, and the package variables that the reading takes, are together of bulk at most 1048576: NARROWER than '..Said'. Prove '..Said' where nothing that the law and all that it calls make is longer than what came in: it says more and counts as full. Else prove '..UptoSaid'. A law counts once. -/
mutual
def uptoBulk {H : Type} : DataW H → Nat
  | .lit (.string bytes) => bytes.length + 1
  | .lit _ => 1
  | .nil => 1
  | .ptr d => uptoBulk d + 1
  | .slice elems spare => uptoBulkAll elems + uptoBulkAll spare + 1
  | .agg parts => uptoBulkAll parts + 1
  | .iface _ d => uptoBulk d + 1
  | .map entries => uptoBulkEntries entries + 1
  | .held _ => 1
def uptoBulkAll {H : Type} : List (DataW H) → Nat
  | [] => 0
  | d :: r => uptoBulk d + uptoBulkAll r
def uptoBulkEntries {H : Type} : List (Lit × DataW H) → Nat
  | [] => 0
  | x :: r => uptoBulkEntry x + uptoBulkEntries r
def uptoBulkEntry {H : Type} : Lit × DataW H → Nat
  | (.string bytes, d) => bytes.length + uptoBulk d + 1
  | (_, d) => uptoBulk d + 1
 end
def uptoSmall : (H : Type) → List (DataW H) → Bool := fun _ ds => decide (uptoBulkAll ds ≤ 1048576)
def OpenSpec.upto (s : _root_.Go.ChangeSpec) : _root_.Go.OpenSpec := { _root_.Go.OpenSpec.ofChange s with cond := some uptoSmall }

/-- 'drawknifelaw11.TaggedAll', WHERE WHAT IT READS IS OF BULK AT MOST 1048576: true; the input reads as it did. -/
def taggedAllUptoRow : OpenClaim := { program := "ytehpccanjlaokaagreat", sum := "a696c4772f6c352cab01891b7b5f14a52414d399b194557a325530081d863174", func := "drawknife/drawknifelaw11.TaggedAll", spec := "taggedAll", inPlace := ["slices.overlaps[drawknife/api.Cube]"], unfollowed := true, recurses := true, plainKeys := false, apart := false, narrowed := true }
def TaggedAllUptoSaid : Prop := taggedAllUptoRow.holds Tryz.pinned (OpenSpec.upto taggedAllSpec)

/-- 'drawknifelaw11.TaggedRoom', WHERE WHAT IT READS IS OF BULK AT MOST 1048576: true; the input reads as it did. -/
def taggedRoomUptoRow : OpenClaim := { program := "ytehpccanjlaokaagreat", sum := "a696c4772f6c352cab01891b7b5f14a52414d399b194557a325530081d863174", func := "drawknife/drawknifelaw11.TaggedRoom", spec := "taggedRoom", inPlace := ["slices.overlaps[drawknife/api.Cube]"], unfollowed := true, recurses := true, plainKeys := false, apart := false, narrowed := true }
def TaggedRoomUptoSaid : Prop := taggedRoomUptoRow.holds Tryz.pinned (OpenSpec.upto taggedRoomSpec)

end Rows
end Go.Proofs.YtehpccanjlaokaaGreat
