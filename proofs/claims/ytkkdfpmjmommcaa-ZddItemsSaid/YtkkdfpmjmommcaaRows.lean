/-
  No cell of these rows narrows 'for every input' (looked for: loops, veiled, ifaces, maps, wideKeys, modest, calm, conditions, laid).
  DERIVED. THE GIVEN ROWS OF THIS SEAT. 7 by the template 'for every input the law returns true; each argument reads behind the call as it read before'; 0 by the template 'total and deterministic' (their statements: YtkkdfpmjmommcaaTotals.lean).
  GIVEN WITH THE SEED: the statements are not yours to turn. If you find one false, say at which input.
  Laid BY PROGRAM, IN A SANDBOX (cutbox-rows.mjs): the forced cells as the released guide's own fill.sh prints them over the translation 516850261ad3b2fa… (all of the seat's roots in one cut). By AI agents, Wed Nov 11 2026. No macro, syntax, notation, axiom, sorry.
-/
import Derived.Test.YtkkdfpmjmommcaaChecked
import GoSem.Claim
import GoSem.ClaimJoined
import GoSem.ClaimMapViews
import Derived.JoinedTies
import Derived.KernelRfl
namespace Go.Proofs.Ytkkdfpmjmommcaa
/- THE CELL 'sum', in the pinned program and in every row, IS THE sha256 OF THE DUMP (.gsa) THAT YtkkdfpmjmommcaaProg.lean LOADS. Nothing in Lean hashes anything: it is a label: what it is worth is what the hold of that sum in a sandbox is worth. -/
noncomputable def Try.pinned : Pinned := { name := "ytkkdfpmjmommcaa", sum := "516850261ad3b2fa27a845ed3afcd6b389f296023c8dde145025bbaeb3119be2", checked := Try.checked }
namespace Rows
def none {H : Type} : Left H := { results := [], args := [] }

/-- 'drawknifelaw08.ZddFamilies': WHATEVER THE INPUT: true; the input reads as it did. -/
def zddFamiliesSpec : ChangeSpec := { name := "zddFamilies", fn := fun _ => fun
  | [d1, d2] => { results := [.lit (.bool true)], args := [d1, d2] }
  | _ => none }
def zddFamiliesRow : OpenClaim := { program := "ytkkdfpmjmommcaa", sum := "516850261ad3b2fa27a845ed3afcd6b389f296023c8dde145025bbaeb3119be2", func := "drawknife/drawknifelaw08.ZddFamilies", spec := "zddFamilies", unfollowed := true, recurses := true, plainKeys := false, apart := false }
def ZddFamiliesSaid : Prop := zddFamiliesRow.holds Try.pinned (OpenSpec.ofChange zddFamiliesSpec)

/-- ITS FALSE NEIGHBOUR: 'it returns false'. Refute it at one input. -/
def zddFamiliesWrong : ChangeSpec := { name := "zddFamilies", fn := fun _ => fun
  | [d1, d2] => { results := [.lit (.bool false)], args := [d1, d2] }
  | _ => none }
def ZddFamiliesWrongFalsely : Prop := zddFamiliesRow.holds Try.pinned (OpenSpec.ofChange zddFamiliesWrong)

/-- 'drawknifelaw08.ZddDoes': WHATEVER THE INPUT: true; the input reads as it did. -/
def zddDoesSpec : ChangeSpec := { name := "zddDoes", fn := fun _ => fun
  | [d1, d2] => { results := [.lit (.bool true)], args := [d1, d2] }
  | _ => none }
def zddDoesRow : OpenClaim := { program := "ytkkdfpmjmommcaa", sum := "516850261ad3b2fa27a845ed3afcd6b389f296023c8dde145025bbaeb3119be2", func := "drawknife/drawknifelaw08.ZddDoes", spec := "zddDoes", unfollowed := true, recurses := true, plainKeys := false, apart := false }
def ZddDoesSaid : Prop := zddDoesRow.holds Try.pinned (OpenSpec.ofChange zddDoesSpec)

/-- ITS FALSE NEIGHBOUR: 'it returns false'. Refute it at one input. -/
def zddDoesWrong : ChangeSpec := { name := "zddDoes", fn := fun _ => fun
  | [d1, d2] => { results := [.lit (.bool false)], args := [d1, d2] }
  | _ => none }
def ZddDoesWrongFalsely : Prop := zddDoesRow.holds Try.pinned (OpenSpec.ofChange zddDoesWrong)

/-- 'drawknifelaw08.ZddItems': WHATEVER THE INPUT: true; the input reads as it did. -/
def zddItemsSpec : ChangeSpec := { name := "zddItems", fn := fun _ => fun
  | [d1, d2] => { results := [.lit (.bool true)], args := [d1, d2] }
  | _ => none }
def zddItemsRow : OpenClaim := { program := "ytkkdfpmjmommcaa", sum := "516850261ad3b2fa27a845ed3afcd6b389f296023c8dde145025bbaeb3119be2", func := "drawknife/drawknifelaw08.ZddItems", spec := "zddItems", unfollowed := true, recurses := true, plainKeys := false, apart := false }
def ZddItemsSaid : Prop := zddItemsRow.holds Try.pinned (OpenSpec.ofChange zddItemsSpec)

/-- ITS FALSE NEIGHBOUR: 'it returns false'. Refute it at one input. -/
def zddItemsWrong : ChangeSpec := { name := "zddItems", fn := fun _ => fun
  | [d1, d2] => { results := [.lit (.bool false)], args := [d1, d2] }
  | _ => none }
def ZddItemsWrongFalsely : Prop := zddItemsRow.holds Try.pinned (OpenSpec.ofChange zddItemsWrong)

/-- 'drawknifelaw08.ZddJoins': WHATEVER THE INPUT: true; the input reads as it did. -/
def zddJoinsSpec : ChangeSpec := { name := "zddJoins", fn := fun _ => fun
  | [d1, d2] => { results := [.lit (.bool true)], args := [d1, d2] }
  | _ => none }
def zddJoinsRow : OpenClaim := { program := "ytkkdfpmjmommcaa", sum := "516850261ad3b2fa27a845ed3afcd6b389f296023c8dde145025bbaeb3119be2", func := "drawknife/drawknifelaw08.ZddJoins", spec := "zddJoins", unfollowed := true, recurses := true, plainKeys := false, apart := false }
def ZddJoinsSaid : Prop := zddJoinsRow.holds Try.pinned (OpenSpec.ofChange zddJoinsSpec)

/-- ITS FALSE NEIGHBOUR: 'it returns false'. Refute it at one input. -/
def zddJoinsWrong : ChangeSpec := { name := "zddJoins", fn := fun _ => fun
  | [d1, d2] => { results := [.lit (.bool false)], args := [d1, d2] }
  | _ => none }
def ZddJoinsWrongFalsely : Prop := zddJoinsRow.holds Try.pinned (OpenSpec.ofChange zddJoinsWrong)

/-- 'drawknifelaw08.ZddLeast': WHATEVER THE INPUT: true; the input reads as it did. -/
def zddLeastSpec : ChangeSpec := { name := "zddLeast", fn := fun _ => fun
  | [d] => { results := [.lit (.bool true)], args := [d] }
  | _ => none }
def zddLeastRow : OpenClaim := { program := "ytkkdfpmjmommcaa", sum := "516850261ad3b2fa27a845ed3afcd6b389f296023c8dde145025bbaeb3119be2", func := "drawknife/drawknifelaw08.ZddLeast", spec := "zddLeast", unfollowed := true, recurses := true, plainKeys := false, apart := false }
def ZddLeastSaid : Prop := zddLeastRow.holds Try.pinned (OpenSpec.ofChange zddLeastSpec)

/-- ITS FALSE NEIGHBOUR: 'it returns false'. Refute it at one input. -/
def zddLeastWrong : ChangeSpec := { name := "zddLeast", fn := fun _ => fun
  | [d] => { results := [.lit (.bool false)], args := [d] }
  | _ => none }
def ZddLeastWrongFalsely : Prop := zddLeastRow.holds Try.pinned (OpenSpec.ofChange zddLeastWrong)

/-- 'drawknifelaw08.ZddOne': WHATEVER THE INPUT: true; the input reads as it did. -/
def zddOneSpec : ChangeSpec := { name := "zddOne", fn := fun _ => fun
  | [d1, d2] => { results := [.lit (.bool true)], args := [d1, d2] }
  | _ => none }
def zddOneRow : OpenClaim := { program := "ytkkdfpmjmommcaa", sum := "516850261ad3b2fa27a845ed3afcd6b389f296023c8dde145025bbaeb3119be2", func := "drawknife/drawknifelaw08.ZddOne", spec := "zddOne", unfollowed := true, recurses := true, plainKeys := false, apart := false }
def ZddOneSaid : Prop := zddOneRow.holds Try.pinned (OpenSpec.ofChange zddOneSpec)

/-- ITS FALSE NEIGHBOUR: 'it returns false'. Refute it at one input. -/
def zddOneWrong : ChangeSpec := { name := "zddOne", fn := fun _ => fun
  | [d1, d2] => { results := [.lit (.bool false)], args := [d1, d2] }
  | _ => none }
def ZddOneWrongFalsely : Prop := zddOneRow.holds Try.pinned (OpenSpec.ofChange zddOneWrong)

/-- 'drawknifelaw08.ZddRoom': WHATEVER THE INPUT: true; the input reads as it did. -/
def zddRoomSpec : ChangeSpec := { name := "zddRoom", fn := fun _ => fun
  | [d1, d2, d3] => { results := [.lit (.bool true)], args := [d1, d2, d3] }
  | _ => none }
def zddRoomRow : OpenClaim := { program := "ytkkdfpmjmommcaa", sum := "516850261ad3b2fa27a845ed3afcd6b389f296023c8dde145025bbaeb3119be2", func := "drawknife/drawknifelaw08.ZddRoom", spec := "zddRoom", unfollowed := true, recurses := true, plainKeys := false, apart := false }
def ZddRoomSaid : Prop := zddRoomRow.holds Try.pinned (OpenSpec.ofChange zddRoomSpec)

/-- ITS FALSE NEIGHBOUR: 'it returns false'. Refute it at one input. -/
def zddRoomWrong : ChangeSpec := { name := "zddRoom", fn := fun _ => fun
  | [d1, d2, d3] => { results := [.lit (.bool false)], args := [d1, d2, d3] }
  | _ => none }
def ZddRoomWrongFalsely : Prop := zddRoomRow.holds Try.pinned (OpenSpec.ofChange zddRoomWrong)

/- THE SECOND FORM. 'bulk': how many values and letters a reading holds, each counted each time it is reached (what is shared counts as often as it is met; a slice's spare places count too). A statement '..UptoSaid' is the law's where the arguments, and the package variables that the reading takes, are together of bulk at most 1048576: NARROWER than '..Said'. Prove '..Said' where nothing that the law and all that it calls make is longer than what came in: it says more and counts as full. Else prove '..UptoSaid'. A law counts once. -/
mutual
def uptoBulk {H : Type} : DataW H → Nat
  | .lit (.string bytes) => bytes.length + 1
  | .lit _ => 1
  | .nil => 1
  | .ptr d => uptoBulk d + 1
  | .slice elems spare => uptoBulkAll elems + uptoBulkAll spare + 1
  | .agg parts => uptoBulkAll parts + 1
  | .iface _ d => uptoBulk d + 1
  | .map entries => uptoBulkEntries entries + 1
  | .held _ => 1
def uptoBulkAll {H : Type} : List (DataW H) → Nat
  | [] => 0
  | d :: r => uptoBulk d + uptoBulkAll r
def uptoBulkEntries {H : Type} : List (Lit × DataW H) → Nat
  | [] => 0
  | x :: r => uptoBulkEntry x + uptoBulkEntries r
def uptoBulkEntry {H : Type} : Lit × DataW H → Nat
  | (.string bytes, d) => bytes.length + uptoBulk d + 1
  | (_, d) => uptoBulk d + 1
 end
def uptoSmall : (H : Type) → List (DataW H) → Bool := fun _ ds => decide (uptoBulkAll ds ≤ 1048576)
def OpenSpec.upto (s : _root_.Go.ChangeSpec) : _root_.Go.OpenSpec := { _root_.Go.OpenSpec.ofChange s with cond := some uptoSmall }

/-- 'drawknifelaw08.ZddFamilies', WHERE WHAT IT READS IS OF BULK AT MOST 1048576: true; the input reads as it did. -/
def zddFamiliesUptoRow : OpenClaim := { program := "ytkkdfpmjmommcaa", sum := "516850261ad3b2fa27a845ed3afcd6b389f296023c8dde145025bbaeb3119be2", func := "drawknife/drawknifelaw08.ZddFamilies", spec := "zddFamilies", unfollowed := true, recurses := true, plainKeys := false, apart := false, narrowed := true }
def ZddFamiliesUptoSaid : Prop := zddFamiliesUptoRow.holds Try.pinned (OpenSpec.upto zddFamiliesSpec)

/-- 'drawknifelaw08.ZddDoes', WHERE WHAT IT READS IS OF BULK AT MOST 1048576: true; the input reads as it did. -/
def zddDoesUptoRow : OpenClaim := { program := "ytkkdfpmjmommcaa", sum := "516850261ad3b2fa27a845ed3afcd6b389f296023c8dde145025bbaeb3119be2", func := "drawknife/drawknifelaw08.ZddDoes", spec := "zddDoes", unfollowed := true, recurses := true, plainKeys := false, apart := false, narrowed := true }
def ZddDoesUptoSaid : Prop := zddDoesUptoRow.holds Try.pinned (OpenSpec.upto zddDoesSpec)

/-- 'drawknifelaw08.ZddItems', WHERE WHAT IT READS IS OF BULK AT MOST 1048576: true; the input reads as it did. -/
def zddItemsUptoRow : OpenClaim := { program := "ytkkdfpmjmommcaa", sum := "516850261ad3b2fa27a845ed3afcd6b389f296023c8dde145025bbaeb3119be2", func := "drawknife/drawknifelaw08.ZddItems", spec := "zddItems", unfollowed := true, recurses := true, plainKeys := false, apart := false, narrowed := true }
def ZddItemsUptoSaid : Prop := zddItemsUptoRow.holds Try.pinned (OpenSpec.upto zddItemsSpec)

/-- 'drawknifelaw08.ZddJoins', WHERE WHAT IT READS IS OF BULK AT MOST 1048576: true; the input reads as it did. -/
def zddJoinsUptoRow : OpenClaim := { program := "ytkkdfpmjmommcaa", sum := "516850261ad3b2fa27a845ed3afcd6b389f296023c8dde145025bbaeb3119be2", func := "drawknife/drawknifelaw08.ZddJoins", spec := "zddJoins", unfollowed := true, recurses := true, plainKeys := false, apart := false, narrowed := true }
def ZddJoinsUptoSaid : Prop := zddJoinsUptoRow.holds Try.pinned (OpenSpec.upto zddJoinsSpec)

/-- 'drawknifelaw08.ZddLeast', WHERE WHAT IT READS IS OF BULK AT MOST 1048576: true; the input reads as it did. -/
def zddLeastUptoRow : OpenClaim := { program := "ytkkdfpmjmommcaa", sum := "516850261ad3b2fa27a845ed3afcd6b389f296023c8dde145025bbaeb3119be2", func := "drawknife/drawknifelaw08.ZddLeast", spec := "zddLeast", unfollowed := true, recurses := true, plainKeys := false, apart := false, narrowed := true }
def ZddLeastUptoSaid : Prop := zddLeastUptoRow.holds Try.pinned (OpenSpec.upto zddLeastSpec)

/-- 'drawknifelaw08.ZddOne', WHERE WHAT IT READS IS OF BULK AT MOST 1048576: true; the input reads as it did. -/
def zddOneUptoRow : OpenClaim := { program := "ytkkdfpmjmommcaa", sum := "516850261ad3b2fa27a845ed3afcd6b389f296023c8dde145025bbaeb3119be2", func := "drawknife/drawknifelaw08.ZddOne", spec := "zddOne", unfollowed := true, recurses := true, plainKeys := false, apart := false, narrowed := true }
def ZddOneUptoSaid : Prop := zddOneUptoRow.holds Try.pinned (OpenSpec.upto zddOneSpec)

/-- 'drawknifelaw08.ZddRoom', WHERE WHAT IT READS IS OF BULK AT MOST 1048576: true; the input reads as it did. -/
def zddRoomUptoRow : OpenClaim := { program := "ytkkdfpmjmommcaa", sum := "516850261ad3b2fa27a845ed3afcd6b389f296023c8dde145025bbaeb3119be2", func := "drawknife/drawknifelaw08.ZddRoom", spec := "zddRoom", unfollowed := true, recurses := true, plainKeys := false, apart := false, narrowed := true }
def ZddRoomUptoSaid : Prop := zddRoomUptoRow.holds Try.pinned (OpenSpec.upto zddRoomSpec)

end Rows
end Go.Proofs.Ytkkdfpmjmommcaa
