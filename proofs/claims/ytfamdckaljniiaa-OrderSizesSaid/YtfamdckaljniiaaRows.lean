/-
  No cell of these rows narrows 'for every input' (looked for: loops, veiled, ifaces, maps, wideKeys, modest, calm, conditions, laid).
  DERIVED. THE GIVEN ROWS OF THIS SEAT. 4 by the template 'for every input the law returns true; each argument reads behind the call as it read before'; 0 by the template 'total and deterministic' (their statements: YtfamdckaljniiaaTotals.lean).
  GIVEN WITH THE SEED: the statements are not yours to turn. If you find one false, say at which input.
  Laid BY PROGRAM, IN A SANDBOX (cutbox-rows.mjs): the forced cells as the released guide's own fill.sh prints them over the translation 36374d5b3e5872db… (all of the seat's roots in one cut). By AI agents, Wed Nov 11 2026. No macro, syntax, notation, axiom, sorry.
-/
import Derived.Test.YtfamdckaljniiaaChecked
import GoSem.Claim
import GoSem.ClaimJoined
import GoSem.ClaimMapViews
import Derived.JoinedTies
import Derived.KernelRfl
namespace Go.Proofs.Ytfamdckaljniiaa
/- THE CELL 'sum', in the pinned program and in every row, IS THE sha256 OF THE DUMP (.gsa) THAT YtfamdckaljniiaaProg.lean LOADS. Nothing in Lean hashes anything: it is a label: what it is worth is what the hold of that sum in a sandbox is worth. -/
noncomputable def Try.pinned : Pinned := { name := "ytfamdckaljniiaa", sum := "36374d5b3e5872db1f9dcb7103f45647fe040b8a3b5c40b5fc6d8db5d55da976", checked := Try.checked }
namespace Rows
def none {H : Type} : Left H := { results := [], args := [] }

/-- 'drawknifelaw07.OrderSizes': WHATEVER THE INPUT: true; the input reads as it did. -/
def orderSizesSpec : ChangeSpec := { name := "orderSizes", fn := fun _ => fun
  | [d1, d2, d3] => { results := [.lit (.bool true)], args := [d1, d2, d3] }
  | _ => none }
def orderSizesRow : OpenClaim := { program := "ytfamdckaljniiaa", sum := "36374d5b3e5872db1f9dcb7103f45647fe040b8a3b5c40b5fc6d8db5d55da976", func := "drawknife/drawknifelaw07.OrderSizes", spec := "orderSizes", inPlace := ["slices.overlaps[int]"], unfollowed := true, recurses := true, plainKeys := false, apart := false }
def OrderSizesSaid : Prop := orderSizesRow.holds Try.pinned (OpenSpec.ofChange orderSizesSpec)

/-- ITS FALSE NEIGHBOUR: 'it returns false'. Refute it at one input. -/
def orderSizesWrong : ChangeSpec := { name := "orderSizes", fn := fun _ => fun
  | [d1, d2, d3] => { results := [.lit (.bool false)], args := [d1, d2, d3] }
  | _ => none }
def OrderSizesWrongFalsely : Prop := orderSizesRow.holds Try.pinned (OpenSpec.ofChange orderSizesWrong)

/-- 'drawknifelaw07.OrderMoves': WHATEVER THE INPUT: true; the input reads as it did. -/
def orderMovesSpec : ChangeSpec := { name := "orderMoves", fn := fun _ => fun
  | [d1, d2, d3] => { results := [.lit (.bool true)], args := [d1, d2, d3] }
  | _ => none }
def orderMovesRow : OpenClaim := { program := "ytfamdckaljniiaa", sum := "36374d5b3e5872db1f9dcb7103f45647fe040b8a3b5c40b5fc6d8db5d55da976", func := "drawknife/drawknifelaw07.OrderMoves", spec := "orderMoves", inPlace := ["slices.overlaps[int]"], unfollowed := true, recurses := true, plainKeys := false, apart := false }
def OrderMovesSaid : Prop := orderMovesRow.holds Try.pinned (OpenSpec.ofChange orderMovesSpec)

/-- ITS FALSE NEIGHBOUR: 'it returns false'. Refute it at one input. -/
def orderMovesWrong : ChangeSpec := { name := "orderMoves", fn := fun _ => fun
  | [d1, d2, d3] => { results := [.lit (.bool false)], args := [d1, d2, d3] }
  | _ => none }
def OrderMovesWrongFalsely : Prop := orderMovesRow.holds Try.pinned (OpenSpec.ofChange orderMovesWrong)

/-- 'drawknifelaw07.OrderSifts': WHATEVER THE INPUT: true; the input reads as it did. -/
def orderSiftsSpec : ChangeSpec := { name := "orderSifts", fn := fun _ => fun
  | [d1, d2, d3] => { results := [.lit (.bool true)], args := [d1, d2, d3] }
  | _ => none }
def orderSiftsRow : OpenClaim := { program := "ytfamdckaljniiaa", sum := "36374d5b3e5872db1f9dcb7103f45647fe040b8a3b5c40b5fc6d8db5d55da976", func := "drawknife/drawknifelaw07.OrderSifts", spec := "orderSifts", inPlace := ["slices.overlaps[int]"], unfollowed := true, recurses := true, plainKeys := false, apart := false }
def OrderSiftsSaid : Prop := orderSiftsRow.holds Try.pinned (OpenSpec.ofChange orderSiftsSpec)

/-- ITS FALSE NEIGHBOUR: 'it returns false'. Refute it at one input. -/
def orderSiftsWrong : ChangeSpec := { name := "orderSifts", fn := fun _ => fun
  | [d1, d2, d3] => { results := [.lit (.bool false)], args := [d1, d2, d3] }
  | _ => none }
def OrderSiftsWrongFalsely : Prop := orderSiftsRow.holds Try.pinned (OpenSpec.ofChange orderSiftsWrong)

/-- 'drawknifelaw07.OrderShrinks': WHATEVER THE INPUT: true; the input reads as it did. -/
def orderShrinksSpec : ChangeSpec := { name := "orderShrinks", fn := fun _ => fun
  | [d1, d2, d3] => { results := [.lit (.bool true)], args := [d1, d2, d3] }
  | _ => none }
def orderShrinksRow : OpenClaim := { program := "ytfamdckaljniiaa", sum := "36374d5b3e5872db1f9dcb7103f45647fe040b8a3b5c40b5fc6d8db5d55da976", func := "drawknife/drawknifelaw07.OrderShrinks", spec := "orderShrinks", inPlace := ["slices.overlaps[int]"], unfollowed := true, recurses := true, plainKeys := false, apart := false }
def OrderShrinksSaid : Prop := orderShrinksRow.holds Try.pinned (OpenSpec.ofChange orderShrinksSpec)

/-- ITS FALSE NEIGHBOUR: 'it returns false'. Refute it at one input. -/
def orderShrinksWrong : ChangeSpec := { name := "orderShrinks", fn := fun _ => fun
  | [d1, d2, d3] => { results := [.lit (.bool false)], args := [d1, d2, d3] }
  | _ => none }
def OrderShrinksWrongFalsely : Prop := orderShrinksRow.holds Try.pinned (OpenSpec.ofChange orderShrinksWrong)

/- THE SECOND FORM. 'bulk': how many values and letters a reading holds, each counted each time it is reached (what is shared counts as often as it is met; a slice's spare places count too). A statement '..UptoSaid' is the law's where the arguments, and the package variables that the reading takes, are together of bulk at most 1048576: NARROWER than '..Said'. Prove '..Said' where nothing that the law and all that it calls make is longer than what came in: it says more and counts as full. Else prove '..UptoSaid'. A law counts once. -/
mutual
def uptoBulk {H : Type} : DataW H → Nat
  | .lit (.string bytes) => bytes.length + 1
  | .lit _ => 1
  | .nil => 1
  | .ptr d => uptoBulk d + 1
  | .slice elems spare => uptoBulkAll elems + uptoBulkAll spare + 1
  | .agg parts => uptoBulkAll parts + 1
  | .iface _ d => uptoBulk d + 1
  | .map entries => uptoBulkEntries entries + 1
  | .held _ => 1
def uptoBulkAll {H : Type} : List (DataW H) → Nat
  | [] => 0
  | d :: r => uptoBulk d + uptoBulkAll r
def uptoBulkEntries {H : Type} : List (Lit × DataW H) → Nat
  | [] => 0
  | x :: r => uptoBulkEntry x + uptoBulkEntries r
def uptoBulkEntry {H : Type} : Lit × DataW H → Nat
  | (.string bytes, d) => bytes.length + uptoBulk d + 1
  | (_, d) => uptoBulk d + 1
 end
def uptoSmall : (H : Type) → List (DataW H) → Bool := fun _ ds => decide (uptoBulkAll ds ≤ 1048576)
def OpenSpec.upto (s : _root_.Go.ChangeSpec) : _root_.Go.OpenSpec := { _root_.Go.OpenSpec.ofChange s with cond := some uptoSmall }

/-- 'drawknifelaw07.OrderSizes', WHERE WHAT IT READS IS OF BULK AT MOST 1048576: true; the input reads as it did. -/
def orderSizesUptoRow : OpenClaim := { program := "ytfamdckaljniiaa", sum := "36374d5b3e5872db1f9dcb7103f45647fe040b8a3b5c40b5fc6d8db5d55da976", func := "drawknife/drawknifelaw07.OrderSizes", spec := "orderSizes", inPlace := ["slices.overlaps[int]"], unfollowed := true, recurses := true, plainKeys := false, apart := false, narrowed := true }
def OrderSizesUptoSaid : Prop := orderSizesUptoRow.holds Try.pinned (OpenSpec.upto orderSizesSpec)

/-- 'drawknifelaw07.OrderMoves', WHERE WHAT IT READS IS OF BULK AT MOST 1048576: true; the input reads as it did. -/
def orderMovesUptoRow : OpenClaim := { program := "ytfamdckaljniiaa", sum := "36374d5b3e5872db1f9dcb7103f45647fe040b8a3b5c40b5fc6d8db5d55da976", func := "drawknife/drawknifelaw07.OrderMoves", spec := "orderMoves", inPlace := ["slices.overlaps[int]"], unfollowed := true, recurses := true, plainKeys := false, apart := false, narrowed := true }
def OrderMovesUptoSaid : Prop := orderMovesUptoRow.holds Try.pinned (OpenSpec.upto orderMovesSpec)

/-- 'drawknifelaw07.OrderSifts', WHERE WHAT IT READS IS OF BULK AT MOST 1048576: true; the input reads as it did. -/
def orderSiftsUptoRow : OpenClaim := { program := "ytfamdckaljniiaa", sum := "36374d5b3e5872db1f9dcb7103f45647fe040b8a3b5c40b5fc6d8db5d55da976", func := "drawknife/drawknifelaw07.OrderSifts", spec := "orderSifts", inPlace := ["slices.overlaps[int]"], unfollowed := true, recurses := true, plainKeys := false, apart := false, narrowed := true }
def OrderSiftsUptoSaid : Prop := orderSiftsUptoRow.holds Try.pinned (OpenSpec.upto orderSiftsSpec)

/-- 'drawknifelaw07.OrderShrinks', WHERE WHAT IT READS IS OF BULK AT MOST 1048576: true; the input reads as it did. -/
def orderShrinksUptoRow : OpenClaim := { program := "ytfamdckaljniiaa", sum := "36374d5b3e5872db1f9dcb7103f45647fe040b8a3b5c40b5fc6d8db5d55da976", func := "drawknife/drawknifelaw07.OrderShrinks", spec := "orderShrinks", inPlace := ["slices.overlaps[int]"], unfollowed := true, recurses := true, plainKeys := false, apart := false, narrowed := true }
def OrderShrinksUptoSaid : Prop := orderShrinksUptoRow.holds Try.pinned (OpenSpec.upto orderShrinksSpec)

end Rows
end Go.Proofs.Ytfamdckaljniiaa
