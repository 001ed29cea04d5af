/- A region that draws its order, whose operations read and whose callees make memory of their own but hand back one value whatever that memory is: one walk in the order of the text serves every order. -/
import Derived.WalkKit
import Derived.WalkSpells
import Derived.WalkLawsBesides
import Derived.Deep.QuietTactic
import Derived.BigQuiet
import Derived.Lib.Hide
import Derived.Lib.SmallJoins
import Derived.Outline
namespace Go.Proofs.YtdfllifjbabfjaaGreatDoor
open Go.RowKit Go.Joins

/-- A world in which all that was there in w is as it was. -/
def After (w : World) : Type := { W : World // Below w.heap.size w W }
def After.here (w : World) : After w := ⟨w, Below.refl _ _⟩
instance (w : World) : Nonempty (After w) := ⟨After.here w⟩
theorem After.cell {w : World} (x : After w) {b o : Nat} {v : Value} (h : w.cell? ⟨b, o, none⟩ = some v) : x.1.cell? ⟨b, o, none⟩ = some v := by
  rw [x.2.cell (p := ⟨b, o, none⟩) (block_lt_of_cell h)]; exact h
theorem wp_region_after {P : Program} {id : Nat} {Q : Exit → Act → World → Prop} {a : Act} {w : World} {l : List Oper} (hm : P.follows .mixedOrders = true) (hB : Region.lexB .any l.toArray = true)
    (h : wpQuiet P l.toArray (fun W => ∃ x : After w, W = x.1) (fun a' => ∀ x : After w, Q .normal a' x.1) l a) : (Code.region id l.toArray true).wp P Q a w := by
  refine wp_region_quiet (C := fun W => ∃ x : After w, W = x.1) hm hB ⟨⟨_, (Below.refl _ _).drew⟩, rfl⟩ ?_
  have e : (fun a' : Act => ∀ w', (∃ x : After w, w' = x.1) → Q .normal a' w') = fun a' => ∀ x : After w, Q .normal a' x.1 := by
    funext a'
    apply propext
    exact ⟨fun H x => H _ ⟨x, rfl⟩, fun H w' ⟨x, hx⟩ => by rw [hx]; exact H x⟩
  rw [e]
  simpa using h
/-- A callee's contract, met in such a world. -/
theorem Calls.after_of {P : Program} {f : FuncId} {args : Array Value} {w : World} {x : After w} {v : Value}
    (h : Calls P f args x.1 fun e w' => e = .returned v ∧ Below x.1.heap.size x.1 w') : Calls P f args x.1 fun e w'' => e = .returned v ∧ ∃ y : After w, w'' = y.1 :=
  h.mono fun _ w' ⟨he, hb⟩ => ⟨he, ⟨w', x.2.trans (hb.mono x.2.size)⟩, rfl⟩
theorem Calls.after_same {P : Program} {f : FuncId} {args : Array Value} {w : World} {x : After w} {v : Value}
    (h : Calls P f args x.1 fun e w' => e = .returned v ∧ x.1 = w') : Calls P f args x.1 fun e w'' => e = .returned v ∧ ∃ y : After w, w'' = y.1 :=
  h.mono fun _ _ ⟨he, hb⟩ => ⟨he, x, hb.symm⟩
theorem carry4 {w w1 : World} {b : Nat} {x0 x1 x2 x3 : Value} (hb : Below w.heap.size w w1) (d0 : w.cell? ⟨b, 0, none⟩ = some x0) (d1 : w.cell? ⟨b, 1, none⟩ = some x1) (d2 : w.cell? ⟨b, 2, none⟩ = some x2) (d3 : w.cell? ⟨b, 3, none⟩ = some x3) :
    w1.cell? ⟨b, 0, none⟩ = some x0 ∧ w1.cell? ⟨b, 1, none⟩ = some x1 ∧ w1.cell? ⟨b, 2, none⟩ = some x2 ∧ w1.cell? ⟨b, 3, none⟩ = some x3 :=
  ⟨After.cell ⟨w1, hb⟩ d0, After.cell ⟨w1, hb⟩ d1, After.cell ⟨w1, hb⟩ d2, After.cell ⟨w1, hb⟩ d3⟩
theorem grown_set {w wr : World} {b j : Nat} {u : Value} (h : w.grownBy wr (some b)) : w.grownBy (wr.setCell ⟨b, j, none⟩ u) (some b) :=
  ⟨h.os, h.tape, h.output, by simpa [World.setCell] using h.size, fun k hk hne => (Below.heap_setCell _ _ _ _ (by intro e; exact hne (by rw [e]))).trans (h.block k hk hne)⟩
theorem grown_at {w wr : World} {b g : Nat} (h : w.grownBy wr (some b)) (hg : g < w.heap.size) (hne : g ≠ b) : wr.heap[g]? = w.heap[g]? :=
  h.block g hg (by intro e; injection e with e; exact hne e)
theorem below_of_grown {w wr a : World} {b B : Nat} (h : w.grownBy wr (some b)) (hB : Below B a w) (hb : B ≤ b) (hs : B ≤ w.heap.size) : Below B a wr :=
  hB.grown h hs (fun k e => by injection e with e; omega)
/-- A set's four cells, out of its block. -/
theorem cells_sa {w : World} {b : Nat} {T : TypeId} {C : Array Value} {x0 x1 x2 x3 : Value} (h : w.heap[b]? = some (.cells C T (0, 0))) (hC : C = #[x0, x1, x2, x3]) :
    w.cell? ⟨b, 0, none⟩ = some x0 ∧ w.cell? ⟨b, 1, none⟩ = some x1 ∧ w.cell? ⟨b, 2, none⟩ = some x2 ∧ w.cell? ⟨b, 3, none⟩ = some x3 := by
  subst hC
  refine ⟨?_, ?_, ?_, ?_⟩ <;> rw [cell_of_block h] <;> rfl
/-- 256 flags, as cells. -/
def boolsV (g : Nat → Bool) : List Value := (List.range 256).map (fun p => Value.bool (g p))
theorem boolsV_get (g : Nat → Bool) (p : Nat) (h : p < 256) : (boolsV g)[p]? = some (.bool (g p)) := by unfold boolsV; simp [h]
theorem boolsV_set (g g' : Nat → Bool) (q : Nat) (u : Bool) (hq : g' q = u) (hne : ∀ p, p ≠ q → g' p = g p) : (boolsV g).set q (.bool u) = boolsV g' := by
  apply List.ext_getElem?
  intro p
  rw [List.getElem?_set]
  by_cases hp : p < 256
  · rw [boolsV_get g' p hp]
    by_cases e : q = p
    · subst e
      rw [if_pos rfl, hq]
      have : q < (boolsV g).length := by simp [boolsV, hp]
      simp [this]
    · rw [if_neg e, boolsV_get g p hp, hne p (Ne.symm e)]
  · have h1 : (boolsV g')[p]? = none := by simp [boolsV]; omega
    have h2 : (boolsV g)[p]? = none := by simp [boolsV]; omega
    have h3 : ¬ p < (boolsV g).length := by simp [boolsV]; omega
    rw [h1]
    by_cases e : q = p
    · subst e; simp [h3]
    · rw [if_neg e, h2]
theorem boolsV_made : (madeCells #[Value.bool false] 256).toList = boolsV (fun _ => false) := by
  rw [toList_madeCells_one]
  apply List.ext_getElem?
  intro p
  rw [List.getElem?_replicate]
  by_cases hp : p < 256
  · rw [if_pos hp, boolsV_get _ p hp]
  · have h1 : (boolsV (fun _ => false))[p]? = none := by simp [boolsV]; omega
    rw [if_neg hp, h1]
end Go.Proofs.YtdfllifjbabfjaaGreatDoor
