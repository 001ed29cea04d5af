/- Ite: of ids that are used, by halves, what is known being remembered. -/
import Derived.Test.YtfamdckaljniiaaRem06
import Derived.Test.YtfamdckaljniiaaMid06
import Derived.Deep.RegionHeld3
namespace Go.Proofs.Ytfamdckaljniiaa
open Go.RowKit Go.Joins

/-- What two calls may write. -/
def MM (bm mm : Nat) : Nat → Prop := fun k => k = bm ∨ k = mm
theorem iteF_one {S : St} {f g h : Int} (e : f = 1) (c : Nat → Bool) : says S c g = iteF S f g h c := by unfold iteF; rw [e, says_one]; rfl
theorem iteF_same {S : St} {f g h : Int} (e : g = h) (c : Nat → Bool) : says S c g = iteF S f g h c := by unfold iteF; rw [e]; split <;> rfl
theorem iteF_zero {S : St} {f g h : Int} (e : f = 0) (c : Nat → Bool) : says S c h = iteF S f g h c := by unfold iteF; rw [e, says_zero]; rfl
theorem b6alloc {a w : World} (h : Below a.heap.size a w) (o : Obj) : Below a.heap.size a (w.alloc o) := h.alloc h.size o
theorem b6drew {a w : World} (h : Below a.heap.size a w) : Below a.heap.size a w.drew := h.drew
theorem cellSet6 {w : World} {b c : Nat} {u v : Value} (hne : c ≠ b) (h : w.cell? ⟨c, 0, none⟩ = some v) : (w.setCell ⟨b, 0, none⟩ u).cell? ⟨c, 0, none⟩ = some v := by
  rw [World.cell?_of_block (w := w) (a := ⟨c, 0, none⟩) (Below.heap_setCell _ _ _ _ hne)]; exact h
theorem minE (a b c : Nat) : (if (c : Int) < (if b < a then (b : Int) else (a : Int)) then (c : Int) else if b < a then (b : Int) else (a : Int)) = ((min (min a b) c : Nat) : Int) := by
  rw [Nat.min_def, Nat.min_def]
  repeat' split
  all_goals omega
theorem put1 {w : World} {b : Nat} {T : TypeId} {x y : Value} (h : w.heap[b]? = some (.cells #[y] T (0, 0))) : (w.setCell ⟨b, 0, none⟩ x).heap[b]? = some (.cells #[x] T (0, 0)) := by
  rw [block_setCell h x]; rfl
theorem haveT6 {P Q : Prop} (h : P) (k : P → Q) : Q := k h
/-- What stays of five cells, and of whatever else there is. -/
structure Five (w' : World) (x me bb : Nat) (f g h : Int) : Prop where
  m : w'.cell? ⟨x, 0, none⟩ = some (.pointer (some ⟨me, 0, none⟩))
  f : w'.cell? ⟨x + 1, 0, none⟩ = some (.int .i64 f)
  g : w'.cell? ⟨x + 1 + 1, 0, none⟩ = some (.int .i64 g)
  h : w'.cell? ⟨x + 1 + 1 + 1, 0, none⟩ = some (.int .i64 h)
  b : w'.cell? ⟨me, 0, none⟩ = some (.pointer (some ⟨bb, 0, none⟩))
theorem iteF_half {S : St} (hV : VSt S) {f g h : Int} {l : Nat} (c : Nat → Bool) : iteF S f g h c = if c l then iteF S (halfI S f l true) (halfI S g l true) (halfI S h l true) c else iteF S (halfI S f l false) (halfI S g l false) (halfI S h l false) c := by
  have hf := half_says hV c (id := f) (l := l)
  have hg := half_says hV c (id := g) (l := l)
  have hh := half_says hV c (id := h) (l := l)
  unfold iteF
  cases hb : c l
  · rw [hb] at hf hg hh
    rw [hf, hg, hh]; rfl
  · rw [hb] at hf hg hh
    rw [hf, hg, hh]; rfl
end Go.Proofs.Ytfamdckaljniiaa
