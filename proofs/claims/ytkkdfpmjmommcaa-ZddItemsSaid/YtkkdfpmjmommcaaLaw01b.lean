/- The statement SetBoth, walked. -/
import Derived.Test.YtkkdfpmjmommcaaLaw01
import Derived.Deep.RegionHeld3
import Derived.Deep.DeepCutAuto
namespace Go.Proofs.Ytkkdfpmjmommcaa
open Go.RowKit Go.Joins

/-- 256 flags in a block. -/
def flagsA (g : Nat → Bool) : Array Value := (boolsV g).toArray
theorem flagsA_get (g : Nat → Bool) (p : Nat) (h : p < 256) : (flagsA g)[p]? = some (.bool (g p)) := by unfold flagsA; simpa using boolsV_get g p h
theorem flagsA_set (g g' : Nat → Bool) (q : Nat) (u : Bool) (hq : g' q = u) (hne : ∀ p, p ≠ q → g' p = g p) : (flagsA g).setIfInBounds q (.bool u) = flagsA g' := by
  unfold flagsA
  rw [List.setIfInBounds_toArray, boolsV_set g g' q u hq hne]
theorem flagsA_made : madeCells #[Value.bool false] 256 = flagsA (fun _ => false) := by
  unfold flagsA
  rw [← boolsV_made]
theorem make256 (w : World) : (Instr.makeSlice 75 (.int .i64 256) (.int .i64 256)).run Try.prog w = .ok (.slice (some ⟨w.heap.size, 0, none⟩) 256 256) (w.alloc (.cells (flagsA (fun _ => false)) 4)) := by
  obtain ⟨ib, jb, kb0, kb1, kb2⟩ := info_parts Try.infoBool
  have h := run_makeSlice (P := Try.prog) w 75 4 ib (.bool false) Try.underlying75 jb kb0 .i64 .i64 256 256 (by decide) (by decide) (by rw [kb1]; decide) (by rw [kb2]; decide) (by decide)
  rw [kb1] at h
  rw [h, ← flagsA_made]
  rfl

theorem step_flags (f : Nat → Bool) (k : Nat) : (flagsA (fun p => decide (p < k) && f p)).setIfInBounds k (.bool (f k)) = flagsA (fun p => decide (p < k + 1) && f p) :=
  flagsA_set _ _ k (f k) (by simp) (fun p hp => by
    by_cases h : p < k
    · have : p < k + 1 := by omega
      simp [h, this]
    · have : ¬ p < k + 1 := by omega
      simp [h, this])
theorem heap_set3 (w : World) (b1 b2 b3 j : Nat) (u1 u2 u3 : Value) (b : Nat) (h1 : b ≠ b1) (h2 : b ≠ b2) (h3 : b ≠ b3) : (((w.setCell ⟨b1, j, none⟩ u1).setCell ⟨b2, j, none⟩ u2).setCell ⟨b3, j, none⟩ u3).heap[b]? = w.heap[b]? := by
  rw [Below.heap_setCell _ _ _ _ h3, Below.heap_setCell _ _ _ _ h2, Below.heap_setCell _ _ _ _ h1]
theorem three_new (w : World) (o : Obj) (b : Nat) (h0 : w.heap.size ≤ b) (h1 : b < w.heap.size + 3) : (((w.alloc o).alloc o).alloc o).drew.heap[b]? = some o := by
  show (((w.alloc o).alloc o).alloc o).heap[b]? = some o
  have h : b = w.heap.size ∨ b = w.heap.size + 1 ∨ b = w.heap.size + 2 := by omega
  rcases h with rfl | rfl | rfl
  · rw [Below.heap_alloc _ _ _ (by simp; omega), heap_alloc2_old]
  · rw [Below.heap_alloc _ _ _ (by simp), heap_alloc2_new]
  · have e : w.heap.size + 2 = ((w.alloc o).alloc o).heap.size := by simp
    rw [e, heap_alloc_new]
theorem three_old (w : World) (o : Obj) (b : Nat) (h : b < w.heap.size) : (((w.alloc o).alloc o).alloc o).drew.heap[b]? = w.heap[b]? := by
  show (((w.alloc o).alloc o).alloc o).heap[b]? = w.heap[b]?
  rw [Below.heap_alloc _ _ _ (by simp; omega), Below.heap_alloc _ _ _ (by simp; omega), Below.heap_alloc _ _ _ h]
theorem flagsA_zero (f : Nat → Bool) : flagsA (fun p => decide (p < 0) && f p) = flagsA (fun _ => false) := by
  have e : (fun p => decide (p < 0) && f p) = fun _ => false := funext fun p => by simp
  rw [e]
theorem less_zero (S T : BitVec 256) : S &&& ~~~T = 0 ↔ ∀ p, p < 256 → (S.getLsbD p && !T.getLsbD p) = false := by
  constructor
  · intro h p hp
    have h1 := congrArg (fun x => x.getLsbD p) h
    simp only [BitVec.getLsbD_and, BitVec.getLsbD_not, hp, decide_true, Bool.true_and] at h1
    rw [h1]
    exact BitVec.getLsbD_zero
  · intro h
    apply BitVec.eq_of_getLsbD_eq
    intro p hp
    rw [BitVec.getLsbD_and, BitVec.getLsbD_not]
    have := h p hp
    simp only [hp, decide_true, Bool.true_and, this]
    exact BitVec.getLsbD_zero.symm
end Go.Proofs.Ytkkdfpmjmommcaa
