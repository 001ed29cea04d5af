/- What a cube grows to, plain; the document's own Grow of layer 9. -/
import Derived.Test.YtkccanedeladnaaRhp09
namespace Go.Proofs.Ytkccanedeladnaa
open Go.RowKit Go.Joins

/-- One literal left out, where it may be. -/
def dropC (S : BitVec 256) (n : Int) (x : BitVec 8 × BitVec 8) (i : Nat) : BitVec 8 × BitVec 8 := if inB S n (drM x.1 i) (drM x.2 i) = true then (drM x.1 i, drM x.2 i) else x
def dropsC (S : BitVec 256) (n : Int) (x : BitVec 8 × BitVec 8) (k : Nat) : BitVec 8 × BitVec 8 := (List.range k).foldl (dropC S n) x
def growC (S : BitVec 256) (n : Int) (m v : BitVec 8) : BitVec 8 × BitVec 8 := dropsC S n (m, v) n.toNat
theorem dropsC_succ (S : BitVec 256) (n : Int) (x : BitVec 8 × BitVec 8) (k : Nat) : dropsC S n x (k + 1) = dropC S n (dropsC S n x k) k := by
  unfold dropsC; rw [List.range_succ, List.foldl_append]; rfl
theorem inC_down {S : BitVec 256} {n : Int} {m v m' v' : BitVec 8} (h : inB S n m v = true) (hh : holdsB m v m' v' = true) (hr : rightB m' v' n = true) : inB S n m' v' = true := by
  obtain ⟨h0, h8, -, -⟩ := (rightB_iff m' v' n).1 hr
  obtain ⟨k, rfl⟩ : ∃ k : Nat, n = k := ⟨n.toNat, by omega⟩
  rw [inB_iff] at *
  exact ⟨hr, fun p hp hf => h.2 p hp (fits_holds hh hf)⟩
theorem holds_dd (m v : BitVec 8) (i k : Nat) : holdsB (drM (drM m k) i) (drM (drM v k) i) (drM m i) (drM v i) = true := by
  rw [holdsB_iff]
  intro j hj
  simp only [drM_bit] at *
  cases hm : m.getLsbD j
  · rw [hm] at hj; cases hj
  · rw [hm] at hj
    cases hk : decide (j = k)
    · cases hi : decide (j = i)
      · simp
      · rw [hi] at hj; simp at hj
    · rw [hk] at hj; simp at hj
theorem in_right {S : BitVec 256} {n : Int} {m v : BitVec 8} (h : inB S n m v = true) : rightB m v n = true := by
  unfold inB at h; rw [Bool.and_eq_true] at h; exact h.1
theorem dropsC_inv {S : BitVec 256} {n : Int} {m v : BitVec 8} (h : inB S n m v = true) : ∀ k, inB S n (dropsC S n (m, v) k).1 (dropsC S n (m, v) k).2 = true ∧ holdsB (dropsC S n (m, v) k).1 (dropsC S n (m, v) k).2 m v = true ∧
    ∀ i, i < k → (dropsC S n (m, v) k).1.getLsbD i = true → inB S n (drM (dropsC S n (m, v) k).1 i) (drM (dropsC S n (m, v) k).2 i) = false
  | 0 => ⟨h, holds_self m v, fun i hi => absurd hi (Nat.not_lt_zero _)⟩
  | k + 1 => by
    obtain ⟨h1, h2, h3⟩ := dropsC_inv h k
    rw [dropsC_succ]
    generalize dropsC S n (m, v) k = y at *
    unfold dropC
    by_cases hd : inB S n (drM y.1 k) (drM y.2 k) = true
    · rw [if_pos hd]
      refine ⟨hd, holds_step (holds_dr _ _ k) h2, fun i hi hb => ?_⟩
      simp only [drM_bit] at hb
      rw [Bool.and_eq_true] at hb
      have hne : i ≠ k := fun e => by subst e; simp at hb
      rw [Bool.eq_false_iff]
      intro hin
      have := inC_down hin (holds_dd y.1 y.2 i k) (right_dr i (in_right h1))
      rw [h3 i (by omega) hb.1] at this; cases this
    · rw [if_neg hd]
      refine ⟨h1, h2, fun i hi hb => ?_⟩
      by_cases e : i = k
      · subst e; exact Bool.eq_false_iff.2 hd
      · exact h3 i (by omega) hb
/-- What a cube grows to is prime, and holds it. -/
theorem growC_prime {S : BitVec 256} {n : Int} {m v : BitVec 8} (h : inB S n m v = true) : primB S n (growC S n m v).1 (growC S n m v).2 = true ∧ holdsB (growC S n m v).1 (growC S n m v).2 m v = true := by
  obtain ⟨h1, h2, h3⟩ := dropsC_inv h n.toNat
  exact ⟨(primB_iff _ _ _ _).2 ⟨h1, h3⟩, h2⟩
/-- Where the boxes of the document's Grow lie. -/
structure GcI (w : World) (S : BitVec 256) (y : BitVec 8 × BitVec 8) (wr : World) : Prop where
  x : wr.heap[w.heap.size]? = some (cb y.1 y.2)
  s : wr.heap[w.heap.size + 1]? = some (.cells (sa S) 24 (0, 0))
  r : wr.heap[w.heap.size + 2]? = some cb0
  b : Below w.heap.size w wr
theorem GcI.after {w wr w2 : World} {S : BitVec 256} {y : BitVec 8 × BitVec 8} (h : GcI w S y wr) (hb : Below wr.heap.size wr w2) : GcI w S y w2 :=
  ⟨keep_blk hb h.x, keep_blk hb h.s, keep_blk hb h.r, h.b.trans (hb.mono h.b.size)⟩
theorem GcI.put {w wr : World} {S : BitVec 256} {y : BitVec 8 × BitVec 8} (h : GcI w S y wr) (m v : BitVec 8) :
    GcI w S (m, v) ((wr.setCell ⟨w.heap.size, 0, none⟩ (.int .u8 m.toNat)).setCell ⟨w.heap.size, 1, none⟩ (.int .u8 v.toNat)) :=
  ⟨put2 h.x, keep_set2 (by omega) h.s, keep_set2 (by omega) h.r, below2 (Nat.le_refl _) h.b⟩
end Go.Proofs.Ytkccanedeladnaa
