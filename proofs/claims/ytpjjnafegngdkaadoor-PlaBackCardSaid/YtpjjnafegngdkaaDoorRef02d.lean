/- What the document's Points and Text of layer 2 come to. -/
import Derived.Test.YtpjjnafegngdkaaDoorRef02c
namespace Go.Proofs.YtpjjnafegngdkaaDoor
open Go.RowKit Go.Joins

/-- The flags when the first k points are asked. -/
def pf (m v : BitVec 8) (n k p : Nat) : Bool := decide (p < 2 ^ n) && (!decide (p < k) || fits m v 8 p)
theorem pf_step (m v : BitVec 8) (n k : Nat) : (flagsA (pf m v n k)).setIfInBounds k (.bool (decide (k < 2 ^ n) && fits m v 8 k)) = flagsA (pf m v n (k + 1)) :=
  flagsA_set _ _ k _ (by unfold pf; simp) (fun p hp => by
    unfold pf
    have e : (p < k + 1) ↔ (p < k) := by omega
    simp [e])
theorem pf_at (m v : BitVec 8) (n k : Nat) : pf m v n k k = decide (k < 2 ^ n) := by unfold pf; simp
theorem pf_zero (m v : BitVec 8) (n : Nat) : pf m v n 0 = fun p => decide (p < 2 ^ n) := by funext p; unfold pf; simp
theorem pf_all (m v : BitVec 8) (n : Nat) : bvOf (pf m v n 256) = cpts m v n 8 := by
  apply BitVec.eq_of_getLsbD_eq
  intro p hp
  unfold cpts
  rw [bvOf_bit, bvOf_bit]
  unfold pf
  simp [hp]
theorem cpts_right {m v : BitVec 8} {n : Nat} (h : rightB m v n = true) : cpts m v n 8 = cpts m v n n := by
  rw [rightB_iff] at h
  obtain ⟨_, h8, hm, _⟩ := h
  unfold cpts
  congr 1
  funext p
  congr 1
  rw [Bool.eq_iff_iff, fits_iff, fits_iff]
  constructor
  · intro h i hi h1; exact h i (by omega) h1
  · intro h i hi h1
    rcases Nat.lt_or_ge i n with k | k
    · exact h i k h1
    · rw [hm i (by simpa using k)] at h1; cases h1
end Go.Proofs.YtpjjnafegngdkaaDoor
