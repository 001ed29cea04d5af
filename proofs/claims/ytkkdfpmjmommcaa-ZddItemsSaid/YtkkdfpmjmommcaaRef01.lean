/- What the document's answers of layer 1 come to, for every input. -/
import Derived.Test.YtkkdfpmjmommcaaSet2
import Derived.StillTailTactics
namespace Go.Proofs.Ytkkdfpmjmommcaa
open Go.RowKit Go.Joins

theorem pow_step (k : Nat) : 2 ^ k % 18446744073709551616 * 2 % 18446744073709551616 = 2 ^ (k + 1) % 18446744073709551616 := by
  rw [Nat.pow_succ]; omega
/-- The flags of the first n points. -/
def flagsV (S : BitVec 256) (n : Nat) : List Value := (List.range n).map (fun p => Value.bool (S.getLsbD p))
theorem flagsV_succ (S : BitVec 256) (n : Nat) : flagsV S (n + 1) = flagsV S n ++ [.bool (S.getLsbD n)] := by
  unfold flagsV; rw [List.range_succ, List.map_append]; rfl
theorem flagsV_get (S : BitVec 256) (n p : Nat) (h : p < n) : (flagsV S n)[p]? = some (.bool (S.getLsbD p)) := by
  unfold flagsV; simp [h]
theorem odd_bit (S : BitVec 256) (i k : Nat) (hk : k < 64) : (((((wd S i).toNat / 2 ^ k : Nat) : Int) % 2) == 1) = S.getLsbD (64 * i + k) := by
  have hb := wd_bit S i k
  simp only [hk, decide_true, Bool.true_and, BitVec.getLsbD, Nat.testBit_eq_decide_div_mod_eq] at hb ⊢
  rw [← hb]
  by_cases h1 : (wd S i).toNat / 2 ^ k % 2 = 1
  · simp only [h1, decide_true, beq_iff_eq]; omega
  · simp only [h1, decide_false, beq_eq_false_iff_ne, ne_eq]; omega
theorem half_step (x k : Nat) : x / 2 ^ k / 2 = x / 2 ^ (k + 1) := by rw [Nat.pow_succ, Nat.div_div_eq_div_mul]

/-- The words of the set of g, when all of the first i are made, and n bits of the next one. -/
def wsq (g : Nat → Bool) (i n j : Nat) : Nat := if j < i then wsum (fun p => g (64 * j + p)) 64 else if j = i then wsum (fun p => g (64 * j + p)) n else 0
def wsA (g : Nat → Bool) (i n : Nat) : Array Value := #[.int .u64 (wsq g i n 0 : Nat), .int .u64 (wsq g i n 1 : Nat), .int .u64 (wsq g i n 2 : Nat), .int .u64 (wsq g i n 3 : Nat)]
theorem wsA_get (g : Nat → Bool) (i n : Nat) (hi : i < 4) : (wsA g i n)[i]? = some (.int .u64 (wsum (fun p => g (64 * i + p)) n : Nat)) := by
  match i, hi with
  | 0, _ => simp [wsA, wsq]
  | 1, _ => simp [wsA, wsq]
  | 2, _ => simp [wsA, wsq]
  | 3, _ => simp [wsA, wsq]
theorem wsA_set (g : Nat → Bool) (i n : Nat) (hi : i < 4) : (wsA g i n).setIfInBounds i (.int .u64 (wsum (fun p => g (64 * i + p)) (n + 1) : Nat)) = wsA g i (n + 1) := by
  match i, hi with
  | 0, _ => simp [wsA, wsq]
  | 1, _ => simp [wsA, wsq]
  | 2, _ => simp [wsA, wsq]
  | 3, _ => simp [wsA, wsq]
theorem wsA_same (g : Nat → Bool) (i n : Nat) (h : wsum (fun p => g (64 * i + p)) (n + 1) = wsum (fun p => g (64 * i + p)) n) : wsA g i (n + 1) = wsA g i n := by
  have e : ∀ j, wsq g i (n + 1) j = wsq g i n j := by
    intro j
    unfold wsq
    by_cases h1 : j < i
    · simp [h1]
    · by_cases h2 : j = i
      · subst h2; simp [h]
      · simp [h1, h2]
  unfold wsA
  simp only [e]
theorem wsA_next (g : Nat → Bool) (i : Nat) : wsA g i 64 = wsA g (i + 1) 0 := by
  have e : ∀ j, wsq g i 64 j = wsq g (i + 1) 0 j := by
    intro j
    unfold wsq
    by_cases h1 : j < i
    · have : j < i + 1 := by omega
      simp [h1, this]
    · by_cases h2 : j = i
      · subst h2; simp
      · have a : ¬ j < i + 1 := by omega
        simp [h1, h2, a, wsum]
  unfold wsA
  simp only [e]
theorem wsA_zero (g : Nat → Bool) : wsA g 0 0 = #[.int .u64 0, .int .u64 0, .int .u64 0, .int .u64 0] := by simp [wsA, wsq, wsum]
theorem wsA_done (g : Nat → Bool) : wsA g 4 0 = sa (bvOf g) := by
  have e : ∀ j, j < 4 → Value.int .u64 (wsq g 4 0 j : Nat) = wv (wd (bvOf g) j) := by
    intro j hj
    unfold wv wsq
    rw [if_pos hj, wd_bvOf g j hj]
  unfold wsA sa
  rw [e 0 (by omega), e 1 (by omega), e 2 (by omega), e 3 (by omega)]

/-- A slice of 256 flags that a call has made: its cells. -/
theorem flags_form {w : World} {base : Nat} {v : Value} {S : BitVec 256} (h : w.ownsRow base 4 1 v 256 (flagsV S 256)) :
    ∃ b cap, v = .slice (some ⟨b, 0, none⟩) 256 cap ∧ base ≤ b ∧ b < w.heap.size ∧ ∀ p, p < 256 → w.cell? ⟨b, p, none⟩ = some (.bool (S.getLsbD p)) := by
  obtain ⟨b, cap, rfl⟩ := ownsRow_form h (by decide)
  have hl := h.lt b rfl
  exact ⟨b, cap, rfl, hl.1, hl.2, fun p hp => by rw [h.cellAt p (by omega), flagsV_get S 256 p hp]⟩

theorem pow_small (i : Nat) (hi : i < 8) : 2 ^ i % 18446744073709551616 = 2 ^ i := Nat.mod_eq_of_lt (Nat.lt_of_lt_of_le (Nat.pow_lt_pow_right (by decide) hi) (by decide))
/-- The flags of the points of n inputs. -/
def allV (m : Nat) : List Value := (List.range 256).map (fun p => Value.bool (decide (p < m)))

end Go.Proofs.Ytkkdfpmjmommcaa
