/- The statement SetPoints, walked: its pieces. -/
import Derived.Test.YtnddepijbbchiaaLaw01b
namespace Go.Proofs.Ytnddepijbbchiaa
open Go.RowKit Go.Joins

set_option maxHeartbeats 1000000 in
set_option maxRecDepth 1000000 in
theorem refall_blk (n : Nat) (hn : n ≤ 8) (w : World) :
    Calls Try.prog 50 #[.int .i64 n] w fun e w' => ∃ b : Nat, e = .returned (.slice (some ⟨b, 0, none⟩) 256 256) ∧ w.heap.size ≤ b ∧ w'.heap[b]? = some (.cells (flagsA (fun p => decide (p < 2 ^ n))) 4 (0, 0)) ∧ Below w.heap.size w w' := by
  have HP := power_any n (by omega)
  have hq : 2 ^ n ≤ 256 := Nat.pow_le_pow_right (n := 2) (by decide) hn
  rw [Nat.mod_eq_of_lt (by omega : 2 ^ n < 18446744073709551616)] at HP
  generalize 2 ^ n = q at HP hq ⊢
  have hmk := make256
  generalize hfa : flagsA (fun _ => false) = FA at hmk
  have hfa2 := Lib.hid hfa
  clear hfa
  go_enter Try.func50, Try.ntmps50
  go_wp2
  go_loopw [4] (fun i wr => ∃ k : Nat, k ≤ q ∧ i = .int .i64 k ∧ wr.heap[w.heap.size]? = some (.cells (flagsA (fun p => decide (p < k))) 4 (0, 0)) ∧ Below w.heap.size w wr) (fun i _ => q - (intOf i).toNat)
  case atStart => exact ⟨0, by omega, rfl, by rw [show (fun p => decide (p < 0)) = fun _ => false from funext fun p => by simp, hfa2.out]; exact heap_alloc_new _ _, below_alloc1 _ _⟩
  case round =>
    clear hfa2 hmk
    obtain ⟨k, hk, rfl, hblk, hb⟩ := hrel
    by_cases hlt : k < q
    · have hc := (cell_of_block hblk k).trans (flagsA_get _ k (by omega))
      have hf := unfrozen_of_block hblk k
      have hst : (flagsA (fun p => decide (p < k))).setIfInBounds k (.bool true) = flagsA (fun p => decide (p < k + 1)) := flagsA_set _ _ k true (by simp) (fun p hp => by
        by_cases h : p < k
        · have : p < k + 1 := by omega
          simp [h, this]
        · have : ¬ p < k + 1 := by omega
          simp [h, this])
      have hst2 := Lib.hid hst
      clear hst
      go_wp2_with (go_at_call 25; refine (HP _).mono ?_; rintro e w' ⟨rfl, rfl⟩)
      go_roundw
      case rel => exact ⟨k + 1, by omega, by go_num, by rw [block_setCell hblk, hst2.out], hb.setCell (Nat.le_refl _) _⟩
      case measure => simp [intOf]; omega
    · have e : k = q := by omega
      subst e
      go_wp2_with (go_at_call 25; refine (HP _).mono ?_; rintro e w' ⟨rfl, rfl⟩)
      go_ret
      exact ⟨_, rfl, Nat.le_refl _, hblk, hb⟩
theorem refall_any (n : Nat) (hn : n ≤ 8) (w : World) :
    Calls Try.prog 50 #[.int .i64 n] w fun e w' => ∃ b : Nat, e = .returned (.slice (some ⟨b, 0, none⟩) 256 256) ∧ w.heap.size ≤ b ∧ b < w'.heap.size ∧ (∀ p, p < 256 → w'.cell? ⟨b, p, none⟩ = some (.bool (decide (p < 2 ^ n)))) ∧ Below w.heap.size w w' := by
  refine (refall_blk n hn w).mono ?_
  rintro e w' ⟨b, rfl, hlo, hblk, hb⟩
  exact ⟨b, rfl, hlo, size_of_block hblk, fun p hp => by rw [cell_of_block hblk, flagsA_get _ p hp], hb⟩

theorem blk_below {w w1 : World} {b : Nat} {o : Obj} (hb : Below w.heap.size w w1) (h : w.heap[b]? = some o) : w1.heap[b]? = some o := by
  rw [hb.block _ (size_of_block h)]; exact h
theorem blk_alloc {w : World} {b : Nat} {o x : Obj} (h : w.heap[b]? = some o) : (w.alloc x).heap[b]? = some o := by
  rw [Below.heap_alloc _ _ _ (size_of_block h)]; exact h
theorem blk_set {w : World} {a : Addr} {b : Nat} {o : Obj} {u : Value} (hne : b ≠ a.block) (h : w.heap[b]? = some o) : (w.setCell a u).heap[b]? = some o := by
  rw [Below.heap_setCell _ _ _ _ hne]; exact h

/-- The flags of a set with one more. -/
def addF (S : BitVec 256) (p : Int) (q : Nat) : Bool := S.getLsbD q || (decide (0 ≤ p) && decide (q = p.toNat))
def addB (S : BitVec 256) (p : Int) : BitVec 256 := if 0 ≤ p ∧ p < 256 then S ||| BitVec.twoPow 256 p.toNat else S
theorem addB_bit (S : BitVec 256) (p : Int) : bvOf (addF S p) = addB S p := by
  refine bvOf_eq _ _ fun q hq => ?_
  unfold addF addB
  by_cases h : 0 ≤ p ∧ p < 256
  · rw [if_pos h, BitVec.getLsbD_or, BitVec.getLsbD_twoPow]
    have h1 : p.toNat < 256 := by omega
    have h2 : decide (q = p.toNat) = decide (p.toNat = q) := by simp [eq_comm]
    simp [h.1, h1, h2]
  · rw [if_neg h]
    have : ¬ (0 ≤ p ∧ q = p.toNat) := by omega
    by_cases h0 : 0 ≤ p
    · have h3 : ¬ q = p.toNat := by omega
      simp [h3]
    · simp [h0]
theorem hasAny (S : BitVec 256) (p : Int) (w : World) :
    Calls Try.prog 48 #[sv S, .int .i64 p] w fun e w' => e = .returned (.bool (decide (0 ≤ p) && S.getLsbD p.toNat)) ∧ Below w.heap.size w w' := by
  by_cases h : 0 ≤ p ∧ p < 256
  · obtain ⟨n, rfl⟩ := Int.eq_ofNat_of_zero_le h.1
    have := has_any S n (by omega) w
    simpa [h.1] using this
  · have := has_no S p (by omega) w
    have e : (decide (0 ≤ p) && S.getLsbD p.toNat) = false := by
      by_cases h0 : 0 ≤ p
      · rw [BitVec.getLsbD_of_ge _ _ (by omega)]; simp
      · simp [h0]
    rw [e]; exact this
theorem withAny (S : BitVec 256) (p : Int) (w : World) :
    Calls Try.prog 24 #[sv S, .int .i64 p] w fun e w' => e = .returned (sv (addB S p)) ∧ Below w.heap.size w w' := by
  unfold addB
  by_cases h : 0 ≤ p ∧ p < 256
  · rw [if_pos h]
    obtain ⟨n, rfl⟩ := Int.eq_ofNat_of_zero_le h.1
    exact with_any S n (by omega) w
  · rw [if_neg h]
    exact with_no S p (by omega) w
end Go.Proofs.Ytnddepijbbchiaa
