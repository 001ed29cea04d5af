/- The statements of layer 9, walked over what the package answers: PrimeAll. -/
import Derived.Test.YtkccanedeladnaaLaw09
namespace Go.Proofs.Ytkccanedeladnaa
open Go.RowKit Go.Joins

set_option maxHeartbeats 2000000 in
set_option maxRecDepth 100000 in
theorem primeAll_any (HA : AllC) (HG : GrowX) (HP : PrimeC) (S : BitVec 256) (n : Int) (w : World) : Calls Try.prog 3 #[sv S, .int .i64 n] w fun e w' => e = .returned (.bool true) ∧ Below w.heap.size w w' := by
  have HO := fun w => rof9_any S n w
  have HK := fun w => knows9_any HA HG HP w
  have hB0 := below_alloc1 w (.cells (sa S) 24)
  have hb0 := heap_alloc_new w (.cells (sa S) 24)
  obtain ⟨s0, s1, s2, s3, -⟩ := now4 hb0 rfl
  cases ho : ofB S n
  · rw [ho] at HO
    have HX := fun w => all9_no HA ho w
    clear HA HG HP ho
    unfold sv sa at *
    unfold wv at *
    go_enter Try.func3, Try.ntmps3
    go_wp2_with fail
    refine (HO _).mono ?_
    rintro e w1 ⟨rfl, hb⟩
    have hB1 := hB0.trans (hb.mono hB0.size)
    have hb1 := keep_blk hb hb0
    clear HO hb0 hb hB0 s0 s1 s2 s3
    obtain ⟨s0, s1, s2, s3, -⟩ := now4 hb1 rfl
    go_wp2_with fail
    refine (HX _).mono ?_
    rintro e w2 ⟨A, c, rfl, hb⟩
    have hB2 := hB1.trans (hb.mono hB1.size)
    clear HX hb1 hb hB1 s0 s1 s2 s3
    go_wp2_with fail
    refine (HK _).mono ?_
    rintro e w3 ⟨rfl, hb⟩
    go_wp2
    go_ret
    exact ⟨rfl, hB2.trans (hb.mono hB2.size)⟩
  · rw [ho] at HO
    have hn8 : 0 ≤ n ∧ n ≤ 8 := by
      unfold ofB at ho
      rw [Bool.and_eq_true, decide_eq_true_iff] at ho
      exact ho.1
    by_cases h5 : 5 < n
    · have hd : decide (5 < n) = true := decide_eq_true h5
      clear HA HG HP ho
      unfold sv sa at *
      unfold wv at *
      go_enter Try.func3, Try.ntmps3
      go_wp2_with fail
      refine (HO _).mono ?_
      rintro e w1 ⟨rfl, hb⟩
      have hB1 := hB0.trans (hb.mono hB0.size)
      clear HO hb0 hb hB0 s0 s1 s2 s3
      go_wp2_with fail
      refine (HK _).mono ?_
      rintro e w3 ⟨rfl, hb⟩
      go_wp2
      go_ret
      exact ⟨rfl, hB1.trans (hb.mono hB1.size)⟩
    · have hd : decide (5 < n) = false := decide_eq_false h5
      obtain ⟨k, rfl⟩ : ∃ k : Nat, n = k := ⟨n.toNat, by omega⟩
      have HX := fun w => all9_yes HA ho w
      have HR := fun w => rall9_any S k (by omega) w
      clear HA HG HP ho
      generalize prims S k = L at *
      unfold sv sa at *
      unfold wv at *
      go_enter Try.func3, Try.ntmps3
      go_wp2_with fail
      refine (HO _).mono ?_
      rintro e w1 ⟨rfl, hb⟩
      have hB1 := hB0.trans (hb.mono hB0.size)
      have hb1 := keep_blk hb hb0
      clear HO hb0 hb hB0 s0 s1 s2 s3
      obtain ⟨s0, s1, s2, s3, -⟩ := now4 hb1 rfl
      go_wp2_with fail
      refine (HX _).mono ?_
      rintro e w2 ⟨v, rfl, hC, hb⟩
      have hB2 := hB1.trans (hb.mono hB1.size)
      have hb2 := keep_blk hb hb1
      clear HX hb1 hb hB1 s0 s1 s2 s3
      obtain ⟨s0, s1, s2, s3, -⟩ := now4 hb2 rfl
      go_wp2_with fail
      refine (HR _).mono ?_
      rintro e w3 ⟨u, rfl, hD, hb⟩
      have hB3 := hB2.trans (hb.mono hB2.size)
      have HE := rsame9_any w3 v u L L ((hC.below hb).more hb.size) hD
      obtain ⟨A, c, rfl, -, -⟩ := hC
      obtain ⟨A2, c2, rfl, -, -⟩ := hD
      clear HR hb2 hb hB2 s0 s1 s2 s3
      go_wp2_with fail
      refine HE.mono ?_
      rintro e w4 ⟨b, rfl, hbl, hb⟩
      have hB4 := hB3.trans (hb.mono hB3.size)
      obtain rfl : b = true := hbl.2 (by trivial)
      clear HE hb hB3 hbl
      go_wp2_with fail
      refine (HK _).mono ?_
      rintro e w5 ⟨rfl, hb⟩
      go_wp2
      go_ret
      exact ⟨rfl, hB4.trans (hb.mono hB4.size)⟩
end Go.Proofs.Ytkccanedeladnaa
