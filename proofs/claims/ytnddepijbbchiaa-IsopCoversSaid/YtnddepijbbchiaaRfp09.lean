/- The document's own answers of layer 9: Of, Within, without. -/
import Derived.Test.YtnddepijbbchiaaPrm09
import Derived.Test.YtnddepijbbchiaaRef02d
namespace Go.Proofs.Ytnddepijbbchiaa
open Go.RowKit Go.Joins

/-- May a set and a number be asked of? -/
def ofB (S : BitVec 256) (n : Int) : Bool := decide (0 ≤ n ∧ n ≤ 8) && decide (S &&& ~~~(allB n.toNat) = 0)
set_option maxHeartbeats 1000000 in
theorem rof9_no (S : BitVec 256) (n : Int) (h : n < 0 ∨ 8 < n) (w : World) :
    Calls Try.prog 27 #[sv S, .int .i64 n] w fun e w' => e = .returned (.bool false) ∧ Below w.heap.size w w' := by
  unfold sv wv
  rcases h with h | h
  · have h0 : decide (0 ≤ n) = false := decide_eq_false (by omega)
    go_enter Try.func27, Try.ntmps27
    go_upto_region 1 with (fail)
    refine wp_region_after (by kernel_rfl) (by kernel_rfl) ?_
    repeat (first | go_big_quiet_step (fail))
    refine wpQuiet_nil ?_
    intro x
    go_wp2
    go_ret
    exact ⟨rfl, (below_alloc1 w _).trans (x.2.mono (by simp))⟩
  · have h0 : decide (0 ≤ n) = true := decide_eq_true (by omega)
    have h1 : decide (n ≤ 8) = false := decide_eq_false (by omega)
    go_enter Try.func27, Try.ntmps27
    go_upto_region 1 with (fail)
    refine wp_region_after (by kernel_rfl) (by kernel_rfl) ?_
    repeat (first | go_big_quiet_step (fail))
    refine wpQuiet_nil ?_
    intro x
    go_wp2
    go_ret
    exact ⟨rfl, (below_alloc1 w _).trans (x.2.mono (by simp))⟩
set_option maxHeartbeats 1000000 in
theorem rof9_yes (X : BitVec 256) (n : Nat) (hn : n ≤ 8) (w : World) :
    Calls Try.prog 27 #[sv X, .int .i64 n] w fun e w' => e = .returned (.bool (decide (X &&& ~~~(allB n) = 0))) ∧ Below w.heap.size w w' := by
  have HA := fun w => refall_any n hn w
  have HS := fun (w : World) (b : Nat) (hb : b < w.heap.size) (hc : ∀ p, p < 256 → w.cell? ⟨b, p, none⟩ = some (.bool (decide (p < 2 ^ n)))) => refset_any (fun p => decide (p < 2 ^ n)) b 256 w hb hc
  rw [show (bvOf fun p => decide (p < 2 ^ n)) = allB n from rfl] at HS
  have HW := fun w => refwithin_any X (allB n) w
  have hB := below_alloc1 w (.cells (sa X) 24)
  have hbx := heap_alloc_new w (.cells (sa X) 24)
  obtain ⟨s0, s1, s2, s3, -⟩ := now4 hbx rfl
  have n0 : decide ((0 : Int) ≤ (n : Int)) = true := decide_eq_true (by omega)
  have n1 : decide ((n : Int) ≤ 8) = true := decide_eq_true (by omega)
  unfold sv wv at *
  unfold sa wv at hB s0 s1 s2 s3
  go_enter Try.func27, Try.ntmps27
  go_upto_region 1 with (fail)
  generalize (w.alloc (.cells #[.int .u64 (wd X 0).toNat, .int .u64 (wd X 1).toNat, .int .u64 (wd X 2).toNat, .int .u64 (wd X 3).toNat] 24)) = W at *
  have hBs := Below.refl W.heap.size W
  go_region_held3 (fun w' => w'.cell? ⟨w.heap.size, 0, none⟩ = some (.int .u64 (wd X 0).toNat) ∧ w'.cell? ⟨w.heap.size, 1, none⟩ = some (.int .u64 (wd X 1).toNat) ∧ w'.cell? ⟨w.heap.size, 2, none⟩ = some (.int .u64 (wd X 2).toNat) ∧ w'.cell? ⟨w.heap.size, 3, none⟩ = some (.int .u64 (wd X 3).toNat)) (first | go_keep | (refine ⟨?_, ?_, ?_, ?_⟩ <;> (with_reducible assumption)))
    (first | (go_at_call 50; refine (HA _).mono ?_; rintro e w1 ⟨b, rfl, hb0, hb1, hbc, hbb⟩; have hB1 : Below W.heap.size W w1 := hBs.drew.trans hbb; obtain ⟨a0, a1, a2, a3⟩ := carry4 hB1 s0 s1 s2 s3) | (go_at_call 10; refine (HS _ _ hb1 hbc).mono ?_; rintro e w2 ⟨rfl, hbb2⟩; have hB2 := hB1.trans (hbb2.mono hB1.size); obtain ⟨a0, a1, a2, a3⟩ := carry4 hB2 s0 s1 s2 s3) | (go_at_call 18; refine (HW _).mono ?_; rintro e w3 ⟨rfl, hbb3⟩; have hB3 := hB2.trans (hbb3.mono hB2.size); obtain ⟨a0, a1, a2, a3⟩ := carry4 hB3 s0 s1 s2 s3))
  all_goals
    go_wp2
    go_ret
    exact ⟨rfl, hB.trans (hB3.mono hB.size)⟩
theorem rof9_any (S : BitVec 256) (n : Int) (w : World) :
    Calls Try.prog 27 #[sv S, .int .i64 n] w fun e w' => e = .returned (.bool (ofB S n)) ∧ Below w.heap.size w w' := by
  unfold ofB
  by_cases h : 0 ≤ n ∧ n ≤ 8
  · obtain ⟨k, rfl⟩ : ∃ k : Nat, n = k := ⟨n.toNat, by omega⟩
    rw [decide_eq_true h, Bool.true_and, Int.toNat_natCast]
    exact rof9_yes S k (by omega) w
  · rw [decide_eq_false h, Bool.false_and]
    exact rof9_no S n (by omega) w
set_option maxHeartbeats 1000000 in
theorem rwithin9_any (m v : BitVec 8) (S : BitVec 256) (n : Int) (w : World) :
    Calls Try.prog 42 #[cv m v, sv S, .int .i64 n] w fun e w' => e = .returned (.bool (inB S n m v)) ∧ Below w.heap.size w w' := by
  have HR := fun w => rright_any m v n w
  have hB := below_alloc2 w (cb m v) (.cells (sa S) 24)
  have hb0 := heap_alloc2_old w (cb m v) (.cells (sa S) 24)
  have hb1 := heap_alloc2_new w (cb m v) (.cells (sa S) 24)
  unfold inB
  cases hr : rightB m v n
  · rw [hr] at HR
    rw [Bool.false_and]
    unfold sv cv cb bvv wv at *
    unfold sa wv at hB hb0 hb1
    go_enter Try.func42, Try.ntmps42
    go_upto_region 1 with (fail)
    generalize (w.alloc _).alloc _ = W at *
    obtain ⟨a0, a1, -⟩ := box2 hb0 rfl
    obtain ⟨s0, s1, s2, s3, -⟩ := box4 hb1 rfl
    refine wp_region_after (by kernel_rfl) (by kernel_rfl) ?_
    repeat (first | go_big_quiet_step ((go_at_call 64; exact Calls.after_of (HR _))))
    refine wpQuiet_nil ?_
    intro x
    go_wp2
    go_ret
    exact ⟨rfl, hB.trans (x.2.mono hB.size)⟩
  · obtain ⟨h0, h8, -, -⟩ := (rightB_iff m v n).1 hr
    obtain ⟨k, rfl⟩ : ∃ k : Nat, n = k := ⟨n.toNat, by omega⟩
    have HP := fun w => rpoints_any m v k (by omega) w
    rw [cpts_right hr] at HP
    have HW := fun w => refwithin_any (cpts m v k k) S w
    rw [hr] at HR
    rw [Bool.true_and, Int.toNat_natCast]
    clear hr h0 h8
    generalize cpts m v k k = P at *
    unfold sv cv cb bvv wv at *
    unfold sa wv at hB hb0 hb1
    go_enter Try.func42, Try.ntmps42
    go_upto_region 1 with (fail)
    generalize (w.alloc _).alloc _ = W at *
    obtain ⟨a0, a1, -⟩ := box2 hb0 rfl
    obtain ⟨s0, s1, s2, s3, -⟩ := box4 hb1 rfl
    refine wp_region_after (by kernel_rfl) (by kernel_rfl) ?_
    repeat (first | go_big_quiet_step (first | (go_at_call 64; exact Calls.after_of (HR _)) | (go_at_call 39; exact Calls.after_of (HP _)) | (go_at_call 18; exact Calls.after_of (HW _))))
    refine wpQuiet_nil ?_
    intro x
    go_wp2
    go_ret
    exact ⟨rfl, hB.trans (x.2.mono hB.size)⟩
end Go.Proofs.Ytnddepijbbchiaa
