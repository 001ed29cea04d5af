/- What Right and Points of the package cube answer, for every input. -/
import Derived.Test.YtnddepijbbchiaaPkg02
namespace Go.Proofs.Ytnddepijbbchiaa
open Go.RowKit Go.Joins

theorem right_low (m v : BitVec 8) (n : Int) (h : n < 0) (w : World) :
    Calls Try.prog 73 #[cv m v, .int .i64 n] w fun e w' => e = .returned (.bool false) ∧ Below w.heap.size w w' := by
  unfold cv bvv
  have h1 : decide (0 ≤ n) = false := decide_eq_false (by omega)
  go_enter Try.func73, Try.ntmps73
  go_wp2_with fail
  refine wp_region_after (by kernel_rfl) (by kernel_rfl) ?_
  repeat (first | go_big_quiet_step (fail))
  refine wpQuiet_nil ?_
  intro x
  go_wp2
  go_ret
  exact ⟨rfl, (below_alloc1 w _).trans (x.2.mono (by simp))⟩
theorem right_high (m v : BitVec 8) (n : Int) (h : 8 < n) (w : World) :
    Calls Try.prog 73 #[cv m v, .int .i64 n] w fun e w' => e = .returned (.bool false) ∧ Below w.heap.size w w' := by
  unfold cv bvv
  have h1 : decide (0 ≤ n) = true := decide_eq_true (by omega)
  have h2 : decide (n ≤ 8) = false := decide_eq_false (by omega)
  go_enter Try.func73, Try.ntmps73
  go_wp2_with fail
  refine wp_region_after (by kernel_rfl) (by kernel_rfl) ?_
  repeat (first | go_big_quiet_step (fail))
  refine wpQuiet_nil ?_
  intro x
  go_wp2
  go_ret
  exact ⟨rfl, (below_alloc1 w _).trans (x.2.mono (by simp))⟩
theorem right_mid (m v : BitVec 8) (n : Nat) (h : n ≤ 8) (w : World) :
    Calls Try.prog 73 #[cv m v, .int .i64 n] w fun e w' => e = .returned (.bool (rightB m v n)) ∧ Below w.heap.size w w' := by
  have HT := fun w => tidy_any m v w
  have hr : rightB m v n = (decide (m.toNat / 2 ^ n = 0) && decide (v &&& m = v)) := by
    unfold rightB
    have e1 : (0 : Int) ≤ n := by omega
    have e2 : (n : Int) ≤ 8 := by omega
    simp [e1, e2]
  rw [hr]
  clear hr
  have hq : (m.toNat : Int) / 2 ^ n = ((m.toNat / 2 ^ n : Nat) : Int) := by rw [Int.natCast_ediv]; simp
  have h1 : decide (0 ≤ (n : Int)) = true := decide_eq_true (by omega)
  have h2 : decide ((n : Int) ≤ 8) = true := decide_eq_true (by omega)
  by_cases hz : m.toNat / 2 ^ n = 0
  · have hz2 : (m.toNat : Int) / 2 ^ n = 0 := by rw [hq, hz]; rfl
    rw [decide_eq_true hz]
    clear hq hz
    unfold cv bvv at *
    by_cases hv : v &&& m = v
    · rw [hv] at HT
      rw [decide_eq_true hv]
      clear hv
      go_enter Try.func73, Try.ntmps73
      go_wp2_with fail
      generalize hW : w.alloc (cb m v) = W
      obtain ⟨a0, a1, -⟩ := box2 (by rw [← hW]; exact heap_alloc_new _ _ : W.heap[w.heap.size]? = _) rfl
      have hB : Below w.heap.size w W := by rw [← hW]; exact below_alloc1 _ _
      clear hW
      refine wp_region_after (by kernel_rfl) (by kernel_rfl) ?_
      repeat (first | go_big_quiet_step ((go_at_call 72; exact Calls.after_of (HT _))))
      refine wpQuiet_nil ?_
      intro x
      go_wp2
      go_ret
      exact ⟨rfl, hB.trans (x.2.mono hB.size)⟩
    · have hn := toNat_ne (fun e => hv e.symm)
      rw [decide_eq_false hv]
      clear hv
      generalize v &&& m = t at *
      go_enter Try.func73, Try.ntmps73
      go_wp2_with fail
      generalize hW : w.alloc (cb m v) = W
      obtain ⟨a0, a1, -⟩ := box2 (by rw [← hW]; exact heap_alloc_new _ _ : W.heap[w.heap.size]? = _) rfl
      have hB : Below w.heap.size w W := by rw [← hW]; exact below_alloc1 _ _
      clear hW
      refine wp_region_after (by kernel_rfl) (by kernel_rfl) ?_
      repeat (first | go_big_quiet_step ((go_at_call 72; exact Calls.after_of (HT _))))
      refine wpQuiet_nil ?_
      intro x
      go_wp2
      go_ret
      exact ⟨rfl, hB.trans (x.2.mono hB.size)⟩
  · have hz2 : ((m.toNat : Int) / 2 ^ n == 0) = false := by
      rw [hq, beq_eq_false_iff_ne]
      exact fun e => hz (by exact_mod_cast e)
    rw [decide_eq_false hz, Bool.false_and]
    clear hq hz HT
    unfold cv bvv at *
    go_enter Try.func73, Try.ntmps73
    go_wp2_with fail
    generalize hW : w.alloc (cb m v) = W
    obtain ⟨a0, a1, -⟩ := box2 (by rw [← hW]; exact heap_alloc_new _ _ : W.heap[w.heap.size]? = _) rfl
    have hB : Below w.heap.size w W := by rw [← hW]; exact below_alloc1 _ _
    clear hW
    refine wp_region_after (by kernel_rfl) (by kernel_rfl) ?_
    repeat (first | go_big_quiet_step (fail))
    refine wpQuiet_nil ?_
    intro x
    go_wp2
    go_ret
    exact ⟨rfl, hB.trans (x.2.mono hB.size)⟩
theorem right_any (m v : BitVec 8) (n : Int) (w : World) :
    Calls Try.prog 73 #[cv m v, .int .i64 n] w fun e w' => e = .returned (.bool (rightB m v n)) ∧ Below w.heap.size w w' := by
  by_cases h0 : n < 0
  · have e : rightB m v n = false := by unfold rightB; exact decide_eq_false (by omega)
    rw [e]; exact right_low m v n h0 w
  · by_cases h8 : 8 < n
    · have e : rightB m v n = false := by unfold rightB; exact decide_eq_false (by omega)
      rw [e]; exact right_high m v n h8 w
    · obtain ⟨k, rfl⟩ := Int.eq_ofNat_of_zero_le (show 0 ≤ n by omega)
      exact right_mid m v k (by omega) w
theorem right_yes {m v : BitVec 8} {n : Int} (h : rightB m v n = true) (w : World) :
    Calls Try.prog 73 #[cv m v, .int .i64 n] w fun e w' => e = .returned (.bool true) ∧ Below w.heap.size w w' := by
  have := right_any m v n w; rwa [h] at this
theorem right_no {m v : BitVec 8} {n : Int} (h : rightB m v n = false) (w : World) :
    Calls Try.prog 73 #[cv m v, .int .i64 n] w fun e w' => e = .returned (.bool false) ∧ Below w.heap.size w w' := by
  have := right_any m v n w; rwa [h] at this
theorem cpoints_no {m v : BitVec 8} {n : Int} (h : rightB m v n = false) (w : World) :
    Calls Try.prog 70 #[cv m v, .int .i64 n] w fun e w' => e = .returned (.tuple #[sv 0, .int .i64 1]) ∧ Below w.heap.size w w' := by
  have HR := fun w => right_no h w
  unfold cv bvv at *
  clear h
  go_enter Try.func70, Try.ntmps70
  go_wp2_with fail
  refine (HR _).mono ?_
  rintro e w1 ⟨rfl, hb1⟩
  have hB : Below w.heap.size w w1 := (below_alloc2 w _ _).trans (hb1.mono (by simp; omega))
  obtain ⟨c0, c1, c2, c3, cf⟩ := now4 (keep_blk hb1 (heap_alloc2_new _ _ _) : w1.heap[w.heap.size + 1]? = _) rfl
  clear hb1
  go_wp2
  exact bodyPost_ret (v := .tuple #[.agg #[.int .u64 0, .int .u64 0, .int .u64 0, .int .u64 0], .int .i64 1]) (by simp [results, Try.results70, go_sem, c0, c1, c2, c3]) rfl
    ⟨rfl, (((hB.setCell (le1 w) _).setCell (le1 w) _).setCell (le1 w) _).setCell (le1 w) _⟩
theorem cpts_zero (m v : BitVec 8) (n : Nat) : cpts m v n 0 = allB n := by
  unfold cpts allB; congr 1; funext p; simp [fits]
theorem cpts_step (m v : BitVec 8) (n k : Nat) (hn : n ≤ 8) (hk : k < 8) (hm : m.getLsbD k = true) : halfB (cpts m v n k) k (v.getLsbD k) = cpts m v n (k + 1) := by
  apply BitVec.eq_of_getLsbD_eq
  intro p hp
  have h : 0 ≤ (k : Int) ∧ (k : Int) < 8 := by omega
  have ho : (onesB k).getLsbD p = p.testBit k := by unfold onesB; rw [bvOf_bit]; simp [hp]
  unfold halfB
  rw [if_pos h, cpts_bit _ _ _ _ _ hn, fits, hm]
  cases hv : v.getLsbD k <;> simp only [Int.toNat_natCast, if_true, Bool.false_eq_true, if_false, BitVec.getLsbD_and, BitVec.getLsbD_not, ho, hp, decide_true, Bool.true_and, cpts_bit _ _ _ _ _ hn, Bool.not_true, Bool.false_or, Bool.and_assoc]
  · cases p.testBit k <;> simp
  · cases p.testBit k <;> simp
theorem cpts_skip (m v : BitVec 8) (n k : Nat) (hm : m.getLsbD k = false) : cpts m v n (k + 1) = cpts m v n k := by
  unfold cpts; congr 1; funext p; rw [fits, hm]; simp
end Go.Proofs.Ytnddepijbbchiaa
