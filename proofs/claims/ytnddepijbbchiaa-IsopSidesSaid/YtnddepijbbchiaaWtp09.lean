/- Package cube's Without; package prime's Within, Grow, Prime. -/
import Derived.Test.YtnddepijbbchiaaGro09
import Derived.Test.YtnddepijbbchiaaLaw09
namespace Go.Proofs.Ytnddepijbbchiaa
open Go.RowKit Go.Joins

theorem andNotQ (a b : BitVec 8) : bits .andNot .u8 (a.toNat : Int) (b.toNat : Int) = ((a &&& ~~~b).toNat : Int) := by
  rw [u8_andNot_nat _ _ a.isLt b.isLt, BitVec.toNat_and, BitVec.toNat_not]
theorem andBit8 (m : BitVec 8) (i : Nat) : bits .andNot .u8 (m.toNat : Int) (2 ^ i % 256) = ((drM m i).toNat : Int) := by
  have h := andNotQ m (BitVec.twoPow 8 i)
  rw [BitVec.toNat_twoPow] at h
  exact h
set_option maxHeartbeats 1000000 in
theorem cwithout_any (m v : BitVec 8) (i : Nat) (hi : i < 8) (w : World) :
    Calls Try.prog 62 #[cv m v, .int .i64 i] w fun e w' => e = .returned (cv (drM m i) (v &&& drM m i)) ∧ Below w.heap.size w w' := by
  have HT := fun w => tidy_any (drM m i) v w
  generalize v &&& drM m i = u at *
  have HA := Lib.hid (andBit8 m i)
  have hx : ((w.alloc (cb m v)).alloc cb0).heap[w.heap.size]? = some (cb m v) := by rw [heap_alloc2_old]
  have hr : ((w.alloc (cb m v)).alloc cb0).heap[w.heap.size + 1]? = some cb0 := by rw [heap_alloc2_new]
  have hb := below_alloc2 w (cb m v) cb0
  have i0 : decide ((0 : Int) ≤ (i : Int)) = true := decide_eq_true (by omega)
  have i8 : decide ((i : Int) < 8) = true := decide_eq_true (by omega)
  have i1 : ¬ (i : Int) < 0 := by omega
  unfold cv cb cb0 bvv at *
  go_enter Try.func62, Try.ntmps62
  go_upto_region 2 with (fail)
  generalize (w.alloc _).alloc _ = W at *
  obtain ⟨x0, x1, xf⟩ := box2 hx rfl
  refine wp_region_after_tail 6 (by kernel_rfl) (by kernel_rfl) ?_
  simp only [List.take_succ_cons, List.take_zero, List.drop_succ_cons, List.drop_zero]
  repeat (first | go_big_quiet_step (fail))
  refine wpQuiet_nil ?_
  intro x
  have hx1 := block_setCell (i := 0) (x.same hx) (.int .u8 (drM m i).toNat)
  have hr1 := keep_set (a := ⟨w.heap.size, 0, none⟩) (u := .int .u8 (drM m i).toNat) (by simp) (x.same hr)
  have hb1 : Below w.heap.size w (x.1.setCell ⟨w.heap.size, 0, none⟩ (.int .u8 (drM m i).toNat)) := (hb.trans (x.2.mono hb.size)).setCell (Nat.le_refl _) _
  go_upto_region 3 with (fail)
  clear x0 x1 xf hx hr hb
  simp only [HA.out]
  generalize x.1.setCell ⟨w.heap.size, 0, none⟩ (.int .u8 (drM m i).toNat) = W1 at *
  obtain ⟨a0, a1, -⟩ := now2 hx1 rfl
  go_wp2_with fail
  refine (HT _).mono ?_
  rintro e w2 ⟨rfl, hb2⟩
  have hr2 := keep_blk hb2 hr1
  obtain ⟨-, -, rf⟩ := now2 hr2 rfl
  obtain ⟨r0, r1, -⟩ := now2 hr2 rfl
  go_wp2_with fail
  exact bodyPost_ret (v := .agg #[.int .u8 (drM m i).toNat, .int .u8 u.toNat]) (by simp [results, Try.results62, go_sem, r0, r1]) rfl
    ⟨rfl, below2 (by omega) (hb1.trans (hb2.mono hb1.size))⟩
theorem cwithout_right {m v : BitVec 8} {n : Int} (h : rightB m v n = true) (i : Nat) (hi : i < 8) (w : World) :
    Calls Try.prog 62 #[cv m v, .int .i64 i] w fun e w' => e = .returned (cv (drM m i) (drM v i)) ∧ Below w.heap.size w w' := by
  have := cwithout_any m v i hi w
  have e : v &&& drM m i = drM v i := by
    obtain ⟨-, -, -, hv⟩ := (rightB_iff _ _ _).1 h
    apply BitVec.eq_of_getLsbD_eq
    intro j _
    have hvj : (v.getLsbD j && m.getLsbD j) = v.getLsbD j := by rw [← BitVec.getLsbD_and, hv]
    rw [BitVec.getLsbD_and, drM_bit, drM_bit, ← Bool.and_assoc, hvj]
  rwa [e] at this

set_option maxHeartbeats 1000000 in
theorem pwithin_any (m v : BitVec 8) (S : BitVec 256) (n : Int) (w : World) :
    Calls Try.prog 61 #[cv m v, sv S, .int .i64 n] w fun e w' => e = .returned (.bool (inB S n m v)) ∧ Below w.heap.size w w' := by
  have hx : (((w.alloc (cb m v)).alloc (.cells (sa S) 24))).heap[w.heap.size]? = some (cb m v) := by rw [heap_alloc2_old]
  have hs : (((w.alloc (cb m v)).alloc (.cells (sa S) 24))).heap[w.heap.size + 1]? = some (.cells (sa S) 24 (0, 0)) := by rw [heap_alloc2_new]
  have hb := below_alloc2 w (cb m v) (.cells (sa S) 24)
  by_cases hr : rightB m v n = true
  · obtain ⟨h0, h8, -, -⟩ := (rightB_iff _ _ _).1 hr
    obtain ⟨k, rfl⟩ : ∃ k : Nat, n = k := ⟨n.toNat, by omega⟩
    have HP := fun w => cpoints_yes hr w
    have HW := fun w => within_any (cpts m v k k) S w
    have e : inB S k m v = decide (cpts m v k k &&& ~~~S = 0) := by unfold inB; rw [hr, Bool.true_and, Int.toNat_natCast]
    rw [e]
    clear e hr
    generalize decide (cpts m v k k &&& ~~~S = 0) = b at *
    generalize cpts m v k k = X at *
    unfold cv cb bvv sv at *
    unfold sa wv at hx hs hb
    unfold wv at *
    go_enter Try.func61, Try.ntmps61
    go_upto_region 1 with (fail)
    generalize (w.alloc _).alloc _ = W at *
    obtain ⟨x0, x1, -⟩ := now2 hx rfl
    go_wp2_with fail
    refine (HP _).mono ?_
    rintro e w1 ⟨rfl, hb1⟩
    have hs1 := keep_blk hb1 hs
    have hB := hb.trans (hb1.mono hb.size)
    clear HP x0 x1 hx hs hb hb1
    go_upto_region 2 with (fail)
    have hz := heap_alloc_new w1 (.cells #[.int .u64 (wd X 0).toNat, .int .u64 (wd X 1).toNat, .int .u64 (wd X 2).toNat, .int .u64 (wd X 3).toNat] 24)
    have hs2 := keep_alloc (x := .cells #[.int .u64 (wd X 0).toNat, .int .u64 (wd X 1).toNat, .int .u64 (wd X 2).toNat, .int .u64 (wd X 3).toNat] 24) hs1
    have hB2 := hB.trans ((below_alloc1 w1 (.cells #[.int .u64 (wd X 0).toNat, .int .u64 (wd X 1).toNat, .int .u64 (wd X 2).toNat, .int .u64 (wd X 3).toNat] 24)).mono hB.size)
    clear hs1 hB
    generalize hW2 : w1.alloc _ = w2 at *
    clear hW2
    obtain ⟨z0, z1, z2, z3, -⟩ := now4 hz rfl
    obtain ⟨s0, s1, s2, s3, -⟩ := now4 hs2 rfl
    go_wp2_with fail
    refine (HW _).mono ?_
    rintro e w3 ⟨rfl, hb3⟩
    have hB3 := hB2.trans (hb3.mono hB2.size)
    clear HW z0 z1 z2 z3 s0 s1 s2 s3 hz hs2
    go_wp2
    go_ret
    exact ⟨rfl, hB3⟩
  · have hr' : rightB m v n = false := by simpa using hr
    have HP := fun w => cpoints_no hr' w
    have e : inB S n m v = false := by unfold inB; rw [hr', Bool.false_and]
    rw [e]
    rw [show sv 0 = .agg #[.int .u64 0, .int .u64 0, .int .u64 0, .int .u64 0] from by kernel_rfl] at HP
    clear e hr hr'
    unfold cv cb bvv sv at *
    unfold sa wv at hx hs hb
    unfold wv at *
    go_enter Try.func61, Try.ntmps61
    go_upto_region 1 with (fail)
    generalize (w.alloc _).alloc _ = W at *
    obtain ⟨x0, x1, -⟩ := now2 hx rfl
    go_wp2_with fail
    refine (HP _).mono ?_
    rintro e w1 ⟨rfl, hb1⟩
    have hB := hb.trans (hb1.mono hb.size)
    clear HP x0 x1 hx hs hb hb1
    go_wp2
    go_ret
    exact ⟨rfl, hB.trans ((below_alloc1 _ _).mono hB.size)⟩

theorem dropsC_prime {S : BitVec 256} {n : Nat} {m v : BitVec 8} (h : primB S n m v = true) : ∀ k, k ≤ n → dropsC S n (m, v) k = (m, v)
  | 0, _ => rfl
  | k + 1, hk => by
    rw [dropsC_succ, dropsC_prime h k (by omega)]
    obtain ⟨h1, h2⟩ := (primB_iff _ _ _ _).1 h
    unfold dropC
    dsimp only
    cases hm : m.getLsbD k
    · have hv : v.getLsbD k = false := by
        have := congrArg (fun x => x.getLsbD k) ((rightB_iff _ _ _).1 (in_right h1)).2.2.2
        simp only [BitVec.getLsbD_and, hm, Bool.and_false] at this
        exact this.symm
      rw [drM_same hm, drM_same hv]
      split <;> rfl
    · rw [if_neg (by rw [h2 k (by rw [Int.toNat_natCast]; omega) hm]; decide)]
theorem growC_same {S : BitVec 256} {n : Nat} {m v : BitVec 8} (h : inB S n m v = true) : decide ((growC S n m v).1 = m ∧ (growC S n m v).2 = v) = primB S n m v := by
  cases hp : primB S n m v
  · refine decide_eq_false ?_
    rintro ⟨e1, e2⟩
    have := (growC_prime h).1
    rw [e1, e2, hp] at this
    cases this
  · refine decide_eq_true ?_
    have : growC S n m v = (m, v) := by unfold growC; rw [Int.toNat_natCast]; exact dropsC_prime hp n (Nat.le_refl _)
    rw [this]
    exact ⟨rfl, rfl⟩

set_option maxHeartbeats 4000000 in
set_option maxRecDepth 100000 in
theorem pgrow_no (m v : BitVec 8) (S : BitVec 256) (n : Int) (hin : inB S n m v = false) (w : World) :
    Calls Try.prog 40 #[cv m v, sv S, .int .i64 n] w fun e w' => e = .returned (.tuple #[cv 0 0, .int .i64 1]) ∧ Below w.heap.size w w' := by
  have HW := fun w => pwithin_any m v S n w
  rw [hin] at HW
  have hG : GcI w S (m, v) (((w.alloc (cb m v)).alloc (.cells (sa S) 24)).alloc cb0) := ⟨heap_alloc3_a _ _ _ _, heap_alloc3_b _ _ _ _, heap_alloc3_c _ _ _ _, below_alloc3 _ _ _ _⟩
  have hx := hG.x
  have hs := hG.s
  have hr := hG.r
  have hb := hG.b
  clear hG hin
  rw [show cv 0 0 = .agg #[.int .u8 0, .int .u8 0] from rfl]
  unfold cv sv cb cb0 bvv at *
  unfold sa wv at *
  dsimp only at hx
  go_enter Try.func40, Try.ntmps40
  go_upto_region 1 with (fail)
  generalize ((w.alloc _).alloc _).alloc _ = W at *
  obtain ⟨x0, x1, -⟩ := now2 hx rfl
  obtain ⟨s0, s1, s2, s3, -⟩ := now4 hs rfl
  go_wp2_with fail
  refine (HW _).mono ?_
  rintro e w1 ⟨rfl, hb1⟩
  have hr1 := keep_blk hb1 hr
  have hB := hb.trans (hb1.mono hb.size)
  clear HW x0 x1 s0 s1 s2 s3 hx hs hr hb hb1
  obtain ⟨r0, r1, rf⟩ := now2 hr1 rfl
  have hput := put2 (x0 := .int .u8 0) (x1 := .int .u8 0) hr1
  obtain ⟨q0, q1, -⟩ := now2 hput rfl
  have hBz := below2 (b := w.heap.size + 2) (x0 := .int .u8 0) (x1 := .int .u8 0) (by omega) hB
  go_wp2
  exact bodyPost_ret (v := .tuple #[.agg #[.int .u8 0, .int .u8 0], .int .i64 1]) (by simp [results, Try.results40, go_sem, q0, q1]) rfl ⟨rfl, hBz⟩

set_option maxHeartbeats 4000000 in
set_option maxRecDepth 100000 in
theorem pgrow_yes (m v : BitVec 8) (S : BitVec 256) (n : Nat) (hin : inB S n m v = true) (w : World) :
    Calls Try.prog 40 #[cv m v, sv S, .int .i64 n] w fun e w' => e = .returned (.tuple #[cv (growC S n m v).1 (growC S n m v).2, .int .i64 0]) ∧ Below w.heap.size w w' := by
  have hn8 : n ≤ 8 := by have := (rightB_iff _ _ _).1 (in_right hin); omega
  have HO := fun (m v : BitVec 8) (i : Nat) (hi : i < 8) (hr : rightB m v n = true) w => cwithout_right hr i hi w
  have HW := fun m v w => pwithin_any m v S n w
  have hinv := Lib.hid (fun k => (dropsC_inv hin k).1)
  have hsuc := Lib.hid (fun k => dropsC_succ S n (m, v) k)
  have hG : GcI w S (m, v) (((w.alloc (cb m v)).alloc (.cells (sa S) 24)).alloc cb0) := ⟨heap_alloc3_a _ _ _ _, heap_alloc3_b _ _ _ _, heap_alloc3_c _ _ _ _, below_alloc3 _ _ _ _⟩
  have hge : Hid (growC S n m v = dropsC S n (m, v) n) := Lib.hid (by unfold growC; rw [Int.toNat_natCast])
  have HW1 := fun w => HW m v w
  rw [hin] at HW1
  have hx := hG.x
  have hs := hG.s
  have I0 := Lib.hid hG
  clear hG hin
  unfold cv sv cb cb0 bvv at *
  unfold sa wv at hs
  unfold wv at *
  dsimp only at hx
  go_enter Try.func40, Try.ntmps40
  go_upto_region 1 with (fail)
  have I1 := I0.out
  unfold sa wv at I1
  clear I0
  generalize ((w.alloc _).alloc _).alloc _ = W at *
  obtain ⟨x0, x1, -⟩ := now2 hx rfl
  obtain ⟨s0, s1, s2, s3, -⟩ := now4 hs rfl
  go_wp2_with fail
  refine (HW1 _).mono ?_
  rintro e w1 ⟨rfl, hb1⟩
  have I := I1.after hb1
  clear HW1 x0 x1 s0 s1 s2 s3 hx hs hb1 I1
  go_wp2_with fail
  go_loopw [17] (fun t wr => ∃ k : Nat, k ≤ n ∧ t = .int .i64 k ∧ GcI w S (dropsC S n (m, v) k) wr) (fun t _ => n - (intOf t).toNat)
  case atStart => exact ⟨0, by omega, rfl, I⟩
  case round =>
    clear I
    obtain ⟨k, hk, rfl, I⟩ := hrel
    have hyin := hinv.out k
    have hst := Lib.hid (hsuc.out k)
    have hyr := in_right hyin
    by_cases hkn : k < n
    · have hkd : decide ((k : Int) < (n : Int)) = true := decide_eq_true (by omega)
      generalize dropsC S n (m, v) k = y at *
      obtain ⟨ym, yv⟩ := y
      simp only at hyin hyr
      have HOy := fun w => HO ym yv k (by omega) hyr w
      have HWy := fun w => HW (drM ym k) (drM yv k) w
      clear HO HW hinv hsuc hyin
      have hx := I.x
      (try unfold cb at hx)
      simp only at hx
      obtain ⟨x0, x1, -⟩ := now2 hx rfl
      go_wp2_with fail
      refine (HOy _).mono ?_
      rintro e w2 ⟨rfl, hb2⟩
      have I2 := I.after hb2
      clear HOy x0 x1 hx hb2 I
      go_upto_region 7 with (fail)
      have hz := heap_alloc_new w2 (.cells #[.int .u8 (drM ym k).toNat, .int .u8 (drM yv k).toNat] 44)
      have I3 := I2.after (below_alloc1 w2 (.cells #[.int .u8 (drM ym k).toNat, .int .u8 (drM yv k).toNat] 44))
      have hzl : w.heap.size + 3 ≤ w2.heap.size := by have := size_of_block I2.r; omega
      clear I2
      generalize hW3 : w2.alloc _ = w3 at *
      clear hW3
      generalize w2.heap.size = zb at *
      have hs := I3.s
      unfold sa wv at hs
      obtain ⟨z0, z1, -⟩ := now2 hz rfl
      obtain ⟨s0, s1, s2, s3, -⟩ := now4 hs rfl
      go_wp2_with fail
      refine (HWy _).mono ?_
      rintro e w4 ⟨rfl, hb4⟩
      have I4 := I3.after hb4
      have hz4 := keep_blk hb4 hz
      clear HWy z0 z1 s0 s1 s2 s3 hs hz I3 hb4
      cases hd : inB S n (drM ym k) (drM yv k)
      · have hd' : Hid (dropsC S n (m, v) (k + 1) = (ym, yv)) := Lib.hid (by rw [hst.out]; unfold dropC; rw [if_neg (by rw [hd]; decide)])
        clear hst hd
        go_wp2
        go_roundw
        case rel => exact ⟨k + 1, by omega, by go_num, by rw [hd'.out]; exact I4⟩
        case measure => simp [intOf]; omega
      · have hd' : Hid (dropsC S n (m, v) (k + 1) = (drM ym k, drM yv k)) := Lib.hid (by rw [hst.out]; unfold dropC; rw [if_pos hd])
        have hx2 := I4.x
        (try unfold cb at hx2)
        simp only at hx2
        obtain ⟨x0, x1, xf⟩ := now2 hx2 rfl
        obtain ⟨z0, z1, -⟩ := now2 hz4 rfl
        have I5 := I4.put (drM ym k) (drM yv k)
        clear hst hd
        go_wp2
        go_roundw
        case rel => exact ⟨k + 1, by omega, by go_num, by rw [hd'.out]; exact I5⟩
        case measure => simp [intOf]; omega
    · have e : k = n := by omega
      subst e
      have hkd : decide ((k : Int) < (k : Int)) = false := decide_eq_false (by omega)
      generalize dropsC S k (m, v) k = y at *
      obtain ⟨ym, yv⟩ := y
      have hx := I.x
      have hr := I.r
      have hb := I.b
      (try unfold cb at hx)
      (try unfold cb0 at hr)
      simp only at hx
      obtain ⟨x0, x1, -⟩ := now2 hx rfl
      obtain ⟨r0, r1, rf⟩ := now2 hr rfl
      have hput := put2 (x0 := .int .u8 ym.toNat) (x1 := .int .u8 yv.toNat) hr
      obtain ⟨q0, q1, -⟩ := now2 hput rfl
      have hBz := below2 (b := w.heap.size + 2) (x0 := .int .u8 ym.toNat) (x1 := .int .u8 yv.toNat) (by omega) hb
      clear HO HW hst hsuc hinv hput I
      go_wp2
      exact bodyPost_ret (v := .tuple #[.agg #[.int .u8 ym.toNat, .int .u8 yv.toNat], .int .i64 0]) (by simp [results, Try.results40, go_sem, q0, q1]) rfl ⟨by rw [hge.out], hBz⟩

theorem pgrow_ex : GrowX := by
  intro w
  have h := pgrow_yes 3#8 3#8 14#256 2 (by decide +kernel) w
  rw [show growC 14#256 ((2 : Nat) : Int) 3#8 3#8 = (2#8, 2#8) from by decide +kernel] at h
  exact h
end Go.Proofs.Ytnddepijbbchiaa
