/- The statements of layer 11, walked over what the package answers: TaggedRows. -/
import Derived.Test.YtgajgjlldohekaaGreatGP08
namespace Go.Proofs.YtgajgjlldohekaaGreat
open Go.RowKit Go.Joins

/-- What the package answers. -/
def MemberT : Prop := ∀ (m v o : BitVec 8) (w : World), Calls Tryz.prog 9 #[.agg #[bvv m, bvv v, bvv o]] w fun e w' => e = .returned (.int .i64 (memB m v o)) ∧ Below w.heap.size w w'
def RowT : Prop := ∀ (k : Int) (w : World), Calls Tryz.prog 7 #[.int .i64 k] w fun e w' => e = .returned (.tuple #[if belB k = true then .agg #[bvv (rmM k.toNat), bvv (rmV k.toNat), bvv (rmO k.toNat)] else rowZ11, .int .i64 (if belB k = true then 0 else 1)]) ∧ Below w.heap.size w w'
def Knows11 : Prop := ∀ w : World, Calls Tryz.prog 11 #[] w fun e w' => e = .returned (.bool true) ∧ Below w.heap.size w w'
theorem rrow11_yes {k : Int} (h : belB k = true) (w : World) : Calls Tryz.prog 8 #[.int .i64 k] w fun e w' => e = .returned (.tuple #[.agg #[bvv (rmM k.toNat), bvv (rmV k.toNat), bvv (rmO k.toNat)], .bool true]) ∧ Below w.heap.size w w' := by
  unfold belB at h
  rw [Bool.and_eq_true, decide_eq_true_iff] at h
  obtain ⟨⟨h1, h2⟩, h3⟩ := h
  obtain ⟨n, rfl⟩ : ∃ n : Nat, k = n := ⟨k.toNat, by omega⟩
  rw [Int.toNat_natCast] at *
  have := rrow11_in n (by omega) (by omega) w
  rw [h3] at this
  exact this
theorem rrow11_no {k : Int} (h : belB k = false) (w : World) : Calls Tryz.prog 8 #[.int .i64 k] w fun e w' => e = .returned (.tuple #[rowZ11, .bool false]) ∧ Below w.heap.size w w' := by
  by_cases hr : k < 65536 ∨ 1048576 ≤ k
  · exact rrow11_out k hr w
  · obtain ⟨n, rfl⟩ : ∃ n : Nat, k = n := ⟨k.toNat, by omega⟩
    have := rrow11_in n (by omega) (by omega) w
    unfold belB at h
    rw [decide_eq_true (by omega), Bool.true_and, Int.toNat_natCast] at h
    rw [h] at this
    exact this
theorem trow_yes (HR : RowT) {k : Int} (h : belB k = true) (w : World) : Calls Tryz.prog 7 #[.int .i64 k] w fun e w' => e = .returned (.tuple #[.agg #[bvv (rmM k.toNat), bvv (rmV k.toNat), bvv (rmO k.toNat)], .int .i64 0]) ∧ Below w.heap.size w w' := by
  have := HR k w
  rwa [if_pos h, if_pos h] at this
theorem trow_no (HR : RowT) {k : Int} (h : belB k = false) (w : World) : Calls Tryz.prog 7 #[.int .i64 k] w fun e w' => e = .returned (.tuple #[rowZ11, .int .i64 1]) ∧ Below w.heap.size w w' := by
  have := HR k w
  rwa [h] at this
theorem bel_int {k : Int} (h : belB k = true) : ((memB (rmM k.toNat) (rmV k.toNat) (rmO k.toNat) : Nat) : Int) = k := by
  have h0 := h
  unfold belB at h
  rw [Bool.and_eq_true, decide_eq_true_iff] at h
  obtain ⟨n, rfl⟩ : ∃ n : Nat, k = n := ⟨k.toNat, by omega⟩
  rw [Int.toNat_natCast, mem_row h0]
theorem low4 (o : BitVec 8) : ((o &&& 15#8).toNat : Int) = (o.toNat : Int) % 16 := by
  rw [BitVec.toNat_and, show (15#8 : BitVec 8).toNat = 2 ^ 4 - 1 from rfl, Nat.and_two_pow_sub_one_eq_mod]
  rfl
set_option maxHeartbeats 4000000 in
set_option maxRecDepth 100000 in
theorem rows11_yes_on (HM : MemberT) (HR : RowT) (HK : Knows11) (m v o : BitVec 8) (k : Int) (hb : belB k = true) (ho : o.toNat % 16 ≠ 0) (w : World) :
    Calls Tryz.prog 3 #[rwv ⟨m, v, o⟩, .int .i64 k] w fun e w' => e = .returned (.bool true) ∧ Below w.heap.size w w' := by
  have H1 := fun w => trow_yes HR hb w
  have H2 := fun w => rrow11_yes hb w
  have H3 := fun w => HM m v o w
  have H4 := fun w => rmember11_any ⟨m, v, o⟩ w
  have H5 := fun w => HM (rmM k.toNat) (rmV k.toNat) (rmO k.toNat) w
  rw [bel_int hb] at H5
  generalize rmM k.toNat = a0 at *
  generalize rmV k.toNat = a1 at *
  generalize rmO k.toNat = a2 at *
  have H6 := fun w => trow_yes HR (mem_bel (m := m) (v := v) ho) w
  rw [Int.toNat_natCast, row_m, row_v, row_o] at H6
  have HB := Lib.hid (fun (x : BitVec 8) j hj w => bit8_any x j hj w)
  have hx := heap_alloc_new w (.cells #[.int .u8 m.toNat, .int .u8 v.toNat, .int .u8 o.toNat] 25)
  have hbe := below_alloc1 w (.cells #[.int .u8 m.toNat, .int .u8 v.toNat, .int .u8 o.toNat] 25)
  have hbsum : Hid ((m &&& v).toNat = wsum (fun i => m.getLsbD i && v.getLsbD i) 8) := Lib.hid (by
    apply Nat.eq_of_testBit_eq
    intro j
    rw [wsum_bit]
    show (m &&& v).getLsbD j = _
    rw [BitVec.getLsbD_and]
    by_cases h : j < 8
    · simp [h]
    · rw [BitVec.getLsbD_of_ge m j (by omega)]; simp [h])
  have hol : Hid ((o.toNat : Int) % 16 = ((o &&& 15#8).toNat : Int)) := Lib.hid (low4 o).symm
  generalize m &&& v = MV at *
  generalize o &&& 15#8 = O5 at *
  have hGi : Hid (∀ i, (fun i => m.getLsbD i && v.getLsbD i) i = (m.getLsbD i && v.getLsbD i)) := Lib.hid (fun _ => rfl)
  generalize (fun i => m.getLsbD i && v.getLsbD i) = G at *
  unfold rwv bvv at *
  try unfold rowZ11 at *
  try dsimp only at *
  generalize memB m v o = M at *
  clear hb HM HR
  go_enter Tryz.func3, Tryz.ntmps3
  go_upto_region 1 with (fail)
  generalize w.alloc _ = W at *
  go_wp2_with fail
  refine (H1 _).mono ?_
  rintro e w1 ⟨rfl, hb1⟩
  have hx1 := keep_blk hb1 hx
  have hB1 := hbe.trans (hb1.mono hbe.size)
  clear H1 hx hbe hb1
  go_upto_region 2 with (fail)
  have hy2 := heap_alloc_new w1 (.cells #[.int .u8 a0.toNat, .int .u8 a1.toNat, .int .u8 a2.toNat] 25)
  have hx2 := keep_alloc (x := .cells #[.int .u8 a0.toNat, .int .u8 a1.toNat, .int .u8 a2.toNat] 25) hx1
  have hB2 := hB1.trans ((below_alloc1 w1 (.cells #[.int .u8 a0.toNat, .int .u8 a1.toNat, .int .u8 a2.toNat] 25)).mono hB1.size)
  clear hx1 hB1
  generalize hW2 : w1.alloc _ = w2 at *
  generalize w1.heap.size = yb at *
  clear hW2
  go_wp2_with fail
  refine (H2 _).mono ?_
  rintro e w3 ⟨rfl, hb3⟩
  have hx3 := keep_blk hb3 hx2
  have hy3 := keep_blk hb3 hy2
  have hB3 := hB2.trans (hb3.mono hB2.size)
  clear H2 hx2 hy2 hB2 hb3
  go_upto_region 3 with (fail)
  have hz4 := heap_alloc_new w3 (.cells #[.int .u8 a0.toNat, .int .u8 a1.toNat, .int .u8 a2.toNat] 25)
  have hx4 := keep_alloc (x := .cells #[.int .u8 a0.toNat, .int .u8 a1.toNat, .int .u8 a2.toNat] 25) hx3
  have hy4 := keep_alloc (x := .cells #[.int .u8 a0.toNat, .int .u8 a1.toNat, .int .u8 a2.toNat] 25) hy3
  have hB4 := hB3.trans ((below_alloc1 w3 (.cells #[.int .u8 a0.toNat, .int .u8 a1.toNat, .int .u8 a2.toNat] 25)).mono hB3.size)
  clear hx3 hy3 hB3
  generalize hW4 : w3.alloc _ = w4 at *
  generalize w3.heap.size = zb at *
  clear hW4
  obtain ⟨X0, X1, X2, -⟩ := box3 hx4 rfl
  obtain ⟨Y0, Y1, Y2, -⟩ := box3 hy4 rfl
  obtain ⟨Z0, Z1, Z2, -⟩ := box3 hz4 rfl
  refine wp_region_after (by kernel_rfl) (by kernel_rfl) ?_
  repeat (first | go_big_quiet_step ((first | (go_at_call 10; exact Calls.after_of (H4 _)) | (go_at_call_of 9 (Value.agg #[.int .u8 m.toNat, .int .u8 v.toNat, .int .u8 o.toNat]); exact Calls.after_of (H3 _)) | (go_at_call 9; exact Calls.after_of (H5 _)))))
  refine wpQuiet_nil ?_
  intro q
  have hx5 := q.same hx4
  have hB5 := hB4.trans (q.2.mono hB4.size)
  clear X0 X1 X2 Y0 Y1 Y2 Z0 Z1 Z2 hx4 hy4 hz4 H4 H5 hB4
  generalize q.1 = w5 at *
  clear q
  obtain ⟨x0, x1, x2, -⟩ := now3 hx5 rfl
  go_wp2_with fail
  refine (H3 _).mono ?_
  rintro e w6 ⟨rfl, hb6⟩
  have hx6 := keep_blk hb6 hx5
  have hB6 := hB5.trans (hb6.mono hB5.size)
  clear H3 x0 x1 x2 hx5 hB5 hb6
  go_wp2_with fail
  refine (H6 _).mono ?_
  rintro e w7 ⟨rfl, hb7⟩
  have hx7 := keep_blk hb7 hx6
  have hB7 := hB6.trans (hb7.mono hB6.size)
  clear H6 hx6 hB6 hb7
  go_upto_region 6 with (fail)
  have hk8 := heap_alloc_new w7 (.cells #[.int .u8 m.toNat, .int .u8 MV.toNat, .int .u8 O5.toNat] 25)
  have hx8 := keep_alloc (x := .cells #[.int .u8 m.toNat, .int .u8 MV.toNat, .int .u8 O5.toNat] 25) hx7
  have hB8 := hB7.trans ((below_alloc1 w7 (.cells #[.int .u8 m.toNat, .int .u8 MV.toNat, .int .u8 O5.toNat] 25)).mono hB7.size)
  clear hx7 hB7
  generalize hW8 : w7.alloc _ = w8 at *
  generalize w7.heap.size = kb at *
  clear hW8
  obtain ⟨x0, x1, x2, -⟩ := now3 hx8 rfl
  obtain ⟨k0, k1, k2, -⟩ := now3 hk8 rfl
  have hr : ((o.toNat : Int) % 16 == 0) = false := by rw [beq_eq_false_iff_ne]; omega
  have hr2 : ((o.toNat : Int).tmod 16 == 0) = false := by rw [Int.tmod_eq_emod_of_nonneg (by omega)]; exact hr
  go_wp2_with fail
  go_loopw [11, 12, 13] (fun a p t wr => ∃ i A P : Nat, i ≤ 8 ∧ t = .int .i64 i ∧ a = .int .u8 A ∧ p = .int .u8 P ∧ Hid (A = wsum G i) ∧ Hid (i < 8 → P = 2 ^ i) ∧ P < 256 ∧ w8 = wr) (fun _ _ t _ => 8 - (intOf t).toNat)
  case atStart => exact ⟨0, 0, 1, by omega, rfl, rfl, rfl, Lib.hid rfl, Lib.hid (fun _ => rfl), by omega, rfl⟩
  case round =>
    obtain ⟨i, A, P, hi, rfl, rfl, rfl, hA, hP, hP8, rfl⟩ := hrel
    by_cases h8 : i < 8
    · have d1 : decide ((i : Int) < 8) = true := decide_eq_true (by omega)
      have HBm := fun w => HB.out m i h8 w
      have HBv := fun w => HB.out v i h8 w
      have hP2 : Hid (i + 1 < 8 → P * 2 % 256 = 2 ^ (i + 1)) := Lib.hid (fun h => by
        have h1 := hP.out h8
        have h2 : 2 ^ (i + 1) ≤ 2 ^ 7 := Nat.pow_le_pow_right (by decide) (by omega)
        rw [h1, ← Nat.pow_succ]
        omega)
      have hst : Hid (wsum G (i + 1) = A + (if (m.getLsbD i && v.getLsbD i) = true then P else 0)) := Lib.hid (by rw [hP.out h8, hA.out, ← hGi.out]; rfl)
      have hlt : wsum G (i + 1) < 256 := Nat.lt_of_lt_of_le (wsum_lt _ _) (Nat.pow_le_pow_right (by decide : 0 < 2) (by omega : i + 1 ≤ 8))
      clear HB hA hP hbsum hol hGi
      have hltH := Lib.hid hlt
      clear hlt
      cases hm : m.getLsbD i
      · rw [hm] at HBm
        have hA2 : Hid (A = wsum G (i + 1)) := Lib.hid (by rw [hst.out, hm]; rfl)
        clear hst HBv hltH
        go_wp2_with fail
        refine (HBm _).mono ?_
        rintro e w9 ⟨rfl, rfl⟩
        clear HBm
        go_wp2
        go_roundw
        case rel => exact ⟨i + 1, A, P * 2 % 256, by omega, by go_num, rfl, by simp, hA2, hP2, by omega, trivial⟩
        case measure => simp [intOf]; omega
      · rw [hm] at HBm
        go_wp2_with fail
        refine (HBm _).mono ?_
        rintro e w9 ⟨rfl, rfl⟩
        clear HBm
        go_wp2_with fail
        refine (HBv _).mono ?_
        rintro e w9 ⟨rfl, rfl⟩
        clear HBv
        cases hv : v.getLsbD i
        · have hA2 : Hid (A = wsum G (i + 1)) := Lib.hid (by rw [hst.out, hm, hv]; rfl)
          clear hst hltH
          go_wp2
          go_roundw
          case rel => exact ⟨i + 1, A, P * 2 % 256, by omega, by go_num, rfl, by simp, hA2, hP2, by omega, trivial⟩
          case measure => simp [intOf]; omega
        · have hA2 : Hid (A + P = wsum G (i + 1)) := Lib.hid (by rw [hst.out, hm, hv]; rfl)
          have hl2 : A + P < 256 := by rw [hA2.out]; exact hltH.out
          clear hst hltH
          go_wp2
          go_roundw
          case rel => exact ⟨i + 1, A + P, P * 2 % 256, by omega, by go_num, by go_num, by simp, hA2, hP2, by omega, trivial⟩
          case measure => simp [intOf]; omega
    · have d1 : decide ((i : Int) < 8) = false := decide_eq_false (by omega)
      have hAm : (A : Int) = MV.toNat := by rw [hbsum.out, hA.out, show i = 8 by omega]
      have hq : ((MV.toNat : Int) == (A : Int)) = true := by rw [hAm]; simp
      have hq5 : ((O5.toNat : Int) == (o.toNat : Int) % 16) = true := by rw [hol.out]; simp
      have hq6 : ((O5.toNat : Int) == (o.toNat : Int).tmod 16) = true := by rw [Int.tmod_eq_emod_of_nonneg (by omega)]; exact hq5
      have hAm2 : MV.toNat = A := by omega
      have hO2 : O5.toNat = o.toNat % 16 := by have := hol.out; omega
      clear hbsum hol hGi hA hP HB
      go_wp2_with fail
      refine (HK _).mono ?_
      rintro e w9 ⟨rfl, hb9⟩
      have hB9 := hB8.trans (hb9.mono hB8.size)
      clear HK x0 x1 x2 k0 k1 k2
      go_wp2
      go_ret
      exact ⟨rfl, hB9⟩
set_option maxHeartbeats 4000000 in
set_option maxRecDepth 100000 in
theorem rows11_yes_off (HM : MemberT) (HR : RowT) (HK : Knows11) (m v o : BitVec 8) (k : Int) (hb : belB k = true) (ho : o.toNat % 16 = 0) (w : World) :
    Calls Tryz.prog 3 #[rwv ⟨m, v, o⟩, .int .i64 k] w fun e w' => e = .returned (.bool true) ∧ Below w.heap.size w w' := by
  have H1 := fun w => trow_yes HR hb w
  have H2 := fun w => rrow11_yes hb w
  have H3 := fun w => HM m v o w
  have H4 := fun w => rmember11_any ⟨m, v, o⟩ w
  have H5 := fun w => HM (rmM k.toNat) (rmV k.toNat) (rmO k.toNat) w
  rw [bel_int hb] at H5
  generalize rmM k.toNat = a0 at *
  generalize rmV k.toNat = a1 at *
  generalize rmO k.toNat = a2 at *
  have H6 := fun w => trow_no HR (mem_off (m := m) (v := v) ho) w
  have HB := Lib.hid (fun (x : BitVec 8) j hj w => bit8_any x j hj w)
  have hx := heap_alloc_new w (.cells #[.int .u8 m.toNat, .int .u8 v.toNat, .int .u8 o.toNat] 25)
  have hbe := below_alloc1 w (.cells #[.int .u8 m.toNat, .int .u8 v.toNat, .int .u8 o.toNat] 25)
  have hbsum : Hid ((m &&& v).toNat = wsum (fun i => m.getLsbD i && v.getLsbD i) 8) := Lib.hid (by
    apply Nat.eq_of_testBit_eq
    intro j
    rw [wsum_bit]
    show (m &&& v).getLsbD j = _
    rw [BitVec.getLsbD_and]
    by_cases h : j < 8
    · simp [h]
    · rw [BitVec.getLsbD_of_ge m j (by omega)]; simp [h])
  have hol : Hid ((o.toNat : Int) % 16 = ((o &&& 15#8).toNat : Int)) := Lib.hid (low4 o).symm
  clear hbsum hol HB
  unfold rwv bvv at *
  try unfold rowZ11 at *
  try dsimp only at *
  generalize memB m v o = M at *
  clear hb HM HR
  go_enter Tryz.func3, Tryz.ntmps3
  go_upto_region 1 with (fail)
  generalize w.alloc _ = W at *
  go_wp2_with fail
  refine (H1 _).mono ?_
  rintro e w1 ⟨rfl, hb1⟩
  have hx1 := keep_blk hb1 hx
  have hB1 := hbe.trans (hb1.mono hbe.size)
  clear H1 hx hbe hb1
  go_upto_region 2 with (fail)
  have hy2 := heap_alloc_new w1 (.cells #[.int .u8 a0.toNat, .int .u8 a1.toNat, .int .u8 a2.toNat] 25)
  have hx2 := keep_alloc (x := .cells #[.int .u8 a0.toNat, .int .u8 a1.toNat, .int .u8 a2.toNat] 25) hx1
  have hB2 := hB1.trans ((below_alloc1 w1 (.cells #[.int .u8 a0.toNat, .int .u8 a1.toNat, .int .u8 a2.toNat] 25)).mono hB1.size)
  clear hx1 hB1
  generalize hW2 : w1.alloc _ = w2 at *
  generalize w1.heap.size = yb at *
  clear hW2
  go_wp2_with fail
  refine (H2 _).mono ?_
  rintro e w3 ⟨rfl, hb3⟩
  have hx3 := keep_blk hb3 hx2
  have hy3 := keep_blk hb3 hy2
  have hB3 := hB2.trans (hb3.mono hB2.size)
  clear H2 hx2 hy2 hB2 hb3
  go_upto_region 3 with (fail)
  have hz4 := heap_alloc_new w3 (.cells #[.int .u8 a0.toNat, .int .u8 a1.toNat, .int .u8 a2.toNat] 25)
  have hx4 := keep_alloc (x := .cells #[.int .u8 a0.toNat, .int .u8 a1.toNat, .int .u8 a2.toNat] 25) hx3
  have hy4 := keep_alloc (x := .cells #[.int .u8 a0.toNat, .int .u8 a1.toNat, .int .u8 a2.toNat] 25) hy3
  have hB4 := hB3.trans ((below_alloc1 w3 (.cells #[.int .u8 a0.toNat, .int .u8 a1.toNat, .int .u8 a2.toNat] 25)).mono hB3.size)
  clear hx3 hy3 hB3
  generalize hW4 : w3.alloc _ = w4 at *
  generalize w3.heap.size = zb at *
  clear hW4
  obtain ⟨X0, X1, X2, -⟩ := box3 hx4 rfl
  obtain ⟨Y0, Y1, Y2, -⟩ := box3 hy4 rfl
  obtain ⟨Z0, Z1, Z2, -⟩ := box3 hz4 rfl
  refine wp_region_after (by kernel_rfl) (by kernel_rfl) ?_
  repeat (first | go_big_quiet_step ((first | (go_at_call 10; exact Calls.after_of (H4 _)) | (go_at_call_of 9 (Value.agg #[.int .u8 m.toNat, .int .u8 v.toNat, .int .u8 o.toNat]); exact Calls.after_of (H3 _)) | (go_at_call 9; exact Calls.after_of (H5 _)))))
  refine wpQuiet_nil ?_
  intro q
  have hx5 := q.same hx4
  have hB5 := hB4.trans (q.2.mono hB4.size)
  clear X0 X1 X2 Y0 Y1 Y2 Z0 Z1 Z2 hx4 hy4 hz4 H4 H5 hB4
  generalize q.1 = w5 at *
  clear q
  obtain ⟨x0, x1, x2, -⟩ := now3 hx5 rfl
  go_wp2_with fail
  refine (H3 _).mono ?_
  rintro e w6 ⟨rfl, hb6⟩
  have hx6 := keep_blk hb6 hx5
  have hB6 := hB5.trans (hb6.mono hB5.size)
  clear H3 x0 x1 x2 hx5 hB5 hb6
  go_wp2_with fail
  refine (H6 _).mono ?_
  rintro e w7 ⟨rfl, hb7⟩
  have hx7 := keep_blk hb7 hx6
  have hB7 := hB6.trans (hb7.mono hB6.size)
  clear H6 hx6 hB6 hb7
  go_upto_region 6 with (fail)
  have hk8 := heap_alloc_new w7 (.cells #[.int .u8 0, .int .u8 0, .int .u8 0] 25)
  have hx8 := keep_alloc (x := .cells #[.int .u8 0, .int .u8 0, .int .u8 0] 25) hx7
  have hB8 := hB7.trans ((below_alloc1 w7 (.cells #[.int .u8 0, .int .u8 0, .int .u8 0] 25)).mono hB7.size)
  clear hx7 hB7
  generalize hW8 : w7.alloc _ = w8 at *
  generalize w7.heap.size = kb at *
  clear hW8
  obtain ⟨x0, x1, x2, -⟩ := now3 hx8 rfl
  obtain ⟨k0, k1, k2, -⟩ := now3 hk8 rfl
  have hr : ((o.toNat : Int) % 16 == 0) = true := by rw [beq_iff_eq]; omega
  have hr2 : ((o.toNat : Int).tmod 16 == 0) = true := by rw [Int.tmod_eq_emod_of_nonneg (by omega)]; exact hr
  go_wp2_with fail
  refine (HK _).mono ?_
  rintro e w9 ⟨rfl, hb9⟩
  have hB9 := hB8.trans (hb9.mono hB8.size)
  clear HK x0 x1 x2 k0 k1 k2
  go_wp2
  go_ret
  exact ⟨rfl, hB9⟩
set_option maxHeartbeats 4000000 in
set_option maxRecDepth 100000 in
theorem rows11_no_on (HM : MemberT) (HR : RowT) (HK : Knows11) (m v o : BitVec 8) (k : Int) (hb : belB k = false) (ho : o.toNat % 16 ≠ 0) (w : World) :
    Calls Tryz.prog 3 #[rwv ⟨m, v, o⟩, .int .i64 k] w fun e w' => e = .returned (.bool true) ∧ Below w.heap.size w w' := by
  have H1 := fun w => trow_no HR hb w
  have H2 := fun w => rrow11_no hb w
  have H3 := fun w => HM m v o w
  have H4 := fun w => rmember11_any ⟨m, v, o⟩ w
  have H6 := fun w => trow_yes HR (mem_bel (m := m) (v := v) ho) w
  rw [Int.toNat_natCast, row_m, row_v, row_o] at H6
  have HB := Lib.hid (fun (x : BitVec 8) j hj w => bit8_any x j hj w)
  have hx := heap_alloc_new w (.cells #[.int .u8 m.toNat, .int .u8 v.toNat, .int .u8 o.toNat] 25)
  have hbe := below_alloc1 w (.cells #[.int .u8 m.toNat, .int .u8 v.toNat, .int .u8 o.toNat] 25)
  have hbsum : Hid ((m &&& v).toNat = wsum (fun i => m.getLsbD i && v.getLsbD i) 8) := Lib.hid (by
    apply Nat.eq_of_testBit_eq
    intro j
    rw [wsum_bit]
    show (m &&& v).getLsbD j = _
    rw [BitVec.getLsbD_and]
    by_cases h : j < 8
    · simp [h]
    · rw [BitVec.getLsbD_of_ge m j (by omega)]; simp [h])
  have hol : Hid ((o.toNat : Int) % 16 = ((o &&& 15#8).toNat : Int)) := Lib.hid (low4 o).symm
  generalize m &&& v = MV at *
  generalize o &&& 15#8 = O5 at *
  have hGi : Hid (∀ i, (fun i => m.getLsbD i && v.getLsbD i) i = (m.getLsbD i && v.getLsbD i)) := Lib.hid (fun _ => rfl)
  generalize (fun i => m.getLsbD i && v.getLsbD i) = G at *
  unfold rwv bvv at *
  try unfold rowZ11 at *
  try dsimp only at *
  generalize memB m v o = M at *
  clear hb HM HR
  go_enter Tryz.func3, Tryz.ntmps3
  go_upto_region 1 with (fail)
  generalize w.alloc _ = W at *
  go_wp2_with fail
  refine (H1 _).mono ?_
  rintro e w1 ⟨rfl, hb1⟩
  have hx1 := keep_blk hb1 hx
  have hB1 := hbe.trans (hb1.mono hbe.size)
  clear H1 hx hbe hb1
  go_upto_region 2 with (fail)
  have hy2 := heap_alloc_new w1 (.cells #[.int .u8 0, .int .u8 0, .int .u8 0] 25)
  have hx2 := keep_alloc (x := .cells #[.int .u8 0, .int .u8 0, .int .u8 0] 25) hx1
  have hB2 := hB1.trans ((below_alloc1 w1 (.cells #[.int .u8 0, .int .u8 0, .int .u8 0] 25)).mono hB1.size)
  clear hx1 hB1
  generalize hW2 : w1.alloc _ = w2 at *
  generalize w1.heap.size = yb at *
  clear hW2
  go_wp2_with fail
  refine (H2 _).mono ?_
  rintro e w3 ⟨rfl, hb3⟩
  have hx3 := keep_blk hb3 hx2
  have hy3 := keep_blk hb3 hy2
  have hB3 := hB2.trans (hb3.mono hB2.size)
  clear H2 hx2 hy2 hB2 hb3
  go_upto_region 3 with (fail)
  have hz4 := heap_alloc_new w3 (.cells #[.int .u8 0, .int .u8 0, .int .u8 0] 25)
  have hx4 := keep_alloc (x := .cells #[.int .u8 0, .int .u8 0, .int .u8 0] 25) hx3
  have hy4 := keep_alloc (x := .cells #[.int .u8 0, .int .u8 0, .int .u8 0] 25) hy3
  have hB4 := hB3.trans ((below_alloc1 w3 (.cells #[.int .u8 0, .int .u8 0, .int .u8 0] 25)).mono hB3.size)
  clear hx3 hy3 hB3
  generalize hW4 : w3.alloc _ = w4 at *
  generalize w3.heap.size = zb at *
  clear hW4
  obtain ⟨X0, X1, X2, -⟩ := box3 hx4 rfl
  obtain ⟨Y0, Y1, Y2, -⟩ := box3 hy4 rfl
  obtain ⟨Z0, Z1, Z2, -⟩ := box3 hz4 rfl
  refine wp_region_after (by kernel_rfl) (by kernel_rfl) ?_
  repeat (first | go_big_quiet_step ((first | (go_at_call 10; exact Calls.after_of (H4 _)) | (go_at_call_of 9 (Value.agg #[.int .u8 m.toNat, .int .u8 v.toNat, .int .u8 o.toNat]); exact Calls.after_of (H3 _)))))
  refine wpQuiet_nil ?_
  intro q
  have hx5 := q.same hx4
  have hB5 := hB4.trans (q.2.mono hB4.size)
  clear X0 X1 X2 Y0 Y1 Y2 Z0 Z1 Z2 hx4 hy4 hz4 H4  hB4
  generalize q.1 = w5 at *
  clear q
  obtain ⟨x0, x1, x2, -⟩ := now3 hx5 rfl
  go_wp2_with fail
  refine (H3 _).mono ?_
  rintro e w6 ⟨rfl, hb6⟩
  have hx6 := keep_blk hb6 hx5
  have hB6 := hB5.trans (hb6.mono hB5.size)
  clear H3 x0 x1 x2 hx5 hB5 hb6
  go_wp2_with fail
  refine (H6 _).mono ?_
  rintro e w7 ⟨rfl, hb7⟩
  have hx7 := keep_blk hb7 hx6
  have hB7 := hB6.trans (hb7.mono hB6.size)
  clear H6 hx6 hB6 hb7
  go_upto_region 6 with (fail)
  have hk8 := heap_alloc_new w7 (.cells #[.int .u8 m.toNat, .int .u8 MV.toNat, .int .u8 O5.toNat] 25)
  have hx8 := keep_alloc (x := .cells #[.int .u8 m.toNat, .int .u8 MV.toNat, .int .u8 O5.toNat] 25) hx7
  have hB8 := hB7.trans ((below_alloc1 w7 (.cells #[.int .u8 m.toNat, .int .u8 MV.toNat, .int .u8 O5.toNat] 25)).mono hB7.size)
  clear hx7 hB7
  generalize hW8 : w7.alloc _ = w8 at *
  generalize w7.heap.size = kb at *
  clear hW8
  obtain ⟨x0, x1, x2, -⟩ := now3 hx8 rfl
  obtain ⟨k0, k1, k2, -⟩ := now3 hk8 rfl
  have hr : ((o.toNat : Int) % 16 == 0) = false := by rw [beq_eq_false_iff_ne]; omega
  have hr2 : ((o.toNat : Int).tmod 16 == 0) = false := by rw [Int.tmod_eq_emod_of_nonneg (by omega)]; exact hr
  go_wp2_with fail
  go_loopw [11, 12, 13] (fun a p t wr => ∃ i A P : Nat, i ≤ 8 ∧ t = .int .i64 i ∧ a = .int .u8 A ∧ p = .int .u8 P ∧ Hid (A = wsum G i) ∧ Hid (i < 8 → P = 2 ^ i) ∧ P < 256 ∧ w8 = wr) (fun _ _ t _ => 8 - (intOf t).toNat)
  case atStart => exact ⟨0, 0, 1, by omega, rfl, rfl, rfl, Lib.hid rfl, Lib.hid (fun _ => rfl), by omega, rfl⟩
  case round =>
    obtain ⟨i, A, P, hi, rfl, rfl, rfl, hA, hP, hP8, rfl⟩ := hrel
    by_cases h8 : i < 8
    · have d1 : decide ((i : Int) < 8) = true := decide_eq_true (by omega)
      have HBm := fun w => HB.out m i h8 w
      have HBv := fun w => HB.out v i h8 w
      have hP2 : Hid (i + 1 < 8 → P * 2 % 256 = 2 ^ (i + 1)) := Lib.hid (fun h => by
        have h1 := hP.out h8
        have h2 : 2 ^ (i + 1) ≤ 2 ^ 7 := Nat.pow_le_pow_right (by decide) (by omega)
        rw [h1, ← Nat.pow_succ]
        omega)
      have hst : Hid (wsum G (i + 1) = A + (if (m.getLsbD i && v.getLsbD i) = true then P else 0)) := Lib.hid (by rw [hP.out h8, hA.out, ← hGi.out]; rfl)
      have hlt : wsum G (i + 1) < 256 := Nat.lt_of_lt_of_le (wsum_lt _ _) (Nat.pow_le_pow_right (by decide : 0 < 2) (by omega : i + 1 ≤ 8))
      clear HB hA hP hbsum hol hGi
      have hltH := Lib.hid hlt
      clear hlt
      cases hm : m.getLsbD i
      · rw [hm] at HBm
        have hA2 : Hid (A = wsum G (i + 1)) := Lib.hid (by rw [hst.out, hm]; rfl)
        clear hst HBv hltH
        go_wp2_with fail
        refine (HBm _).mono ?_
        rintro e w9 ⟨rfl, rfl⟩
        clear HBm
        go_wp2
        go_roundw
        case rel => exact ⟨i + 1, A, P * 2 % 256, by omega, by go_num, rfl, by simp, hA2, hP2, by omega, trivial⟩
        case measure => simp [intOf]; omega
      · rw [hm] at HBm
        go_wp2_with fail
        refine (HBm _).mono ?_
        rintro e w9 ⟨rfl, rfl⟩
        clear HBm
        go_wp2_with fail
        refine (HBv _).mono ?_
        rintro e w9 ⟨rfl, rfl⟩
        clear HBv
        cases hv : v.getLsbD i
        · have hA2 : Hid (A = wsum G (i + 1)) := Lib.hid (by rw [hst.out, hm, hv]; rfl)
          clear hst hltH
          go_wp2
          go_roundw
          case rel => exact ⟨i + 1, A, P * 2 % 256, by omega, by go_num, rfl, by simp, hA2, hP2, by omega, trivial⟩
          case measure => simp [intOf]; omega
        · have hA2 : Hid (A + P = wsum G (i + 1)) := Lib.hid (by rw [hst.out, hm, hv]; rfl)
          have hl2 : A + P < 256 := by rw [hA2.out]; exact hltH.out
          clear hst hltH
          go_wp2
          go_roundw
          case rel => exact ⟨i + 1, A + P, P * 2 % 256, by omega, by go_num, by go_num, by simp, hA2, hP2, by omega, trivial⟩
          case measure => simp [intOf]; omega
    · have d1 : decide ((i : Int) < 8) = false := decide_eq_false (by omega)
      have hAm : (A : Int) = MV.toNat := by rw [hbsum.out, hA.out, show i = 8 by omega]
      have hq : ((MV.toNat : Int) == (A : Int)) = true := by rw [hAm]; simp
      have hq5 : ((O5.toNat : Int) == (o.toNat : Int) % 16) = true := by rw [hol.out]; simp
      have hq6 : ((O5.toNat : Int) == (o.toNat : Int).tmod 16) = true := by rw [Int.tmod_eq_emod_of_nonneg (by omega)]; exact hq5
      have hAm2 : MV.toNat = A := by omega
      have hO2 : O5.toNat = o.toNat % 16 := by have := hol.out; omega
      clear hbsum hol hGi hA hP HB
      go_wp2_with fail
      refine (HK _).mono ?_
      rintro e w9 ⟨rfl, hb9⟩
      have hB9 := hB8.trans (hb9.mono hB8.size)
      clear HK x0 x1 x2 k0 k1 k2
      go_wp2
      go_ret
      exact ⟨rfl, hB9⟩
set_option maxHeartbeats 4000000 in
set_option maxRecDepth 100000 in
theorem rows11_no_off (HM : MemberT) (HR : RowT) (HK : Knows11) (m v o : BitVec 8) (k : Int) (hb : belB k = false) (ho : o.toNat % 16 = 0) (w : World) :
    Calls Tryz.prog 3 #[rwv ⟨m, v, o⟩, .int .i64 k] w fun e w' => e = .returned (.bool true) ∧ Below w.heap.size w w' := by
  have H1 := fun w => trow_no HR hb w
  have H2 := fun w => rrow11_no hb w
  have H3 := fun w => HM m v o w
  have H4 := fun w => rmember11_any ⟨m, v, o⟩ w
  have H6 := fun w => trow_no HR (mem_off (m := m) (v := v) ho) w
  have HB := Lib.hid (fun (x : BitVec 8) j hj w => bit8_any x j hj w)
  have hx := heap_alloc_new w (.cells #[.int .u8 m.toNat, .int .u8 v.toNat, .int .u8 o.toNat] 25)
  have hbe := below_alloc1 w (.cells #[.int .u8 m.toNat, .int .u8 v.toNat, .int .u8 o.toNat] 25)
  have hbsum : Hid ((m &&& v).toNat = wsum (fun i => m.getLsbD i && v.getLsbD i) 8) := Lib.hid (by
    apply Nat.eq_of_testBit_eq
    intro j
    rw [wsum_bit]
    show (m &&& v).getLsbD j = _
    rw [BitVec.getLsbD_and]
    by_cases h : j < 8
    · simp [h]
    · rw [BitVec.getLsbD_of_ge m j (by omega)]; simp [h])
  have hol : Hid ((o.toNat : Int) % 16 = ((o &&& 15#8).toNat : Int)) := Lib.hid (low4 o).symm
  clear hbsum hol HB
  unfold rwv bvv at *
  try unfold rowZ11 at *
  try dsimp only at *
  generalize memB m v o = M at *
  clear hb HM HR
  go_enter Tryz.func3, Tryz.ntmps3
  go_upto_region 1 with (fail)
  generalize w.alloc _ = W at *
  go_wp2_with fail
  refine (H1 _).mono ?_
  rintro e w1 ⟨rfl, hb1⟩
  have hx1 := keep_blk hb1 hx
  have hB1 := hbe.trans (hb1.mono hbe.size)
  clear H1 hx hbe hb1
  go_upto_region 2 with (fail)
  have hy2 := heap_alloc_new w1 (.cells #[.int .u8 0, .int .u8 0, .int .u8 0] 25)
  have hx2 := keep_alloc (x := .cells #[.int .u8 0, .int .u8 0, .int .u8 0] 25) hx1
  have hB2 := hB1.trans ((below_alloc1 w1 (.cells #[.int .u8 0, .int .u8 0, .int .u8 0] 25)).mono hB1.size)
  clear hx1 hB1
  generalize hW2 : w1.alloc _ = w2 at *
  generalize w1.heap.size = yb at *
  clear hW2
  go_wp2_with fail
  refine (H2 _).mono ?_
  rintro e w3 ⟨rfl, hb3⟩
  have hx3 := keep_blk hb3 hx2
  have hy3 := keep_blk hb3 hy2
  have hB3 := hB2.trans (hb3.mono hB2.size)
  clear H2 hx2 hy2 hB2 hb3
  go_upto_region 3 with (fail)
  have hz4 := heap_alloc_new w3 (.cells #[.int .u8 0, .int .u8 0, .int .u8 0] 25)
  have hx4 := keep_alloc (x := .cells #[.int .u8 0, .int .u8 0, .int .u8 0] 25) hx3
  have hy4 := keep_alloc (x := .cells #[.int .u8 0, .int .u8 0, .int .u8 0] 25) hy3
  have hB4 := hB3.trans ((below_alloc1 w3 (.cells #[.int .u8 0, .int .u8 0, .int .u8 0] 25)).mono hB3.size)
  clear hx3 hy3 hB3
  generalize hW4 : w3.alloc _ = w4 at *
  generalize w3.heap.size = zb at *
  clear hW4
  obtain ⟨X0, X1, X2, -⟩ := box3 hx4 rfl
  obtain ⟨Y0, Y1, Y2, -⟩ := box3 hy4 rfl
  obtain ⟨Z0, Z1, Z2, -⟩ := box3 hz4 rfl
  refine wp_region_after (by kernel_rfl) (by kernel_rfl) ?_
  repeat (first | go_big_quiet_step ((first | (go_at_call 10; exact Calls.after_of (H4 _)) | (go_at_call_of 9 (Value.agg #[.int .u8 m.toNat, .int .u8 v.toNat, .int .u8 o.toNat]); exact Calls.after_of (H3 _)))))
  refine wpQuiet_nil ?_
  intro q
  have hx5 := q.same hx4
  have hB5 := hB4.trans (q.2.mono hB4.size)
  clear X0 X1 X2 Y0 Y1 Y2 Z0 Z1 Z2 hx4 hy4 hz4 H4  hB4
  generalize q.1 = w5 at *
  clear q
  obtain ⟨x0, x1, x2, -⟩ := now3 hx5 rfl
  go_wp2_with fail
  refine (H3 _).mono ?_
  rintro e w6 ⟨rfl, hb6⟩
  have hx6 := keep_blk hb6 hx5
  have hB6 := hB5.trans (hb6.mono hB5.size)
  clear H3 x0 x1 x2 hx5 hB5 hb6
  go_wp2_with fail
  refine (H6 _).mono ?_
  rintro e w7 ⟨rfl, hb7⟩
  have hx7 := keep_blk hb7 hx6
  have hB7 := hB6.trans (hb7.mono hB6.size)
  clear H6 hx6 hB6 hb7
  go_upto_region 6 with (fail)
  have hk8 := heap_alloc_new w7 (.cells #[.int .u8 0, .int .u8 0, .int .u8 0] 25)
  have hx8 := keep_alloc (x := .cells #[.int .u8 0, .int .u8 0, .int .u8 0] 25) hx7
  have hB8 := hB7.trans ((below_alloc1 w7 (.cells #[.int .u8 0, .int .u8 0, .int .u8 0] 25)).mono hB7.size)
  clear hx7 hB7
  generalize hW8 : w7.alloc _ = w8 at *
  generalize w7.heap.size = kb at *
  clear hW8
  obtain ⟨x0, x1, x2, -⟩ := now3 hx8 rfl
  obtain ⟨k0, k1, k2, -⟩ := now3 hk8 rfl
  have hr : ((o.toNat : Int) % 16 == 0) = true := by rw [beq_iff_eq]; omega
  have hr2 : ((o.toNat : Int).tmod 16 == 0) = true := by rw [Int.tmod_eq_emod_of_nonneg (by omega)]; exact hr
  go_wp2_with fail
  refine (HK _).mono ?_
  rintro e w9 ⟨rfl, hb9⟩
  have hB9 := hB8.trans (hb9.mono hB8.size)
  clear HK x0 x1 x2 k0 k1 k2
  go_wp2
  go_ret
  exact ⟨rfl, hB9⟩
theorem taggedRows_any (HM : MemberT) (HR : RowT) (HK : Knows11) (m v o : BitVec 8) (k : Int) (w : World) :
    Calls Tryz.prog 3 #[rwv ⟨m, v, o⟩, .int .i64 k] w fun e w' => e = .returned (.bool true) ∧ Below w.heap.size w w' := by
  by_cases ho : o.toNat % 16 = 0
  · cases hb : belB k
    · exact rows11_no_off HM HR HK m v o k hb ho w
    · exact rows11_yes_off HM HR HK m v o k hb ho w
  · cases hb : belB k
    · exact rows11_no_on HM HR HK m v o k hb ho w
    · exact rows11_yes_on HM HR HK m v o k hb ho w
end Go.Proofs.YtgajgjlldohekaaGreat
