/- The document's own Prime of layer 9. -/
import Derived.Test.YtnddepijbbchiaaRgp09
namespace Go.Proofs.Ytnddepijbbchiaa
open Go.RowKit Go.Joins

theorem primB_no {S : BitVec 256} {n : Int} {m v : BitVec 8} (h : inB S n m v = false) : primB S n m v = false := by unfold primB; rw [h]; rfl
theorem primB_hit {S : BitVec 256} {n : Nat} {m v : BitVec 8} {i : Nat} (hi : i < n) (hm : m.getLsbD i = true) (h : inB S n (drM m i) (drM v i) = true) : primB S n m v = false := by
  rw [Bool.eq_false_iff]
  intro hp
  have := ((primB_iff S n m v).1 hp).2 i (by omega) hm
  rw [h] at this; cases this
theorem primB_end {S : BitVec 256} {n : Nat} {m v : BitVec 8} (h0 : inB S n m v = true) (h : ∀ i, i < n → m.getLsbD i = true → inB S n (drM m i) (drM v i) = false) : primB S n m v = true :=
  (primB_iff S n m v).2 ⟨h0, fun i hi => h i (by omega)⟩
set_option maxHeartbeats 2000000 in
set_option maxRecDepth 100000 in
theorem rprime9_any (m v : BitVec 8) (S : BitVec 256) (n : Int) (w : World) :
    Calls Try.prog 20 #[cv m v, sv S, .int .i64 n] w fun e w' => e = .returned (.bool (primB S n m v)) ∧ Below w.heap.size w w' := by
  have HW := fun m v w => rwithin9_any m v S n w
  have hB := below_alloc2 w (cb m v) (.cells (sa S) 24)
  have hb0 := heap_alloc2_old w (cb m v) (.cells (sa S) 24)
  have hb1 := heap_alloc2_new w (cb m v) (.cells (sa S) 24)
  have HW0 := fun w => HW m v w
  cases hin : inB S n m v
  · rw [hin] at HW0
    have hR := Lib.hid (primB_no hin)
    clear hin HW
    obtain ⟨a0, a1, -⟩ := now2 hb0 rfl
    obtain ⟨s0, s1, s2, s3, -⟩ := now4 hb1 rfl
    unfold sv cv cb bvv at *
    unfold sa at hB hb0 hb1 s0 s1 s2 s3 a0 a1
    unfold wv at *
    go_enter Try.func20, Try.ntmps20
    go_wp2_with fail
    refine (HW0 _).mono ?_
    rintro e w1 ⟨rfl, hb⟩
    have hB1 := hB.trans (hb.mono hB.size)
    clear HW0 hB hb hb0 hb1 a0 a1 s0 s1 s2 s3
    go_wp2
    go_ret
    exact ⟨by rw [hR.out]; rfl, hB1⟩
  · rw [hin] at HW0
    have hr : rightB m v n = true := by
      unfold inB at hin
      rw [Bool.and_eq_true] at hin
      exact hin.1
    obtain ⟨h0, h8, -, hvm⟩ := (rightB_iff m v n).1 hr
    obtain ⟨k, rfl⟩ : ∃ k : Nat, n = k := ⟨n.toNat, by omega⟩
    have hn : k ≤ 8 := by omega
    clear h0 h8 hr
    have HL := fun w => lits_any m v w
    have HO := fun (i : Nat) (hi : i < 8) w => rwithout9_any m v i hi w
    rw [hvm] at HO
    have hhit := Lib.hid (fun (i : Nat) (hi : i < k) (hm : m.getLsbD i = true) (h : inB S k (drM m i) (drM v i) = true) => primB_hit hi hm h)
    have hend := Lib.hid (primB_end hin)
    clear hin hvm
    generalize primB S k m v = R at *
    obtain ⟨a0, a1, -⟩ := now2 hb0 rfl
    obtain ⟨s0, s1, s2, s3, -⟩ := now4 hb1 rfl
    unfold sv cv cb bvv at *
    unfold sa at hB hb0 hb1 s0 s1 s2 s3 a0 a1
    unfold wv at *
    go_enter Try.func20, Try.ntmps20
    go_wp2_with fail
    refine (HW0 _).mono ?_
    rintro e w1 ⟨rfl, hb⟩
    have hB1 := hB.trans (hb.mono hB.size)
    have hc1 := keep_blk hb hb0
    have hs1 := keep_blk hb hb1
    clear HW0 hB hb hb0 hb1 a0 a1 s0 s1 s2 s3
    obtain ⟨a0, a1, -⟩ := now2 hc1 rfl
    go_wp2_with fail
    refine (HL _).mono ?_
    rintro e w2 ⟨g, cap, rfl, hg, hla, hb⟩
    have hB2 := hB1.trans (hb.mono hB1.size)
    have hc2 := keep_blk hb hc1
    have hs2 := keep_blk hb hs1
    clear HL hb hc1 hs1 hB1 a0 a1 hg
    go_wp2
    go_loopw [8] (fun t wr => ∃ j : Nat, j ≤ k ∧ t = .int .i64 j ∧ Hid (∀ i, i < j → m.getLsbD i = true → inB S k (drM m i) (drM v i) = false) ∧ Below w2.heap.size w2 wr) (fun t _ => k - (intOf t).toNat)
    case atStart => exact ⟨0, by omega, rfl, Lib.hid (fun i hi => absurd hi (Nat.not_lt_zero _)), Below.refl _ _⟩
    case round =>
      obtain ⟨j, hj, rfl, hH, hb⟩ := hrel
      by_cases hlt : j < k
      · have hcr := keep_blk hb hc2
        have hsr := keep_blk hb hs2
        have hlr := hla.keep hb
        have hcell := hlr.2 j (by omega)
        have hBr := hB2.trans (hb.mono hB2.size)
        have j0 : ¬ (j : Int) < 0 := by omega
        have j8 : (j : Int) < 8 := by omega
        have HOj := fun w => HO j (by omega) w
        have HWj := fun w => HW (drM m j) (drM v j) w
        clear hc2 hs2 hla HO HW hlr
        cases hm : m.getLsbD j
        · rw [lit_two.2 hm] at hcell
          have hH2 : Hid (∀ i, i < j + 1 → m.getLsbD i = true → inB S k (drM m i) (drM v i) = false) := Lib.hid (fun i hi h => by
            by_cases e : i = j
            · subst e; rw [hm] at h; cases h
            · exact hH.out i (by omega) h)
          clear hm hH HOj HWj hhit hend
          go_upto_region 7 with (fail)
          have C0 := fun x : After wr => After.cell x hcell
          clear hcell
          refine wp_region_after (by kernel_rfl) (by kernel_rfl) ?_
          repeat (first | go_big_quiet_step (fail))
          refine wpQuiet_nil ?_
          intro x
          have hbx := hb.trans (x.2.mono hb.size)
          clear C0
          go_wp2
          go_roundw
          case rel => exact ⟨j + 1, by omega, by go_num, hH2, hbx⟩
          case measure => simp [intOf]; omega
        · have hne : (((lit m v j : Nat) : Int) != 2) = true := by
            rw [bne_iff_ne]; intro e
            have : lit m v j = 2 := by exact_mod_cast e
            rw [lit_two.1 this] at hm; cases hm
          generalize lit m v j = q at *
          have hx := Lib.hid (hhit.out j hlt hm)
          have hH2 : Hid (inB S k (drM m j) (drM v j) = false → ∀ i, i < j + 1 → m.getLsbD i = true → inB S k (drM m i) (drM v i) = false) := Lib.hid (fun hh i hi h => by
            by_cases e : i = j
            · subst e; exact hh
            · exact hH.out i (by omega) h)
          clear hm hH hhit
          generalize inB S k (drM m j) (drM v j) = r at *
          go_upto_region 7 with (fail)
          have C0 := fun x : After wr => After.cell x hcell
          obtain ⟨A0, A1, -⟩ := box2 hcr rfl
          obtain ⟨S0, S1, S2, S3, -⟩ := box4 hsr rfl
          clear hcell
          refine wp_region_after (by kernel_rfl) (by kernel_rfl) ?_
          repeat (first | go_big_quiet_step (first | (go_at_call 44; exact Calls.after_of (HOj _)) | (go_at_call 42; exact Calls.after_of (HWj _))))
          refine wpQuiet_nil ?_
          intro x
          have hbx := hb.trans (x.2.mono hb.size)
          have hBx := hBr.trans (x.2.mono hBr.size)
          clear C0 A0 A1 S0 S1 S2 S3 HOj HWj
          cases r
          · have hH3 := Lib.hid (hH2.out rfl)
            clear hH2 hx
            go_wp2
            go_roundw
            case rel => exact ⟨j + 1, by omega, by go_num, hH3, hbx⟩
            case measure => simp [intOf]; omega
          · have hx2 := Lib.hid (hx.out rfl)
            clear hH2 hx hend
            go_wp2
            go_ret
            exact ⟨by rw [hx2.out]; rfl, hBx⟩
      · have hR := Lib.hid (hend.out (fun i hi => hH.out i (by omega)))
        have hBr := hB2.trans (hb.mono hB2.size)
        clear hend hhit hH HO HW hla hc2 hs2
        go_wp2
        go_ret
        exact ⟨by rw [hR.out]; rfl, hBr⟩
end Go.Proofs.Ytnddepijbbchiaa
