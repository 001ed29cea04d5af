/- The statements of layer 10, over what the package answers: MultiTells. -/
import Derived.Test.YtmgggennbnbjkaaGxLaw10b
namespace Go.Proofs.Ytmgggennbnbjkaa
open Go.RowKit Go.Joins

set_option maxHeartbeats 8000000 in
set_option maxRecDepth 100000 in
theorem multiTells_any (HA : AllM) (HG : GrowM) (HP : PrimeM) (HI : WithinM) (HH : HoldsM) (i : Int) (A C : Value) (on may : List (BitVec 256)) (x y : Rw) (w : World) (hA : SetsAt w w.heap.size A on) (hC : SetsAt w w.heap.size C may) :
    Calls Try.prog 3 #[spv i A C, rwv x, rwv y] w fun e w' => e = .returned (.bool true) ∧ Below w.heap.size w w' := by
  have HK := fun w => knows10_any HA HG HP w
  have HR := fun w1 (hb : Below w.heap.size w w1) => rspec_any i A C on may w1 ((hA.below hb).more hb.size) ((hC.below hb).more hb.size)
  have HX := fun w1 (hb : Below w.heap.size w w1) => great10_any i A C on may w1 ((hA.below hb).more hb.size) ((hC.below hb).more hb.size)
  have HGr := fun w1 (hb : Below w.heap.size w w1) => HG i A C on may x w1 ((hA.below hb).more hb.size) ((hC.below hb).more hb.size)
  have HPr := fun w1 (hb : Below w.heap.size w w1) => HP i A C on may x w1 ((hA.below hb).more hb.size) ((hC.below hb).more hb.size)
  have HIn := fun w1 (hb : Below w.heap.size w w1) => HI i A C on may x w1 ((hA.below hb).more hb.size) ((hC.below hb).more hb.size)
  have HIr := fun (h8 : may.length ≤ 8) w1 (hb : Below w.heap.size w w1) => rin10_any i A C on may x w1 ((hA.below hb).more hb.size) ((hC.below hb).more hb.size) h8
  have HF := fun (n : Nat) (hn : i = n) (h8 : n ≤ 8) (h1 : on.length ≤ 8) (h2 : may.length ≤ 8) (hx : rowIn ⟨i, on, may⟩ x = true) w1 (hb : Below w.heap.size w w1) => (by
    subst hn
    exact rgrow10_any n A C on may x w1 ((hA.below hb).more hb.size) ((hC.below hb).more hb.size) h8 h1 h2 hx : Calls Try.prog 16 #[spv i A C, rwv x] w1 fun e w' => e = .returned (rwv (growR ⟨i, on, may⟩ x)) ∧ Below w1.heap.size w1 w')
  have HH1 := fun w => HH x y w
  have HH2 := fun w => rhold10_any x y w
  have hB := below_alloc3 w (spb i A C) (.cells #[bvv x.m, bvv x.v, bvv x.o] 28) (.cells #[bvv y.m, bvv y.v, bvv y.o] 28)
  have hs := heap_alloc3_a w (spb i A C) (.cells #[bvv x.m, bvv x.v, bvv x.o] 28) (.cells #[bvv y.m, bvv y.v, bvv y.o] 28)
  have hx := heap_alloc3_b w (spb i A C) (.cells #[bvv x.m, bvv x.v, bvv x.o] 28) (.cells #[bvv y.m, bvv y.v, bvv y.o] 28)
  have hy := heap_alloc3_c w (spb i A C) (.cells #[bvv x.m, bvv x.v, bvv x.o] 28) (.cells #[bvv y.m, bvv y.v, bvv y.o] 28)
  have hpn : Hid ((spB ⟨i, on, may⟩ && rowIn ⟨i, on, may⟩ x) = false → (spB ⟨i, on, may⟩ && primR ⟨i, on, may⟩ x) = false) := Lib.hid (fun h => by
    cases hp : primR ⟨i, on, may⟩ x
    · rw [Bool.and_false]
    · rw [prim_in hp, Bool.and_true] at h
      rw [h]; rfl)
  obtain ⟨A, ac, rfl, la, -⟩ := hA
  obtain ⟨C, cc, rfl, lc, -⟩ := hC
  obtain ⟨s0, s1, s2, -⟩ := now3 hs rfl
  have HX1 := HX _ hB
  unfold spv spb rwv at *
  unfold bvv at *
  clear HA HG HP HI HH HX
  go_enter Try.func3, Try.ntmps3
  go_wp2_with fail
  refine HX1.mono ?_
  rintro e w1 ⟨rfl, hb⟩
  have hB1 := hB.trans (hb.mono hB.size)
  have hs1 := keep_blk hb hs
  have hx1 := keep_blk hb hx
  have hy1 := keep_blk hb hy
  clear HX1 hB hb hs hx hy s0 s1 s2
  cases hg : (decide (20 < on.length) || decide (20 < may.length))
  case true =>
    clear HR HGr HPr HIn HIr HF HH1 HH2
    go_wp2_with fail
    refine (HK _).mono ?_
    rintro e w4 ⟨rfl, hb⟩
    go_wp2
    go_ret
    exact ⟨rfl, hB1.trans (hb.mono hB1.size)⟩
  case false =>
    obtain ⟨s0, s1, s2, -⟩ := now3 hs1 rfl
    obtain ⟨x0, x1, x2, -⟩ := now3 hx1 rfl
    have HG1 := HGr _ hB1
    clear HGr
    cases hr : spB ⟨i, on, may⟩
    · rw [hr, Bool.false_and, if_neg (by decide), if_neg (by decide)] at HG1
      have hpb := hpn.out (by rw [hr]; rfl)
      simp only [hr, Bool.false_and] at HIn
      simp only [show ((0 : BitVec 8).toNat : Int) = 0 from rfl] at HG1
      clear hpn
      go_wp2_with fail
      refine HG1.mono ?_
      rintro e w2 ⟨rfl, hb⟩
      have hA := hb.trans ((below_alloc1 w2 (.cells #[.int .u8 0, .int .u8 0, .int .u8 0] 28)).mono hb.size)
      have hz := heap_alloc_new w2 (.cells #[.int .u8 0, .int .u8 0, .int .u8 0] 28)
      have hB2 := hB1.trans (hA.mono hB1.size)
      have hs2 := keep_blk hA hs1
      have hx2 := keep_blk hA hx1
      have hy2 := keep_blk hA hy1
      have HR2 := HR _ hB2
      clear HG1 HR hb hA hB1 hs1 hx1 hy1 s0 s1 s2 x0 x1 x2
      obtain ⟨s0, s1, s2, -⟩ := now3 hs2 rfl
      obtain ⟨x0, x1, x2, -⟩ := now3 hx2 rfl
      rw [hr] at HR2
      go_wp2_with fail
      refine HR2.mono ?_
      rintro e w3 ⟨rfl, hb⟩
      have hB3 := hB2.trans (hb.mono hB2.size)
      have hs3 := keep_blk hb hs2
      have hx3 := keep_blk hb hx2
      have hy3 := keep_blk hb hy2
      have hz3 := keep_blk hb hz
      clear HR2 hb hB2 hs2 hx2 hy2 hz s0 s1 s2 x0 x1 x2
      obtain ⟨s0, s1, s2, -⟩ := now3 hs3 rfl
      obtain ⟨x0, x1, x2, -⟩ := now3 hx3 rfl
      have hB4 := hB3
      have hs4 := hs3
      have hx4 := hx3
      have hy4 := hy3
      have hz4 := hz3
      clear hB3 hs3 hx3 hy3 hz3 s0 s1 s2 x0 x1 x2 HIr
      go_upto_region 5 with (fail)
      obtain ⟨S0, S1, S2, -⟩ := box3 hs4 rfl
      obtain ⟨X0, X1, X2, -⟩ := box3 hx4 rfl
      obtain ⟨Y0, Y1, Y2, -⟩ := box3 hy4 rfl
      have HI4 := fun z : After w3 => HIn z.1 (hB4.trans (z.2.mono hB4.size))
      generalize rhB x y = rh at *
      clear HIn
      refine wp_region_after (by kernel_rfl) (by kernel_rfl) ?_
      repeat (first | go_big_quiet_step (first | (go_at_call 12; exact Calls.after_of (HI4 _)) | (go_at_call 13; exact Calls.after_of (HH1 _)) | (go_at_call 14; exact Calls.after_of (HH2 _))))
      refine wpQuiet_nil ?_
      intro z
      have hB5 := hB4.trans (z.2.mono hB4.size)
      have hs5 := z.same hs4
      have hx5 := z.same hx4
      have hz5 := z.same hz4
      clear S0 S1 S2 X0 X1 X2 Y0 Y1 Y2 HI4 HH1 HH2 hB4 hs4 hx4 hy4 hz4
      obtain ⟨s0, s1, s2, -⟩ := now3 hs5 rfl
      obtain ⟨x0, x1, x2, -⟩ := now3 hx5 rfl
      obtain ⟨z0, z1, z2, -⟩ := now3 hz5 rfl
      have HP5 := HPr _ hB5
      rw [hpb] at HP5
      clear HPr HF
      go_wp2_with fail
      refine HP5.mono ?_
      rintro e w6 ⟨rfl, hb⟩
      have hB6 := hB5.trans (hb.mono hB5.size)
      clear HP5 hb hB5 hs5 hx5 hz5 s0 s1 s2 x0 x1 x2 z0 z1 z2
      go_wp2_with fail
      refine (HK _).mono ?_
      rintro e w7 ⟨rfl, hb⟩
      go_wp2
      go_ret
      exact ⟨rfl, hB6.trans (hb.mono hB6.size)⟩
    · have hh := (headS_iff _).1 (Bool.and_eq_true_iff.1 (show (headS ⟨i, on, may⟩ && _) = true from hr)).1
      obtain ⟨⟨i0, i8⟩, ⟨l1, l4⟩, lm⟩ := hh
      simp only at i0 i8 l1 l4 lm
      have hm8 : may.length ≤ 8 := by omega
      clear lm l1
      cases hin : rowIn ⟨i, on, may⟩ x
      · rw [hr, hin, if_neg (by decide), if_neg (by decide)] at HG1
        have hpb := hpn.out (by rw [hr, hin]; rfl)
        simp only [hr, hin, Bool.and_false] at HIn
        simp only [show ((0 : BitVec 8).toNat : Int) = 0 from rfl] at HG1
        clear hpn
        go_wp2_with fail
        refine HG1.mono ?_
        rintro e w2 ⟨rfl, hb⟩
        have hA := hb.trans ((below_alloc1 w2 (.cells #[.int .u8 0, .int .u8 0, .int .u8 0] 28)).mono hb.size)
        have hz := heap_alloc_new w2 (.cells #[.int .u8 0, .int .u8 0, .int .u8 0] 28)
        have hB2 := hB1.trans (hA.mono hB1.size)
        have hs2 := keep_blk hA hs1
        have hx2 := keep_blk hA hx1
        have hy2 := keep_blk hA hy1
        have HR2 := HR _ hB2
        clear HG1 HR hb hA hB1 hs1 hx1 hy1 s0 s1 s2 x0 x1 x2
        obtain ⟨s0, s1, s2, -⟩ := now3 hs2 rfl
        obtain ⟨x0, x1, x2, -⟩ := now3 hx2 rfl
        rw [hr] at HR2
        go_wp2_with fail
        refine HR2.mono ?_
        rintro e w3 ⟨rfl, hb⟩
        have hB3 := hB2.trans (hb.mono hB2.size)
        have hs3 := keep_blk hb hs2
        have hx3 := keep_blk hb hx2
        have hy3 := keep_blk hb hy2
        have hz3 := keep_blk hb hz
        clear HR2 hb hB2 hs2 hx2 hy2 hz s0 s1 s2 x0 x1 x2
        obtain ⟨s0, s1, s2, -⟩ := now3 hs3 rfl
        obtain ⟨x0, x1, x2, -⟩ := now3 hx3 rfl
        have HI3 := HIr hm8 _ hB3
        rw [hin] at HI3
        go_wp2_with fail
        refine HI3.mono ?_
        rintro e w4 ⟨rfl, hb⟩
        have hB4 := hB3.trans (hb.mono hB3.size)
        have hs4 := keep_blk hb hs3
        have hx4 := keep_blk hb hx3
        have hy4 := keep_blk hb hy3
        have hz4 := keep_blk hb hz3
        clear HI3 hb hB3 hs3 hx3 hy3 hz3 s0 s1 s2 x0 x1 x2 HIr
        go_upto_region 5 with (fail)
        obtain ⟨S0, S1, S2, -⟩ := box3 hs4 rfl
        obtain ⟨X0, X1, X2, -⟩ := box3 hx4 rfl
        obtain ⟨Y0, Y1, Y2, -⟩ := box3 hy4 rfl
        have HI4 := fun z : After w4 => HIn z.1 (hB4.trans (z.2.mono hB4.size))
        generalize rhB x y = rh at *
        clear HIn
        refine wp_region_after (by kernel_rfl) (by kernel_rfl) ?_
        repeat (first | go_big_quiet_step (first | (go_at_call 12; exact Calls.after_of (HI4 _)) | (go_at_call 13; exact Calls.after_of (HH1 _)) | (go_at_call 14; exact Calls.after_of (HH2 _))))
        refine wpQuiet_nil ?_
        intro z
        have hB5 := hB4.trans (z.2.mono hB4.size)
        have hs5 := z.same hs4
        have hx5 := z.same hx4
        have hz5 := z.same hz4
        clear S0 S1 S2 X0 X1 X2 Y0 Y1 Y2 HI4 HH1 HH2 hB4 hs4 hx4 hy4 hz4
        obtain ⟨s0, s1, s2, -⟩ := now3 hs5 rfl
        obtain ⟨x0, x1, x2, -⟩ := now3 hx5 rfl
        obtain ⟨z0, z1, z2, -⟩ := now3 hz5 rfl
        have HP5 := HPr _ hB5
        rw [hpb] at HP5
        clear HPr HF
        go_wp2_with fail
        refine HP5.mono ?_
        rintro e w6 ⟨rfl, hb⟩
        have hB6 := hB5.trans (hb.mono hB5.size)
        clear HP5 hb hB5 hs5 hx5 hz5 s0 s1 s2 x0 x1 x2 z0 z1 z2
        go_wp2_with fail
        refine (HK _).mono ?_
        rintro e w7 ⟨rfl, hb⟩
        go_wp2
        go_ret
        exact ⟨rfl, hB6.trans (hb.mono hB6.size)⟩
      · rw [hr, hin, if_pos (by decide), if_pos (by decide)] at HG1
        simp only [hr, hin, Bool.and_true] at HIn
        clear hpn
        go_wp2_with fail
        refine HG1.mono ?_
        rintro e w2 ⟨rfl, hb⟩
        have hA := hb.trans ((below_alloc1 w2 (.cells #[.int .u8 (growR ⟨i, on, may⟩ x).m.toNat, .int .u8 (growR ⟨i, on, may⟩ x).v.toNat, .int .u8 (growR ⟨i, on, may⟩ x).o.toNat] 28)).mono hb.size)
        have hz := heap_alloc_new w2 (.cells #[.int .u8 (growR ⟨i, on, may⟩ x).m.toNat, .int .u8 (growR ⟨i, on, may⟩ x).v.toNat, .int .u8 (growR ⟨i, on, may⟩ x).o.toNat] 28)
        have hB2 := hB1.trans (hA.mono hB1.size)
        have hs2 := keep_blk hA hs1
        have hx2 := keep_blk hA hx1
        have hy2 := keep_blk hA hy1
        have HR2 := HR _ hB2
        clear HG1 HR hb hA hB1 hs1 hx1 hy1 s0 s1 s2 x0 x1 x2
        obtain ⟨s0, s1, s2, -⟩ := now3 hs2 rfl
        obtain ⟨x0, x1, x2, -⟩ := now3 hx2 rfl
        rw [hr] at HR2
        go_wp2_with fail
        refine HR2.mono ?_
        rintro e w3 ⟨rfl, hb⟩
        have hB3 := hB2.trans (hb.mono hB2.size)
        have hs3 := keep_blk hb hs2
        have hx3 := keep_blk hb hx2
        have hy3 := keep_blk hb hy2
        have hz3 := keep_blk hb hz
        clear HR2 hb hB2 hs2 hx2 hy2 hz s0 s1 s2 x0 x1 x2
        obtain ⟨s0, s1, s2, -⟩ := now3 hs3 rfl
        obtain ⟨x0, x1, x2, -⟩ := now3 hx3 rfl
        have HI3 := HIr hm8 _ hB3
        rw [hin] at HI3
        go_wp2_with fail
        refine HI3.mono ?_
        rintro e w4 ⟨rfl, hb⟩
        have hB4 := hB3.trans (hb.mono hB3.size)
        have hs4 := keep_blk hb hs3
        have hx4 := keep_blk hb hx3
        have hy4 := keep_blk hb hy3
        have hz4 := keep_blk hb hz3
        clear HI3 hb hB3 hs3 hx3 hy3 hz3 s0 s1 s2 x0 x1 x2 HIr
        go_upto_region 5 with (fail)
        obtain ⟨S0, S1, S2, -⟩ := box3 hs4 rfl
        obtain ⟨X0, X1, X2, -⟩ := box3 hx4 rfl
        obtain ⟨Y0, Y1, Y2, -⟩ := box3 hy4 rfl
        have HI4 := fun z : After w4 => HIn z.1 (hB4.trans (z.2.mono hB4.size))
        generalize rhB x y = rh at *
        clear HIn
        refine wp_region_after (by kernel_rfl) (by kernel_rfl) ?_
        repeat (first | go_big_quiet_step (first | (go_at_call 12; exact Calls.after_of (HI4 _)) | (go_at_call 13; exact Calls.after_of (HH1 _)) | (go_at_call 14; exact Calls.after_of (HH2 _))))
        refine wpQuiet_nil ?_
        intro z
        have hB5 := hB4.trans (z.2.mono hB4.size)
        have hs5 := z.same hs4
        have hx5 := z.same hx4
        have hz5 := z.same hz4
        clear S0 S1 S2 X0 X1 X2 Y0 Y1 Y2 HI4 HH1 HH2 hB4 hs4 hx4 hy4 hz4
        obtain ⟨s0, s1, s2, -⟩ := now3 hs5 rfl
        obtain ⟨x0, x1, x2, -⟩ := now3 hx5 rfl
        obtain ⟨Z0, Z1, Z2, -⟩ := box3 hz5 rfl
        obtain ⟨S0, S1, S2, -⟩ := box3 hs5 rfl
        obtain ⟨X0, X1, X2, -⟩ := box3 hx5 rfl
        have HF5 := fun z1 : After z.1 => HF i.toNat (by omega) (by omega) (by omega) (by omega) hin z1.1 (hB5.trans (z1.2.mono hB5.size))
        clear HPr HF s0 s1 s2 x0 x1 x2
        generalize growR ⟨i, on, may⟩ x = gr at *
        generalize z.1 = w5 at *
        go_upto_region 9 with (fail)
        refine wp_region_after (by kernel_rfl) (by kernel_rfl) ?_
        repeat (first | go_big_quiet_step (first | (go_at_call 16; exact Calls.after_of (HF5 _)) | (go_at_call 8; exact Calls.after_of (HK _))))
        refine wpQuiet_nil ?_
        intro z6
        clear Z0 Z1 Z2 S0 S1 S2 X0 X1 X2 HF5
        go_wp2
        go_ret
        exact ⟨rfl, hB5.trans (z6.2.mono hB5.size)⟩
end Go.Proofs.Ytmgggennbnbjkaa
