/- The statements of layer 10, over what the package answers: MultiHolds. -/
import Derived.Test.YtmgggennbnbjkaaGreatG41
import Derived.Test.YtmgggennbnbjkaaGreatG18
namespace Go.Proofs.YtmgggennbnbjkaaGreat
open Go.RowKit Go.Joins

theorem any_stepR (p : Rw → Bool) {l : List Rw} {k : Nat} {x : Rw} (h : l[k]? = some x) : (l.take (k + 1)).any p = ((l.take k).any p || p x) := by
  rw [List.take_add_one, h, List.any_append]
  simp
set_option maxHeartbeats 16000000 in
set_option maxRecDepth 100000 in
theorem multiHolds_any (HA : AllM) (HG : GrowM) (HP : PrimeM) (i : Int) (A C : Value) (on may : List (BitVec 256)) (x : Rw) (w : World) (hA : SetsAt w w.heap.size A on) (hC : SetsAt w w.heap.size C may) :
    Calls Tryz.prog 3 #[spv i A C, rwv x] w fun e w' => e = .returned (.bool true) ∧ Below w.heap.size w w' := by
  have HK := fun w => knows10_any HA HG HP w
  have HX := fun w1 (hb : Below w.heap.size w w1) => great10_any i A C on may w1 ((hA.below hb).more hb.size) ((hC.below hb).more hb.size)
  have HR := fun w1 (hb : Below w.heap.size w w1) => rspec_any i A C on may w1 ((hA.below hb).more hb.size) ((hC.below hb).more hb.size)
  have HPr := fun x w1 (hb : Below w.heap.size w w1) => HP i A C on may x w1 ((hA.below hb).more hb.size) ((hC.below hb).more hb.size)
  have HAl := fun w1 (hb : Below w.heap.size w w1) => HA i A C on may w1 ((hA.below hb).more hb.size) ((hC.below hb).more hb.size)
  have HIr := fun (h8 : may.length ≤ 8) x w1 (hb : Below w.heap.size w w1) => rin10_any i A C on may x w1 ((hA.below hb).more hb.size) ((hC.below hb).more hb.size) h8
  have HCo := fun rs L w1 (hb : Below w.heap.size w w1) (hL : RwsAt w1 w1.heap.size L rs) => scovers_any i A C L on may rs w1 ((hA.below hb).more hb.size) ((hC.below hb).more hb.size) hL
  have HH := fun a b w => rhold10_any a b w
  have hB := below_alloc2 w (spb i A C) (.cells #[bvv x.m, bvv x.v, bvv x.o] 28)
  have hs := heap_alloc2_old w (spb i A C) (.cells #[bvv x.m, bvv x.v, bvv x.o] 28)
  have hx := heap_alloc2_new w (spb i A C) (.cells #[bvv x.m, bvv x.v, bvv x.o] 28)
  obtain ⟨A, ac, rfl, la, -⟩ := hA
  obtain ⟨C, cc, rfl, lc, -⟩ := hC
  obtain ⟨s0, s1, s2, -⟩ := now3 hs rfl
  have HX1 := HX _ hB
  unfold spv spb rwv at *
  unfold bvv at *
  clear HA HG HP HX
  go_enter Tryz.func3, Tryz.ntmps3
  go_wp2_with fail
  refine HX1.mono ?_
  rintro e w1 ⟨rfl, hb⟩
  have hB1 := hB.trans (hb.mono hB.size)
  have hs1 := keep_blk hb hs
  have hx1 := keep_blk hb hx
  clear HX1 hB hb hs hx s0 s1 s2
  obtain ⟨s0, s1, s2, -⟩ := now3 hs1 rfl
  cases hg : (decide (20 < on.length) || decide (20 < may.length))
  case true =>
    clear HR HPr HAl HH HIr HCo
    go_wp2_with fail
    refine (HK _).mono ?_
    rintro e w4 ⟨rfl, hb⟩
    go_wp2
    go_ret
    exact ⟨rfl, hB1.trans (hb.mono hB1.size)⟩
  case false =>
    have HR1 := HR _ hB1
    clear HR
    go_wp2_with fail
    refine HR1.mono ?_
    rintro e w2 ⟨rfl, hb⟩
    have hB2 := hB1.trans (hb.mono hB1.size)
    have hs2 := keep_blk hb hs1
    have hx2 := keep_blk hb hx1
    clear HR1 hB1 hb hs1 hx1 s0 s1 s2
    obtain ⟨s0, s1, s2, -⟩ := now3 hs2 rfl
    cases hr : spB ⟨i, on, may⟩
    case false =>
      clear HPr HAl HH HIr HCo
      go_wp2_with fail
      refine (HK _).mono ?_
      rintro e w4 ⟨rfl, hb⟩
      go_wp2
      go_ret
      exact ⟨rfl, hB2.trans (hb.mono hB2.size)⟩
    case true =>
      by_cases h5 : 5 < i
      · have hd : decide (5 < i) = true := decide_eq_true h5
        clear HPr HAl HH HIr HCo
        go_wp2_with fail
        refine (HK _).mono ?_
        rintro e w4 ⟨rfl, hb⟩
        go_wp2
        go_ret
        exact ⟨rfl, hB2.trans (hb.mono hB2.size)⟩
      · have hd : decide (5 < i) = false := decide_eq_false h5
        have hh := (headS_iff _).1 (Bool.and_eq_true_iff.1 (show (headS ⟨i, on, may⟩ && _) = true from hr)).1
        obtain ⟨-, ⟨-, l4⟩, lm⟩ := hh
        simp only at l4 lm
        have HIr2 := HIr (by omega)
        have h8 : on.length ≤ 8 := by omega
        have hcov := primes_cover hr
        have hCo2 : (spB ⟨i, on, may⟩ && coversB ⟨i, on, may⟩ (rwL (primR ⟨i, on, may⟩))) = true := by rw [hr, hcov]; rfl
        have HCo2 := fun L w1 hb hL => HCo (rwL (primR ⟨i, on, may⟩)) L w1 hb hL
        rw [hCo2] at HCo2
        have HA2 := HAl _ hB2
        rw [hr, if_pos rfl, if_pos rfl] at HA2
        have hpr := Lib.hid (fun (k : Nat) (y : Rw) (hy : (rwL (primR ⟨i, on, may⟩))[k]? = some y) => rwL_mem.1 (List.mem_of_getElem? hy))
        have hdis : Hid (∀ (k j : Nat) (y z : Rw), (rwL (primR ⟨i, on, may⟩))[k]? = some y → (rwL (primR ⟨i, on, may⟩))[j]? = some z → k ≠ j → rhB y z = false) := Lib.hid (fun k j y z hy hz hne => by
          rw [Bool.eq_false_iff]
          intro h
          have e := prim_max (rwL_mem.1 (List.mem_of_getElem? hz)) (prim_in (rwL_mem.1 (List.mem_of_getElem? hy))) h
          subst e
          exact hne (rwL_inj hy hz))
        have habo : Hid ((rwL (primR ⟨i, on, may⟩)).any (fun y => rhB y x) = false → rowIn ⟨i, on, may⟩ x = false) := Lib.hid (fun h => by
          rw [Bool.eq_false_iff]
          intro hin
          obtain ⟨y, hy, hyx⟩ := row_above ⟨i, on, may⟩ h8 _ x (Nat.lt_succ_self _) hin
          rw [List.any_eq_false] at h
          exact h y (rwL_mem.2 hy) hyx)
        have hpin := Lib.hid (fun (y : Rw) (h : primR ⟨i, on, may⟩ y = true) => (⟨prim_in h, by rw [hr, h]; rfl⟩ : rowIn ⟨i, on, may⟩ y = true ∧ (spB ⟨i, on, may⟩ && primR ⟨i, on, may⟩ y) = true))
        have hlen := rwL_len (primR ⟨i, on, may⟩)
        generalize rwL (primR ⟨i, on, may⟩) = L at *
        clear HAl HIr HCo hcov hCo2 l4 lm h8 h5 hg
        go_wp2_with fail
        refine HA2.mono ?_
        rintro e w3 ⟨v, rfl, hL, hb⟩
        have hB3 := hB2.trans (hb.mono hB2.size)
        have hs3 := keep_blk hb hs2
        have hx3 := keep_blk hb hx2
        have hLk := Lib.hid hL
        obtain ⟨A3, c3, rfl, -, hc⟩ := hL
        clear HA2 hb hB2 hs2 hx2 s0 s1 s2 hd hr
        go_wp2
        go_loopw [7, 8] (fun s t wr => ∃ (k : Nat) (h : Bool), k ≤ L.length ∧ t = .int .i64 k ∧ s = .bool h ∧ Hid (h = (L.take k).any fun y => rhB y x) ∧ Below w3.heap.size w3 wr) (fun _ t _ => L.length - (intOf t).toNat)
        case atStart => exact ⟨0, false, by omega, rfl, rfl, Lib.hid (by simp), Below.refl _ _⟩
        case round =>
          obtain ⟨k, h, hk, rfl, rfl, hh, hb⟩ := hrel
          have hBr := hB3.trans (hb.mono hB3.size)
          by_cases hkl : k < L.length
          · obtain ⟨bl, off, rfl, hBl, hcl⟩ := hc (by omega)
            obtain ⟨y, hy⟩ : ∃ y, L[k]? = some y := ⟨_, List.getElem?_eq_getElem hkl⟩
            obtain ⟨y0, y1, y2⟩ := hcl k y hy
            have hyp := hpin.out y (hpr.out k y hy)
            have HIy := fun w1 hb => HIr2 y w1 hb
            rw [hyp.1] at HIy
            have HPy := fun w1 hb => HPr y w1 hb
            rw [hyp.2] at HPy
            have HHx := fun w => HH y x w
            have hst := Lib.hid (any_stepR (fun y => rhB y x) hy)
            have hdk := Lib.hid (fun (j : Nat) (z : Rw) (hz : L[j]? = some z) (hne : k ≠ j) => (⟨hdis.out k j y z hy hz hne, hdis.out j k z y hz hy (fun e => hne e.symm)⟩ : rhB y z = false ∧ rhB z y = false))
            have k0 : (0 : Int) ≤ (k : Int) := by omega
            have k1 : (k : Int) < (L.length : Int) := by omega
            clear hy hyp hdis habo hpin hpr HPr HIr2 HCo2
            go_upto_region 8 with (fail)
            have D0 := fun z : After wr => After.cell z ((hb.cell (p := ⟨bl, off + k * 3, none⟩) hBl).trans y0)
            have D1 := fun z : After wr => After.cell z ((hb.cell (p := ⟨bl, off + k * 3 + 1, none⟩) hBl).trans y1)
            have D2 := fun z : After wr => After.cell z ((hb.cell (p := ⟨bl, off + k * 3 + 2, none⟩) hBl).trans y2)
            unfold bvv at D0 D1 D2
            obtain ⟨S0, S1, S2, -⟩ := box3 (keep_blk hb hs3) rfl
            have HI5 := fun z : After wr => HIy z.1 (hBr.trans (z.2.mono hBr.size))
            have HP5 := fun z : After wr => HPy z.1 (hBr.trans (z.2.mono hBr.size))
            clear HIy HPy
            refine wp_region_after (by kernel_rfl) (by kernel_rfl) ?_
            repeat (first | go_big_quiet_step (first | (go_at_call 8; exact Calls.after_of (HI5 _)) | (go_at_call 9; exact Calls.after_of (HP5 _))))
            refine wpQuiet_nil ?_
            intro z8
            have hb8 := hb.trans (z8.2.mono hb.size)
            clear D0 D1 D2 S0 S1 S2 HI5 HP5
            generalize z8.1 = w8 at *
            clear z8 hb hBr
            go_wp2
            go_loopw [9] (fun t wj => ∃ j : Nat, j ≤ k ∧ t = .int .i64 j ∧ Below w3.heap.size w3 wj) (fun t _ => k - (intOf t).toNat)
            case atStart => exact ⟨0, by omega, rfl, hb8⟩
            case round =>
              clear hb8
              obtain ⟨j, hj, rfl, hb⟩ := hrel
              by_cases hjk : j < k
              · obtain ⟨q, hq⟩ : ∃ q, L[j]? = some q := ⟨_, List.getElem?_eq_getElem (by omega)⟩
                obtain ⟨q0, q1, q2⟩ := hcl j q hq
                have hd2 := hdk.out j q hq (by omega)
                have H1 := fun w => HH y q w
                have H2 := fun w => HH q y w
                rw [hd2.1] at H1
                rw [hd2.2] at H2
                have D0 := fun z : After wr => After.cell z ((hb.cell (p := ⟨bl, off + k * 3, none⟩) hBl).trans y0)
                have D1 := fun z : After wr => After.cell z ((hb.cell (p := ⟨bl, off + k * 3 + 1, none⟩) hBl).trans y1)
                have D2 := fun z : After wr => After.cell z ((hb.cell (p := ⟨bl, off + k * 3 + 2, none⟩) hBl).trans y2)
                have E0 := fun z : After wr => After.cell z ((hb.cell (p := ⟨bl, off + j * 3, none⟩) hBl).trans q0)
                have E1 := fun z : After wr => After.cell z ((hb.cell (p := ⟨bl, off + j * 3 + 1, none⟩) hBl).trans q1)
                have E2 := fun z : After wr => After.cell z ((hb.cell (p := ⟨bl, off + j * 3 + 2, none⟩) hBl).trans q2)
                unfold bvv at D0 D1 D2 E0 E1 E2
                have j0 : (0 : Int) ≤ (j : Int) := by omega
                have j1 : (j : Int) < (L.length : Int) := by omega
                clear hq hd2 hdk HH HHx hcl hc q0 q1 q2 y0 y1 y2 hst HK
                go_upto_region 13 with (fail)
                refine wp_region_after (by kernel_rfl) (by kernel_rfl) ?_
                repeat (first | go_big_quiet_step (first | (go_at_call_of 10 ([Value.agg #[.int .u8 y.m.toNat, .int .u8 y.v.toNat, .int .u8 y.o.toNat], Value.agg #[.int .u8 q.m.toNat, .int .u8 q.v.toNat, .int .u8 q.o.toNat]] : List Value); exact Calls.after_of (H1 _)) | (go_at_call_of 10 ([Value.agg #[.int .u8 q.m.toNat, .int .u8 q.v.toNat, .int .u8 q.o.toNat], Value.agg #[.int .u8 y.m.toNat, .int .u8 y.v.toNat, .int .u8 y.o.toNat]] : List Value); exact Calls.after_of (H2 _))))
                refine wpQuiet_nil ?_
                intro z9
                have hb9 := hb.trans (z9.2.mono hb.size)
                clear D0 D1 D2 E0 E1 E2 H1 H2
                go_wp2
                go_roundw
                case rel => exact ⟨j + 1, by omega, by go_num, hb9⟩
                case measure => simp [intOf]; omega
              · have hjd : decide ((j : Int) < (k : Int)) = false := decide_eq_false (by omega)
                clear hdk HH hc hcl
                go_upto_region 15 with (fail)
                cases h
                · have D0 := fun z : After wr => After.cell z ((hb.cell (p := ⟨bl, off + k * 3, none⟩) hBl).trans y0)
                  have D1 := fun z : After wr => After.cell z ((hb.cell (p := ⟨bl, off + k * 3 + 1, none⟩) hBl).trans y1)
                  have D2 := fun z : After wr => After.cell z ((hb.cell (p := ⟨bl, off + k * 3 + 2, none⟩) hBl).trans y2)
                  unfold bvv at D0 D1 D2
                  obtain ⟨X0, X1, X2, -⟩ := box3 (keep_blk hb hx3) rfl
                  have hh2 : Hid (rhB y x = (L.take (k + 1)).any fun y => rhB y x) := Lib.hid (by rw [hst.out, ← hh.out, Bool.false_or])
                  generalize rhB y x = r at *
                  clear hh hst y0 y1 y2
                  refine wp_region_after_tail 9 (by kernel_rfl) (by kernel_rfl) ?_
                  simp only [List.take_succ_cons, List.take_zero, List.drop_succ_cons, List.drop_zero]
                  repeat (first | go_big_quiet_step ((go_at_call 10; exact Calls.after_of (HHx _))))
                  refine wpQuiet_nil ?_
                  intro z9
                  have hb9 := hb.trans (z9.2.mono hb.size)
                  clear D0 D1 D2 X0 X1 X2 HHx
                  go_wp2
                  go_roundw
                  case rel => exact ⟨k + 1, r, by omega, by go_num, rfl, hh2, hb9⟩
                  case measure => simp [intOf]; omega
                · have hh2 : Hid (true = (L.take (k + 1)).any fun y => rhB y x) := Lib.hid (by rw [hst.out, ← hh.out, Bool.true_or])
                  clear hh hst y0 y1 y2 HHx
                  refine wp_region_after_tail 9 (by kernel_rfl) (by kernel_rfl) ?_
                  simp only [List.take_succ_cons, List.take_zero, List.drop_succ_cons, List.drop_zero]
                  repeat (first | go_big_quiet_step (fail))
                  refine wpQuiet_nil ?_
                  intro z9
                  have hb9 := hb.trans (z9.2.mono hb.size)
                  go_wp2
                  go_roundw
                  case rel => exact ⟨k + 1, true, by omega, by go_num, rfl, hh2, hb9⟩
                  case measure => simp [intOf]; omega
          · have hkd : decide ((k : Int) < (L.length : Int)) = false := decide_eq_false (by omega)
            have hsr := keep_blk hb hs3
            have hxr := keep_blk hb hx3
            obtain ⟨s0, s1, s2, -⟩ := now3 hsr rfl
            obtain ⟨x0, x1, x2, -⟩ := now3 hxr rfl
            have hLr := (hLk.out.below hb).more hb.size
            have hany : Hid (h = L.any fun y => rhB y x) := Lib.hid (by have := hh.out; rwa [List.take_of_length_le (by omega)] at this)
            clear hc hdis hpin hpr HPr HH hh
            cases h
            · have HI2 := HIr2 x wr hBr
              rw [habo.out hany.out.symm] at HI2
              clear habo hany HIr2
              go_wp2_with fail
              refine HI2.mono ?_
              rintro e w5 ⟨rfl, hb5⟩
              have hB5 := hBr.trans (hb5.mono hBr.size)
              have hs5 := keep_blk hb5 hsr
              have HC5 := HCo2 _ w5 hB5 ((hLr.below hb5).more hb5.size)
              clear HI2 HCo2 hb5 hBr hsr hxr s0 s1 s2 x0 x1 x2
              obtain ⟨s0, s1, s2, -⟩ := now3 hs5 rfl
              go_wp2_with fail
              refine HC5.mono ?_
              rintro e w6 ⟨rfl, hb6⟩
              have hB6 := hB5.trans (hb6.mono hB5.size)
              clear HC5 hb6 hB5 hs5 s0 s1 s2
              go_wp2_with fail
              refine (HK _).mono ?_
              rintro e w7 ⟨rfl, hb7⟩
              go_wp2
              go_ret
              exact ⟨rfl, hB6.trans (hb7.mono hB6.size)⟩
            · have HC5 := HCo2 _ wr hBr hLr
              clear habo hany HIr2 HCo2 hxr x0 x1 x2
              go_wp2_with fail
              refine HC5.mono ?_
              rintro e w6 ⟨rfl, hb6⟩
              have hB6 := hBr.trans (hb6.mono hBr.size)
              clear HC5 hb6 hBr hsr s0 s1 s2
              go_wp2_with fail
              refine (HK _).mono ?_
              rintro e w7 ⟨rfl, hb7⟩
              go_wp2
              go_ret
              exact ⟨rfl, hB6.trans (hb7.mono hB6.size)⟩
end Go.Proofs.YtmgggennbnbjkaaGreat
