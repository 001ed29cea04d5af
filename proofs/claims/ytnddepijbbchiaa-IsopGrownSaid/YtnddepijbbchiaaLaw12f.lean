/- The statements of layer 12, walked over what the package answers: IsopGrown. -/
import Derived.Test.YtnddepijbbchiaaIsg12
import Derived.Test.YtnddepijbbchiaaRhp09
import Derived.Deep.RegionHeld3
namespace Go.Proofs.Ytnddepijbbchiaa
open Go.RowKit Go.Joins

set_option maxHeartbeats 4000000 in
set_option maxRecDepth 100000 in
theorem grown12_no (HG : GrownI) (HK : Knows12) (S M : BitVec 256) (n : Int) (hm : mayB S M n = false) (w : World) : Calls Try.prog 7 #[sv S, sv M, .int .i64 n] w fun e w' => e = .returned (.bool true) ∧ Below w.heap.size w w' := by
  have HM := fun w => may12_any S M n w
  rw [hm] at HM
  have C1 := fun w => grown_no HG hm w
  have hB := below_alloc2 w (.cells (sa S) 24) (.cells (sa M) 24)
  have hb0 := heap_alloc2_old w (.cells (sa S) 24) (.cells (sa M) 24)
  have hb1 := heap_alloc2_new w (.cells (sa S) 24) (.cells (sa M) 24)
  obtain ⟨s0, s1, s2, s3, -⟩ := now4 hb0 rfl
  obtain ⟨t0, t1, t2, t3, -⟩ := now4 hb1 rfl
  unfold sv sa at *
  unfold wv at *
  go_enter Try.func7, Try.ntmps7
  go_wp2_with fail
  refine (C1 _).mono ?_
  rintro e w1 ⟨A, c, rfl, hb⟩
  have hB1 := hB.trans (hb.mono hB.size)
  replace hb0 := keep_blk hb hb0
  replace hb1 := keep_blk hb hb1
  clear s0 s1 s2 s3 t0 t1 t2 t3 hB hb C1
  obtain ⟨s0, s1, s2, s3, -⟩ := now4 hb0 rfl
  obtain ⟨t0, t1, t2, t3, -⟩ := now4 hb1 rfl
  go_wp2_with fail
  refine (HM _).mono ?_
  rintro e w2 ⟨rfl, hb⟩
  have hB2 := hB1.trans (hb.mono hB1.size)
  clear s0 s1 s2 s3 t0 t1 t2 t3 hB1 hb HM hb0 hb1
  go_wp2_with fail
  refine (HK _).mono ?_
  rintro e w3 ⟨rfl, hb⟩
  go_wp2
  go_ret
  exact ⟨rfl, hB2.trans (hb.mono hB2.size)⟩
theorem cbs_hid {w : World} {B : Nat} {v : Value} {cs : List Cb} (h : CbsAt w B v cs) : ∃ A c, v = .slice A cs.length c ∧ cs.length ≤ 9223372036854775807 ∧ Hid (∀ (j : Nat) (y : Cb), cs[j]? = some y → ∃ b off, A = some ⟨b, off, none⟩ ∧ b < B ∧ w.cell? ⟨b, off + j * 2, none⟩ = some (bvv y.m) ∧ w.cell? ⟨b, off + j * 2 + 1, none⟩ = some (bvv y.v)) := by
  obtain ⟨A, c, rfl, hl, hc⟩ := h
  refine ⟨A, c, rfl, hl, Lib.hid fun j y hj => ?_⟩
  obtain ⟨b, off, e, hB, h⟩ := hc (by have := (List.getElem?_eq_some_iff.1 hj).1; omega)
  obtain ⟨y0, y1⟩ := h j y hj
  exact ⟨b, off, e, hB, y0, y1⟩
set_option maxHeartbeats 8000000 in
set_option maxRecDepth 100000 in
theorem grown12_yes (HG : GrownI) (HC : CoverI) (HK : Knows12) (S M : BitVec 256) (n : Nat) (hm : mayB S M n = true) (w : World) : Calls Try.prog 7 #[sv S, sv M, .int .i64 n] w fun e w' => e = .returned (.bool true) ∧ Below w.heap.size w w' := by
  have hn := (may_iso hm).n8
  have HM := fun w => may12_any S M n w
  rw [hm] at HM
  have C1 := fun w => grown_yes HG hm w
  have C2 := fun w => cover_yes HC hm w
  rw [Int.toNat_natCast] at C1 C2
  have W1 := fun w => refwithin_any S (ptsU n (grwL M n (isoS S M n)) (-1) (grwL M n (isoS S M n)).length) w
  have W2 := fun w => refwithin_any (ptsU n (grwL M n (isoS S M n)) (-1) (grwL M n (isoS S M n)).length) M w
  rw [decide_eq_true (grw_holds hm)] at W1
  rw [decide_eq_true (grw_within hm)] at W2
  have P1 := fun v w h => points12_any (grwL M n (isoS S M n)) n hn (-1) v w h
  have hpr := Lib.hid (fun k x hx => grw_prime hm (k := k) (x := x) hx)
  have honce := Lib.hid (fun i k x y hx hy hne => grw_once (M := M) (n := n) (L := isoS S M n) (i := i) (k := k) (x := x) (y := y) hx hy hne)
  have hin := Lib.hid (fun k c (hc : (isoS S M n)[k]? = some c) => iso_in hm (List.mem_of_getElem? hc))
  have hnew := Lib.hid (fun j c h1 h2 => grw_new (M := M) (n := n) (L := isoS S M n) (j := j) (c := c) h1 h2)
  have hold := Lib.hid (fun j c h1 h2 => grw_old (M := M) (n := n) (L := isoS S M n) (j := j) (c := c) h1 h2)
  have hat := Lib.hid (fun j k h1 h2 => grw_at (M := M) (n := n) (L := isoS S M n) (j := j) (k := k) h1 h2)
  have hle := Lib.hid (fun j h1 => grw_le (M := M) (n := n) (L := isoS S M n) (j := j) h1)
  have hk0 : Hid (grwK M n (isoS S M n) 0 = []) := Lib.hid rfl
  have hkn : Hid (grwK M n (isoS S M n) (isoS S M n).length = grwL M n (isoS S M n)) := Lib.hid rfl
  have HPm := Lib.hid (fun m v w => rprime9_any m v M n w)
  have HGw := Lib.hid (fun m v h w => rgrow9_any m v M n h w)
  generalize ptsU n (grwL M n (isoS S M n)) (-1) (grwL M n (isoS S M n)).length = U at *
  generalize grwL M n (isoS S M n) = G at *
  generalize hGK : grwK M n (isoS S M n) = K at *
  replace hGK := Lib.hid hGK
  generalize isoS S M n = L at *
  clear HC HG hm hn
  have hB := below_alloc2 w (.cells (sa S) 24) (.cells (sa M) 24)
  have hb0 := heap_alloc2_old w (.cells (sa S) 24) (.cells (sa M) 24)
  have hb1 := heap_alloc2_new w (.cells (sa S) 24) (.cells (sa M) 24)
  obtain ⟨s0, s1, s2, s3, -⟩ := now4 hb0 rfl
  obtain ⟨t0, t1, t2, t3, -⟩ := now4 hb1 rfl
  unfold sv sa at *
  unfold wv at *
  go_enter Try.func7, Try.ntmps7
  go_wp2_with fail
  refine (C1 _).mono ?_
  rintro e w1 ⟨v, rfl, hG, hb⟩
  have hB1 := hB.trans (hb.mono hB.size)
  replace hb0 := keep_blk hb hb0
  replace hb1 := keep_blk hb hb1
  clear s0 s1 s2 s3 t0 t1 t2 t3 hB hb C1
  obtain ⟨s0, s1, s2, s3, -⟩ := now4 hb0 rfl
  obtain ⟨t0, t1, t2, t3, -⟩ := now4 hb1 rfl
  go_wp2_with fail
  refine (HM _).mono ?_
  rintro e w2 ⟨rfl, hb⟩
  have hB2 := hB1.trans (hb.mono hB1.size)
  replace hb0 := keep_blk hb hb0
  replace hb1 := keep_blk hb hb1
  replace hG := (hG.below hb).more hb.size
  clear s0 s1 s2 s3 t0 t1 t2 t3 hB1 hb HM
  obtain ⟨s0, s1, s2, s3, -⟩ := now4 hb0 rfl
  obtain ⟨t0, t1, t2, t3, -⟩ := now4 hb1 rfl
  go_wp2_with fail
  refine (C2 _).mono ?_
  rintro e w3 ⟨u, rfl, hL, hb⟩
  have hB3 := hB2.trans (hb.mono hB2.size)
  replace hb0 := keep_blk hb hb0
  replace hb1 := keep_blk hb hb1
  replace hG := (hG.below hb).more hb.size
  clear s0 s1 s2 s3 t0 t1 t2 t3 hB2 hb C2
  have P1' := P1 v _ hG
  go_wp2_with fail
  refine P1'.mono ?_
  rintro e w4 ⟨rfl, hb⟩
  have hB4 := hB3.trans (hb.mono hB3.size)
  replace hb0 := keep_blk hb hb0
  replace hb1 := keep_blk hb hb1
  replace hG := (hG.below hb).more hb.size
  replace hL := (hL.below hb).more hb.size
  clear hB3 hb P1 P1'
  have hpu := heap_alloc_new w4 (.cells #[Value.int IntKind.u64 (wd U 0).toNat, Value.int IntKind.u64 (wd U 1).toNat, Value.int IntKind.u64 (wd U 2).toNat, Value.int IntKind.u64 (wd U 3).toNat] 24)
  have hA := below_alloc1 w4 (.cells #[Value.int IntKind.u64 (wd U 0).toNat, Value.int IntKind.u64 (wd U 1).toNat, Value.int IntKind.u64 (wd U 2).toNat, Value.int IntKind.u64 (wd U 3).toNat] 24)
  have hB5 := hB4.trans (hA.mono hB4.size)
  replace hb0 := keep_blk hA hb0
  replace hb1 := keep_blk hA hb1
  replace hG := (hG.below hA).more hA.size
  replace hL := (hL.below hA).more hA.size
  clear hA hB4
  go_upto_region 6 with (fail)
  generalize w4.alloc _ = w5 at *
  obtain ⟨s0, s1, s2, s3, -⟩ := now4 hb0 rfl
  obtain ⟨p0, p1, p2, p3, -⟩ := now4 hpu rfl
  go_wp2_with fail
  refine (W1 _).mono ?_
  rintro e w6 ⟨rfl, hb⟩
  have hB6 := hB5.trans (hb.mono hB5.size)
  replace hb1 := keep_blk hb hb1
  replace hpu := keep_blk hb hpu
  replace hG := (hG.below hb).more hb.size
  replace hL := (hL.below hb).more hb.size
  clear s0 s1 s2 s3 p0 p1 p2 p3 W1 hb hB5 hb0
  obtain ⟨t0, t1, t2, t3, -⟩ := now4 hb1 rfl
  obtain ⟨p0, p1, p2, p3, -⟩ := now4 hpu rfl
  go_wp2_with fail
  refine (W2 _).mono ?_
  rintro e w7 ⟨rfl, hb⟩
  have hB7 := hB6.trans (hb.mono hB6.size)
  replace hb1 := keep_blk hb hb1
  replace hG := (hG.below hb).more hb.size
  replace hL := (hL.below hb).more hb.size
  clear t0 t1 t2 t3 p0 p1 p2 p3 W2 hb hB6 hpu
  obtain ⟨AG, cG, rfl, hlG, hGc⟩ := cbs_hid hG
  obtain ⟨AL, cL, rfl, hlL, hLc⟩ := cbs_hid hL
  clear hG hL
  go_wp2
  go_loopw [12] (fun t wr => ∃ i : Nat, i ≤ G.length ∧ t = .int .i64 i ∧ Below w7.heap.size w7 wr) (fun t _ => G.length - (intOf t).toNat)
  case atStart => exact ⟨0, by omega, rfl, Below.refl _ _⟩
  case round =>
    obtain ⟨i, hi, rfl, hb⟩ := hrel
    have hB8 := hB7.trans (hb.mono hB7.size)
    have hbt := keep_blk hb hb1
    by_cases hlt : i < G.length
    · obtain ⟨y, hy⟩ : ∃ y, G[i]? = some y := ⟨_, List.getElem?_eq_getElem hlt⟩
      obtain ⟨bg, og, rfl, hbg, y0, y1⟩ := hGc.out i y hy
      have z0 := (hb.cell (p := ⟨bg, og + i * 2, none⟩) hbg).trans y0
      have z1 := (hb.cell (p := ⟨bg, og + i * 2 + 1, none⟩) hbg).trans y1
      have HP1 := fun w => HPm.out y.m y.v w
      rw [hpr.out i y hy] at HP1
      have hyH := Lib.hid hy
      have hd : decide ((i : Int) < (G.length : Int)) = true := decide_eq_true (by omega)
      unfold cv bvv at HP1
      unfold bvv at z0 z1
      clear y0 y1 hy
      go_upto_region 11 with (fail)
      obtain ⟨m0, m1, m2, m3, -⟩ := box4 hbt rfl
      have Z0 := fun X : After wr => After.cell X z0
      have Z1 := fun X : After wr => After.cell X z1
      refine wp_region_after (by kernel_rfl) (by kernel_rfl) ?_
      repeat (first | go_big_quiet_step ((go_at_call 20; exact Calls.after_of (HP1 _))))
      refine wpQuiet_nil ?_
      intro X
      have hbX := hb.trans (X.2.mono hb.size)
      replace z0 := After.cell X z0
      replace z1 := After.cell X z1
      clear Z0 Z1 m0 m1 m2 m3 HP1 hb hB8 hbt
      obtain ⟨wx, hx⟩ := X
      dsimp only at *
      clear hx
      go_wp2
      go_loopw [13] (fun t wj => ∃ k : Nat, k ≤ i ∧ t = .int .i64 k ∧ Below w7.heap.size w7 wj) (fun t _ => i - (intOf t).toNat)
      case atStart => exact ⟨0, by omega, rfl, hbX⟩
      case round =>
        clear hbX z0 z1
        obtain ⟨k, hk, rfl, hb⟩ := hrel
        by_cases hki : k < i
        · obtain ⟨x, hx⟩ : ∃ x, G[k]? = some x := ⟨_, List.getElem?_eq_getElem (by omega)⟩
          obtain ⟨bg', og', e, -, x0, x1⟩ := hGc.out k x hx
          injection e with e
          injection e with e1 e2
          subst e1
          subst e2
          obtain ⟨bg2, og2, e, -, y0, y1⟩ := hGc.out i y hyH.out
          injection e with e
          injection e with e1 e2
          subst e1
          subst e2
          have z0 := (hb.cell (p := ⟨bg, og + k * 2, none⟩) hbg).trans x0
          have z1 := (hb.cell (p := ⟨bg, og + k * 2 + 1, none⟩) hbg).trans x1
          have v0 := (hb.cell (p := ⟨bg, og + i * 2, none⟩) hbg).trans y0
          have v1 := (hb.cell (p := ⟨bg, og + i * 2 + 1, none⟩) hbg).trans y1
          have EQ := fun w => eq_cube y.m y.v x.m x.v w
          have hq : decide (y.m = x.m ∧ y.v = x.v) = false := honce.out i k y x hyH.out hx hki
          rw [hq] at EQ
          have hd2 : decide ((k : Int) < (i : Int)) = true := decide_eq_true (by omega)
          unfold bvv at z0 z1 v0 v1
          clear x0 x1 y0 y1 hx hq
          go_upto_region 16 with (fail)
          have Z0 := fun X : After wr => After.cell X z0
          have Z1 := fun X : After wr => After.cell X z1
          have V0 := fun X : After wr => After.cell X v0
          have V1 := fun X : After wr => After.cell X v1
          refine wp_region_after (by kernel_rfl) (by kernel_rfl) ?_
          repeat (first | go_big_quiet_step (fail))
          refine wpQuiet_nil ?_
          intro X
          have hbX := hb.trans (X.2.mono hb.size)
          clear Z0 Z1 V0 V1 z0 z1 v0 v1 EQ hb
          go_wp2
          go_roundw
          case rel => exact ⟨k + 1, by omega, by go_num, hbX⟩
          case measure => simp [intOf]; omega
        · have hd2 : decide ((k : Int) < (i : Int)) = false := decide_eq_false (by omega)
          go_wp2
          go_roundw
          case rel => exact ⟨i + 1, by omega, by go_num, hb⟩
          case measure => simp [intOf]; omega
    · have hd : decide ((i : Int) < (G.length : Int)) = false := decide_eq_false (by omega)
      clear hpr honce HPm hGK hB8 hbt
      go_wp2
      go_loopw [14, 15] (fun a t wj => ∃ j : Nat, j ≤ L.length ∧ t = .int .i64 j ∧ a = .int .i64 (K j).length ∧ Below w7.heap.size w7 wj) (fun _ t _ => L.length - (intOf t).toNat)
      case atStart => exact ⟨0, by omega, rfl, by rw [hk0.out]; rfl, hb⟩
      case round =>
        clear hb
        obtain ⟨j, hj, rfl, rfl, hb⟩ := hrel
        have hB8 := hB7.trans (hb.mono hB7.size)
        have hbt := keep_blk hb hb1
        by_cases hjl : j < L.length
        · obtain ⟨c, hc⟩ : ∃ c, L[j]? = some c := ⟨_, List.getElem?_eq_getElem hjl⟩
          obtain ⟨bl, ol, e, hbl, y0, y1⟩ := hLc.out j c hc
          subst e
          have z0 := (hb.cell (p := ⟨bl, ol + j * 2, none⟩) hbl).trans y0
          have z1 := (hb.cell (p := ⟨bl, ol + j * 2 + 1, none⟩) hbl).trans y1
          have HGr := fun w => HGw.out c.m c.v (hin.out j c hc) w
          have hn1 := Lib.hid (hnew.out j c hc)
          have ho1 := Lib.hid (hold.out j c hc)
          unfold grC at hn1 ho1
          generalize growC M n c.m c.v = xg at *
          obtain ⟨xm, xv⟩ := xg
          dsimp only at HGr hn1 ho1
          have hd2 : decide ((j : Int) < (L.length : Int)) = true := decide_eq_true (by omega)
          unfold cv bvv at HGr
          unfold bvv at z0 z1
          clear y0 y1 hc
          go_upto_region 22 with (fail)
          go_cut [16] from 103 to 110 (fun s16 wc => ∃ bx : Nat, s16 = .pointer (some ⟨bx, 0, none⟩) ∧ wc.heap[bx]? = some (.cells #[.int .u8 xm.toNat, .int .u8 xv.toNat] 44 (0, 0)) ∧ Below wr.heap.size wr wc)
          case first =>
            obtain ⟨m0, m1, m2, m3, -⟩ := box4 hbt rfl
            have c0 := fun X : After wr => After.cell X z0
            have c1 := fun X : After wr => After.cell X z1
            refine wp_region_held_drew (S := fun W_ => Below wr.heap.size wr W_) rfl (Below.refl _ wr).drew (fun hHeld => ?_)
            obtain ⟨X0, hX0⟩ : ∃ X0, X0 = wr.drew := ⟨_, rfl⟩
            rw [← hX0] at hHeld ⊢
            clear hX0
            refine wpAnyH_take (i := 0) (oi := _) (v := ?_) rfl (by kernel_rfl) (by kernel_rfl) (by kernel_rfl) (fun _ _ _ h => h) (Or.inl ⟨by rfl, ?_⟩) (by assumption) ?_
            rotate_left 1
            · intro w_ hSw
              go_simp
              try with_reducible rfl
            try simp only [Act.put, List.setIfInBounds_toArray]
            refine wpAnyH_take (i := 1) (oi := _) (v := ?_) rfl (by kernel_rfl) (by kernel_rfl) (by kernel_rfl) (fun _ _ _ h => h) (Or.inl ⟨by rfl, ?_⟩) (by assumption) ?_
            rotate_left 1
            · intro w_ hSw
              go_simp
              try with_reducible rfl
            try simp only [Act.put]
            refine wpAnyH_take (i := 2) (oi := _) (v := ?_) rfl (by kernel_rfl) (by kernel_rfl) (by kernel_rfl) (fun _ _ _ h => h) (Or.inl ⟨by rfl, ?_⟩) (by assumption) ?_
            rotate_left 1
            · intro w_ hSw
              go_simp
              try with_reducible rfl
            try simp only [Act.put]
            refine wpAnyH_take (i := 3) (oi := _) (v := ?_) rfl (by kernel_rfl) (by kernel_rfl) (by kernel_rfl) (fun _ _ _ h => h) (Or.inl ⟨by rfl, ?_⟩) (by assumption) ?_
            rotate_left 1
            · intro w_ hSw
              have q_c0 := c0 ⟨w_, hSw⟩
              have q_c1 := c1 ⟨w_, hSw⟩
              dsimp only at q_c0 q_c1
              go_simp
              try with_reducible rfl
            try simp only [Act.put]
            refine wpAnyH_take (i := 4) (oi := _) (v := ?_) rfl (by kernel_rfl) (by kernel_rfl) (by kernel_rfl) (fun _ _ _ h => h) (Or.inl ⟨by rfl, ?_⟩) (by assumption) ?_
            rotate_left 1
            · intro w_ hSw
              have q_m0 := m0 ⟨w_, hSw⟩
              have q_m1 := m1 ⟨w_, hSw⟩
              have q_m2 := m2 ⟨w_, hSw⟩
              have q_m3 := m3 ⟨w_, hSw⟩
              dsimp only at q_m0 q_m1 q_m2 q_m3
              go_simp
              try with_reducible rfl
            try simp only [Act.put]
            refine wpAnyH_take (i := 5) (oi := _) (v := ?_) rfl (by kernel_rfl) (by kernel_rfl) (by kernel_rfl) (fun _ _ _ h => h) (Or.inl ⟨by rfl, ?_⟩) (by assumption) ?_
            rotate_left 1
            · intro w_ hSw
              go_simp
              try with_reducible rfl
            try simp only [Act.put]
            refine wpAnyH_ready (rs := [6, 7]) (by kernel_rfl) (by simp) ?_
            refine AllReadyH.cons (o := _) rfl (fun _ hK => ?_) ?_
            · go_simp
              refine (HGr X0).mono ?_
              rintro e X1 ⟨rfl, hbr⟩
              try go_simp
              refine hK.out _ _ (hHeld.trans (hbr.mono hHeld.size)) (fun hHeld => ?_)
              clear hbr
              clear hK
              try simp only [Act.put, List.setIfInBounds_toArray, List.set_cons_zero, List.set_cons_succ]
              refine wpAnyH_ready (rs := [7]) (by kernel_rfl) (by simp) ?_
              refine AllReadyH.cons (o := _) rfl (fun _ hK => ?_) AllReadyH.nil
              go_simp
              have nq := heap_alloc_new X1 (.cells #[.int .u8 0, .int .u8 0] 44)
              have hal := hHeld.alloc hHeld.size (.cells #[.int .u8 0, .int .u8 0] 44)
              have lq := hHeld.size
              generalize X1.heap.size = bq at *
              generalize X1.alloc (.cells #[.int .u8 0, .int .u8 0] 44) = X2 at *
              refine hK.out _ _ hal (fun hHeld => ?_)
              clear hal
              clear hK
              try simp only [Act.put, List.setIfInBounds_toArray, List.set_cons_zero, List.set_cons_succ]
              refine wpAnyH_ready (rs := [8]) (by kernel_rfl) (by simp) ?_
              refine AllReadyH.cons (o := _) rfl (fun _ hK => ?_) AllReadyH.nil
              obtain ⟨y0, y1, yf⟩ := now2 nq rfl
              go_simp
              clear y0 y1 yf
              refine hK.out _ _ ((hHeld.setCell (by show wr.heap.size ≤ bq; omega) _).setCell (by show wr.heap.size ≤ bq; omega) _) (fun hHeld => ?_)
              replace nq := put2 (x0 := .int .u8 xm.toNat) (x1 := .int .u8 xv.toNat) nq
              clear hK
              try simp only [Act.put, List.setIfInBounds_toArray, List.set_cons_zero, List.set_cons_succ]
              refine wpAnyH_done (by kernel_rfl) ?_ _
              go_wp2_with fail
              go_meet
              exact ⟨bq, rfl, nq, hHeld⟩
            refine AllReadyH.cons (o := _) rfl (fun _ hK => ?_) AllReadyH.nil
            go_simp
            have nq := heap_alloc_new X0 (.cells #[.int .u8 0, .int .u8 0] 44)
            have hal := hHeld.alloc hHeld.size (.cells #[.int .u8 0, .int .u8 0] 44)
            have lq := hHeld.size
            generalize X0.heap.size = bq at *
            generalize X0.alloc (.cells #[.int .u8 0, .int .u8 0] 44) = X1 at *
            refine hK.out _ _ hal (fun hHeld => ?_)
            clear hal
            clear hK
            try simp only [Act.put, List.setIfInBounds_toArray, List.set_cons_zero, List.set_cons_succ]
            refine wpAnyH_ready (rs := [6]) (by kernel_rfl) (by simp) ?_
            refine AllReadyH.cons (o := _) rfl (fun _ hK => ?_) AllReadyH.nil
            go_simp
            refine (HGr X1).mono ?_
            rintro e X2 ⟨rfl, hbr⟩
            replace nq := keep_blk hbr nq
            try go_simp
            refine hK.out _ _ (hHeld.trans (hbr.mono hHeld.size)) (fun hHeld => ?_)
            clear hbr
            clear hK
            try simp only [Act.put, List.setIfInBounds_toArray, List.set_cons_zero, List.set_cons_succ]
            refine wpAnyH_ready (rs := [8]) (by kernel_rfl) (by simp) ?_
            refine AllReadyH.cons (o := _) rfl (fun _ hK => ?_) AllReadyH.nil
            obtain ⟨y0, y1, yf⟩ := now2 nq rfl
            go_simp
            clear y0 y1 yf
            refine hK.out _ _ ((hHeld.setCell (by show wr.heap.size ≤ bq; omega) _).setCell (by show wr.heap.size ≤ bq; omega) _) (fun hHeld => ?_)
            replace nq := put2 (x0 := .int .u8 xm.toNat) (x1 := .int .u8 xv.toNat) nq
            clear hK
            try simp only [Act.put, List.setIfInBounds_toArray, List.set_cons_zero, List.set_cons_succ]
            refine wpAnyH_done (by kernel_rfl) ?_ _
            go_wp2_with fail
            go_meet
            exact ⟨bq, rfl, nq, hHeld⟩
          case rest =>
            obtain ⟨bx, rfl, hxb, hbc⟩ := hcut
            have hbw := hb.trans (hbc.mono hb.size)
            clear z0 z1 HGr hb hbt hbc hB8
            have hKl := hle.out j (by omega)
            have hKb : (K j).length ≤ 9223372036854775807 := by omega
            have hKat := Lib.hid (fun k hk => hat.out j k (by omega) hk)
            generalize K j = A at *
            go_wp2
            go_loopw [17, 18] (fun b t wj => ∃ (k : Nat) (q : Bool), k ≤ A.length ∧ t = .int .i64 k ∧ b = .bool q ∧ Hid (q = (A.take k).any fun y => eqC y ⟨xm, xv⟩) ∧ wj.heap[bx]? = some (.cells #[.int .u8 xm.toNat, .int .u8 xv.toNat] 44 (0, 0)) ∧ Below w7.heap.size w7 wj) (fun _ t _ => A.length - (intOf t).toNat)
            case atStart => exact ⟨0, false, by omega, rfl, rfl, Lib.hid (by simp), hxb, hbw⟩
            case round =>
              clear hxb hbw
              obtain ⟨k, q, hk, rfl, rfl, hq, hxb, hb⟩ := hrel
              by_cases hka : k < A.length
              · obtain ⟨y, hy⟩ : ∃ y, A[k]? = some y := ⟨_, List.getElem?_eq_getElem hka⟩
                have hyG := (hKat.out k hka).trans hy
                obtain ⟨bg, og, e, hbg, y0, y1⟩ := hGc.out k y hyG
                subst e
                have z0 := (hb.cell (p := ⟨bg, og + k * 2, none⟩) hbg).trans y0
                have z1 := (hb.cell (p := ⟨bg, og + k * 2 + 1, none⟩) hbg).trans y1
                have hst : Hid (((A.take (k + 1)).any fun y => eqC y ⟨xm, xv⟩) = (q || eqC y ⟨xm, xv⟩)) := Lib.hid (by
                  rw [hq.out, List.take_succ_eq_append_getElem hka, List.any_append, (List.getElem?_eq_some_iff.1 hy).2]; simp)
                have EQ := fun w => eq_cube y.m y.v xm xv w
                rw [show decide (y.m = xm ∧ y.v = xv) = eqC y ⟨xm, xv⟩ from rfl] at EQ
                have hd3 : decide ((k : Int) < (A.length : Int)) = true := decide_eq_true (by omega)
                have hkG : decide ((k : Int) < (G.length : Int)) = true := decide_eq_true (by omega)
                have hkG2 : k < G.length := by omega
                unfold bvv at z0 z1
                generalize eqC y ⟨xm, xv⟩ = r at *
                clear y0 y1 hy hyG hq
                go_upto_region 27 with (fail)
                have Z0 := fun X : After wr => After.cell X z0
                have Z1 := fun X : After wr => After.cell X z1
                obtain ⟨x0, x1, -⟩ := box2 hxb rfl
                cases q
                · refine wp_region_after_tail 9 (by kernel_rfl) (by kernel_rfl) ?_
                  simp only [List.take_succ_cons, List.take_zero, List.drop_succ_cons, List.drop_zero]
                  repeat (first | go_big_quiet_step (fail))
                  refine wpQuiet_nil ?_
                  intro X
                  have hbX := hb.trans (X.2.mono hb.size)
                  have hxX := X.same hxb
                  clear Z0 Z1 x0 x1 z0 z1 EQ hb hxb
                  go_wp2
                  go_roundw
                  case rel => exact ⟨k + 1, r, by omega, by go_num, rfl, Lib.hid (by rw [hst.out]; rfl), hxX, hbX⟩
                  case measure => simp [intOf]; omega
                · refine wp_region_after_tail 9 (by kernel_rfl) (by kernel_rfl) ?_
                  simp only [List.take_succ_cons, List.take_zero, List.drop_succ_cons, List.drop_zero]
                  repeat (first | go_big_quiet_step (fail))
                  refine wpQuiet_nil ?_
                  intro X
                  have hbX := hb.trans (X.2.mono hb.size)
                  have hxX := X.same hxb
                  clear Z0 Z1 x0 x1 z0 z1 EQ hb hxb
                  go_wp2
                  go_roundw
                  case rel => exact ⟨k + 1, true, by omega, by go_num, rfl, Lib.hid (by rw [hst.out]; rfl), hxX, hbX⟩
                  case measure => simp [intOf]; omega
              · have hd3 : decide ((k : Int) < (A.length : Int)) = false := decide_eq_false (by omega)
                have hq2 : Hid (q = A.any fun y => eqC y ⟨xm, xv⟩) := Lib.hid (by rw [hq.out, List.take_of_length_le (by omega)])
                clear hq
                cases q
                · have hq3 : (A.any fun y => eqC y ⟨xm, xv⟩) = false := hq2.out.symm
                  obtain ⟨e1, e2, e3⟩ := hn1.out hq3
                  obtain ⟨bg, og, e, hbg, y0, y1⟩ := hGc.out A.length _ e3
                  subst e
                  have z0 := (hb.cell (p := ⟨bg, og + A.length * 2, none⟩) hbg).trans y0
                  have z1 := (hb.cell (p := ⟨bg, og + A.length * 2 + 1, none⟩) hbg).trans y1
                  have e1 := Lib.hid e1
                  have EQ := fun w => eq_cube xm xv xm xv w
                  rw [show decide (xm = xm ∧ xv = xv) = true from decide_eq_true ⟨rfl, rfl⟩] at EQ
                  have hd4 : decide ((G.length : Int) ≤ (A.length : Int)) = false := decide_eq_false (by omega)
                  have hd5 : decide ((A.length : Int) < (G.length : Int)) = true := decide_eq_true (by omega)
                  have hd6 : ¬ (G.length : Int) ≤ (A.length : Int) := by omega
                  have hd7 : (A.length : Int) < (G.length : Int) := by omega
                  have hd8 : decide (G.length ≤ A.length) = false := decide_eq_false (by omega)
                  unfold bvv at z0 z1
                  clear y0 y1 e3 hq2 hq3
                  go_upto_region 29 with (fail)
                  have Z0 := fun X : After wr => After.cell X z0
                  have Z1 := fun X : After wr => After.cell X z1
                  obtain ⟨x0, x1, -⟩ := box2 hxb rfl
                  refine wp_region_after (by kernel_rfl) (by kernel_rfl) ?_
                  repeat (first | go_big_quiet_step (fail))
                  refine wpQuiet_nil ?_
                  intro X
                  have hbX := hb.trans (X.2.mono hb.size)
                  clear Z0 Z1 x0 x1 z0 z1 EQ hb hxb
                  go_wp2
                  go_roundw
                  case rel => exact ⟨j + 1, by omega, by go_num, by rw [e1.out]; go_num, hbX⟩
                  case measure => simp [intOf]; omega
                · have hq3 : (A.any fun y => eqC y ⟨xm, xv⟩) = true := hq2.out.symm
                  have e1 := Lib.hid (ho1.out hq3)
                  clear hq2 hq3
                  go_wp2
                  go_roundw
                  case rel => exact ⟨j + 1, by omega, by go_num, by rw [e1.out], hb⟩
                  case measure => simp [intOf]; omega
        · obtain rfl : j = L.length := by omega
          have hd2 : decide ((L.length : Int) < (L.length : Int)) = false := decide_eq_false (by omega)
          rw [hkn.out]
          have he : (((G.length : Nat) : Int) == ((G.length : Nat) : Int)) = true := by simp
          clear hbt hb hin hnew hold hat hle hk0 HGw hGc hLc
          go_wp2_with fail
          refine (HK _).mono ?_
          rintro e w9 ⟨rfl, hb9⟩
          have hB9 := hB8.trans (hb9.mono hB8.size)
          clear HK
          go_wp2
          go_ret
          exact ⟨rfl, hB9⟩
theorem isopGrown_any (HG : GrownI) (HC : CoverI) (HK : Knows12) (S M : BitVec 256) (n : Int) (w : World) : Calls Try.prog 7 #[sv S, sv M, .int .i64 n] w fun e w' => e = .returned (.bool true) ∧ Below w.heap.size w w' := by
  cases hm : mayB S M n
  · exact grown12_no HG HK S M n hm w
  · have := may_n8 hm
    obtain ⟨k, rfl⟩ : ∃ k : Nat, n = k := ⟨n.toNat, by omega⟩
    exact grown12_yes HG HC HK S M k hm w
end Go.Proofs.Ytnddepijbbchiaa
