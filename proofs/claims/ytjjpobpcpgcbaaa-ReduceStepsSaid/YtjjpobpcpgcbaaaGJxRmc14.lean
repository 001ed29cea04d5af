/- removeColumn of the package reduce. -/
import Derived.Test.YtjjpobpcpgcbaaaGJxWiu14
namespace Go.Proofs.Ytjjpobpcpgcbaaa
open Go.RowKit Go.Joins

theorem any_same14 {f g : Nat → Bool} : ∀ (l : List Nat), (∀ d, d ∈ l → f d = g d) → l.any f = l.any g
  | [], _ => rfl
  | x :: l, h => by
    rw [List.any_cons, List.any_cons, h x (List.mem_cons_self ..), any_same14 l fun d hd => h d (List.mem_cons_of_mem _ hd)]
theorem lss_rpl14 {ls : List (List Int)} {n c : Nat} (hc : c < n) : lssC ls n c = (decide (0 < (whr ls c).length) && rplB (hvR n ls) c) := by
  unfold lssC rplB
  rw [hvR_len, hvR_getD hc]
  congr 1
  refine any_same14 _ fun d hd => ?_
  rw [hvR_getD (List.mem_range.1 hd)]
theorem whr_rise14 (ls : List (List Int)) (c : Int) : (whr ls c).Pairwise (· < ·) := by
  unfold whr
  rw [List.pairwise_map]
  exact ((List.pairwise_lt_range).filter _).imp fun h => by omega
theorem hv_rise14 (n : Nat) (ls : List (List Int)) : ∀ q, q ∈ hvR n ls → q.Pairwise (· < ·) := fun q hq => by
  obtain ⟨x, hx, rfl⟩ := List.mem_map.1 hq
  exact whr_rise14 ls _
theorem rpl_comp14 {n : Nat} {ls : List (List Int)} : ∀ (x j : Nat), x < ls.length → (x : Int) ∈ (hvR n ls).getD j [] → j < (hvR n ls).length → (j : Int) ∈ ls.getD x [] := fun x j _ h hj => by
  rw [hvR_len] at hj
  rw [hvR_getD hj] at h
  exact (mem_whr.1 h).2
set_option maxHeartbeats 8000000 in
set_option maxRecDepth 100000 in
theorem removeColumnN14_any (E : Nat → Prop) (n : Nat) (V : Value) (ls : List (List Int)) (w : World) (hE : ∀ b, E b → b < w.heap.size) (hzN : MatN w (fun b => ¬ E b) V ls) (hcap : CapM w V) (hn : n ≤ 4000) (hls : ls.length ≤ 4000) (hri : ∀ r, r ∈ ls → risL n r) :
    Calls Try.prog 29 #[mtv n V] w fun e w' => ∃ u, e = .returned (.tuple #[mtv n u, .bool (clI ls n).isSome]) ∧ MatN w' (fun b => ¬ E b) u (clL ls n) ∧ CapM w' u ∧ Below w.heap.size w w' := by
  have hz := hzN.here
  have hzNH := Lib.hid hzN
  have hEH := Lib.hid hE
  clear hzN hE
  have hB0 := two_below14 w (mtb n V) (.cells #[.int .i64 0, .slice none 0 0] 24 (0, 0))
  have ht := two_made14 w (mtb n V) (.cells #[.int .i64 0, .slice none 0 0] 24 (0, 0))
  have hsz : ((w.alloc (mtb n V)).alloc (.cells #[.int .i64 0, .slice none 0 0] 24 (0, 0))).heap.size = w.heap.size + 2 := by simp
  have hrow4 : ∀ r, r ∈ ls → r.length ≤ 4000 := fun r h => by have := row_len14 (hri r h); omega
  have HA := across14_any V ls n _ ((hz.below hB0).more hB0.size) hn hls hri hrow4
  have hzz := hz.below hB0
  have hRP := Lib.hid (fun (c : Nat) (hc : c < n) (v : Value) W (h1 : MatAt W W.heap.size V ls) (h2 : MatAt W W.heap.size v (hvR n ls)) => replaced14_any V v ls (hvR n ls) c (whr ls c) W h1 h2 (hvR_get hc) (fun x hx => whr_in hx) (by rw [hvR_len]; omega) (hv_rise14 n ls) (fun q hq x hx => by rw [hvR_len]; exact (hri q hq).1 x hx) rpl_comp14)
  have hWT := Lib.hid (fun (E : Nat → Prop) (S : Value) (c : Int) W hE h1 h2 h3 => without14_any E V S c ls W hE h1 h2 h3 hls (fun r h => (hri r h).2) hrow4)
  have hN : Hid ((∀ d, d < n → lssC ls n d = false) → (clI ls n).isSome = false ∧ clL ls n = ls) := Lib.hid (fun h => by
    have e := cl_none h
    unfold clL
    rw [e]
    exact ⟨rfl, rfl⟩)
  have hS : Hid (∀ c, c < n → lssC ls n c = true → (∀ d, d < c → lssC ls n d = false) → (clI ls n).isSome = true ∧ clL ls n = clR ls c) := Lib.hid (fun c h1 h2 h3 => by
    have e := cl_some h1 h2 h3
    unfold clL
    rw [e]
    exact ⟨rfl, rfl⟩)
  have hls0 := Lib.hid (fun (c : Nat) (hc : c < n) => lss_rpl14 (ls := ls) hc)
  have hget := Lib.hid (fun (c : Nat) (hc : c < n) => hvR_get (ls := ls) hc)
  have hhl := Lib.hid (hvR_len n ls)
  generalize (clI ls n).isSome = RB at *
  generalize clL ls n = RL at *
  obtain ⟨A, cp, rfl, hl, -⟩ := hz
  have hcapH := Lib.hid hcap
  unfold mtv at *
  unfold mtb at hB0 ht hzz hsz HA
  clear hri hcap hrow4
  go_enter Try.func29, Try.ntmps29
  go_wp2_with fail
  generalize (w.alloc _).alloc _ = w0 at *
  generalize hgb : w.heap.size = gb at *
  have hgbH := Lib.hid hgb
  have hszH := Lib.hid hsz
  clear hgb hsz
  refine HA.mono ?_
  rintro e w1 ⟨v, rfl, hv, hb1⟩
  have hm := keep_blk hb1 ht.1
  have hr := keep_blk hb1 ht.2
  have hB1 := hB0.trans (hb1.mono (by have := hszH.out; omega))
  have hz1 := hzz.below (hb1.mono (by have := hszH.out; omega : gb ≤ w0.heap.size))
  have hgz : gb + 2 ≤ w1.heap.size := by have := hszH.out; have := hb1.size; omega
  obtain ⟨m0, m1, -⟩ := now2 hm rfl
  clear HA hb1 hB0 ht hzz
  have hv' : MatAt w1 w1.heap.size v (hvR n ls) := hv
  clear hv
  generalize hvR n ls = hv at *
  have hvH := hv'
  obtain ⟨Ah, ch, rfl, -, hcell⟩ := hv'
  have hcH := Lib.hid hcell
  have hhv := hhl.out
  clear hcell
  rw [hhv] at hvH ⊢
  go_wp2
  go_loopw [5, 6, 14] (fun _ _ t wr => ∃ c : Nat, c ≤ n ∧ t = .int .i64 c ∧ Hid (∀ d, d < c → lssC ls n d = false) ∧ Below w1.heap.size w1 wr) (fun _ _ t _ => n - (intOf t).toNat)
  case atStart => exact ⟨0, by omega, rfl, Lib.hid (fun d h => absurd h (Nat.not_lt_zero _)), Below.refl _ _⟩
  case round =>
    obtain ⟨c, hcn, rfl, hH, hb⟩ := hrel
    have hbs := hb.size
    have hmr := keep_blk hb hm
    have hrr := keep_blk hb hr
    clear m0 m1
    obtain ⟨m0, m1, -⟩ := now2 hmr rfl
    by_cases hlt : c < n
    · obtain ⟨b, off, rfl, hB, hcell⟩ := hcH.out (by omega)
      obtain ⟨ov, z0, hov⟩ := hcell c _ (hget.out c hlt)
      have g0 := (hb.cell (p := ⟨b, off + c, none⟩) hB).trans z0
      have hlc := hls0.out c hlt
      have hRC := hRP.out c hlt _ wr ((hz1.below (hb.mono (by omega : gb ≤ w1.heap.size))).more (by omega)) ((hvH.below hb).more hbs)
      generalize rplB hv c = rb at *
      have hovr := (hov.below hb).more hbs
      generalize hwc : whr ls (c : Int) = T at *
      have hwcH := Lib.hid hwc
      obtain ⟨Ao, co, rfl, -, -⟩ := hov
      have c0 : (0 : Int) ≤ (c : Int) := by omega
      have c1 : (c : Int) < (n : Int) := by omega
      clear hcell z0 hwc
      by_cases h0 : 0 < T.length
      · have h0d : decide ((0 : Int) < (T.length : Int)) = true := decide_eq_true (by omega)
        rw [decide_eq_true h0, Bool.true_and] at hlc
        cases hrb : rb
        · rw [hrb] at hRC hlc
          have hH2 : Hid (∀ d, d < c + 1 → lssC ls n d = false) := Lib.hid (fun d hd => by
            by_cases e : d = c
            · rw [e]; exact hlc
            · exact hH.out d (by omega))
          clear hN hS hH hlc hrb hRP hWT hls0 hget
          go_wp2_with fail
          refine hRC.mono ?_
          rintro e w2 ⟨rfl, hb2⟩
          have hb3 := hb.trans (hb2.mono hbs)
          clear hRC
          go_wp2
          go_roundw
          case rel => exact ⟨c + 1, by omega, by go_num, hH2, hb3⟩
          case measure => simp [intOf]; omega
        · rw [hrb] at hRC hlc
          have hres := Lib.hid (hS.out c hlt hlc hH.out)
          clear hN hS hH hlc hrb hRP hls0 hget
          go_wp2_with fail
          refine hRC.mono ?_
          rintro e w2 ⟨rfl, hb2⟩
          have hbw2 := hB1.trans (hb.mono (by omega))
          have hsw := hbw2.size
          have hB2 := hbw2.trans (hb2.mono (by omega))
          have hm2 := keep_blk hb2 hmr
          have hr2 := keep_blk hb2 hrr
          have hz2 := (hz1.below (hb.mono (by omega : gb ≤ w1.heap.size))).below (hb2.mono (by omega))
          have hs2 := hb2.size
          have hz3 : MatN w2.drew (fun b => ¬ ((gb ≤ b ∧ b < gb + 2) ∨ E b)) (.slice A ls.length cp) ls := (hzNH.out.imp14 (N' := fun b => ¬ ((gb ≤ b ∧ b < gb + 2) ∨ E b)) (fun b h hb h2 => h2.elim (fun h3 => by have := hgbH.out; omega) h)).below14 (show Below w.heap.size w w2.drew by rw [hgbH.out]; exact hB2.drew)
          have hcp3 := hcapH.out.below (show Below w.heap.size w w2.drew by rw [hgbH.out]; exact hB2.drew)
          have hov3 : IntsAt w2.drew w2.drew.heap.size (.slice Ao T.length co) (whr ls (c : Int)) := by
            rw [hwcH.out]
            exact ((hovr.below hb2).more hs2).below (Below.refl _ _).drew
          have hWC := hWT.out (fun b => (gb ≤ b ∧ b < gb + 2) ∨ E b) (.slice Ao T.length co) (c : Int) w2.drew (fun b h => h.elim (fun h => by show b < w2.heap.size; omega) (fun h => by show b < w2.heap.size; have := hEH.out b h; omega)) hz3 hcp3 hov3
          clear hRC hWT m0 m1 hz2 hz1 hvH hcapH hovr hcH hb2 hbw2 hz3 hcp3 hov3
          have hsd : gb + 2 ≤ w2.drew.heap.size := by show gb + 2 ≤ w2.heap.size; omega
          go_upto_region 6 with (fail)
          obtain ⟨m0, m1, -⟩ := now2 hm2 rfl
          go_region_with (refine hWC.mono ?_; rintro e w6 ⟨u, vs, rfl, hown, hvl, hin, hac, hlo, hb6⟩; replace hm2 := keep_blk hb6 hm2; replace hr2 := keep_blk hb6 hr2; clear m0 m1; obtain ⟨m0, m1, -⟩ := now2 hm2 rfl; obtain ⟨r0, r1, rf⟩ := now2 hr2 rfl; obtain ⟨Au, cu, rfl⟩ := own_form hown; have hB6 := hB2.drew.trans (hb6.mono (by show gb ≤ w2.heap.size; omega)); clear hWC; go_frame)
          all_goals
            have hnb : (Value.slice Au (clR ls c).length cu).ownBlock ≠ some (gb + 1) := fun e => by have := (hown.lt _ e).1; omega
            have hown2 := own_set (own_set hown hnb 0 (.int .i64 n)) hnb 1 (.slice Au (clR ls c).length cu)
            have hin2 := ((hin.low14 hlo).set (b := gb + 1) (j := 0) (u := .int .i64 n) (Or.inl (by omega))).set (b := gb + 1) (j := 1) (u := .slice Au (clR ls c).length cu) (Or.inl (by omega))
            have hr3 := put2 (x0 := .int .i64 n) (x1 := .slice Au (clR ls c).length cu) hr2
            obtain ⟨q0, q1, -⟩ := now2 hr3 rfl
            have hBz := below2 (x0 := .int .i64 n) (x1 := .slice Au (clR ls c).length cu) (by omega : gb ≤ gb + 1) hB6
            clear hB6 hin hown hm2 hr2 m0 m1 r0 r1 rf
            go_wp2
            refine bodyPost_ret (v := .tuple #[.agg #[.int .i64 n, .slice Au (clR ls c).length cu], .bool true]) (by simp [results, Try.results29, go_sem, q0, q1]) rfl ?_
            have hM := matN_low14 (hin2.rows.mat hown2) hown2 (fun b hb => by have := hEH.out b hb; omega) (fun v hv b off n c e h0 hEb => hlo v hv b off n c e h0 (Or.inr hEb))
            have hCM := own_capM14 hown2 hvl.out hac
            exact ⟨_, by rw [hres.out.1], by rw [hres.out.2]; exact hM, hCM, by rw [hgbH.out]; exact hBz⟩
      · have h0d : decide ((0 : Int) < (T.length : Int)) = false := decide_eq_false (by omega)
        rw [decide_eq_false h0, Bool.false_and] at hlc
        have hH2 : Hid (∀ d, d < c + 1 → lssC ls n d = false) := Lib.hid (fun d hd => by
          by_cases e : d = c
          · rw [e]; exact hlc
          · exact hH.out d (by omega))
        clear hN hS hH hlc hRP hWT hls0 hget hRC
        go_wp2
        go_roundw
        case rel => exact ⟨c + 1, by omega, by go_num, hH2, hb⟩
        case measure => simp [intOf]; omega
    · have e : c = n := by omega
      have hkd : ¬ (c : Int) < (n : Int) := by omega
      have hres := Lib.hid (hN.out (fun d hd => hH.out d (by omega)))
      obtain ⟨r0, r1, rf⟩ := now2 hrr rfl
      have hBr := hB1.trans (hb.mono (by omega))
      have hzr := hz1.below (hb.mono (by omega : gb ≤ w1.heap.size))
      have hr3 := put2 (x0 := .int .i64 n) (x1 := .slice A ls.length cp) hrr
      obtain ⟨q0, q1, -⟩ := now2 hr3 rfl
      have hBz := below2 (x0 := .int .i64 n) (x1 := .slice A ls.length cp) (by omega : gb ≤ gb + 1) hBr
      have hMz := hzNH.out.below14 (show Below w.heap.size w _ by rw [hgbH.out]; exact hBz)
      have hMo := (hzr.below (below2 (x0 := .int .i64 n) (x1 := .slice A ls.length cp) (by omega : gb ≤ gb + 1) (Below.refl _ wr))).more (by rw [← hgbH.out]; exact hBz.size)
      clear e hN hS hH hRP hWT hls0 hget hcH hvH
      go_wp2
      refine bodyPost_ret (v := .tuple #[.agg #[.int .i64 n, .slice A ls.length cp], .bool false]) (by simp [results, Try.results29, go_sem, q0, q1]) rfl ?_
      exact ⟨_, by rw [hres.out.1], by rw [hres.out.2]; exact hMz, hcapH.out.below (by rw [hgbH.out]; exact hBz), by rw [hgbH.out]; exact hBz⟩
theorem removeColumn14_any (n : Nat) (V : Value) (ls : List (List Int)) (w : World) (hz : MatAt w w.heap.size V ls) (hcap : CapM w V) (hn : n ≤ 4000) (hls : ls.length ≤ 4000) (hri : ∀ r, r ∈ ls → risL n r) :
    Calls Try.prog 29 #[mtv n V] w fun e w' => ∃ u, e = .returned (.tuple #[mtv n u, .bool (clI ls n).isSome]) ∧ MatAt w' w'.heap.size u (clL ls n) ∧ CapM w' u ∧ Below w.heap.size w w' := by
  refine (removeColumnN14_any (fun _ => False) n V ls w (fun _ h => h.elim) (hz.toN (fun _ _ h => h)) hcap hn hls hri).mono ?_
  rintro e w' ⟨u, h1, h2, h3, h4⟩
  exact ⟨u, h1, h2.here, h3, h4⟩
end Go.Proofs.Ytjjpobpcpgcbaaa
