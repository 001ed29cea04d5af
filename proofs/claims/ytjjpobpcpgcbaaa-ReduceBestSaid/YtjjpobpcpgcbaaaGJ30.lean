/- take of the package reduce. removeRows of the package reduce. -/
import Derived.Test.YtjjpobpcpgcbaaaGJ29
namespace Go.Proofs.Ytjjpobpcpgcbaaa
open Go.RowKit Go.Joins

set_option maxRecDepth 100000 in
theorem ctake1_any14 (w : World) (v : Value) (l : List Int) (hv : IntsAt w w.heap.size v l) :
    Calls Try.prog 46 (#[v] ++ #[]) w fun e w' => e = .returned (.bool (decide (l.length = 1))) ∧ Below w.heap.size w w' := by
  obtain ⟨A, c, rfl, -, -⟩ := hv
  have he : Hid (((l.length : Int) == 1) = decide (l.length = 1)) := Lib.hid (by rw [Bool.eq_iff_iff, beq_iff_eq, decide_eq_true_iff]; omega)
  go_enter Try.func46, Try.ntmps46
  go_wp2
  go_ret
  exact ⟨by rw [← he.out]; rfl, Below.refl _ _⟩
set_option maxHeartbeats 8000000 in
set_option maxRecDepth 100000 in
theorem takeN14_any (E : Nat → Prop) (n : Int) (V : Value) (ls : List (List Int)) (w : World) (hE : ∀ b, E b → b < w.heap.size) (hzN : MatN w (fun b => ¬ E b) V ls) (hcap : CapM w V) (hls : ls.length ≤ 4000) :
    Calls Try.prog 25 #[mtv n V] w fun e w' => ∃ u, e = .returned (.tuple #[mtv n u, .int .i64 (tkV ls), .bool (tkC ls).isSome]) ∧ MatN w' (fun b => ¬ E b) u (tkL ls) ∧ CapM w' u ∧ Below w.heap.size w w' := by
  have hz := hzN.here
  have hzNH := Lib.hid hzN
  have hEH := Lib.hid hE
  clear hzN hE
  have hB0 := two_below14 w (mtb n V) (.cells #[.int .i64 0, .slice none 0 0] 24 (0, 0))
  have ht := two_made14 w (mtb n V) (.cells #[.int .i64 0, .slice none 0 0] 24 (0, 0))
  have hsz : ((w.alloc (mtb n V)).alloc (.cells #[.int .i64 0, .slice none 0 0] 24 (0, 0))).heap.size = w.heap.size + 2 := by simp
  have hHI := indexM_any 46 #[] (fun l => decide (l.length = 1)) V ls ((w.alloc (mtb n V)).alloc (.cells #[.int .i64 0, .slice none 0 0] 24 (0, 0))) (fun _ _ => by kernel_rfl) (fun v x w1 _ hb hi => ctake1_any14 w1 v x (hi.more hb.size)) ((hz.below hB0).more hB0.size)
  have hzz := hz.below hB0
  obtain ⟨A, cp, rfl, hl, -⟩ := hz
  obtain ⟨j0, hj0, jz0, jz1, jz2⟩ := info_parts Try.infoInts
  have hne : (38 : TypeId) ≠ 24 := by decide
  have hst := Lib.hid (fun (c : Int) (k : Nat) (l : List Int) (h : ls[k]? = some l) => tkR_take (c := c) h)
  have hle := Lib.hid (fun c k => tkR_len ls c k)
  unfold mtv
  unfold mtb at hB0 ht hzz hsz hHI
  go_enter Try.func25, Try.ntmps25
  go_wp2_with fail
  generalize (w.alloc _).alloc _ = w0 at *
  generalize hgb : w.heap.size = gb at *
  have hgbH := Lib.hid hgb
  have hszH := Lib.hid hsz
  clear hgb hsz
  refine hHI.mono ?_
  rintro e w1 ⟨rfl, hb1⟩
  have hm := keep_blk hb1 ht.1
  have hr := keep_blk hb1 ht.2
  have hB1 := hB0.trans (hb1.mono (by have := hszH.out; omega))
  have hcp1 := hcap.below (show Below w.heap.size w w1 by rw [hgbH.out]; exact hB1)
  have hcapH := Lib.hid hcap
  clear hcap
  have hz1 := hzz.below (hb1.mono (by have := hszH.out; omega : gb ≤ w0.heap.size))
  have hgz : gb + 2 ≤ w1.heap.size := by have := hszH.out; have := hb1.size; omega
  obtain ⟨m0, m1, -⟩ := now2 hm rfl
  obtain ⟨r0, r1, rf⟩ := now2 hr rfl
  clear hHI hb1 hB0 ht hzz
  by_cases hex : ∃ (i : Nat) (c : Int), ls[i]? = some [c] ∧ ∀ (j : Nat) (r : List Int), j < i → ls[j]? = some r → ¬ r.length = 1
  · obtain ⟨i, c, hi, hfst⟩ := hex
    have hf : firstI (fun l : List Int => decide (l.length = 1)) ls = (i : Int) := firstI_at hi (by
      rw [List.any_eq_false]
      intro x hx
      obtain ⟨j, hj⟩ := List.mem_iff_getElem?.1 hx
      rw [List.getElem?_take] at hj
      split at hj
      · rename_i hji
        simpa using hfst j x hji hj
      · cases hj) (by simp)
    have hC := tk_some hi hfst
    have hres : Hid (tkV ls = c ∧ (tkC ls).isSome = true ∧ tkL ls = tkR ls c) := Lib.hid (by unfold tkV tkL; rw [hC]; exact ⟨rfl, rfl, rfl⟩)
    rw [hf]
    have hil : i < ls.length := (List.getElem?_eq_some_iff.1 hi).1
    obtain ⟨A', c', e', -, hcell⟩ := hz1
    injection e' with e1 _ e2
    subst e1
    subst e2
    obtain ⟨b, off, rfl, hB, hcell⟩ := hcell (by omega)
    obtain ⟨ov, z0, hov⟩ := hcell i _ hi
    obtain ⟨Ao, co, e3, -, hoc⟩ := hov
    obtain ⟨bo, oo, rfl, hBo, hoc⟩ := hoc (by simp)
    have y0 := hoc 0 c rfl
    rw [Nat.add_zero] at y0
    subst e3
    have i0 : (0 : Int) ≤ (i : Int) := by omega
    have i1 : (i : Int) < (ls.length : Int) := by omega
    have hcH := Lib.hid hcell
    clear hf hC hi hfst hoc hcell
    go_wp2
    clear z0 y0
    go_loopw [7, 9, 26] (fun V _ t wr => ∃ (k : Nat) (K : List (List Int)) (vs : List Value), k ≤ ls.length ∧ t = .int .i64 k ∧ Hid (K = tkR (ls.take k) c) ∧ Hid (vs.length = K.length) ∧ wr.ownsRow w1.heap.size 38 1 V K.length vs ∧ RowsX (fun b => gb ≤ b ∧ b < gb + 2) wr V K vs ∧ Hid (AllCap vs ∧ AllLow E vs) ∧ Below w1.heap.size w1 wr) (fun _ _ t _ => ls.length - (intOf t).toNat)
    case atStart => exact ⟨0, [], [], by omega, rfl, Lib.hid rfl, Lib.hid rfl, World.ownsRow_nil _ _ _ _, RowsX.nil _ _ _, Lib.hid (And.intro AllCap.nil (AllLow.nil E)), Below.refl _ _⟩
    case round =>
      obtain ⟨k, K, vs, hk, rfl, hK, hvl, hown, hin, hac, hb⟩ := hrel
      obtain ⟨AV, cV, rfl⟩ := own_form hown
      have hbs := hb.size
      by_cases hkl : k < ls.length
      · obtain ⟨l, hl2⟩ : ∃ l, ls[k]? = some l := ⟨_, List.getElem?_eq_getElem hkl⟩
        obtain ⟨ov2, z2, hov2⟩ := hcH.out k l hl2
        have g0 := (hb.cell (p := ⟨b, off + k, none⟩) (by show b < w1.heap.size; omega)).trans z2
        have hac2 := Lib.hid (And.intro (hac.out.1.push (hcp1.cell14 rfl hkl z2)) (hac.out.2.push (hzNH.out.cell14 rfl hkl (by rw [hgbH.out]; exact hB1) z2)))
        have hov3 := (hov2.more (by omega : gb ≤ w1.heap.size)).below hb
        have HI1 := contI14_any ov2 l c wr (hov3.more hbs)
        have hIN : IntsN wr (fun b => ¬ (gb ≤ b ∧ b < gb + 2) ∧ b < wr.heap.size ∧ (Value.slice AV K.length cV).ownBlock ≠ some b) ov2 l := ((hov2.below (hb.mono (by omega : gb ≤ w1.heap.size))).toN (N := fun b => b < gb) (fun _ h => h)).keep (fun _ _ => rfl) (fun b hb' => ⟨by omega, by omega, fun e => by have := (hown.lt b e).1; omega⟩)
        have hs := Lib.hid (hst.out c k l hl2)
        have hKl : K.length ≤ k := by rw [hK.out]; exact hle.out c k
        obtain ⟨A2, c2, rfl, -, -⟩ := hov3
        have k0 : (0 : Int) ≤ (k : Int) := by omega
        have k1 : (k : Int) < (ls.length : Int) := by omega
        clear hl2 z2 hov2
        go_wp2_with fail
        refine HI1.mono ?_
        rintro e w3 ⟨rfl, hb3⟩
        have hown3 := owns_below hown hb3
        have hin3 := hin.below hb3
        have hb4 := hb.trans (hb3.mono hbs)
        have hIN3 : IntsN w3 (fun b => ¬ (gb ≤ b ∧ b < gb + 2) ∧ b < w3.heap.size ∧ (Value.slice AV K.length cV).ownBlock ≠ some b) _ l := hIN.keep (fun b h => hb3.block b h.2.1) (fun b h => ⟨h.1, Nat.lt_of_lt_of_le h.2.1 hb3.size, h.2.2⟩)
        clear HI1 g0 hIN hown hin hb hb3
        have hbs3 := hb4.size
        by_cases hm : c ∈ l
        · have hK2 : Hid (K = tkR (ls.take (k + 1)) c) := Lib.hid (by rw [hs.out, if_pos hm, hK.out])
          rw [decide_eq_true hm]
          clear hs hm hK
          go_wp2
          go_roundw
          case rel => exact ⟨k + 1, K, vs, by omega, by go_num, hK2, hvl, hown3, hin3, hac, hb4⟩
          case measure => simp [intOf]; omega
        · have hK2 : Hid (K ++ [l] = tkR (ls.take (k + 1)) c) := Lib.hid (by rw [hs.out, if_neg hm, hK.out])
          rw [decide_eq_false hm]
          clear hs hm hK
          go_wp2_with (at_builtin; refine wpList_append_own_at _ rfl _ _ 22 rfl w1.heap.size 38 j0 (.slice none 0 0) 1 24 Try.underlying22 hj0 jz0 jz1 jz2 rfl (by decide) _ _ _ rfl (hown3.alloc _) ⟨w3.heap.size, 0, none⟩ 1 1 [.slice A2 l.length c2] rfl rfl one_new13 (fun u hu => by rw [List.mem_singleton.1 hu]; rfl) ?c3 ?c4 ?c5 ?_)
          case c3 => unfold maxLen; omega
          case c4 => omega
          case c5 => simp; omega
          intro v8 w8 ho8 hg8 _ hloc
          have hba := below_alloc1 w3 (.cells #[.slice A2 l.length c2] 38 (0, 0))
          have hin8 := hin3.push (V' := v8) hvl.out hIN3 hba hg8 (hloc.imp id (fun h => h.trans (by simp)))
          have hB8 := grown_below (hown3.alloc (.cells #[.slice A2 l.length c2] 38)) hg8 (hb4.alloc hbs3 _) (by omega) (by simp; omega)
          have ho9 : w8.ownsRow w1.heap.size 38 1 v8 (K ++ [l]).length (vs ++ [.slice A2 l.length c2]) := by rw [List.length_append]; exact ho8
          have hvl2 : Hid ((vs ++ [Value.slice A2 l.length c2]).length = (K ++ [l]).length) := Lib.hid (by rw [List.length_append, List.length_append, hvl.out]; rfl)
          clear ho8 hg8 hloc hba hin3 hIN3 hown3 hb4 hvl
          go_wp2
          go_roundw
          case rel => exact ⟨k + 1, K ++ [l], _, by omega, by go_num, hK2, hvl2, ho9, hin8, hac2, hB8⟩
          case measure => simp [intOf]; omega
      · have e : k = ls.length := by omega
        have hkd : ¬ (k : Int) < (ls.length : Int) := by omega
        have hKL : Hid (K = tkL ls) := Lib.hid (by rw [hK.out, e, List.take_length, hres.out.2.2])
        have hr2 := keep_blk hb hr
        have hm2 := keep_blk hb hm
        clear m0 m1 r0 r1 rf
        obtain ⟨m0, m1, -⟩ := now2 hm2 rfl
        obtain ⟨r0, r1, rf⟩ := now2 hr2 rfl
        have hnb : (Value.slice AV K.length cV).ownBlock ≠ some (gb + 1) := fun e => by have := (hown.lt _ e).1; omega
        have hown2 := own_set (own_set hown hnb 0 (.int .i64 n)) hnb 1 (.slice AV K.length cV)
        have hin2 := (hin.set (b := gb + 1) (j := 0) (u := .int .i64 n) (by omega)).set (b := gb + 1) (j := 1) (u := .slice AV K.length cV) (by omega)
        have hr3 := put2 (x0 := .int .i64 n) (x1 := .slice AV K.length cV) hr2
        obtain ⟨q0, q1, -⟩ := now2 hr3 rfl
        have hB2 : Below gb w ((wr.setCell ⟨gb + 1, 0, none⟩ (.int .i64 n)).setCell ⟨gb + 1, 1, none⟩ (.slice AV K.length cV)) := below2 (by omega) (hB1.trans (hb.mono (by omega)))
        have hvO := hvl
        clear e hK hcH hin hown hr hm hvl hr2 hm2 hst hle
        go_wp2
        generalize (wr.setCell ⟨gb + 1, 0, none⟩ (.int .i64 n)).setCell ⟨gb + 1, 1, none⟩ (.slice AV K.length cV) = wz at *
        refine bodyPost_ret (v := .tuple #[.agg #[.int .i64 n, .slice AV K.length cV], .int .i64 c, .bool true]) (by simp [results, Try.results25, go_sem, q0, q1]) rfl ?_
        have hM := matN_low14 (hin2.rows.mat hown2) hown2 (fun b hb => by have := hEH.out b hb; omega) hac.out.2
        have hCM := own_capM14 hown2 hvO.out hac.out.1
        exact ⟨_, by rw [hres.out.1, hres.out.2.1], by rw [← hKL.out]; exact hM, hCM, by rw [hgbH.out]; exact hB2⟩
  · have hnone : ∀ (j : Nat) (r : List Int), ls[j]? = some r → ¬ r.length = 1 := by
      intro j
      induction j using Nat.strongRecOn with
      | _ j ih =>
        intro r hj h1
        match r, h1 with
        | [x], _ => exact hex ⟨j, x, hj, fun j' r' hlt hj' => ih j' hlt r' hj'⟩
    have hf : firstI (fun l : List Int => decide (l.length = 1)) ls = -1 := firstI_none (by
      rw [List.any_eq_false]
      intro x hx
      obtain ⟨j, hj⟩ := List.mem_iff_getElem?.1 hx
      simpa using hnone j x hj)
    have hC := tk_none hnone
    have hres : Hid (tkV ls = 0 ∧ (tkC ls).isSome = false ∧ tkL ls = ls) := Lib.hid (by unfold tkV tkL; rw [hC]; exact ⟨rfl, rfl, rfl⟩)
    rw [hf]
    have hr3 := put2 (x0 := .int .i64 n) (x1 := .slice A ls.length cp) hr
    obtain ⟨q0, q1, -⟩ := now2 hr3 rfl
    have hB2 : Below gb w ((w1.setCell ⟨gb + 1, 0, none⟩ (.int .i64 n)).setCell ⟨gb + 1, 1, none⟩ (.slice A ls.length cp)) := below2 (by omega) hB1
    have hb2 : Below gb w1 ((w1.setCell ⟨gb + 1, 0, none⟩ (.int .i64 n)).setCell ⟨gb + 1, 1, none⟩ (.slice A ls.length cp)) := below2 (by omega) (Below.refl _ _)
    have hM := hzNH.out.below14 (show Below w.heap.size w ((w1.setCell ⟨gb + 1, 0, none⟩ (.int .i64 n)).setCell ⟨gb + 1, 1, none⟩ (.slice A ls.length cp)) by rw [hgbH.out]; exact hB2)
    have hcp2 := hcapH.out.below (show Below w.heap.size w ((w1.setCell ⟨gb + 1, 0, none⟩ (.int .i64 n)).setCell ⟨gb + 1, 1, none⟩ (.slice A ls.length cp)) by rw [hgbH.out]; exact hB2)
    clear hf hC hnone hex hst hle hz1 hr hm hB1 hb2
    go_wp2
    generalize (w1.setCell ⟨gb + 1, 0, none⟩ (.int .i64 n)).setCell ⟨gb + 1, 1, none⟩ (.slice A ls.length cp) = wz at *
    refine bodyPost_ret (v := .tuple #[.agg #[.int .i64 n, .slice A ls.length cp], .int .i64 0, .bool false]) (by simp [results, Try.results25, go_sem, q0, q1]) rfl ?_
    exact ⟨_, by rw [hres.out.1, hres.out.2.1], by rw [hres.out.2.2]; exact hM, hcp2, by rw [hgbH.out]; exact hB2⟩
theorem take14_any (n : Int) (V : Value) (ls : List (List Int)) (w : World) (hz : MatAt w w.heap.size V ls) (hcap : CapM w V) (hls : ls.length ≤ 4000) :
    Calls Try.prog 25 #[mtv n V] w fun e w' => ∃ u, e = .returned (.tuple #[mtv n u, .int .i64 (tkV ls), .bool (tkC ls).isSome]) ∧ MatAt w' w'.heap.size u (tkL ls) ∧ CapM w' u ∧ Below w.heap.size w w' := by
  refine (takeN14_any (fun _ => False) n V ls w (fun _ h => h.elim) (hz.toN (fun _ _ h => h)) hcap hls).mono ?_
  rintro e w' ⟨u, h1, h2, h3, h4⟩
  exact ⟨u, h1, h2.here, h3, h4⟩
end Go.Proofs.Ytjjpobpcpgcbaaa
namespace Go.Proofs.Ytjjpobpcpgcbaaa
open Go.RowKit Go.Joins

theorem spl_some14 {ls : List (List Int)} (h : RiseM ls) : decide ((splR ls).length < ls.length) = (rwI ls).isSome := by
  cases hr : rwI ls with
  | none => rw [spl_none14 hr]; exact decide_eq_false (Nat.lt_irrefl _)
  | some i => exact decide_eq_true (spl_lt14 h hr).2
set_option maxHeartbeats 8000000 in
set_option maxRecDepth 100000 in
theorem removeRowsN14_any (E : Nat → Prop) (n : Nat) (V : Value) (ls : List (List Int)) (w : World) (hE : ∀ b, E b → b < w.heap.size) (hzN : MatN w (fun b => ¬ E b) V ls) (hcap : CapM w V) (hn : n ≤ 4000) (hls : ls.length ≤ 4000) (hri : ∀ r, r ∈ ls → risL n r) :
    Calls Try.prog 34 #[mtv n V] w fun e w' => ∃ u, e = .returned (.tuple #[mtv n u, .bool (rwI ls).isSome]) ∧ MatN w' (fun b => ¬ E b) u (splR ls) ∧ CapM w' u ∧ Below w.heap.size w w' := by
  have hz := hzN.here
  have hzNH := Lib.hid hzN
  have hEH := Lib.hid hE
  clear hzN hE
  have hB0 := two_below14 w (mtb n V) (.cells #[.int .i64 0, .slice none 0 0] 24 (0, 0))
  have ht := two_made14 w (mtb n V) (.cells #[.int .i64 0, .slice none 0 0] 24 (0, 0))
  have hsz : ((w.alloc (mtb n V)).alloc (.cells #[.int .i64 0, .slice none 0 0] 24 (0, 0))).heap.size = w.heap.size + 2 := by simp
  have hSP := spare14_any n V ls _ ((hz.below hB0).more hB0.size) hn hls hri
  have hzz := hz.below hB0
  have hlt := Lib.hid (spl_some14 (rise_m14 fun r h => (hri r h).2))
  have hst := Lib.hid (fun (k : Nat) (l : List Int) (h : ls[k]? = some l) => keepL_take (f := fun k => !rowGo ls k) h)
  have hle := Lib.hid (fun k => keepL_len (fun k => !rowGo ls k) (ls.take k))
  have hdf : Hid (keepL (fun k => !rowGo ls k) ls = splR ls) := Lib.hid rfl
  obtain ⟨A, cp, rfl, hl, -⟩ := hz
  obtain ⟨j0, hj0, jz0, jz1, jz2⟩ := info_parts Try.infoInts
  have hne : (38 : TypeId) ≠ 24 := by decide
  unfold mtv at *
  unfold mtb at hB0 ht hzz hsz hSP
  clear hri
  go_enter Try.func34, Try.ntmps34
  go_wp2_with fail
  generalize (w.alloc _).alloc _ = w0 at *
  generalize hgb : w.heap.size = gb at *
  have hgbH := Lib.hid hgb
  have hszH := Lib.hid hsz
  clear hgb hsz
  refine hSP.mono ?_
  rintro e w1 ⟨ob, rfl, hob, hfl, hb1⟩
  have hm := keep_blk hb1 ht.1
  have hr := keep_blk hb1 ht.2
  have hB1 := hB0.trans (hb1.mono (by have := hszH.out; omega))
  have hcp1 := hcap.below (show Below w.heap.size w w1 by rw [hgbH.out]; exact hB1)
  clear hcap
  have hz1 := hzz.below (hb1.mono (by have := hszH.out; omega : gb ≤ w0.heap.size))
  have hgz : gb + 2 ≤ w1.heap.size := by have := hszH.out; have := hb1.size; omega
  obtain ⟨m0, m1, -⟩ := now2 hm rfl
  clear hSP hb1 hB0 ht hzz
  obtain ⟨A', c', e', -, hcell⟩ := hz1
  injection e' with e1 _ e2
  subst e1
  subst e2
  have hcH := Lib.hid hcell
  clear hcell
  generalize rowGo ls = G at *
  go_wp2
  go_loopw [5, 6, 7, 13] (fun V _ _ t wr => ∃ (k : Nat) (K : List (List Int)) (vs : List Value), k ≤ ls.length ∧ t = .int .i64 k ∧ Hid (K = keepL (fun k => !G k) (ls.take k)) ∧ Hid (vs.length = K.length) ∧ wr.ownsRow w1.heap.size 38 1 V K.length vs ∧ RowsX (fun b => gb ≤ b ∧ b < gb + 2) wr V K vs ∧ Hid (AllCap vs ∧ AllLow E vs) ∧ Below w1.heap.size w1 wr) (fun _ _ _ t _ => ls.length - (intOf t).toNat)
  case atStart => exact ⟨0, [], [], by omega, rfl, Lib.hid rfl, Lib.hid rfl, World.ownsRow_nil _ _ _ _, RowsX.nil _ _ _, Lib.hid (And.intro AllCap.nil (AllLow.nil E)), Below.refl _ _⟩
  case round =>
    obtain ⟨k, K, vs, hk, rfl, hK, hvl, hown, hin, hac, hb⟩ := hrel
    obtain ⟨AV, cV, rfl⟩ := own_form hown
    have hbs := hb.size
    by_cases hkl : k < ls.length
    · obtain ⟨l, hl2⟩ : ∃ l, ls[k]? = some l := ⟨_, List.getElem?_eq_getElem hkl⟩
      obtain ⟨b, off, rfl, hB, hcell⟩ := hcH.out (by omega)
      obtain ⟨ov2, z2, hov2⟩ := hcell k l hl2
      have g0 := (hb.cell (p := ⟨b, off + k, none⟩) (by show b < w1.heap.size; omega)).trans z2
      have hac2 := Lib.hid (And.intro (hac.out.1.push (hcp1.cell14 rfl hkl z2)) (hac.out.2.push (hzNH.out.cell14 rfl hkl (by rw [hgbH.out]; exact hB1) z2)))
      have hIN : IntsN wr (fun b => ¬ (gb ≤ b ∧ b < gb + 2) ∧ b < wr.heap.size ∧ (Value.slice AV K.length cV).ownBlock ≠ some b) ov2 l := ((hov2.below (hb.mono (by omega : gb ≤ w1.heap.size))).toN (N := fun b => b < gb) (fun _ h => h)).keep (fun _ _ => rfl) (fun b hb' => ⟨by omega, by omega, fun e => by have := (hown.lt b e).1; omega⟩)
      have hs := Lib.hid (hst.out k l hl2)
      have hKl : K.length ≤ 4000 := by
        have h1 := hle.out k
        rw [← hK.out, List.length_take] at h1
        omega
      have hfw := keep_blk hb hfl
      obtain ⟨x0, -⟩ := bol_cell hfw hkl
      obtain ⟨A2, c2, rfl, -, -⟩ := hov2
      have k0 : (0 : Int) ≤ (k : Int) := by omega
      have k1 : (k : Int) < (ls.length : Int) := by omega
      clear hl2 z2 hcell hfw
      cases hg : G k
      · have hK2 : Hid (K ++ [l] = keepL (fun k => !G k) (ls.take (k + 1))) := Lib.hid (by rw [hs.out, hg, hK.out]; rfl)
        rw [hg] at x0
        clear hs hK hg
        go_wp2_with (at_builtin; refine wpList_append_own_at _ rfl _ _ 22 rfl w1.heap.size 38 j0 (.slice none 0 0) 1 24 Try.underlying22 hj0 jz0 jz1 jz2 rfl (by decide) _ _ _ rfl (hown.alloc _) ⟨wr.heap.size, 0, none⟩ 1 1 [.slice A2 l.length c2] rfl rfl one_new13 (fun u hu => by rw [List.mem_singleton.1 hu]; rfl) ?c3 ?c4 ?c5 ?_)
        case c3 => unfold maxLen; omega
        case c4 => omega
        case c5 => simp; omega
        intro v8 w8 ho8 hg8 _ hloc
        have hba := below_alloc1 wr (.cells #[.slice A2 l.length c2] 38 (0, 0))
        have hin8 := hin.push (V' := v8) hvl.out hIN hba hg8 (hloc.imp id (fun h => h.trans (by simp)))
        have hB8 := grown_below (hown.alloc (.cells #[.slice A2 l.length c2] 38)) hg8 (hb.alloc hbs _) (by omega) (by simp; omega)
        have ho9 : w8.ownsRow w1.heap.size 38 1 v8 (K ++ [l]).length (vs ++ [.slice A2 l.length c2]) := by rw [List.length_append]; exact ho8
        have hvl2 : Hid ((vs ++ [Value.slice A2 l.length c2]).length = (K ++ [l]).length) := Lib.hid (by rw [List.length_append, List.length_append, hvl.out]; rfl)
        clear ho8 hg8 hloc hba hin hIN hown hb hvl g0 x0
        go_wp2
        go_roundw
        case rel => exact ⟨k + 1, K ++ [l], _, by omega, by go_num, hK2, hvl2, ho9, hin8, hac2, hB8⟩
        case measure => simp [intOf]; omega
      · have hK2 : Hid (K = keepL (fun k => !G k) (ls.take (k + 1))) := Lib.hid (by rw [hs.out, hg, hK.out]; rfl)
        rw [hg] at x0
        clear hs hK hg hIN
        go_wp2
        go_roundw
        case rel => exact ⟨k + 1, K, vs, by omega, by go_num, hK2, hvl, hown, hin, hac, hb⟩
        case measure => simp [intOf]; omega
    · have e : k = ls.length := by omega
      have hkd : ¬ (k : Int) < (ls.length : Int) := by omega
      have hKL : Hid (K = splR ls) := Lib.hid (by rw [hK.out, e, List.take_length, hdf.out])
      have hr2 := keep_blk hb hr
      have hm2 := keep_blk hb hm
      clear m0 m1
      obtain ⟨m0, m1, -⟩ := now2 hm2 rfl
      obtain ⟨r0, r1, rf⟩ := now2 hr2 rfl
      have hnb : (Value.slice AV K.length cV).ownBlock ≠ some (gb + 1) := fun e => by have := (hown.lt _ e).1; omega
      have hbl : Hid (decide (K.length < ls.length) = (rwI ls).isSome) := Lib.hid (by rw [← hlt.out, hKL.out])
      have hown2 : (((wr.setCell ⟨gb + 1, 0, none⟩ (.int .i64 n)).setCell ⟨gb + 1, 1, none⟩ (.slice AV K.length cV)).drew).ownsRow _ _ _ _ _ _ := own_set (own_set hown hnb 0 (.int .i64 n)) hnb 1 (.slice AV K.length cV)
      have hin2 : RowsX (fun b => gb ≤ b ∧ b < gb + 2) (((wr.setCell ⟨gb + 1, 0, none⟩ (.int .i64 n)).setCell ⟨gb + 1, 1, none⟩ (.slice AV K.length cV)).drew) _ _ _ := (hin.set (b := gb + 1) (j := 0) (u := .int .i64 n) (by omega)).set (b := gb + 1) (j := 1) (u := .slice AV K.length cV) (by omega)
      have hr3 : (((wr.setCell ⟨gb + 1, 0, none⟩ (.int .i64 n)).setCell ⟨gb + 1, 1, none⟩ (.slice AV K.length cV)).drew).heap[gb + 1]? = _ := put2 (x0 := .int .i64 n) (x1 := .slice AV K.length cV) hr2
      obtain ⟨q0, q1, -⟩ := now2 hr3 rfl
      have hB2 : Below gb w (((wr.setCell ⟨gb + 1, 0, none⟩ (.int .i64 n)).setCell ⟨gb + 1, 1, none⟩ (.slice AV K.length cV)).drew) := (below2 (by omega) (hB1.trans (hb.mono (by omega)))).drew
      have hvO := hvl
      clear e hK hcH hr hm hst hle hdf hlt hfl hin hown hvl
      go_upto_region 9 with (fail)
      go_region
      generalize ((wr.setCell ⟨gb + 1, 0, none⟩ (.int .i64 n)).setCell ⟨gb + 1, 1, none⟩ (.slice AV K.length cV)).drew = wz at *
      have hblO := hbl.out
      go_wp2
      refine bodyPost_ret (v := .tuple #[.agg #[.int .i64 n, .slice AV K.length cV], .bool (rwI ls).isSome]) (by simp [results, Try.results34, go_sem, q0, q1]) rfl ?_
      have hM := matN_low14 (hin2.rows.mat hown2) hown2 (fun b hb => by have := hEH.out b hb; omega) hac.out.2
      have hCM := own_capM14 hown2 hvO.out hac.out.1
      exact ⟨_, rfl, by rw [← hKL.out]; exact hM, hCM, by rw [hgbH.out]; exact hB2⟩
theorem removeRows14_any (n : Nat) (V : Value) (ls : List (List Int)) (w : World) (hz : MatAt w w.heap.size V ls) (hcap : CapM w V) (hn : n ≤ 4000) (hls : ls.length ≤ 4000) (hri : ∀ r, r ∈ ls → risL n r) :
    Calls Try.prog 34 #[mtv n V] w fun e w' => ∃ u, e = .returned (.tuple #[mtv n u, .bool (rwI ls).isSome]) ∧ MatAt w' w'.heap.size u (splR ls) ∧ CapM w' u ∧ Below w.heap.size w w' := by
  refine (removeRowsN14_any (fun _ => False) n V ls w (fun _ h => h.elim) (hz.toN (fun _ _ h => h)) hcap hn hls hri).mono ?_
  rintro e w' ⟨u, h1, h2, h3, h4⟩
  exact ⟨u, h1, h2.here, h3, h4⟩
end Go.Proofs.Ytjjpobpcpgcbaaa
