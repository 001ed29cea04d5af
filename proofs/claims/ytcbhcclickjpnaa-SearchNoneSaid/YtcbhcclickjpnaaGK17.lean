/- removeRows of the package reduce. slices.Grow, slices.Concat; without of the package reduce. -/
import Derived.Test.YtcbhcclickjpnaaGK16
import Derived.Lib.AppendZerosOnto
namespace Go.Proofs.Ytcbhcclickjpnaa
open Go.RowKit Go.Joins

theorem spl_some14 {ls : List (List Int)} (h : RiseM ls) : decide ((splR ls).length < ls.length) = (rwI ls).isSome := by
  cases hr : rwI ls with
  | none => rw [spl_none14 hr]; exact decide_eq_false (Nat.lt_irrefl _)
  | some i => exact decide_eq_true (spl_lt14 h hr).2
set_option maxHeartbeats 8000000 in
set_option maxRecDepth 100000 in
theorem removeRowsN14_any (E : Nat → Prop) (n : Nat) (V : Value) (ls : List (List Int)) (w : World) (hE : ∀ b, E b → b < w.heap.size) (hzN : MatN w (fun b => ¬ E b) V ls) (hcap : CapM w V) (hn : n ≤ 4000) (hls : ls.length ≤ 4000) (hri : ∀ r, r ∈ ls → risL n r) :
    Calls Try.prog 93 #[mtv n V] w fun e w' => ∃ u, e = .returned (.tuple #[mtv n u, .bool (rwI ls).isSome]) ∧ MatN w' (fun b => ¬ E b) u (splR ls) ∧ CapM w' u ∧ Below w.heap.size w w' := by
  have hz := hzN.here
  have hzNH := Lib.hid hzN
  have hEH := Lib.hid hE
  clear hzN hE
  have hB0 := two_below14 w (mtb n V) (.cells #[.int .i64 0, .slice none 0 0] 24 (0, 0))
  have ht := two_made14 w (mtb n V) (.cells #[.int .i64 0, .slice none 0 0] 24 (0, 0))
  have hsz : ((w.alloc (mtb n V)).alloc (.cells #[.int .i64 0, .slice none 0 0] 24 (0, 0))).heap.size = w.heap.size + 2 := by simp
  have hSP := spare14_any n V ls _ ((hz.below hB0).more hB0.size) hn hls hri
  have hzz := hz.below hB0
  have hlt := Lib.hid (spl_some14 (rise_m14 fun r h => (hri r h).2))
  have hst := Lib.hid (fun (k : Nat) (l : List Int) (h : ls[k]? = some l) => keepL_take (f := fun k => !rowGo ls k) h)
  have hle := Lib.hid (fun k => keepL_len (fun k => !rowGo ls k) (ls.take k))
  have hdf : Hid (keepL (fun k => !rowGo ls k) ls = splR ls) := Lib.hid rfl
  obtain ⟨A, cp, rfl, hl, -⟩ := hz
  obtain ⟨j0, hj0, jz0, jz1, jz2⟩ := info_parts Try.infoInts
  have hne : (30 : TypeId) ≠ 24 := by decide
  unfold mtv at *
  unfold mtb at hB0 ht hzz hsz hSP
  clear hri
  go_enter Try.func93, Try.ntmps93
  go_wp2_with fail
  generalize (w.alloc _).alloc _ = w0 at *
  generalize hgb : w.heap.size = gb at *
  have hgbH := Lib.hid hgb
  have hszH := Lib.hid hsz
  clear hgb hsz
  refine hSP.mono ?_
  rintro e w1 ⟨ob, rfl, hob, hfl, hb1⟩
  have hm := keep_blk hb1 ht.1
  have hr := keep_blk hb1 ht.2
  have hB1 := hB0.trans (hb1.mono (by have := hszH.out; omega))
  have hcp1 := hcap.below (show Below w.heap.size w w1 by rw [hgbH.out]; exact hB1)
  clear hcap
  have hz1 := hzz.below (hb1.mono (by have := hszH.out; omega : gb ≤ w0.heap.size))
  have hgz : gb + 2 ≤ w1.heap.size := by have := hszH.out; have := hb1.size; omega
  obtain ⟨m0, m1, -⟩ := now2 hm rfl
  clear hSP hb1 hB0 ht hzz
  obtain ⟨A', c', e', -, hcell⟩ := hz1
  injection e' with e1 _ e2
  subst e1
  subst e2
  have hcH := Lib.hid hcell
  clear hcell
  generalize rowGo ls = G at *
  go_wp2
  go_loopw [5, 6, 7, 13] (fun V _ _ t wr => ∃ (k : Nat) (K : List (List Int)) (vs : List Value), k ≤ ls.length ∧ t = .int .i64 k ∧ Hid (K = keepL (fun k => !G k) (ls.take k)) ∧ Hid (vs.length = K.length) ∧ wr.ownsRow w1.heap.size 30 1 V K.length vs ∧ RowsX (fun b => gb ≤ b ∧ b < gb + 2) wr V K vs ∧ Hid (AllCap vs ∧ AllLow E vs) ∧ Below w1.heap.size w1 wr) (fun _ _ _ t _ => ls.length - (intOf t).toNat)
  case atStart => exact ⟨0, [], [], by omega, rfl, Lib.hid rfl, Lib.hid rfl, World.ownsRow_nil _ _ _ _, RowsX.nil _ _ _, Lib.hid (And.intro AllCap.nil (AllLow.nil E)), Below.refl _ _⟩
  case round =>
    obtain ⟨k, K, vs, hk, rfl, hK, hvl, hown, hin, hac, hb⟩ := hrel
    obtain ⟨AV, cV, rfl⟩ := own_form hown
    have hbs := hb.size
    by_cases hkl : k < ls.length
    · obtain ⟨l, hl2⟩ : ∃ l, ls[k]? = some l := ⟨_, List.getElem?_eq_getElem hkl⟩
      obtain ⟨b, off, rfl, hB, hcell⟩ := hcH.out (by omega)
      obtain ⟨ov2, z2, hov2⟩ := hcell k l hl2
      have g0 := (hb.cell (p := ⟨b, off + k, none⟩) (by show b < w1.heap.size; omega)).trans z2
      have hac2 := Lib.hid (And.intro (hac.out.1.push (hcp1.cell14 rfl hkl z2)) (hac.out.2.push (hzNH.out.cell14 rfl hkl (by rw [hgbH.out]; exact hB1) z2)))
      have hIN : IntsN wr (fun b => ¬ (gb ≤ b ∧ b < gb + 2) ∧ b < wr.heap.size ∧ (Value.slice AV K.length cV).ownBlock ≠ some b) ov2 l := ((hov2.below (hb.mono (by omega : gb ≤ w1.heap.size))).toN (N := fun b => b < gb) (fun _ h => h)).keep (fun _ _ => rfl) (fun b hb' => ⟨by omega, by omega, fun e => by have := (hown.lt b e).1; omega⟩)
      have hs := Lib.hid (hst.out k l hl2)
      have hKl : K.length ≤ 4000 := by
        have h1 := hle.out k
        rw [← hK.out, List.length_take] at h1
        omega
      have hfw := keep_blk hb hfl
      obtain ⟨x0, -⟩ := bol_cell hfw hkl
      obtain ⟨A2, c2, rfl, -, -⟩ := hov2
      have k0 : (0 : Int) ≤ (k : Int) := by omega
      have k1 : (k : Int) < (ls.length : Int) := by omega
      clear hl2 z2 hcell hfw
      cases hg : G k
      · have hK2 : Hid (K ++ [l] = keepL (fun k => !G k) (ls.take (k + 1))) := Lib.hid (by rw [hs.out, hg, hK.out]; rfl)
        rw [hg] at x0
        clear hs hK hg
        go_wp2_with (at_builtin; refine wpList_append_own_at _ rfl _ _ 22 rfl w1.heap.size 30 j0 (.slice none 0 0) 1 24 Try.underlying22 hj0 jz0 jz1 jz2 rfl (by decide) _ _ _ rfl (hown.alloc _) ⟨wr.heap.size, 0, none⟩ 1 1 [.slice A2 l.length c2] rfl rfl one_new13 (fun u hu => by rw [List.mem_singleton.1 hu]; rfl) ?c3 ?c4 ?c5 ?_)
        case c3 => unfold maxLen; omega
        case c4 => omega
        case c5 => simp; omega
        intro v8 w8 ho8 hg8 _ hloc
        have hba := below_alloc1 wr (.cells #[.slice A2 l.length c2] 30 (0, 0))
        have hin8 := hin.push (V' := v8) hvl.out hIN hba hg8 (hloc.imp id (fun h => h.trans (by simp)))
        have hB8 := grown_below (hown.alloc (.cells #[.slice A2 l.length c2] 30)) hg8 (hb.alloc hbs _) (by omega) (by simp; omega)
        have ho9 : w8.ownsRow w1.heap.size 30 1 v8 (K ++ [l]).length (vs ++ [.slice A2 l.length c2]) := by rw [List.length_append]; exact ho8
        have hvl2 : Hid ((vs ++ [Value.slice A2 l.length c2]).length = (K ++ [l]).length) := Lib.hid (by rw [List.length_append, List.length_append, hvl.out]; rfl)
        clear ho8 hg8 hloc hba hin hIN hown hb hvl g0 x0
        go_wp2
        go_roundw
        case rel => exact ⟨k + 1, K ++ [l], _, by omega, by go_num, hK2, hvl2, ho9, hin8, hac2, hB8⟩
        case measure => simp [intOf]; omega
      · have hK2 : Hid (K = keepL (fun k => !G k) (ls.take (k + 1))) := Lib.hid (by rw [hs.out, hg, hK.out]; rfl)
        rw [hg] at x0
        clear hs hK hg hIN
        go_wp2
        go_roundw
        case rel => exact ⟨k + 1, K, vs, by omega, by go_num, hK2, hvl, hown, hin, hac, hb⟩
        case measure => simp [intOf]; omega
    · have e : k = ls.length := by omega
      have hkd : ¬ (k : Int) < (ls.length : Int) := by omega
      have hKL : Hid (K = splR ls) := Lib.hid (by rw [hK.out, e, List.take_length, hdf.out])
      have hr2 := keep_blk hb hr
      have hm2 := keep_blk hb hm
      clear m0 m1
      obtain ⟨m0, m1, -⟩ := now2 hm2 rfl
      obtain ⟨r0, r1, rf⟩ := now2 hr2 rfl
      have hnb : (Value.slice AV K.length cV).ownBlock ≠ some (gb + 1) := fun e => by have := (hown.lt _ e).1; omega
      have hbl : Hid (decide (K.length < ls.length) = (rwI ls).isSome) := Lib.hid (by rw [← hlt.out, hKL.out])
      have hown2 : (((wr.setCell ⟨gb + 1, 0, none⟩ (.int .i64 n)).setCell ⟨gb + 1, 1, none⟩ (.slice AV K.length cV)).drew).ownsRow _ _ _ _ _ _ := own_set (own_set hown hnb 0 (.int .i64 n)) hnb 1 (.slice AV K.length cV)
      have hin2 : RowsX (fun b => gb ≤ b ∧ b < gb + 2) (((wr.setCell ⟨gb + 1, 0, none⟩ (.int .i64 n)).setCell ⟨gb + 1, 1, none⟩ (.slice AV K.length cV)).drew) _ _ _ := (hin.set (b := gb + 1) (j := 0) (u := .int .i64 n) (by omega)).set (b := gb + 1) (j := 1) (u := .slice AV K.length cV) (by omega)
      have hr3 : (((wr.setCell ⟨gb + 1, 0, none⟩ (.int .i64 n)).setCell ⟨gb + 1, 1, none⟩ (.slice AV K.length cV)).drew).heap[gb + 1]? = _ := put2 (x0 := .int .i64 n) (x1 := .slice AV K.length cV) hr2
      obtain ⟨q0, q1, -⟩ := now2 hr3 rfl
      have hB2 : Below gb w (((wr.setCell ⟨gb + 1, 0, none⟩ (.int .i64 n)).setCell ⟨gb + 1, 1, none⟩ (.slice AV K.length cV)).drew) := (below2 (by omega) (hB1.trans (hb.mono (by omega)))).drew
      have hvO := hvl
      clear e hK hcH hr hm hst hle hdf hlt hfl hin hown hvl
      go_upto_region 9 with (fail)
      go_region
      generalize ((wr.setCell ⟨gb + 1, 0, none⟩ (.int .i64 n)).setCell ⟨gb + 1, 1, none⟩ (.slice AV K.length cV)).drew = wz at *
      have hblO := hbl.out
      go_wp2
      refine bodyPost_ret (v := .tuple #[.agg #[.int .i64 n, .slice AV K.length cV], .bool (rwI ls).isSome]) (by simp [results, Try.results93, go_sem, q0, q1]) rfl ?_
      have hM := matN_low14 (hin2.rows.mat hown2) hown2 (fun b hb => by have := hEH.out b hb; omega) hac.out.2
      have hCM := own_capM14 hown2 hvO.out hac.out.1
      exact ⟨_, rfl, by rw [← hKL.out]; exact hM, hCM, by rw [hgbH.out]; exact hB2⟩
end Go.Proofs.Ytcbhcclickjpnaa
namespace Go.Proofs.Ytcbhcclickjpnaa
open Go.RowKit Go.Joins

theorem wpList_appendR2 (w : World) {ops : Array Oper} {rest : List Oper} {o : Oper} {a : Act} {Q : Exit → Act → World → Prop}
    (hg : o.guard = none) (s x : Operand) (t u : TypeId) (hop : o.op = .call { callee := .builtin .append, args := #[s, x], argTypes := #[t, u] }) (V v v' : Value) (w' : World) (hs : a.eval s = V) (hx : a.eval x = v)
    (hrun : (Builtin.append_ #[t, u] o.type #[V, v]).run Try.prog w = .ok v' w') (hK : wpList Try.prog ops Q rest (a.put o.dst v') w') : wpList Try.prog ops Q (o :: rest) a w := by
  refine wpList_plain hg fun K' hK' => ?_
  unfold Oper.wp execOp
  simp [hop, resolve, invoke, builtin, hs, hx, hrun, Result.andThen]
  exact hK' _ _ hK
set_option maxHeartbeats 2000000 in
set_option maxRecDepth 100000 in
theorem growI14_any (k : Nat) (w : World) (hk : k ≤ 100000) :
    Calls Try.prog 75 #[.slice none 0 0, .int .i64 k] w fun e w' => ∃ v, e = .returned v ∧ w'.ownsRow w.heap.size 3 1 v 0 [] ∧ Below w.heap.size w w' := by
  by_cases h0 : k = 0
  · subst h0
    go_enter Try.func75, Try.ntmps75
    go_wp2
    go_ret
    exact ⟨_, rfl, World.ownsRow_nil _ _ _ _, Below.refl _ _⟩
  · obtain ⟨i0, hi0, hz0, hz1, hz2⟩ := info_parts Try.infoInt14
    have hrz : ∀ ty, (Builtin.append_ #[30, 3] ty #[.slice none 0 0, .int .i64 (k : Int)]).run Try.prog w =
        .ok (.slice (some ⟨w.heap.size, 0, none⟩) (0 + k) (grownCap w (0 + k) 0 3)) (w.drew.alloc (.cells (([] : List Value).toArray ++ Builtin.zeroCells (Value.int .i64 0).cells k ++ Builtin.zeroCells (Value.int .i64 0).cells (grownCap w (0 + k) 0 3 - (0 + k))) 3)) := fun ty =>
      Lib.run_append_grow_zeros w 30 3 ty 3 i0 _ .i64 .i64 Try.underlying30 Try.underlying3 hi0 hz0 none 0 0 [] (by simp [Builtin.firstCells]) k (by omega) (by omega) (by omega) (by omega) (by rw [hz2]; omega) (by rw [hz2]; exact growslice_fits (by omega) (by omega))
    have hgr := grownCap_ge w (0 + k) 0 3
    have hgm := grownCap_le_maxLen w (0 + k) 0 3 (by unfold maxLen; omega)
    rw [Nat.zero_add] at hrz hgr hgm
    obtain ⟨G, hG⟩ : ∃ G, G = grownCap w k 0 3 := ⟨_, rfl⟩
    rw [← hG] at hrz hgr hgm
    obtain ⟨ROW, hROW⟩ : ∃ ROW : Array Value, ROW = ([] : List Value).toArray ++ Builtin.zeroCells (Value.int .i64 0).cells k ++ Builtin.zeroCells (Value.int .i64 0).cells (G - k) := ⟨_, rfl⟩
    rw [← hROW] at hrz
    have hRl : ROW.size = G * 1 := by
      have hz1c : (Value.int .i64 0).cells.size = 1 := by decide
      rw [hROW, Array.size_append, Array.size_append, size_zeroCells, size_zeroCells, hz1c]
      simp
      omega
    have hown : (w.drew.alloc (.cells ROW 3)).ownsRow w.heap.size 3 1 (.slice (some ⟨w.heap.size, 0, none⟩) 0 G) 0 [] := ⟨rfl, .inr ⟨w.heap.size, G, ROW, rfl, Nat.le_refl _, heap_alloc_new w.drew _, Nat.zero_le _, hgm, hRl, by simp⟩⟩
    have hB : Below w.heap.size w (w.drew.alloc (.cells ROW 3)) := ((Below.refl _ w).drew).alloc (Nat.le_refl _) _
    have hk1 : (0 : Int) < (k : Int) := by omega
    clear hROW hRl hG
    go_enter Try.func75, Try.ntmps75
    go_wp2_with (at_builtin; refine wpList_appendR2 _ rfl _ _ 30 3 rfl _ _ _ _ rfl rfl (hrz _) ?_)
    go_ret
    exact ⟨_, rfl, hown, hB⟩
theorem flat_take14 {ls : List (List Int)} {k : Nat} {l : List Int} (h : ls[k]? = some l) : (ls.take (k + 1)).flatten = (ls.take k).flatten ++ l := by
  rw [List.take_add_one, h, List.flatten_append]
  simp
theorem flat_len14 (ls : List (List Int)) (k : Nat) : (ls.take k).flatten.length = totK ls k := by
  rw [List.length_flatten]
  rfl
set_option maxHeartbeats 4000000 in
set_option maxRecDepth 100000 in
theorem concatI14_any (S : Value) (ls : List (List Int)) (w : World) (hS : MatAt w w.heap.size S ls) (htot : ∀ k, totK ls k ≤ 100000) :
    Calls Try.prog 52 #[S] w fun e w' => ∃ v, e = .returned v ∧ w'.ownsRow w.heap.size 3 1 v ls.flatten.length (intI ls.flatten) ∧ Below w.heap.size w w' := by
  have hG := growI14_any (totK ls ls.length) w (htot _)
  have htk := Lib.hid (fun k => htot k)
  have hts := Lib.hid (fun (k : Nat) (r : List Int) (h : ls[k]? = some r) => totK_succ h)
  have hft := Lib.hid (fun (k : Nat) (l : List Int) (h : ls[k]? = some l) => flat_take14 h)
  have hfl := Lib.hid (fun k => flat_len14 ls k)
  have h0 : Hid ((0 : Int) = (totK ls 0 : Nat)) := Lib.hid rfl
  obtain ⟨A, c, rfl, hl, hc⟩ := hS
  have hcH := Lib.hid hc
  clear hc htot
  go_enter Try.func52, Try.ntmps52
  go_wp2
  go_loopw [3, 5, 11] (fun s _ t wr => ∃ k : Nat, k ≤ ls.length ∧ t = .int .i64 k ∧ s = .int .i64 (totK ls k : Nat) ∧ w = wr) (fun _ _ t _ => ls.length - (intOf t).toNat)
  case atStart => exact ⟨0, by omega, rfl, by rw [← h0.out], rfl⟩
  case round =>
    obtain ⟨k, hk, rfl, rfl, rfl⟩ := hrel
    by_cases hlt : k < ls.length
    · obtain ⟨b, off, rfl, hB, hcc⟩ := hcH.out (by omega)
      obtain ⟨r, hrk⟩ : ∃ r, ls[k]? = some r := ⟨_, List.getElem?_eq_getElem hlt⟩
      obtain ⟨ov, z0, hov⟩ := hcc k r hrk
      obtain ⟨Ar, cr, rfl, hlr, hcr⟩ := hov
      have hs := Lib.hid (hts.out k r hrk)
      have h1 := htk.out k
      have h2 : totK ls k + r.length ≤ 100000 := by rw [← hs.out]; exact htk.out (k + 1)
      have k0 : (0 : Int) ≤ (k : Int) := by omega
      have k1 : (k : Int) < (ls.length : Int) := by omega
      generalize totK ls k = tk at *
      clear hcH hcc hrk hcr htk hts hft hfl h0 hG
      go_wp2
      go_roundw
      case rel => exact ⟨k + 1, by omega, by go_num, by rw [hs.out]; go_num, by first | rfl | trivial⟩
      case measure => simp [intOf]; omega
    · have e : k = ls.length := by omega
      subst e
      have hkd : ¬ (ls.length : Int) < (ls.length : Int) := by omega
      have h1 := htk.out ls.length
      clear h0
      go_wp2_with fail
      refine hG.mono ?_
      rintro e w2 ⟨v, rfl, hown, hb⟩
      obtain ⟨Av, cv, rfl⟩ := own_form hown
      have hown0 : w2.ownsRow w.heap.size 3 1 (.slice Av 0 cv) ([] : List Int).length (intI []) := hown
      clear hG hown
      go_wp2
      go_loopw [6, 8, 27] (fun V _ t wr => ∃ (k : Nat) (K : List Int), k ≤ ls.length ∧ t = .int .i64 k ∧ Hid (K = (ls.take k).flatten) ∧ wr.ownsRow w.heap.size 3 1 V K.length (intI K) ∧ Below w.heap.size w wr) (fun _ _ t _ => ls.length - (intOf t).toNat)
      case atStart => exact ⟨0, [], by omega, rfl, Lib.hid rfl, hown0, hb⟩
      case round =>
        clear hown0 hb
        obtain ⟨k, K, hk, rfl, hK, hown, hb⟩ := hrel
        obtain ⟨AV, cV, rfl⟩ := own_form hown
        have hbs := hb.size
        by_cases hlt : k < ls.length
        · obtain ⟨b, off, rfl, hB, hcc⟩ := hcH.out (by omega)
          obtain ⟨r, hrk⟩ : ∃ r, ls[k]? = some r := ⟨_, List.getElem?_eq_getElem hlt⟩
          obtain ⟨ov, z0, hov⟩ := hcc k r hrk
          have g0 := (hb.cell (p := ⟨b, off + k, none⟩) hB).trans z0
          have hov3 := (hov.below hb).more hbs
          have hK2 : Hid (K ++ r = (ls.take (k + 1)).flatten) := Lib.hid (by rw [hft.out k r hrk, hK.out])
          have hKl : K.length ≤ 100000 := by rw [hK.out, hfl.out]; exact htk.out k
          have hrl : r.length ≤ 100000 := by
            have h1 := htk.out (k + 1)
            rw [hts.out k r hrk] at h1
            omega
          obtain ⟨v', w3, hrun, ho3, hb3⟩ := append13 (l := r) 30 hown hbs hov3 hKl hrl
          obtain ⟨Ar, cr, rfl, -, -⟩ := hov
          have k0 : (0 : Int) ≤ (k : Int) := by omega
          have k1 : (k : Int) < (ls.length : Int) := by omega
          have hb4 := hb.trans hb3
          clear hcc hrk z0 hK hown hb hb3 hov3 hft hfl hts htk
          go_wp2_with (at_builtin; refine wpList_appendR _ rfl _ _ 30 rfl _ _ v' w3 rfl rfl hrun ?_)
          go_roundw
          case rel => exact ⟨k + 1, K ++ r, by omega, by go_num, hK2, ho3, hb4⟩
          case measure => simp [intOf]; omega
        · have e : k = ls.length := by omega
          have hkd : ¬ (k : Int) < (ls.length : Int) := by omega
          have hKL : Hid (K = ls.flatten) := Lib.hid (by rw [hK.out, e, List.take_length])
          clear e hK hcH hft hfl hts htk
          go_wp2
          go_ret
          exact ⟨_, rfl, by rw [← hKL.out, show (List.map List.length ls).sum = K.length by rw [hKL.out, List.length_flatten]]; exact hown, hb⟩
theorem rm_one14 {r : List Int} {i : Nat} {c : Int} (hr : r.Pairwise (· < ·)) (hi : r[i]? = some c) : r.take i ++ r.drop (i + 1) = otC14 c r := by
  have hil := (List.getElem?_eq_some_iff.1 hi).1
  have e : r = r.take i ++ (c :: r.drop (i + 1)) := by
    conv => lhs; rw [← List.take_append_drop i r]
    congr 1
    rw [List.drop_eq_getElem_cons hil]
    congr 1
    exact (List.getElem?_eq_some_iff.1 hi).2
  have h1 : (r.take i).filter (fun x => !decide (x = c)) = r.take i := by
    rw [List.filter_eq_self]
    intro x hx
    obtain ⟨j, hj⟩ := List.mem_iff_getElem?.1 hx
    rw [List.getElem?_take] at hj
    split at hj
    · rename_i hji
      have := rise_get14 hr hj hi hji
      simp; omega
    · cases hj
  have h2 : (r.drop (i + 1)).filter (fun x => !decide (x = c)) = r.drop (i + 1) := by
    rw [List.filter_eq_self]
    intro x hx
    obtain ⟨j, hj⟩ := List.mem_iff_getElem?.1 hx
    rw [List.getElem?_drop] at hj
    have := rise_get14 hr hi hj (by omega)
    simp; omega
  unfold otC14
  conv => rhs; rw [e]
  rw [List.filter_append, h1, List.filter_cons_of_neg (by simp), h2]
/-- The rows, those at the places T without c. -/
def wthK (ls : List (List Int)) (c : Int) (T : List Int) : List (List Int) := (List.range ls.length).map fun i : Nat => if (i : Int) ∈ T then otC14 c (ls.getD i []) else ls.getD i []
theorem wth_len (ls : List (List Int)) (c : Int) (T : List Int) : (wthK ls c T).length = ls.length := by unfold wthK; simp
theorem wth_get {ls : List (List Int)} {c : Int} {T : List Int} {i : Nat} {l : List Int} (h : ls[i]? = some l) : (wthK ls c T)[i]? = some (if (i : Int) ∈ T then otC14 c l else l) := by
  have hi := (List.getElem?_eq_some_iff.1 h).1
  unfold wthK
  rw [List.getElem?_map, List.getElem?_range hi]
  simp only [Option.map_some]
  rw [List.getD_eq_getElem?_getD, h]
  rfl
theorem wth_none (ls : List (List Int)) (c : Int) : wthK ls c [] = ls := by
  apply List.ext_getElem?
  intro i
  cases h : ls[i]? with
  | some l => rw [wth_get h, if_neg List.not_mem_nil]
  | none =>
    have : ls.length ≤ i := List.getElem?_eq_none_iff.1 h
    rw [List.getElem?_eq_none (by rw [wth_len]; exact this)]
theorem wth_all (ls : List (List Int)) (c : Int) : wthK ls c (whr ls c) = clR ls c := by
  apply List.ext_getElem?
  intro i
  unfold clR
  rw [List.getElem?_map]
  cases h : ls[i]? with
  | some l =>
    have hi := (List.getElem?_eq_some_iff.1 h).1
    have e : ls.getD i [] = l := by rw [List.getD_eq_getElem?_getD, h]; rfl
    rw [wth_get h]
    by_cases hm : (i : Int) ∈ whr ls c
    · rw [if_pos hm]; rfl
    · rw [if_neg hm]
      have hn : ¬ c ∈ l := fun hc => hm (mem_whr.2 ⟨hi, by rw [e]; exact hc⟩)
      have : l.filter (fun x => !decide (x = c)) = l := by
        rw [List.filter_eq_self]
        intro x hx
        have : x ≠ c := fun e => hn (e ▸ hx)
        simp [this]
      simp only [Option.map_some]
      rw [this]
  | none =>
    have : ls.length ≤ i := List.getElem?_eq_none_iff.1 h
    rw [List.getElem?_eq_none (by rw [wth_len]; exact this)]
    rfl
theorem wth_step {ls : List (List Int)} {c : Int} {T : List Int} {j x : Nat} {l : List Int} (hj : T[j]? = some (x : Int)) (h : ls[x]? = some l) : wthK ls c (T.take (j + 1)) = (wthK ls c (T.take j)).set x (otC14 c l) := by
  apply List.ext_getElem?
  intro i
  rw [List.getElem?_set]
  have hx := (List.getElem?_eq_some_iff.1 h).1
  have hm : ∀ i : Nat, (i : Int) ∈ T.take (j + 1) ↔ (i : Int) ∈ T.take j ∨ i = x := fun i => by
    rw [List.take_add_one, hj, List.mem_append]
    constructor
    · rintro (h1 | h1)
      · exact .inl h1
      · exact .inr (by have h2 : (i : Int) = x := (by simpa using h1); omega)
    · rintro (h1 | h1)
      · exact .inl h1
      · exact .inr (by simp [h1])
  by_cases e : x = i
  · subst e
    rw [if_pos rfl, if_pos (by rw [wth_len]; exact hx), wth_get h, if_pos ((hm x).2 (.inr rfl))]
  · rw [if_neg e]
    cases h2 : ls[i]? with
    | some l2 =>
      rw [wth_get h2, wth_get h2]
      by_cases hmi : (i : Int) ∈ T.take j
      · rw [if_pos hmi, if_pos ((hm i).2 (.inl hmi))]
      · rw [if_neg hmi, if_neg (fun h3 => (((hm i).1 h3).elim hmi (fun e2 => e e2.symm)))]
    | none =>
      have : ls.length ≤ i := List.getElem?_eq_none_iff.1 h2
      rw [List.getElem?_eq_none (by rw [wth_len]; exact this), List.getElem?_eq_none (by rw [wth_len]; exact this)]
theorem RowsIn.put14 {w : World} {n cap g x : Nat} {K : List (List Int)} {vs : List Value} {v : Value} {l : List Int} (h : RowsIn w (.slice (some ⟨g, 0, none⟩) n cap) K vs) (hv : IntsN w (fun b => b < w.heap.size ∧ (Value.slice (some ⟨g, 0, none⟩) n cap).ownBlock ≠ some b) v l) (hl : vs.length = K.length) :
    RowsIn (w.setCell ⟨g, x, none⟩ v) (.slice (some ⟨g, 0, none⟩) n cap) (K.set x l) (vs.set x v) := by
  have hk : ∀ b, (b < w.heap.size ∧ (Value.slice (some ⟨g, 0, none⟩) n cap).ownBlock ≠ some b) → (w.setCell ⟨g, x, none⟩ v).heap[b]? = w.heap[b]? := fun b hN => Below.heap_setCell _ _ _ _ (fun e => hN.2 (by rw [show b = g from e]; rfl))
  have hN : ∀ b, (b < w.heap.size ∧ (Value.slice (some ⟨g, 0, none⟩) n cap).ownBlock ≠ some b) → (b < (w.setCell ⟨g, x, none⟩ v).heap.size ∧ (Value.slice (some ⟨g, 0, none⟩) n cap).ownBlock ≠ some b) := fun b hN => ⟨by simpa [World.setCell] using hN.1, hN.2⟩
  intro j q hj
  rw [List.getElem?_set] at hj
  split at hj
  · rename_i e
    subst e
    split at hj
    · rename_i hx
      injection hj with hj
      subst hj
      exact ⟨v, by rw [List.getElem?_set_self (by omega)], hv.keep hk hN⟩
    · cases hj
  · rename_i e
    obtain ⟨u, hu, hi⟩ := h j q hj
    exact ⟨u, by rw [List.getElem?_set_ne e]; exact hu, hi.keep hk hN⟩
end Go.Proofs.Ytcbhcclickjpnaa
