/- without of the package reduce. removeColumn of the package reduce. Take and Columns of the package reduce, as they are called. Rows of the package reduce, as it is called. -/
import Derived.Test.YtcbhcclickjpnaaGK17
import Derived.Test.YtcbhcclickjpnaaGK05
import Derived.Test.YtcbhcclickjpnaaGK10
import Derived.Test.YtcbhcclickjpnaaShelf
import Derived.Shelf.SlicesE.Delete
import Derived.Shelf.SlicesE.Index
namespace Go.Proofs.Ytcbhcclickjpnaa
open Go.RowKit Go.Joins

theorem two_mat14 {w : World} {v1 v2 : Value} {a b : List Int} (h1 : IntsAt w w.heap.size v1 a) (h2 : IntsAt w w.heap.size v2 b) : MatAt ((w.alloc (.cells #[v1, v2] 30)).drew) ((w.alloc (.cells #[v1, v2] 30)).drew).heap.size (.slice (some ⟨w.heap.size, 0, none⟩) 2 2) [a, b] := by
  have hB : Below w.heap.size w ((w.alloc (.cells #[v1, v2] 30)).drew) := (below_alloc1 w _).drew
  have hn : ((w.alloc (.cells #[v1, v2] 30)).drew).heap[w.heap.size]? = some (.cells #[v1, v2] 30 (0, 0)) := heap_alloc_new w _
  refine ⟨_, 2, rfl, by simp, fun _ => ⟨w.heap.size, 0, rfl, size_of_block hn, fun j l hj => ?_⟩⟩
  match j, hj with
  | 0, hj =>
    injection hj with hj
    subst hj
    exact ⟨v1, by rw [cell_of_block hn]; rfl, (h1.below hB).more hB.size⟩
  | 1, hj =>
    injection hj with hj
    subst hj
    exact ⟨v2, by rw [cell_of_block hn]; rfl, (h2.below hB).more hB.size⟩
theorem tot_two14 {a b : List Int} (h : a.length + b.length ≤ 4000) : ∀ k, totK [a, b] k ≤ 100000
  | 0 => by simp [totK]
  | 1 => by simp [totK]; omega
  | k + 2 => by simp [totK]; omega
theorem cut_at14 {w : World} {B b off n c i : Nat} {l : List Int} (h : IntsAt w B (.slice (some ⟨b, off, none⟩) n c) l) (hi : i ≤ l.length) (c' : Nat) : IntsAt w B (.slice (some ⟨b, off, none⟩) i c') (l.take i) := by
  obtain ⟨A, c0, e, hl, hc⟩ := h
  injection e with e _ _
  subst e
  have hlen : (l.take i).length = i := by rw [List.length_take]; omega
  refine ⟨_, c', by rw [hlen], by omega, fun h0 => ?_⟩
  obtain ⟨b', off', e, hB, hcell⟩ := hc (by omega)
  refine ⟨b', off', e, hB, fun j x hj => hcell j x ?_⟩
  rw [List.getElem?_take] at hj
  split at hj
  · exact hj
  · cases hj
theorem cut_from14 {w : World} {B b off n c i : Nat} {l : List Int} (h : IntsAt w B (.slice (some ⟨b, off, none⟩) n c) l) (hi : i ≤ l.length) (c' : Nat) : IntsAt w B (.slice (some ⟨b, off + i, none⟩) (l.length - i) c') (l.drop i) := by
  obtain ⟨A, c0, e, hl, hc⟩ := h
  injection e with e _ _
  subst e
  refine ⟨_, c', by rw [List.length_drop], by rw [List.length_drop]; omega, fun h0 => ?_⟩
  rw [List.length_drop] at h0
  obtain ⟨b', off', e, hB, hcell⟩ := hc (by omega)
  injection e with e
  injection e with e1 e2
  subst e1
  subst e2
  refine ⟨b, off + i, rfl, hB, fun j x hj => ?_⟩
  rw [List.getElem?_drop] at hj
  have := hcell (i + j) x hj
  rwa [← Nat.add_assoc] at this
set_option maxHeartbeats 8000000 in
set_option maxRecDepth 100000 in
theorem without14_any (E : Nat → Prop) (R S : Value) (c : Int) (ls : List (List Int)) (w : World) (hE : ∀ b, E b → b < w.heap.size) (hRN : MatN w (fun b => ¬ E b) R ls) (hcap : CapM w R) (hS : IntsAt w w.heap.size S (whr ls c)) (hls : ls.length ≤ 4000) (hri : ∀ r, r ∈ ls → r.Pairwise (· < ·)) (hlen : ∀ r, r ∈ ls → r.length ≤ 4000) :
    Calls Try.prog 102 #[R, S, .int .i64 c] w fun e w' => ∃ u vs, e = .returned u ∧ w'.ownsRow w.heap.size 30 1 u (clR ls c).length vs ∧ Hid (vs.length = (clR ls c).length) ∧ RowsIn w' u (clR ls c) vs ∧ AllCap vs ∧ AllLow E vs ∧ Below w.heap.size w w' := by
  have hR := hRN.here
  have HC := cloneM14_any E w R ls (by omega) hRN hcap
  have hst := Lib.hid (fun (j x : Nat) (l : List Int) (hj : (whr ls c)[j]? = some (x : Int)) (h : ls[x]? = some l) => wth_step (c := c) hj h)
  have hin0 : Hid (∀ j x, (whr ls c)[j]? = some x → ∃ (y : Nat) (r : List Int) (i : Nat), x = (y : Int) ∧ ls[y]? = some r ∧ r[i]? = some c ∧ firstI (fun x => decide (x = c)) r = (i : Int) ∧ r.take i ++ r.drop (i + 1) = otC14 c r ∧ r.length ≤ 4000) := Lib.hid (fun j x hj => by
    have hm := List.mem_of_getElem? hj
    obtain ⟨h0, h1⟩ := whr_in hm
    obtain ⟨y, rfl⟩ := Int.eq_ofNat_of_zero_le h0
    have hy : y < ls.length := by omega
    have hr : ls[y]? = some ls[y] := List.getElem?_eq_getElem hy
    have e : ls.getD y [] = ls[y] := by rw [List.getD_eq_getElem?_getD, hr]; rfl
    have hc := (mem_whr.1 hm).2
    rw [e] at hc
    obtain ⟨i, hi⟩ := List.mem_iff_getElem?.1 hc
    refine ⟨y, ls[y], i, rfl, hr, hi, isX_at hi fun j x hj hx => ?_, rm_one14 (hri _ (List.getElem_mem hy)) hi, hlen _ (List.getElem_mem hy)⟩
    have := rise_get14 (hri _ (List.getElem_mem hy)) hx hi hj
    omega)
  have hall := Lib.hid (wth_all ls c)
  have h0 := Lib.hid (wth_none ls c)
  have hwl := Lib.hid (fun T => wth_len ls c T)
  have hcapH := Lib.hid hcap
  obtain ⟨A, cp, rfl, hl, hcR⟩ := hR
  obtain ⟨A2, cp2, rfl, hl2, hcS⟩ := hS
  have hcRH := Lib.hid hcR
  have hEH := Lib.hid hE
  clear hcR hri hlen hcap hRN hE
  generalize whr ls c = T at *
  go_enter Try.func102, Try.ntmps102
  go_wp2_with fail
  refine HC.mono ?_
  rintro e w1 ⟨V, vs, rfl, hown, hvl, hin, hac, hlo, hb1⟩
  obtain ⟨AV, cV, rfl⟩ := own_form hown
  have hvlH : Hid (vs.length = ls.length) := Lib.hid hvl
  have hinH : RowsIn w1 (.slice AV ls.length cV) (wthK ls c (T.take 0)) vs := by rw [List.take_zero, h0.out]; exact hin
  have hacH := Lib.hid (And.intro hac hlo)
  clear HC hvl hin hac hlo h0
  go_wp2
  go_loopw [9, 10, 15] (fun _ _ t wr => ∃ (j : Nat) (vs : List Value), j ≤ T.length ∧ t = .int .i64 j ∧ Hid (vs.length = ls.length) ∧ wr.ownsRow w.heap.size 30 1 (.slice AV ls.length cV) ls.length vs ∧ RowsIn wr (.slice AV ls.length cV) (wthK ls c (T.take j)) vs ∧ Hid (AllCap vs ∧ AllLow E vs) ∧ Below w.heap.size w wr) (fun _ _ t _ => T.length - (intOf t).toNat)
  case atStart => exact ⟨0, vs, by omega, rfl, hvlH, hown, hinH, hacH, hb1⟩
  case round =>
    clear hown hvlH hinH hacH hb1 vs
    obtain ⟨j, vs, hj, rfl, hvl, hown, hin, hac, hb⟩ := hrel
    have hbs := hb.size
    by_cases hlt : j < T.length
    · obtain ⟨b2, off2, rfl, hB2, hcS⟩ := hcS (by omega)
      obtain ⟨x, hx⟩ : ∃ x, T[j]? = some x := ⟨_, List.getElem?_eq_getElem hlt⟩
      have d0 := (hb.cell (p := ⟨b2, off2 + j, none⟩) hB2).trans (hcS j x hx)
      obtain ⟨y, r, i, rfl, hyr, hic, hfi, hrm, hr4⟩ := hin0.out j x hx
      have hyl : y < ls.length := (List.getElem?_eq_some_iff.1 hyr).1
      have hil : i < r.length := (List.getElem?_eq_some_iff.1 hic).1
      obtain ⟨b, off, rfl, hB, hcR⟩ := hcRH.out (by omega)
      obtain ⟨ov, z0, hov⟩ := hcR y r hyr
      obtain ⟨A', n', c', e', hnc⟩ := hcapH.out.cell14 rfl hyl z0
      have g0 := (hb.cell (p := ⟨b, off + y, none⟩) hB).trans z0
      have hovw := hov.below hb
      have HI := idxI14_any ov r c wr (hovw.more hbs)
      rw [hfi] at HI
      obtain ⟨Ar, cr, rfl, -, hcr⟩ := hovw
      injection e' with e0 e1 e2
      subst e0
      subst e1
      subst e2
      obtain ⟨br, offr, rfl, hBr, hccr⟩ := hcr (by omega)
      -- left is not nil
      obtain ⟨g, capg, cur, eV, hgB, -⟩ : ∃ g capg cur, (Value.slice AV ls.length cV) = .slice (some ⟨g, 0, none⟩) ls.length capg ∧ w.heap.size ≤ g ∧ wr.heap[g]? = some (.cells cur 30 (0, 0)) := by
        rcases hown.2 with ⟨-, h1⟩ | ⟨g, cap, cur, e, h1, h2, -⟩
        · omega
        · exact ⟨g, cap, cur, e, h1, h2⟩
      injection eV with eV _ eV2
      subst eV
      subst eV2
      have y0 : (0 : Int) ≤ (y : Int) := by omega
      have y1 : (y : Int) < (ls.length : Int) := by omega
      have j0 : (0 : Int) ≤ (j : Int) := by omega
      have j1 : (j : Int) < (T.length : Int) := by omega
      have hstx := Lib.hid (hst.out j y r hx hyr)
      have hrmH := Lib.hid hrm
      clear hcR z0 hov hx hyr hic hfi hcS hcr hrm
      go_wp2_with fail
      refine HI.mono ?_
      rintro e w3 ⟨rfl, hb3⟩
      have hown3 := owns_below hown hb3
      have hin3 := hin.below hb3
      have hb4 := hb.trans (hb3.mono hbs)
      have g3 := (hb3.cell (p := ⟨b, off + y, none⟩) (block_lt_of_cell g0)).trans g0
      clear HI hown hin hb g0 d0
      have i0 : (0 : Int) ≤ (i : Int) := by omega
      have i1 : (i : Int) < (r.length : Int) := by omega
      have i2 : i ≤ cr := by omega
      have i3 : (i : Int) + 1 ≤ (r.length : Int) := by omega
      have i4 : (0 : Int) ≤ (i : Int) + 1 := by omega
      have i5 : ((i : Int) + 1).toNat = i + 1 := by omega
      have hw : IntKind.i64.wrap ((i : Int) + 1) = (i : Int) + 1 := by rw [IntKind.wrap_i64]; omega
      have hI : IntsAt w3 w3.heap.size (.slice (some ⟨br, offr, none⟩) r.length cr) r := ⟨_, cr, rfl, by omega, fun _ => ⟨br, offr, rfl, by have := hb4.size; omega, fun q z hq => (hb3.cell (p := ⟨br, offr + q, none⟩) (by show br < wr.heap.size; omega)).trans (hccr q z hq)⟩⟩
      have hI1 := cut_at14 hI (i := i) (by omega) cr
      clear hb3
      by_cases hcr : cr = i + 1
      · subst hcr
        have hrl : r.length = i + 1 := by omega
        have hI2 : IntsAt w3 w3.heap.size (.slice (some ⟨br, offr, none⟩) 0 0) (r.drop (i + 1)) := by
          have e : r.drop (i + 1) = [] := List.drop_eq_nil_of_le (by omega)
          rw [e]
          exact ⟨some ⟨br, offr, none⟩, 0, rfl, by decide, fun h => absurd h (by decide)⟩
        clear hrl
        have hC0 := concatI14_any (.slice (some ⟨w3.heap.size, 0, none⟩) 2 2) [r.take i, r.drop (i + 1)] ((w3.alloc (.cells #[.slice (some ⟨br, offr, none⟩) i (i + 1), .slice (some ⟨br, offr, none⟩) 0 0] 30)).drew) (two_mat14 hI1 hI2) (tot_two14 (by rw [List.length_take, List.length_drop]; omega))
        have hfl : [r.take i, r.drop (i + 1)].flatten = otC14 c r := by rw [← hrmH.out]; simp
        rw [hfl] at hC0
        have hBo : Below w3.heap.size w3 ((w3.alloc (.cells #[.slice (some ⟨br, offr, none⟩) i (i + 1), .slice (some ⟨br, offr, none⟩) 0 0] 30)).drew) := (below_alloc1 w3 _).drew
        have hown4 := owns_below hown3 hBo
        have hin4 := hin3.below hBo
        have hb5 := hb4.trans (hBo.mono hb4.size)
        have hbs5 := hb5.size
        have hBsz := Lib.hid hbs5
        have hvn := hvl.out
        clear hfl hI hI1 hI2 hown3 hin3 hb4 hBo hvl hccr hrmH
        go_upto_region 6 with (fail)
        go_region_with (refine hC0.mono ?_; rintro e w6 ⟨v6, rfl, hv6, hb6⟩; have hown6 := owns_below hown4 hb6; have hin6 := hin4.below hb6; have hb7 := hb5.trans (hb6.mono hbs5); have hac6 := Lib.hid (And.intro (hac.out.1.set (own_one14 hv6) y) (hac.out.2.set (fun b off n c e h0 => fun hEb => absurd (hEH.out b hEb) (by have h1 := ((own_intsN14 hv6).low14 b off n c e h0).1; have h2 := hBsz.out; omega)) y)); have hN6 := own_intsN14 hv6; have hg6 := (hown4.lt g rfl).2; obtain ⟨A6, c6, rfl⟩ := own_form hv6; have q0 := hown6.cellAt y (by omega); rw [List.getElem?_eq_getElem (by omega)] at q0; have qf := hown6.frozenAt y; clear hC0 hv6 hb6 hown4 hin4 hb5; go_frame)
        all_goals
          have hst6 := hown6.stored y (.slice A6 (otC14 c r).length c6)
          have hin7 : RowsIn (w6.setCell ⟨g, y, none⟩ (.slice A6 (otC14 c r).length c6)) (.slice (some ⟨g, 0, none⟩) ls.length cV) (wthK ls c (T.take (j + 1))) (vs.set y (.slice A6 (otC14 c r).length c6)) := by
            rw [hstx.out]
            exact hin6.put14 (hN6.keep (fun _ _ => rfl) (fun b hb => ⟨hb.2, fun e => by
              have h1 : g = b := Option.some.inj e
              have h2 := hb.1
              omega⟩)) (by rw [hwl.out]; exact hvn)
          have hvl2 : Hid ((vs.set y (.slice A6 (otC14 c r).length c6)).length = ls.length) := Lib.hid (by rw [List.length_set]; exact hvn)
          have hb8 : Below w.heap.size w (w6.setCell ⟨g, y, none⟩ (.slice A6 (otC14 c r).length c6)) := hb7.setCell (p := ⟨g, y, none⟩) hgB _
          have hown7 := hst6.1
          clear hst6 hin6 hN6 hown6 hb7 q0 qf hstx hvn hac
          go_wp2
          go_roundw
          case rel => exact ⟨j + 1, _, by omega, by go_num, hvl2, hown7, hin7, hac6, hb8⟩
          case measure => simp [intOf]; omega
      · have hcr2 : ¬ i + 1 = cr := fun e => hcr e.symm
        have hI2 := cut_from14 hI (i := i + 1) (by omega) (cr - (i + 1))
        have hC0 := concatI14_any (.slice (some ⟨w3.heap.size, 0, none⟩) 2 2) [r.take i, r.drop (i + 1)] ((w3.alloc (.cells #[.slice (some ⟨br, offr, none⟩) i cr, .slice (some ⟨br, offr + (i + 1), none⟩) (r.length - (i + 1)) (cr - (i + 1))] 30)).drew) (two_mat14 hI1 hI2) (tot_two14 (by rw [List.length_take, List.length_drop]; omega))
        have hfl : [r.take i, r.drop (i + 1)].flatten = otC14 c r := by rw [← hrmH.out]; simp
        rw [hfl] at hC0
        have hBo : Below w3.heap.size w3 ((w3.alloc (.cells #[.slice (some ⟨br, offr, none⟩) i cr, .slice (some ⟨br, offr + (i + 1), none⟩) (r.length - (i + 1)) (cr - (i + 1))] 30)).drew) := (below_alloc1 w3 _).drew
        have hown4 := owns_below hown3 hBo
        have hin4 := hin3.below hBo
        have hb5 := hb4.trans (hBo.mono hb4.size)
        have hbs5 := hb5.size
        have hBsz := Lib.hid hbs5
        have hvn := hvl.out
        clear hfl hI hI1 hI2 hown3 hin3 hb4 hBo hvl hccr hrmH
        go_upto_region 6 with (fail)
        go_region_with (refine hC0.mono ?_; rintro e w6 ⟨v6, rfl, hv6, hb6⟩; have hown6 := owns_below hown4 hb6; have hin6 := hin4.below hb6; have hb7 := hb5.trans (hb6.mono hbs5); have hac6 := Lib.hid (And.intro (hac.out.1.set (own_one14 hv6) y) (hac.out.2.set (fun b off n c e h0 => fun hEb => absurd (hEH.out b hEb) (by have h1 := ((own_intsN14 hv6).low14 b off n c e h0).1; have h2 := hBsz.out; omega)) y)); have hN6 := own_intsN14 hv6; have hg6 := (hown4.lt g rfl).2; obtain ⟨A6, c6, rfl⟩ := own_form hv6; have q0 := hown6.cellAt y (by omega); rw [List.getElem?_eq_getElem (by omega)] at q0; have qf := hown6.frozenAt y; clear hC0 hv6 hb6 hown4 hin4 hb5; go_frame)
        all_goals
          have hst6 := hown6.stored y (.slice A6 (otC14 c r).length c6)
          have hin7 : RowsIn (w6.setCell ⟨g, y, none⟩ (.slice A6 (otC14 c r).length c6)) (.slice (some ⟨g, 0, none⟩) ls.length cV) (wthK ls c (T.take (j + 1))) (vs.set y (.slice A6 (otC14 c r).length c6)) := by
            rw [hstx.out]
            exact hin6.put14 (hN6.keep (fun _ _ => rfl) (fun b hb => ⟨hb.2, fun e => by
              have h1 : g = b := Option.some.inj e
              have h2 := hb.1
              omega⟩)) (by rw [hwl.out]; exact hvn)
          have hvl2 : Hid ((vs.set y (.slice A6 (otC14 c r).length c6)).length = ls.length) := Lib.hid (by rw [List.length_set]; exact hvn)
          have hb8 : Below w.heap.size w (w6.setCell ⟨g, y, none⟩ (.slice A6 (otC14 c r).length c6)) := hb7.setCell (p := ⟨g, y, none⟩) hgB _
          have hown7 := hst6.1
          clear hst6 hin6 hN6 hown6 hb7 q0 qf hstx hvn hac
          go_wp2
          go_roundw
          case rel => exact ⟨j + 1, _, by omega, by go_num, hvl2, hown7, hin7, hac6, hb8⟩
          case measure => simp [intOf]; omega
    · have e : j = T.length := by omega
      have hjd : ¬ (j : Int) < (T.length : Int) := by omega
      have hwl2 : (clR ls c).length = ls.length := by unfold clR; rw [List.length_map]
      have hM := Lib.hid (by
        rw [← hall.out]
        rw [e, List.take_length] at hin
        exact hin : RowsIn wr (.slice AV ls.length cV) (clR ls c) vs)
      have hO := Lib.hid (by rw [hwl2]; exact hown : wr.ownsRow w.heap.size 30 1 (.slice AV ls.length cV) (clR ls c).length vs)
      have hvl2 : Hid (vs.length = (clR ls c).length) := Lib.hid (by rw [hwl2]; exact hvl.out)
      clear e hin hown hcS hcRH hcapH hst hin0 hall hwl hvl hwl2 hEH
      go_wp2
      go_ret
      exact ⟨_, rfl, vs, hO.out, hvl2, hM.out, hac.out.1, hac.out.2, hb⟩
end Go.Proofs.Ytcbhcclickjpnaa
namespace Go.Proofs.Ytcbhcclickjpnaa
open Go.RowKit Go.Joins

theorem any_same14 {f g : Nat → Bool} : ∀ (l : List Nat), (∀ d, d ∈ l → f d = g d) → l.any f = l.any g
  | [], _ => rfl
  | x :: l, h => by
    rw [List.any_cons, List.any_cons, h x (List.mem_cons_self ..), any_same14 l fun d hd => h d (List.mem_cons_of_mem _ hd)]
theorem lss_rpl14 {ls : List (List Int)} {n c : Nat} (hc : c < n) : lssC ls n c = (decide (0 < (whr ls c).length) && rplB (hvR n ls) c) := by
  unfold lssC rplB
  rw [hvR_len, hvR_getD hc]
  congr 1
  refine any_same14 _ fun d hd => ?_
  rw [hvR_getD (List.mem_range.1 hd)]
theorem whr_rise14 (ls : List (List Int)) (c : Int) : (whr ls c).Pairwise (· < ·) := by
  unfold whr
  rw [List.pairwise_map]
  exact ((List.pairwise_lt_range).filter _).imp fun h => by omega
theorem hv_rise14 (n : Nat) (ls : List (List Int)) : ∀ q, q ∈ hvR n ls → q.Pairwise (· < ·) := fun q hq => by
  obtain ⟨x, hx, rfl⟩ := List.mem_map.1 hq
  exact whr_rise14 ls _
theorem rpl_comp14 {n : Nat} {ls : List (List Int)} : ∀ (x j : Nat), x < ls.length → (x : Int) ∈ (hvR n ls).getD j [] → j < (hvR n ls).length → (j : Int) ∈ ls.getD x [] := fun x j _ h hj => by
  rw [hvR_len] at hj
  rw [hvR_getD hj] at h
  exact (mem_whr.1 h).2
set_option maxHeartbeats 8000000 in
set_option maxRecDepth 100000 in
theorem removeColumnN14_any (E : Nat → Prop) (n : Nat) (V : Value) (ls : List (List Int)) (w : World) (hE : ∀ b, E b → b < w.heap.size) (hzN : MatN w (fun b => ¬ E b) V ls) (hcap : CapM w V) (hn : n ≤ 4000) (hls : ls.length ≤ 4000) (hri : ∀ r, r ∈ ls → risL n r) :
    Calls Try.prog 94 #[mtv n V] w fun e w' => ∃ u, e = .returned (.tuple #[mtv n u, .bool (clI ls n).isSome]) ∧ MatN w' (fun b => ¬ E b) u (clL ls n) ∧ CapM w' u ∧ Below w.heap.size w w' := by
  have hz := hzN.here
  have hzNH := Lib.hid hzN
  have hEH := Lib.hid hE
  clear hzN hE
  have hB0 := two_below14 w (mtb n V) (.cells #[.int .i64 0, .slice none 0 0] 24 (0, 0))
  have ht := two_made14 w (mtb n V) (.cells #[.int .i64 0, .slice none 0 0] 24 (0, 0))
  have hsz : ((w.alloc (mtb n V)).alloc (.cells #[.int .i64 0, .slice none 0 0] 24 (0, 0))).heap.size = w.heap.size + 2 := by simp
  have hrow4 : ∀ r, r ∈ ls → r.length ≤ 4000 := fun r h => by have := row_len14 (hri r h); omega
  have HA := across14_any V ls n _ ((hz.below hB0).more hB0.size) hn hls hri hrow4
  have hzz := hz.below hB0
  have hRP := Lib.hid (fun (c : Nat) (hc : c < n) (v : Value) W (h1 : MatAt W W.heap.size V ls) (h2 : MatAt W W.heap.size v (hvR n ls)) => replaced14_any V v ls (hvR n ls) c (whr ls c) W h1 h2 (hvR_get hc) (fun x hx => whr_in hx) (by rw [hvR_len]; omega) (hv_rise14 n ls) (fun q hq x hx => by rw [hvR_len]; exact (hri q hq).1 x hx) rpl_comp14)
  have hWT := Lib.hid (fun (E : Nat → Prop) (S : Value) (c : Int) W hE h1 h2 h3 => without14_any E V S c ls W hE h1 h2 h3 hls (fun r h => (hri r h).2) hrow4)
  have hN : Hid ((∀ d, d < n → lssC ls n d = false) → (clI ls n).isSome = false ∧ clL ls n = ls) := Lib.hid (fun h => by
    have e := cl_none h
    unfold clL
    rw [e]
    exact ⟨rfl, rfl⟩)
  have hS : Hid (∀ c, c < n → lssC ls n c = true → (∀ d, d < c → lssC ls n d = false) → (clI ls n).isSome = true ∧ clL ls n = clR ls c) := Lib.hid (fun c h1 h2 h3 => by
    have e := cl_some h1 h2 h3
    unfold clL
    rw [e]
    exact ⟨rfl, rfl⟩)
  have hls0 := Lib.hid (fun (c : Nat) (hc : c < n) => lss_rpl14 (ls := ls) hc)
  have hget := Lib.hid (fun (c : Nat) (hc : c < n) => hvR_get (ls := ls) hc)
  have hhl := Lib.hid (hvR_len n ls)
  generalize (clI ls n).isSome = RB at *
  generalize clL ls n = RL at *
  obtain ⟨A, cp, rfl, hl, -⟩ := hz
  have hcapH := Lib.hid hcap
  unfold mtv at *
  unfold mtb at hB0 ht hzz hsz HA
  clear hri hcap hrow4
  go_enter Try.func94, Try.ntmps94
  go_wp2_with fail
  generalize (w.alloc _).alloc _ = w0 at *
  generalize hgb : w.heap.size = gb at *
  have hgbH := Lib.hid hgb
  have hszH := Lib.hid hsz
  clear hgb hsz
  refine HA.mono ?_
  rintro e w1 ⟨v, rfl, hv, hb1⟩
  have hm := keep_blk hb1 ht.1
  have hr := keep_blk hb1 ht.2
  have hB1 := hB0.trans (hb1.mono (by have := hszH.out; omega))
  have hz1 := hzz.below (hb1.mono (by have := hszH.out; omega : gb ≤ w0.heap.size))
  have hgz : gb + 2 ≤ w1.heap.size := by have := hszH.out; have := hb1.size; omega
  obtain ⟨m0, m1, -⟩ := now2 hm rfl
  clear HA hb1 hB0 ht hzz
  have hv' : MatAt w1 w1.heap.size v (hvR n ls) := hv
  clear hv
  generalize hvR n ls = hv at *
  have hvH := hv'
  obtain ⟨Ah, ch, rfl, -, hcell⟩ := hv'
  have hcH := Lib.hid hcell
  have hhv := hhl.out
  clear hcell
  rw [hhv] at hvH ⊢
  go_wp2
  go_loopw [5, 6, 14] (fun _ _ t wr => ∃ c : Nat, c ≤ n ∧ t = .int .i64 c ∧ Hid (∀ d, d < c → lssC ls n d = false) ∧ Below w1.heap.size w1 wr) (fun _ _ t _ => n - (intOf t).toNat)
  case atStart => exact ⟨0, by omega, rfl, Lib.hid (fun d h => absurd h (Nat.not_lt_zero _)), Below.refl _ _⟩
  case round =>
    obtain ⟨c, hcn, rfl, hH, hb⟩ := hrel
    have hbs := hb.size
    have hmr := keep_blk hb hm
    have hrr := keep_blk hb hr
    clear m0 m1
    obtain ⟨m0, m1, -⟩ := now2 hmr rfl
    by_cases hlt : c < n
    · obtain ⟨b, off, rfl, hB, hcell⟩ := hcH.out (by omega)
      obtain ⟨ov, z0, hov⟩ := hcell c _ (hget.out c hlt)
      have g0 := (hb.cell (p := ⟨b, off + c, none⟩) hB).trans z0
      have hlc := hls0.out c hlt
      have hRC := hRP.out c hlt _ wr ((hz1.below (hb.mono (by omega : gb ≤ w1.heap.size))).more (by omega)) ((hvH.below hb).more hbs)
      generalize rplB hv c = rb at *
      have hovr := (hov.below hb).more hbs
      generalize hwc : whr ls (c : Int) = T at *
      have hwcH := Lib.hid hwc
      obtain ⟨Ao, co, rfl, -, -⟩ := hov
      have c0 : (0 : Int) ≤ (c : Int) := by omega
      have c1 : (c : Int) < (n : Int) := by omega
      clear hcell z0 hwc
      by_cases h0 : 0 < T.length
      · have h0d : decide ((0 : Int) < (T.length : Int)) = true := decide_eq_true (by omega)
        rw [decide_eq_true h0, Bool.true_and] at hlc
        cases hrb : rb
        · rw [hrb] at hRC hlc
          have hH2 : Hid (∀ d, d < c + 1 → lssC ls n d = false) := Lib.hid (fun d hd => by
            by_cases e : d = c
            · rw [e]; exact hlc
            · exact hH.out d (by omega))
          clear hN hS hH hlc hrb hRP hWT hls0 hget
          go_wp2_with fail
          refine hRC.mono ?_
          rintro e w2 ⟨rfl, hb2⟩
          have hb3 := hb.trans (hb2.mono hbs)
          clear hRC
          go_wp2
          go_roundw
          case rel => exact ⟨c + 1, by omega, by go_num, hH2, hb3⟩
          case measure => simp [intOf]; omega
        · rw [hrb] at hRC hlc
          have hres := Lib.hid (hS.out c hlt hlc hH.out)
          clear hN hS hH hlc hrb hRP hls0 hget
          go_wp2_with fail
          refine hRC.mono ?_
          rintro e w2 ⟨rfl, hb2⟩
          have hbw2 := hB1.trans (hb.mono (by omega))
          have hsw := hbw2.size
          have hB2 := hbw2.trans (hb2.mono (by omega))
          have hm2 := keep_blk hb2 hmr
          have hr2 := keep_blk hb2 hrr
          have hz2 := (hz1.below (hb.mono (by omega : gb ≤ w1.heap.size))).below (hb2.mono (by omega))
          have hs2 := hb2.size
          have hz3 : MatN w2.drew (fun b => ¬ ((gb ≤ b ∧ b < gb + 2) ∨ E b)) (.slice A ls.length cp) ls := (hzNH.out.imp14 (N' := fun b => ¬ ((gb ≤ b ∧ b < gb + 2) ∨ E b)) (fun b h hb h2 => h2.elim (fun h3 => by have := hgbH.out; omega) h)).below14 (show Below w.heap.size w w2.drew by rw [hgbH.out]; exact hB2.drew)
          have hcp3 := hcapH.out.below (show Below w.heap.size w w2.drew by rw [hgbH.out]; exact hB2.drew)
          have hov3 : IntsAt w2.drew w2.drew.heap.size (.slice Ao T.length co) (whr ls (c : Int)) := by
            rw [hwcH.out]
            exact ((hovr.below hb2).more hs2).below (Below.refl _ _).drew
          have hWC := hWT.out (fun b => (gb ≤ b ∧ b < gb + 2) ∨ E b) (.slice Ao T.length co) (c : Int) w2.drew (fun b h => h.elim (fun h => by show b < w2.heap.size; omega) (fun h => by show b < w2.heap.size; have := hEH.out b h; omega)) hz3 hcp3 hov3
          clear hRC hWT m0 m1 hz2 hz1 hvH hcapH hovr hcH hb2 hbw2 hz3 hcp3 hov3
          have hsd : gb + 2 ≤ w2.drew.heap.size := by show gb + 2 ≤ w2.heap.size; omega
          go_upto_region 6 with (fail)
          obtain ⟨m0, m1, -⟩ := now2 hm2 rfl
          go_region_with (refine hWC.mono ?_; rintro e w6 ⟨u, vs, rfl, hown, hvl, hin, hac, hlo, hb6⟩; replace hm2 := keep_blk hb6 hm2; replace hr2 := keep_blk hb6 hr2; clear m0 m1; obtain ⟨m0, m1, -⟩ := now2 hm2 rfl; obtain ⟨r0, r1, rf⟩ := now2 hr2 rfl; obtain ⟨Au, cu, rfl⟩ := own_form hown; have hB6 := hB2.drew.trans (hb6.mono (by show gb ≤ w2.heap.size; omega)); clear hWC; go_frame)
          all_goals
            have hnb : (Value.slice Au (clR ls c).length cu).ownBlock ≠ some (gb + 1) := fun e => by have := (hown.lt _ e).1; omega
            have hown2 := own_set (own_set hown hnb 0 (.int .i64 n)) hnb 1 (.slice Au (clR ls c).length cu)
            have hin2 := ((hin.low14 hlo).set (b := gb + 1) (j := 0) (u := .int .i64 n) (Or.inl (by omega))).set (b := gb + 1) (j := 1) (u := .slice Au (clR ls c).length cu) (Or.inl (by omega))
            have hr3 := put2 (x0 := .int .i64 n) (x1 := .slice Au (clR ls c).length cu) hr2
            obtain ⟨q0, q1, -⟩ := now2 hr3 rfl
            have hBz := below2 (x0 := .int .i64 n) (x1 := .slice Au (clR ls c).length cu) (by omega : gb ≤ gb + 1) hB6
            clear hB6 hin hown hm2 hr2 m0 m1 r0 r1 rf
            go_wp2
            refine bodyPost_ret (v := .tuple #[.agg #[.int .i64 n, .slice Au (clR ls c).length cu], .bool true]) (by simp [results, Try.results94, go_sem, q0, q1]) rfl ?_
            have hM := matN_low14 (hin2.rows.mat hown2) hown2 (fun b hb => by have := hEH.out b hb; omega) (fun v hv b off n c e h0 hEb => hlo v hv b off n c e h0 (Or.inr hEb))
            have hCM := own_capM14 hown2 hvl.out hac
            exact ⟨_, by rw [hres.out.1], by rw [hres.out.2]; exact hM, hCM, by rw [hgbH.out]; exact hBz⟩
      · have h0d : decide ((0 : Int) < (T.length : Int)) = false := decide_eq_false (by omega)
        rw [decide_eq_false h0, Bool.false_and] at hlc
        have hH2 : Hid (∀ d, d < c + 1 → lssC ls n d = false) := Lib.hid (fun d hd => by
          by_cases e : d = c
          · rw [e]; exact hlc
          · exact hH.out d (by omega))
        clear hN hS hH hlc hRP hWT hls0 hget hRC
        go_wp2
        go_roundw
        case rel => exact ⟨c + 1, by omega, by go_num, hH2, hb⟩
        case measure => simp [intOf]; omega
    · have e : c = n := by omega
      have hkd : ¬ (c : Int) < (n : Int) := by omega
      have hres := Lib.hid (hN.out (fun d hd => hH.out d (by omega)))
      obtain ⟨r0, r1, rf⟩ := now2 hrr rfl
      have hBr := hB1.trans (hb.mono (by omega))
      have hzr := hz1.below (hb.mono (by omega : gb ≤ w1.heap.size))
      have hr3 := put2 (x0 := .int .i64 n) (x1 := .slice A ls.length cp) hrr
      obtain ⟨q0, q1, -⟩ := now2 hr3 rfl
      have hBz := below2 (x0 := .int .i64 n) (x1 := .slice A ls.length cp) (by omega : gb ≤ gb + 1) hBr
      have hMz := hzNH.out.below14 (show Below w.heap.size w _ by rw [hgbH.out]; exact hBz)
      have hMo := (hzr.below (below2 (x0 := .int .i64 n) (x1 := .slice A ls.length cp) (by omega : gb ≤ gb + 1) (Below.refl _ wr))).more (by rw [← hgbH.out]; exact hBz.size)
      clear e hN hS hH hRP hWT hls0 hget hcH hvH
      go_wp2
      refine bodyPost_ret (v := .tuple #[.agg #[.int .i64 n, .slice A ls.length cp], .bool false]) (by simp [results, Try.results94, go_sem, q0, q1]) rfl ?_
      exact ⟨_, by rw [hres.out.1], by rw [hres.out.2]; exact hMz, hcapH.out.below (by rw [hgbH.out]; exact hBz), by rw [hgbH.out]; exact hBz⟩
end Go.Proofs.Ytcbhcclickjpnaa
namespace Go.Proofs.Ytcbhcclickjpnaa
open Go.RowKit Go.Joins

/-- Behind the copy's storing as the result. -/
theorem fin_copied14 {w : World} {B g : Nat} {u x : Value} {ls : List (List Int)} {vs : List Value} (ho : w.ownsRow B 30 1 u ls.length vs) (hl : vs.length = ls.length) (hi : RowsX (fun b => b < B) w u ls vs) (hac : AllCap vs) (hg : g < B) :
    MatAt ((w.setCell ⟨g, 0, none⟩ x).setCell ⟨g, 1, none⟩ u) ((w.setCell ⟨g, 0, none⟩ x).setCell ⟨g, 1, none⟩ u).heap.size u ls ∧ CapM ((w.setCell ⟨g, 0, none⟩ x).setCell ⟨g, 1, none⟩ u) u := by
  have hnb : u.ownBlock ≠ some g := fun e => by have := (ho.lt _ e).1; omega
  have ho2 := own_set (own_set ho hnb 0 x) hnb 1 u
  have hi2 := (hi.set (b := g) (j := 0) (u := x) hg).set (b := g) (j := 1) (u := u) hg
  exact ⟨hi2.rows.mat ho2, own_capM14 ho2 hl hac⟩
end Go.Proofs.Ytcbhcclickjpnaa
namespace Go.Proofs.Ytcbhcclickjpnaa
open Go.RowKit Go.Joins
open Go.Sort (Holds grow putRow putCells heap_grow_old)

/-- A slice's three words. -/
structure Sl14 where
  a : Option Addr
  n : Nat
  c : Nat
instance inhS14 : Inhabited Sl14 := ⟨⟨none, 0, 0⟩⟩
end Go.Proofs.Ytcbhcclickjpnaa
