/- fair and movesFor of the package search; prices in memory. -/
import Derived.Test.YtcbhcclickjpnaaGK26
namespace Go.Proofs.Ytcbhcclickjpnaa
open Go.RowKit Go.Joins

theorem pay_snoc : ∀ (a : List (List Int)) (b : List Int) (r : List Int) (v c : Int), a.length = b.length → payU (a ++ [r]) (b ++ [v]) c = payU a b c + if c ∈ r then v else 0
  | [], [], r, v, c, _ => by
    show payU [r] [v] c = _
    unfold payU payU
    omega
  | [], _ :: _, _, _, _, h => by simp at h
  | _ :: _, [], _, _, _, h => by simp at h
  | q :: a, u :: b, r, v, c, h => by
    have ih := pay_snoc a b r v c (by simpa using h)
    show payU (q :: (a ++ [r])) (u :: (b ++ [v])) c = payU (q :: a) (u :: b) c + _
    unfold payU
    rw [ih]
    omega
theorem sumI_snoc : ∀ (b : List Int) (v : Int), sumI (b ++ [v]) = sumI b + v
  | [], v => by show sumI [v] = _; unfold sumI sumI; omega
  | u :: b, v => by
    have ih := sumI_snoc b v
    show sumI (u :: (b ++ [v])) = sumI (u :: b) + v
    unfold sumI
    rw [ih]
    omega
theorem pay_take {ls : List (List Int)} {ps : List Int} {k : Nat} {r : List Int} {v : Int} (hlen : ps.length = ls.length) (hr : ls[k]? = some r) (hv : ps[k]? = some v) (c : Int) : payU (ls.take (k + 1)) (ps.take (k + 1)) c = payU (ls.take k) (ps.take k) c + if c ∈ r then v else 0 := by
  rw [List.take_add_one, List.take_add_one, hr, hv]
  exact pay_snoc _ _ r v c (by rw [List.length_take, List.length_take, hlen])
theorem sumI_take {ps : List Int} {k : Nat} {v : Int} (hv : ps[k]? = some v) : sumI (ps.take (k + 1)) = sumI (ps.take k) + v := by
  rw [List.take_add_one, hv]
  exact sumI_snoc _ v
/-- Numbers that stand at the head of a block. -/
def IntB (w : World) (g : Nat) (ps : List Int) : Prop := ∃ cur : Array Value, w.heap[g]? = some (.cells cur 3 (0, 0)) ∧ ps.length ≤ cur.size ∧ ∀ (j : Nat) (v : Int), ps[j]? = some v → cur[j]? = some (.int .i64 v)
theorem IntB.cell {w : World} {g j : Nat} {ps : List Int} {v : Int} (h : IntB w g ps) (hv : ps[j]? = some v) : w.cell? ⟨g, j, none⟩ = some (.int .i64 v) ∧ w.frozen? ⟨g, j, none⟩ = false := by
  obtain ⟨cur, h1, h2, h3⟩ := h
  exact ⟨by rw [cell_of_block h1]; exact h3 j v hv, unfrozen_of_block h1 j⟩
theorem IntB.set {w : World} {g k : Nat} {ps : List Int} (h : IntB w g ps) (v : Int) : IntB (w.setCell ⟨g, k, none⟩ (.int .i64 v)) g (ps.set k v) := by
  obtain ⟨cur, h1, h2, h3⟩ := h
  refine ⟨cur.setIfInBounds k (.int .i64 v), block_setCell h1 _, by rw [List.length_set, Array.size_setIfInBounds]; exact h2, fun j u hj => ?_⟩
  rw [List.getElem?_set] at hj
  rw [Array.getElem?_setIfInBounds]
  by_cases e : k = j
  · subst e
    rw [if_pos rfl] at hj ⊢
    split at hj
    · rename_i hl
      rw [if_pos (by omega)]
      injection hj with hj
      rw [hj]
    · cases hj
  · rw [if_neg e] at hj ⊢
    exact h3 j u hj
theorem IntB.same {w w' : World} {g : Nat} {ps : List Int} (h : IntB w g ps) (hk : w'.heap[g]? = w.heap[g]?) : IntB w' g ps := by
  obtain ⟨cur, h1, h2⟩ := h
  exact ⟨cur, hk.trans h1, h2⟩
theorem IntB.lt {w : World} {g : Nat} {ps : List Int} (h : IntB w g ps) : g < w.heap.size := by
  obtain ⟨cur, h1, h2⟩ := h
  exact size_of_block h1
theorem own_intB15 {w : World} {B : Nat} {v : Value} {ps : List Int} (h : w.ownsRow B 3 1 v ps.length (intI ps)) (h0 : 0 < ps.length) : ∃ g cap, v = .slice (some ⟨g, 0, none⟩) ps.length cap ∧ B ≤ g ∧ IntB w g ps := by
  rcases h.2 with ⟨-, h1⟩ | ⟨g, cap, cur, rfl, hg, hgg, h1, h2, h3, h4⟩
  · omega
  · refine ⟨g, cap, rfl, hg, cur, hgg, by omega, fun j x hj => ?_⟩
    have hjl := (List.getElem?_eq_some_iff.1 hj).1
    have e : (intI ps)[j]? = some (.int .i64 x) := by unfold intI; rw [List.getElem?_map, hj]; rfl
    rw [← h4, Nat.mul_one, List.getElem?_take, if_pos hjl, Array.getElem?_toList] at e
    exact e
/-- Prices that may be. -/
def PrOk (ps : List Int) : Prop := ∀ v, v ∈ ps → 0 ≤ v ∧ v ≤ 1048576
theorem PrOk.set {ps : List Int} (h : PrOk ps) {v : Int} (hv : 0 ≤ v ∧ v ≤ 1048576) (k : Nat) : PrOk (ps.set k v) := fun u hu => by
  rcases List.mem_or_eq_of_mem_set hu with h1 | h1
  · exact h u h1
  · rw [h1]; exact hv
theorem max_at15 {ls : List (List Int)} {n : Nat} {r : List Int} (hr : r ∈ ls) (hl : ∀ x, x ∈ r → 0 ≤ x ∧ x < n) (h0 : r ≠ []) : 1 ≤ Lib.maxOf (atL (manyL ls n) r) ∧ Lib.maxOf (atL (manyL ls n) r) ≤ ls.length := by
  have hne : atL (manyL ls n) r ≠ [] := fun e => h0 (by unfold atL at e; simpa using e)
  have hg : ∀ x, x ∈ r → (manyL ls n).getD x.toNat 0 = (cntC ls x.toNat : Nat) := fun x hx => by
    obtain ⟨a, b⟩ := hl x hx
    have hj : x.toNat < n := by omega
    unfold manyL
    rw [List.getD_eq_getElem?_getD, List.getElem?_map, List.getElem?_range hj]; rfl
  obtain ⟨hm, hx⟩ := maxOf_spec hne
  constructor
  · obtain ⟨x, hxr⟩ := List.exists_mem_of_ne_nil r h0
    have h1 := hx _ (List.mem_map.2 ⟨x, hxr, rfl⟩)
    rw [hg x hxr] at h1
    have : 0 < cntC ls x.toNat := by
      unfold cntC
      rw [List.countP_pos_iff]
      exact ⟨r, hr, by rw [Int.toNat_of_nonneg (hl x hxr).1]; exact decide_eq_true hxr⟩
    omega
  · obtain ⟨x, hxr, e⟩ := List.mem_map.1 hm
    rw [← e, hg x hxr]
    have := cnt_le ls x.toNat
    omega
theorem quo_price15 {m : Int} (h1 : 1 ≤ m) : 0 ≤ (1048576 : Int) / m ∧ (1048576 : Int) / m ≤ 1048576 := by
  constructor
  · exact Int.ediv_nonneg (by omega) (by omega)
  · have h := Int.ediv_le_self (a := 1048576) m (by omega)
    exact h
set_option maxHeartbeats 2000000 in
set_option maxRecDepth 100000 in
theorem fair15_any (n : Nat) (V : Value) (ls : List (List Int)) (w : World) (hV : MatAt w w.heap.size V ls) (hn : n ≤ 4000) (hls : ls.length ≤ 4000) (hr : ∀ r, r ∈ ls → risL n r) (hne : ∀ r, r ∈ ls → r ≠ []) :
    Calls Try.prog 77 #[mtv n V] w fun e w' => ∃ v ps, e = .returned v ∧ w'.ownsRow w.heap.size 3 1 v ps.length (intI ps) ∧ ps.length = ls.length ∧ PrOk ps ∧ Below w.heap.size w w' := by
  obtain ⟨i0, hi0, hz0, hz1, hz2⟩ := info_parts Try.infoInt15
  have hB0 := below_alloc1 w (mtb n V)
  have hbu : (w.alloc (mtb n V)).heap[w.heap.size]? = some (mtb n V) := heap_alloc_new _ _
  have HK := counts15_any n V ls (w.alloc (mtb n V)) ((hV.below hB0).more hB0.size) hn hls hr
  obtain ⟨A, c, rfl, hl, hc⟩ := hV
  have hcH := Lib.hid hc
  have hrH := Lib.hid hr
  have hneH := Lib.hid hne
  unfold mtv at *
  unfold mtb at *
  obtain ⟨m0, m1, -⟩ := now2 hbu rfl
  clear hc hr hne
  go_enter Try.func77, Try.ntmps77
  go_wp2_with fail
  refine HK.mono ?_
  rintro e w1 ⟨qb, rfl, hq, hct, hb1⟩
  have hB1 := hB0.trans (hb1.mono hB0.size)
  have hbu1 := keep_blk hb1 hbu
  have hql := size_of_block hct
  clear HK m0 m1 hb1 hB0 hbu
  obtain ⟨m0, m1, -⟩ := now2 hbu1 rfl
  have hsw := hB1.size
  go_wp2
  go_loopw [3, 6, 12] (fun V _ t wr => ∃ (j : Nat) (ps : List Int), j ≤ ls.length ∧ t = .int .i64 j ∧ Hid (ps.length = j) ∧ Hid (PrOk ps) ∧ wr.ownsRow w1.heap.size 3 1 V ps.length (intI ps) ∧ Below w1.heap.size w1 wr) (fun _ _ t _ => ls.length - (intOf t).toNat)
  case atStart => exact ⟨0, [], by omega, rfl, Lib.hid rfl, Lib.hid (fun v hv => absurd hv List.not_mem_nil), World.ownsRow_nil _ _ _ _, Below.refl _ _⟩
  case round =>
    obtain ⟨j, ps, hj, rfl, hpl, hpo, hown, hb⟩ := hrel
    obtain ⟨AV, cV, rfl⟩ := own_form hown
    have hbs := hb.size
    have hbw := hB1.trans (hb.mono hsw)
    by_cases hlt : j < ls.length
    · obtain ⟨bp, op, rfl, hBp, hcc⟩ := hcH.out (by omega)
      obtain ⟨r, hrj⟩ : ∃ r, ls[j]? = some r := ⟨_, List.getElem?_eq_getElem hlt⟩
      obtain ⟨ov, z0, hov⟩ := hcc j r hrj
      have z1 := (hbw.cell (p := ⟨bp, op + j, none⟩) hBp).trans z0
      have hrm := List.mem_of_getElem? hrj
      have hris := hrH.out r hrm
      have hrl : r.length ≤ 4000 := by
        rcases ris_len hris with h | h
        · omega
        · rw [h]; decide
      have hct2 := keep_blk hb hct
      have HA := at15_any (.slice (some ⟨qb, 0, none⟩) n n) ov (manyL ls n) r wr (many_ints15 hct2 hn) ((hov.below hbw).more hbw.size) (by rw [many_len]; exact hris.1) hrl
      obtain ⟨h1, h2⟩ := max_at15 hrm hris.1 (hneH.out r hrm)
      have hal : 0 < (atL (manyL ls n) r).length := by rw [atL_len]; exact List.length_pos_iff.2 (hneH.out r hrm)
      have hqp := quo_price15 h1
      have hps : ps.length ≤ 4000 := by rw [hpl.out]; omega
      obtain ⟨A3, c3, rfl, -, -⟩ := hov
      have hownH := Lib.hid hown
      have hbH := Lib.hid hb
      have k0 : (0 : Int) ≤ (j : Int) := by omega
      have k1 : (j : Int) < (ls.length : Int) := by omega
      have halH := Lib.hid hal
      have hpl2 : Hid (∀ v : Int, (ps ++ [v]).length = j + 1) := Lib.hid (fun v => by rw [List.length_append, hpl.out]; rfl)
      have hpo2 : Hid (∀ v : Int, 0 ≤ v ∧ v ≤ 1048576 → PrOk (ps ++ [v])) := Lib.hid (fun v hv u hu => by
        rcases List.mem_append.1 hu with h | h
        · exact hpo.out u h
        · rw [List.mem_singleton.1 h]; exact hv)
      clear hcH hcc z0 hrj hrm hris hct2 hown hb hal hpl hpo hneH hrH
      generalize atL (manyL ls n) r = al at *
      generalize hmx : Lib.maxOf al = mx at *
      go_wp2_with fail
      refine HA.mono ?_
      rintro e w3 ⟨v3, rfl, hv3, hb3⟩
      have HM := max15_any (own_intI hv3) halH.out
      rw [hmx] at HM
      obtain ⟨A9, c9, rfl⟩ := own_form hv3
      have hown3 := owns_below hownH.out hb3
      have hB3 := hbH.out.trans (hb3.mono hbs)
      have hs3 := hb3.size
      clear HA hv3 hb3 hownH hbH hmx
      go_wp2_with fail
      refine HM.mono ?_
      rintro e w4 ⟨rfl, hb4⟩
      have hown4 := owns_below hown3 hb4
      have hB4 := hB3.trans (hb4.mono (by omega))
      have hs4 := hb4.size
      have hm0 : (mx == 0) = false := by rw [beq_eq_false_iff_ne]; omega
      have hqpH := Lib.hid hqp
      clear HM hb4 hown3 hB3 hqp
      go_wp2_with (at_builtin; refine wpList_append_own_at _ rfl _ _ 30 rfl w1.heap.size 3 i0 (.int .i64 0) 1 8 Try.underlying30 hi0 hz0 hz1 hz2 rfl (by decide) _ _ _ rfl (hown4.alloc _) ⟨w4.heap.size, 0, none⟩ 1 1 [.int .i64 ((1048576 : Int) / mx)] rfl rfl one_new13 (fun u hu => by rw [List.mem_singleton.1 hu]; rfl) ?c3 ?c4 ?c5 ?_)
      case c3 => unfold maxLen; omega
      case c4 => omega
      case c5 => simp; omega
      intro v8 w8 ho8 hg8 _ hloc
      have hB8 := grown_below (hown4.alloc (.cells #[.int .i64 ((1048576 : Int) / mx)] 3 (0, 0))) hg8 (hB4.alloc (by omega) _) (Nat.le_refl _) (by simp; omega)
      have ho9 : w8.ownsRow w1.heap.size 3 1 v8 (ps ++ [(1048576 : Int) / mx]).length (intI (ps ++ [(1048576 : Int) / mx])) := by
        rw [List.length_append, show intI (ps ++ [(1048576 : Int) / mx]) = intI ps ++ [.int .i64 ((1048576 : Int) / mx)] from List.map_append]
        exact ho8
      have hl9 := Lib.hid (hpl2.out ((1048576 : Int) / mx))
      have hp9 := Lib.hid (hpo2.out _ hqpH.out)
      clear ho8 hg8 hloc hown4 hB4 hpl2 hpo2 hqpH
      generalize ps ++ [(1048576 : Int) / mx] = P9 at *
      go_wp2
      go_roundw
      case rel => exact ⟨j + 1, P9, by omega, by go_num, hl9, hp9, ho9, hB8⟩
      case measure => simp [intOf]; omega
    · have e : j = ls.length := by omega
      have hjd : ¬ (j : Int) < (ls.length : Int) := by omega
      have hown' := own_more hown hsw
      have hpe : Hid (ps.length = ls.length) := Lib.hid (by rw [hpl.out, e])
      clear e hpl hown
      go_wp2
      go_ret
      exact ⟨_, rfl, ps, hown', hpe.out, hpo.out, hbw⟩
/-- Some number of moves. -/
theorem moves15_any (n : Nat) (V : Value) (ls : List (List Int)) (w : World) (hV : MatAt w w.heap.size V ls) (hls : ls.length ≤ 4000) (hlen : ∀ r, r ∈ ls → r.length ≤ 4000 ∧ r ≠ []) (h0 : ls ≠ []) :
    Calls Try.prog 78 #[mtv n V] w fun e w' => ∃ q : Int, e = .returned (.int .i64 q) ∧ q ≤ 300 ∧ Below w.heap.size w w' := by
  have hB0 := below_alloc1 w (mtb n V)
  have hbu : (w.alloc (mtb n V)).heap[w.heap.size]? = some (mtb n V) := heap_alloc_new _ _
  obtain ⟨A, c, rfl, hl, hc⟩ := hV
  have hcH := Lib.hid hc
  have hlenH := Lib.hid hlen
  have h0H := Lib.hid h0
  unfold mtv at *
  unfold mtb at *
  obtain ⟨m0, m1, -⟩ := now2 hbu rfl
  clear hc hlen h0
  go_enter Try.func78, Try.ntmps78
  go_wp2
  generalize w.alloc _ = W1 at *
  clear m0 m1
  go_loopw [3, 5, 9] (fun s _ t wr => ∃ j q : Nat, j ≤ ls.length ∧ t = .int .i64 j ∧ s = .int .i64 q ∧ Hid (j ≤ q) ∧ q ≤ 4000 * j ∧ wr = W1) (fun _ _ t _ => ls.length - (intOf t).toNat)
  case atStart => exact ⟨0, 0, by omega, rfl, rfl, Lib.hid (by omega), by omega, rfl⟩
  case round =>
    obtain ⟨j, q, hj, rfl, rfl, hjq, hq, rfl⟩ := hrel
    by_cases hlt : j < ls.length
    · obtain ⟨bp, op, rfl, hBp, hcc⟩ := hcH.out (by omega)
      obtain ⟨r, hrj⟩ : ∃ r, ls[j]? = some r := ⟨_, List.getElem?_eq_getElem hlt⟩
      obtain ⟨ov, z0, hov⟩ := hcc j r hrj
      have z1 := (hB0.cell (p := ⟨bp, op + j, none⟩) hBp).trans z0
      obtain ⟨hr4, hr0⟩ := hlenH.out r (List.mem_of_getElem? hrj)
      have hr1 : Hid (0 < r.length) := Lib.hid (List.length_pos_iff.2 hr0)
      obtain ⟨A3, c3, rfl, -, -⟩ := hov
      have k0 : (0 : Int) ≤ (j : Int) := by omega
      have k1 : (j : Int) < (ls.length : Int) := by omega
      clear hcH hcc z0 hrj hr0 hlenH h0H
      go_wp2
      go_roundw
      case rel => exact ⟨j + 1, q + r.length, by omega, by go_num, by go_num, Lib.hid (by have := hjq.out; have := hr1.out; omega), by omega, by first | rfl | trivial⟩
      case measure => simp [intOf]; omega
    · have e : j = ls.length := by omega
      have hjd : ¬ (j : Int) < (ls.length : Int) := by omega
      have hl0 : 0 < ls.length := List.length_pos_iff.2 h0H.out
      have hq0 : ((q : Int) == 0) = false := by have := hjq.out; rw [beq_eq_false_iff_ne]; omega
      have hq1 : (1 : Int) ≤ q := by have := hjq.out; omega
      have hd1 : 0 ≤ (300000 : Int) / q := Int.ediv_nonneg (by omega) (by omega)
      have hd2 : (300000 : Int) / q ≤ 300000 := Int.ediv_le_self _ (by omega)
      clear e hjq hcH hlenH h0H
      go_wp2
      go_ret
      exact ⟨_, rfl, by omega, hB0⟩
end Go.Proofs.Ytcbhcclickjpnaa
