/- Package search: numbers at places, and how many rows have each column. slices.IndexFunc and slices.DeleteFunc at rows of rows, with a function that writes. -/
import Derived.Test.YtcbhcclickjpnaaGK09
import Derived.Test.YtcbhcclickjpnaaGK10
import Derived.Test.YtcbhcclickjpnaaGK14
import Derived.Lib.SliceRun
namespace Go.Proofs.Ytcbhcclickjpnaa
open Go.RowKit Go.Joins

theorem Try.infoInt15 : (Try.prog.info? 3).map (fun i => (i.zero, i.size, i.bytes)) = some (some (.int .i64 0), 1, 8) := by kernel_rfl
theorem atL_take {l p : List Int} {j : Nat} {x : Int} (h : p[j]? = some x) : atL l (p.take (j + 1)) = atL l (p.take j) ++ [l.getD x.toNat 0] := by
  unfold atL
  rw [List.take_add_one, h, List.map_append]; rfl
set_option maxHeartbeats 1000000 in
set_option maxRecDepth 100000 in
/-- The numbers at some places. -/
theorem at15_any (vl vp : Value) (l p : List Int) (w : World) (hl : IntsAt w w.heap.size vl l) (hp : IntsAt w w.heap.size vp p) (hr : ∀ x, x ∈ p → 0 ≤ x ∧ x < l.length) (hp8 : p.length ≤ 4000) :
    Calls Try.prog 53 #[vl, vp] w fun e w' => ∃ v, e = .returned v ∧ w'.ownsRow w.heap.size 3 1 v (atL l p).length (intI (atL l p)) ∧ Below w.heap.size w w' := by
  obtain ⟨i0, hi0, hz0, hz1, hz2⟩ := info_parts Try.infoInt15
  obtain ⟨A, c, rfl, hll, hcl⟩ := hl
  obtain ⟨A2, c2, rfl, hlp, hcp⟩ := hp
  have hclH := Lib.hid hcl
  have hcpH := Lib.hid hcp
  have hrH := Lib.hid hr
  clear hcl hcp hr
  go_enter Try.func53, Try.ntmps53
  go_wp2
  go_loopw [5, 7, 10] (fun V _ t wr => ∃ (j : Nat) (K : List Int), j ≤ p.length ∧ t = .int .i64 j ∧ Hid (K = atL l (p.take j)) ∧ wr.ownsRow w.heap.size 3 1 V K.length (intI K) ∧ Below w.heap.size w wr) (fun _ _ t _ => p.length - (intOf t).toNat)
  case atStart => exact ⟨0, [], by omega, rfl, Lib.hid rfl, World.ownsRow_nil _ _ _ _, Below.refl _ _⟩
  case round =>
    obtain ⟨j, K, hj, rfl, hK, hown, hb⟩ := hrel
    obtain ⟨AV, cV, rfl⟩ := own_form hown
    have hbs := hb.size
    by_cases hlt : j < p.length
    · obtain ⟨b, off, rfl, hB, hcc⟩ := hcpH.out (by omega)
      obtain ⟨x, hx⟩ : ∃ x, p[j]? = some x := ⟨_, List.getElem?_eq_getElem hlt⟩
      obtain ⟨x0, x1⟩ := hrH.out x (List.mem_of_getElem? hx)
      obtain ⟨y, rfl⟩ := Int.eq_ofNat_of_zero_le x0
      obtain ⟨b2, off2, rfl, hB2, hcc2⟩ := hclH.out (by omega)
      obtain ⟨z, hz⟩ : ∃ z, l[y]? = some z := ⟨_, List.getElem?_eq_getElem (by omega)⟩
      have d0 := (hb.cell (p := ⟨b, off + j, none⟩) hB).trans (hcc j _ hx)
      have d1 := (hb.cell (p := ⟨b2, off2 + y, none⟩) hB2).trans (hcc2 y _ hz)
      have hK2 : Hid (K ++ [z] = atL l (p.take (j + 1))) := Lib.hid (by
        rw [atL_take hx, hK.out, Int.toNat_natCast, List.getD_eq_getElem?_getD, hz]; rfl)
      have hKl : K.length ≤ 4000 := by rw [hK.out, atL_len, List.length_take]; omega
      have j0 : (0 : Int) ≤ (j : Int) := by omega
      have j1 : (j : Int) < (p.length : Int) := by omega
      have y0 : (0 : Int) ≤ (y : Int) := by omega
      have y1 : (y : Int) < (l.length : Int) := by omega
      clear hcc hcc2 hK hx hz x0 x1
      go_wp2_with (at_builtin; refine wpList_append_own_at _ rfl _ _ 30 rfl w.heap.size 3 i0 (.int .i64 0) 1 8 Try.underlying30 hi0 hz0 hz1 hz2 rfl (by decide) _ _ _ rfl (hown.alloc _) ⟨wr.heap.size, 0, none⟩ 1 1 [.int .i64 z] rfl rfl one_new13 (fun u hu => by rw [List.mem_singleton.1 hu]; rfl) ?c3 ?c4 ?c5 ?_)
      case c3 => unfold maxLen; omega
      case c4 => omega
      case c5 => simp; omega
      intro v8 w8 ho8 hg8 _ hloc
      have hB8 := grown_below (hown.alloc (.cells #[.int .i64 z] 3 (0, 0))) hg8 (hb.alloc hbs _) (Nat.le_refl _) (by simp; omega)
      have ho9 : w8.ownsRow w.heap.size 3 1 v8 (K ++ [z]).length (intI (K ++ [z])) := by
        rw [List.length_append, show intI (K ++ [z]) = intI K ++ [.int .i64 z] from List.map_append]
        exact ho8
      clear ho8 hg8 hloc hown hb
      generalize K ++ [z] = K2 at *
      go_wp2
      go_roundw
      case rel => exact ⟨j + 1, K2, by omega, by go_num, hK2, ho9, hB8⟩
      case measure => simp [intOf]; omega
    · have e : j = p.length := by omega
      have hjd : ¬ (j : Int) < (p.length : Int) := by omega
      have hKL : Hid (atL l p = K) := Lib.hid (by rw [hK.out, e, List.take_length])
      clear e hK
      go_wp2
      go_ret
      exact ⟨_, rfl, by rw [hKL.out]; exact hown, hb⟩
/-- How often a column is in the rows ahead, and in the row up to here. -/
def cntJ (ls : List (List Int)) (r : List Int) (k j p : Nat) : Nat := cntC (ls.take k) p + if (p : Int) ∈ r.take j then 1 else 0
theorem cnt_take {ls : List (List Int)} {r : List Int} {k : Nat} (h : ls[k]? = some r) (p : Nat) : cntC (ls.take (k + 1)) p = cntC (ls.take k) p + if (p : Int) ∈ r then 1 else 0 := by
  unfold cntC
  rw [List.take_add_one, h, List.countP_append]
  show _ + List.countP _ [r] = _
  rw [List.countP_singleton]
  congr 1
  by_cases e : (p : Int) ∈ r <;> simp [e]
theorem cntJ_0 (ls : List (List Int)) (r : List Int) (k p : Nat) : cntJ ls r k 0 p = cntC (ls.take k) p := by unfold cntJ; simp
theorem cntJ_end {ls : List (List Int)} {r : List Int} {k : Nat} (h : ls[k]? = some r) (p : Nat) : cntJ ls r k r.length p = cntC (ls.take (k + 1)) p := by
  unfold cntJ
  rw [cnt_take h, List.take_length]
theorem ris_fresh {n : Int} {r : List Int} {j : Nat} {x : Int} (hr : risL n r) (h : r[j]? = some x) : x ∉ r.take j := by
  intro hm
  obtain ⟨i, hi⟩ := List.mem_iff_getElem?.1 hm
  rw [List.getElem?_take] at hi
  split at hi
  · rename_i hij
    obtain ⟨h1, h2⟩ := List.getElem?_eq_some_iff.1 h
    obtain ⟨h3, h4⟩ := List.getElem?_eq_some_iff.1 hi
    have := List.pairwise_iff_getElem.1 hr.2 i j h3 h1 hij
    omega
  · cases hi
theorem cntJ_hit {n : Int} {ls : List (List Int)} {r : List Int} {k j p : Nat} (hr : risL n r) (h : r[j]? = some (p : Int)) : cntJ ls r k (j + 1) p = cntJ ls r k j p + 1 := by
  unfold cntJ
  rw [List.take_add_one, h, if_pos (by simp), if_neg (ris_fresh hr h)]
theorem cntJ_miss {ls : List (List Int)} {r : List Int} {k j p q : Nat} (h : r[j]? = some (p : Int)) (hne : q ≠ p) : cntJ ls r k (j + 1) q = cntJ ls r k j q := by
  unfold cntJ
  rw [List.take_add_one, h]
  have : ¬ (q : Int) = (p : Int) := by omega
  simp [this]
theorem cnt_le (ls : List (List Int)) (p : Nat) : cntC ls p ≤ ls.length := List.countP_le_length
theorem cntJ_le (ls : List (List Int)) (r : List Int) (k j p : Nat) : cntJ ls r k j p ≤ ls.length + 1 := by
  unfold cntJ
  have h1 := cnt_le (ls.take k) p
  rw [List.length_take] at h1
  split <;> omega
set_option maxHeartbeats 2000000 in
set_option maxRecDepth 100000 in
theorem counts15_any (n : Nat) (V : Value) (ls : List (List Int)) (w : World) (hV : MatAt w w.heap.size V ls) (hn : n ≤ 4000) (hls : ls.length ≤ 4000) (hr : ∀ r, r ∈ ls → risL n r) :
    Calls Try.prog 39 #[mtv n V] w fun e w' => ∃ bt, e = .returned (.slice (some ⟨bt, 0, none⟩) n n) ∧ w.heap.size ≤ bt ∧ w'.heap[bt]? = some (celO 3 n fun p => .int .i64 (cntC ls p : Nat)) ∧ Below w.heap.size w w' := by
  have hmk := fun w => make_ints14 n (by omega) w
  have hB0 := below_alloc1 w (mtb n V)
  have hbu : (w.alloc (mtb n V)).heap[w.heap.size]? = some (mtb n V) := heap_alloc_new _ _
  have hs0 : (w.alloc (mtb n V)).heap.size = w.heap.size + 1 := World.size_alloc _ _
  have ha := heap_alloc_new (w.alloc (mtb n V)) (celO 3 n fun _ => .int .i64 0)
  have hba := keep_alloc (x := celO 3 n fun _ => .int .i64 0) hbu
  have hB1 := hB0.alloc hB0.size (celO 3 n fun _ => .int .i64 0)
  rw [hs0] at ha
  obtain ⟨A, c, rfl, hl, hc⟩ := hV
  have hcH := Lib.hid hc
  have hrH := Lib.hid hr
  unfold mtv
  unfold mtb at *
  obtain ⟨m0, m1, -⟩ := now2 hbu rfl
  obtain ⟨a0, a1, -⟩ := now2 hba rfl
  clear hc hr hbu hB0 hs0
  go_enter Try.func39, Try.ntmps39
  go_wp2
  generalize (w.alloc _).alloc _ = w1 at *
  generalize hgb : w.heap.size = gb at *
  have hgbH := Lib.hid hgb
  clear hgb m0 m1 a0 a1
  go_loopw [5, 7, 14] (fun _ _ t wr => ∃ k : Nat, k ≤ ls.length ∧ t = .int .i64 k ∧ wr.heap[gb + 1]? = some (celO 3 n fun y => .int .i64 (cntC (ls.take k) y : Nat)) ∧ Below gb w wr) (fun _ _ t _ => ls.length - (intOf t).toNat)
  case atStart => exact ⟨0, by omega, rfl, ha, hB1⟩
  case round =>
    clear ha hba hB1
    obtain ⟨k, hk, rfl, hg, hb⟩ := hrel
    by_cases hlt : k < ls.length
    · obtain ⟨b, off, rfl, hB, hcc⟩ := hcH.out (by omega)
      obtain ⟨r, hrk⟩ : ∃ r, ls[k]? = some r := ⟨_, List.getElem?_eq_getElem hlt⟩
      obtain ⟨ov, z0, hov⟩ := hcc k r hrk
      have z1 := (hb.cell (p := ⟨b, off + k, none⟩) hB).trans z0
      obtain ⟨Ar, cr, rfl, hlr, hcr⟩ := hov
      have hris := hrH.out r (List.mem_of_getElem? hrk)
      have k0 : (0 : Int) ≤ (k : Int) := by omega
      have k1 : (k : Int) < (ls.length : Int) := by omega
      have hit : Hid (∀ (j y : Nat), r[j]? = some (y : Int) → cntJ ls r k (j + 1) y = cntJ ls r k j y + 1) := Lib.hid (fun j y h => cntJ_hit hris h)
      have hmi : Hid (∀ (j y z : Nat), r[j]? = some (y : Int) → z ≠ y → cntJ ls r k (j + 1) z = cntJ ls r k j z) := Lib.hid (fun j y z h hne => cntJ_miss h hne)
      have hle : Hid (∀ (j y : Nat), cntJ ls r k j y ≤ 4001) := Lib.hid (fun j y => by have := cntJ_le ls r k j y; omega)
      have hen : Hid (∀ y : Nat, cntJ ls r k r.length y = cntC (ls.take (k + 1)) y) := Lib.hid (fun y => cntJ_end hrk y)
      have hlow := Lib.hid hris.1
      have hg0 : wr.heap[gb + 1]? = some (celO 3 n fun y => .int .i64 (cntJ ls r k 0 y : Nat)) := by
        rw [hg]
        exact congrArg some (celO_ext fun y _ => by rw [cntJ_0])
      clear hmk hcH hcc hrk z0 hg hrH hris
      go_wp2
      go_loopw [7, 20] (fun _ t wi => ∃ j : Nat, j ≤ r.length ∧ t = .int .i64 j ∧ wi.heap[gb + 1]? = some (celO 3 n fun y => .int .i64 (cntJ ls r k j y : Nat)) ∧ Below gb w wi) (fun _ t _ => r.length - (intOf t).toNat)
      case atStart => exact ⟨0, by omega, rfl, hg0, hb⟩
      case round =>
        clear hg0 hb
        obtain ⟨j, hj, rfl, hg, hb⟩ := hrel
        by_cases hlt2 : j < r.length
        · obtain ⟨br, offr, rfl, hBr, hccr⟩ := hcr (by omega)
          obtain ⟨x, hx⟩ : ∃ x, r[j]? = some x := ⟨_, List.getElem?_eq_getElem hlt2⟩
          obtain ⟨x0, x1⟩ := hlow.out x (List.mem_of_getElem? hx)
          obtain ⟨y, rfl⟩ := Int.eq_ofNat_of_zero_le x0
          have d0 := (hb.cell (p := ⟨br, offr + j, none⟩) hBr).trans (hccr j _ hx)
          have hyn : y < n := by omega
          obtain ⟨y0, yf⟩ := cel_cell hg hyn
          have hl4 := hle.out j y
          have h1 : Hid (cntJ ls r k (j + 1) y = cntJ ls r k j y + 1) := Lib.hid (hit.out j y hx)
          have hg2 : (wr.setCell ⟨gb + 1, y, none⟩ (.int .i64 ((cntJ ls r k j y : Int) + 1))).heap[gb + 1]? = some (celO 3 n fun y => .int .i64 (cntJ ls r k (j + 1) y : Nat)) := by
            refine (cel_set hg _).trans (congrArg some (celO_ext fun z hz => ?_))
            by_cases e : z = y
            · subst e; rw [if_pos rfl, h1.out]; rfl
            · rw [if_neg e, hmi.out j y z hx e]
          have hb2 := hb.setCell (p := ⟨gb + 1, y, none⟩) (by show gb ≤ gb + 1; omega) (.int .i64 ((cntJ ls r k j y : Int) + 1))
          have j0 : (0 : Int) ≤ (j : Int) := by omega
          have j1 : (j : Int) < (r.length : Int) := by omega
          have w0 : (0 : Int) ≤ (y : Int) := by omega
          have w1 : (y : Int) < (n : Int) := by omega
          generalize cntJ ls r k j y = q1 at *
          clear hle hmi hit hlow hen hx hccr hcr hg hb h1
          go_wp2
          go_roundw
          case rel => exact ⟨j + 1, by omega, by go_num, hg2, hb2⟩
          case measure => simp [intOf]; omega
        · have e : j = r.length := by omega
          have hjd : ¬ (j : Int) < (r.length : Int) := by omega
          have hg2 : wr.heap[gb + 1]? = some (celO 3 n fun y => .int .i64 (cntC (ls.take (k + 1)) y : Nat)) := by
            rw [hg, e]
            exact congrArg some (celO_ext fun y _ => by rw [hen.out])
          clear e hle hmi hit hlow hen hcr hg
          go_wp2
          go_roundw
          case rel => exact ⟨k + 1, by omega, by go_num, hg2, hb⟩
          case measure => simp [intOf]; omega
    · have e : k = ls.length := by omega
      have hkd : ¬ (k : Int) < (ls.length : Int) := by omega
      have hg2 : wr.heap[gb + 1]? = some (celO 3 n fun y => .int .i64 (cntC ls y : Nat)) := by
        rw [hg, e, List.take_length]
      clear e hg hcH hrH
      go_wp2
      go_ret
      exact ⟨_, rfl, by rw [hgbH.out]; omega, hg2, by rw [hgbH.out]; exact hb⟩
end Go.Proofs.Ytcbhcclickjpnaa
namespace Go.Proofs.Ytcbhcclickjpnaa
open Go.RowKit Go.Joins

abbrev RV := List Int × Value
/-- The cells of the block g are those of the pairs. -/
def PairC (w : World) (g cap : Nat) (cur : Array Value) : Prop := w.heap[g]? = some (.cells cur 30 (0, 0)) ∧ cur.size = cap
theorem PairC.cell {w : World} {g cap j : Nat} {cur : Array Value} {v : Value} (h : PairC w g cap cur) (hv : cur[j]? = some v) : w.cell? ⟨g, j, none⟩ = some v ∧ w.frozen? ⟨g, j, none⟩ = false :=
  ⟨by rw [cell_of_block h.1]; exact hv, unfrozen_of_block h.1 j⟩
theorem PairC.set {w : World} {g cap j : Nat} {cur : Array Value} (h : PairC w g cap cur) (v : Value) : PairC (w.setCell ⟨g, j, none⟩ v) g cap (cur.setIfInBounds j v) :=
  ⟨block_setCell h.1 _, by rw [Array.size_setIfInBounds]; exact h.2⟩
theorem cells_set15 {Inv : World → Prop} {g cap q : Nat} (hst : ∀ W k u, Inv W → Inv (W.setCell ⟨g, k, none⟩ u)) : ∀ (vs : List Value) (o : Nat) (W : World) (cur : Array Value), q ≤ o → PairC W g cap cur → Inv W →
    ∃ cur', PairC (W.setCells g o vs) g cap cur' ∧ (∀ a, a < q → cur'[a]? = cur[a]?) ∧ Inv (W.setCells g o vs)
  | [], o, W, cur, _, h, hI => ⟨cur, h, fun _ _ => rfl, hI⟩
  | v :: r, o, W, cur, hq, h, hI => by
    rw [World.setCells]
    obtain ⟨cur', h1, h2, h3⟩ := cells_set15 (q := q) hst r (o + 1) _ _ (by omega) (h.set (j := o) v) (hst W o v hI)
    refine ⟨cur', h1, fun a ha => ?_, h3⟩
    rw [h2 a ha, Array.getElem?_setIfInBounds, if_neg (by omega)]
set_option maxHeartbeats 1000000 in
set_option maxRecDepth 100000 in
theorem indexG15_any (K : Nat) (caps : Array Value) (p : List Int → Bool) (g cap : Nat) (zs : List RV) (Inv : Nat → World → Prop) (cur : Array Value) (w : World)
    (hcf : ∀ (args : Array Value) (w1 : World), (Sem.run Try.prog (callFunc K args) w1) = .ok (.enter K args) w1)
    (hform : ∀ z, z ∈ zs → ∃ A n c, z.2 = .slice A n c)
    (hcl : ∀ (j : Nat) (z : RV) (W : World), zs[j]? = some z → Inv j W → g < W.heap.size → Calls Try.prog K (#[z.2] ++ caps) W fun e W' => e = .returned (.bool (p z.1)) ∧ Inv (j + 1) W' ∧ W'.heap[g]? = W.heap[g]?)
    (hI : Inv 0 w) (hg : PairC w g cap cur) (hz : zs.length ≤ 4000) (hcur : ∀ (j : Nat) (z : RV), zs[j]? = some z → cur[j]? = some z.2) :
    Calls Try.prog 45 #[.slice (some ⟨g, 0, none⟩) zs.length cap, .func (.func K) #[] caps] w fun e w' => PairC w' g cap cur ∧
      ((e = .returned (.int .i64 (-1)) ∧ (∀ z, z ∈ zs → p z.1 = false) ∧ Inv zs.length w') ∨
       ∃ j z, e = .returned (.int .i64 (j : Nat)) ∧ zs[j]? = some z ∧ p z.1 = true ∧ (∀ z, z ∈ zs.take j → p z.1 = false) ∧ Inv (j + 1) w') := by
  have hcurH := Lib.hid hcur
  clear hcur
  go_enter Try.func45, Try.ntmps45
  go_wp2
  go_loopw [5, 8] (fun _ t wr => ∃ j : Nat, j ≤ zs.length ∧ t = .int .i64 j ∧ Hid (∀ z, z ∈ zs.take j → p z.1 = false) ∧ Inv j wr ∧ PairC wr g cap cur) (fun _ t _ => zs.length - (intOf t).toNat)
  case atStart => exact ⟨0, by omega, rfl, Lib.hid (by simp), hI, hg⟩
  case round =>
    clear hI hg
    obtain ⟨j, hj, rfl, hH, hI, hg⟩ := hrel
    by_cases hlt : j < zs.length
    · obtain ⟨z, hzj⟩ : ∃ z, zs[j]? = some z := ⟨_, List.getElem?_eq_getElem hlt⟩
      obtain ⟨d0, -⟩ := hg.cell (hcurH.out j z hzj)
      have HX := hcl j z wr hzj hI (size_of_block hg.1)
      have hzH := Lib.hid hzj
      obtain ⟨A3, n3, c3, e3⟩ := hform z (List.mem_of_getElem? hzj)
      obtain ⟨zl, zv⟩ := z
      dsimp only at d0 HX e3
      subst e3
      have hgH := Lib.hid hg
      have j0 : (0 : Int) ≤ (j : Int) := by omega
      have j1 : (j : Int) < (zs.length : Int) := by omega
      clear hcl hform hI hzj hg
      cases hp : p zl
      · rw [hp] at HX
        have hp' := Lib.hid hp
        clear hp
        go_wp2_with fail
        refine HX.mono ?_
        rintro e w1 ⟨rfl, hI1, hg1⟩
        have hg2 : PairC w1 g cap cur := ⟨hg1.trans hgH.out.1, hgH.out.2⟩
        have hH2 : Hid (∀ z, z ∈ zs.take (j + 1) → p z.1 = false) := Lib.hid (fun z hz => by
          rw [List.take_add_one, hzH.out] at hz
          rcases List.mem_append.1 hz with h | h
          · exact hH.out z h
          · rw [List.mem_singleton.1 (show z ∈ [_] from h)]; exact hp'.out)
        clear hg1 hH hp' hzH hgH
        go_wp2
        go_roundw
        case rel => exact ⟨j + 1, by omega, by go_num, hH2, hI1, hg2⟩
        case measure => simp [intOf]; omega
      · rw [hp] at HX
        have hp' := Lib.hid hp
        clear hp
        go_wp2_with fail
        refine HX.mono ?_
        rintro e w1 ⟨rfl, hI1, hg1⟩
        have hg2 : PairC w1 g cap cur := ⟨hg1.trans hgH.out.1, hgH.out.2⟩
        clear hg1 hgH
        go_wp2
        go_ret
        exact ⟨hg2, .inr ⟨j, _, rfl, hzH.out, hp'.out, hH.out, hI1⟩⟩
    · have e : j = zs.length := by omega
      subst e
      have hkd : ¬ (zs.length : Int) < (zs.length : Int) := by omega
      rw [List.take_length] at hH
      clear hcl hform
      go_wp2
      go_ret
      exact ⟨hg, .inl ⟨rfl, fun a b h => hH.out (a, b) h, hI⟩⟩
def kpt (p : List Int → Bool) (zs : List RV) : List RV := zs.filter fun z => !p z.1
theorem kpt_take {p : List Int → Bool} {zs : List RV} {j : Nat} {z : RV} (h : zs[j]? = some z) : kpt p (zs.take (j + 1)) = kpt p (zs.take j) ++ if p z.1 = true then [] else [z] := by
  unfold kpt
  rw [List.take_add_one, h, List.filter_append]
  congr 1
  show List.filter _ [z] = _
  cases e : p z.1 <;> simp [e]
theorem kpt_none {p : List Int → Bool} {zs : List RV} (h : ∀ z, z ∈ zs → p z.1 = false) : kpt p zs = zs := by
  unfold kpt
  rw [List.filter_eq_self]
  intro z hz
  rw [h z hz]; rfl
set_option maxHeartbeats 4000000 in
set_option maxRecDepth 100000 in
theorem delG15_any (K : Nat) (caps : Array Value) (p : List Int → Bool) (g cap : Nat) (zs : List RV) (Inv : Nat → World → Prop) (cur : Array Value) (w : World)
    (hcf : ∀ (args : Array Value) (w1 : World), (Sem.run Try.prog (callFunc K args) w1) = .ok (.enter K args) w1)
    (hform : ∀ z, z ∈ zs → ∃ A n c, z.2 = .slice A n c)
    (hcl : ∀ (j : Nat) (z : RV) (W : World), zs[j]? = some z → Inv j W → g < W.heap.size → Calls Try.prog K (#[z.2] ++ caps) W fun e W' => e = .returned (.bool (p z.1)) ∧ Inv (j + 1) W' ∧ W'.heap[g]? = W.heap[g]?)
    (hst : ∀ j W k u, Inv j W → Inv j (W.setCell ⟨g, k, none⟩ u))
    (hI : Inv 0 w) (hg : PairC w g cap cur) (hz : zs.length ≤ 4000) (hzc : zs.length ≤ cap) (hcur : ∀ (j : Nat) (z : RV), zs[j]? = some z → cur[j]? = some z.2) :
    Calls Try.prog 42 #[.slice (some ⟨g, 0, none⟩) zs.length cap, .func (.func K) #[] caps] w fun e w' => ∃ cur', e = .returned (.slice (some ⟨g, 0, none⟩) (kpt p zs).length cap) ∧ PairC w' g cap cur' ∧
      (∀ (j : Nat) (z : RV), (kpt p zs)[j]? = some z → cur'[j]? = some z.2) ∧ Inv zs.length w' := by
  have HI := indexG15_any K caps p g cap zs Inv cur w hcf hform hcl hI hg hz hcur
  have hcurH := Lib.hid hcur
  have hstH := Lib.hid hst
  clear hcur hI hg hst
  go_enter Try.func42, Try.ntmps42
  go_wp2_with fail
  refine HI.mono ?_
  rintro e w1 ⟨hg, ⟨rfl, hno, hI⟩ | ⟨i, z, rfl, hzi, hpz, hno, hI⟩⟩
  · have hk : Hid (zs = kpt p zs) := Lib.hid (kpt_none hno).symm
    clear HI hcl hform hno
    go_wp2
    go_ret
    exact ⟨cur, by rw [← hk.out]; rfl, hg, by rw [← hk.out]; exact hcurH.out, hI⟩
  · have hil := (List.getElem?_eq_some_iff.1 hzi).1
    have hk1 : kpt p (zs.take (i + 1)) = zs.take i := by rw [kpt_take hzi, if_pos hpz, List.append_nil, kpt_none hno]
    have hkl : (kpt p (zs.take (i + 1))).length = i := by rw [hk1, List.length_take]; omega
    have hi0 : ((i : Int) == -1) = false := by rw [beq_eq_false_iff_ne]; omega
    have hc1 : Hid (∀ (a : Nat) (z : RV), (kpt p (zs.take (i + 1)))[a]? = some z → cur[a]? = some z.2) := Lib.hid (fun a z ha => by
      rw [hk1, List.getElem?_take] at ha
      split at ha
      · exact hcurH.out a z ha
      · cases ha)
    have hkl := Lib.hid hkl
    clear HI hzi hpz hno hk1
    go_wp2
    go_loopw [5, 6, 7] (fun q t _ wr => ∃ (j : Nat) (cur' : Array Value), i + 1 ≤ j ∧ j ≤ zs.length ∧ t = .int .i64 j ∧ q = .int .i64 ((kpt p (zs.take j)).length : Nat) ∧ Hid ((kpt p (zs.take j)).length < j) ∧ Hid (∀ (a : Nat) (z : RV), (kpt p (zs.take j))[a]? = some z → cur'[a]? = some z.2) ∧ Hid (∀ (a : Nat) (z : RV), j ≤ a → zs[a]? = some z → cur'[a]? = some z.2) ∧
      Inv j wr ∧ PairC wr g cap cur') (fun _ t _ _ => zs.length - (intOf t).toNat)
    case atStart => exact ⟨i + 1, cur, Nat.le_refl _, by omega, by go_num, by rw [hkl.out], Lib.hid (by rw [hkl.out]; omega), hc1, Lib.hid (fun a z _ h => hcurH.out a z h), hI, hg⟩
    case round =>
      clear hI hg hc1 hkl hcurH
      obtain ⟨j, cur', hij, hj, rfl, rfl, hql, hK, hR, hI, hg⟩ := hrel
      have hgs := size_of_block hg.1
      by_cases hlt : j < zs.length
      · obtain ⟨z, hzj⟩ : ∃ z, zs[j]? = some z := ⟨_, List.getElem?_eq_getElem hlt⟩
        obtain ⟨d0, -⟩ := hg.cell (hR.out j z (Nat.le_refl _) hzj)
        have HX := hcl j z wr hzj hI hgs
        have hzm : ∃ A n c, z.2 = .slice A n c := hform z (List.mem_of_getElem? hzj)
        have hkt := kpt_take (p := p) hzj
        have hR2 : Hid (∀ (a : Nat) (z : RV), j + 1 ≤ a → zs[a]? = some z → cur'[a]? = some z.2) := Lib.hid (fun a z ha => hR.out a z (by omega))
        obtain ⟨A3, n3, c3, e3⟩ := hzm
        have hgH := Lib.hid hg
        have hzH := Lib.hid hzj
        obtain ⟨zl, zv⟩ := z
        dsimp only at d0 HX e3 hkt
        subst e3
        have j0 : (0 : Int) ≤ (j : Int) := by omega
        have j1 : (j : Int) < (zs.length : Int) := by omega
        have hkH := Lib.hid hkt
        clear hI hzj hg hkt
        cases hp : p zl
        · rw [hp] at HX hkH
          have hqj := hql.out
          have hKl : Hid ((kpt p (zs.take (j + 1))).length = (kpt p (zs.take j)).length + 1) := Lib.hid (by rw [hkH.out]; simp)
          have hKs : Hid (∀ (a : Nat) (z : RV), (kpt p (zs.take (j + 1)))[a]? = some z → (cur'.setIfInBounds (kpt p (zs.take j)).length (.slice A3 n3 c3))[a]? = some z.2) := Lib.hid (fun a z ha => by
            have hcs := hgH.out.2
            rw [hkH.out] at ha
            rw [Array.getElem?_setIfInBounds]
            by_cases e : (kpt p (zs.take j)).length = a
            · subst e
              rw [if_pos rfl, if_pos (by omega)]
              rw [List.getElem?_append_right (Nat.le_refl _), Nat.sub_self] at ha
              injection ha with ha
              rw [← ha]
            · rw [if_neg e]
              have hal := (List.getElem?_eq_some_iff.1 ha).1
              have : a < (kpt p (zs.take j)).length := by simp at hal; omega
              rw [List.getElem?_append_left this] at ha
              exact hK.out a z ha)
          have hRs : Hid (∀ (a : Nat) (z : RV), j + 1 ≤ a → zs[a]? = some z → (cur'.setIfInBounds (kpt p (zs.take j)).length (.slice A3 n3 c3))[a]? = some z.2) := Lib.hid (fun a z ha h => by
            rw [Array.getElem?_setIfInBounds, if_neg (by omega)]
            exact hR2.out a z ha h)
          have hst2 := hstH.out (j + 1)
          clear hp hK hR hR2 hkH hql
          generalize (kpt p (zs.take j)).length = q at *
          go_wp2_with fail
          refine HX.mono ?_
          rintro e w2 ⟨rfl, hI2, hg2⟩
          have hg3 : PairC w2 g cap cur' := ⟨hg2.trans hgH.out.1, hgH.out.2⟩
          obtain ⟨f0, f1⟩ := hg3.cell (j := q) (v := cur'[q]'(by have := hg3.2; omega)) (Array.getElem?_eq_getElem _)
          have hg4 := hg3.set (j := q) (.slice A3 n3 c3)
          have hI4 := hst2 w2 q (.slice A3 n3 c3) hI2
          have q0 : (0 : Int) ≤ (q : Int) := by omega
          have q1 : (q : Int) < (zs.length : Int) := by omega
          generalize cur'[q]'_ = fv at *
          clear HX hg2 hg3 hI2 hst2 d0
          go_wp2
          go_roundw
          case rel => exact ⟨j + 1, _, by omega, by omega, by go_num, by rw [hKl.out]; go_num, Lib.hid (by rw [hKl.out]; omega), hKs, hRs, hI4, hg4⟩
          case measure => simp [intOf]; omega
        · rw [hp] at HX hkH
          have hKl : Hid (kpt p (zs.take (j + 1)) = kpt p (zs.take j)) := Lib.hid (by rw [hkH.out]; simp)
          clear hp hkH hR
          go_wp2_with fail
          refine HX.mono ?_
          rintro e w2 ⟨rfl, hI2, hg2⟩
          have hg3 : PairC w2 g cap cur' := ⟨hg2.trans hgH.out.1, hgH.out.2⟩
          clear HX hg2 d0
          go_wp2
          go_roundw
          case rel => exact ⟨j + 1, cur', by omega, by omega, by go_num, by rw [hKl.out], Lib.hid (by rw [hKl.out]; have := hql.out; omega), by rw [hKl.out]; exact hK, hR2, hI2, hg3⟩
          case measure => simp [intOf]; omega
      · have e : j = zs.length := by omega
        subst e
        rw [List.take_length] at hK
        generalize hQ : (kpt p (List.take zs.length zs)).length = q at *
        have hQH : Hid ((kpt p zs).length = q) := Lib.hid (by rw [← hQ, List.take_length])
        clear hQ
        have hqz := hql.out
        have hst2 := cells_set15 (Inv := Inv zs.length) (g := g) (cap := cap) (q := q) (fun W k u => hstH.out _ W k u)
        have hclr := fun ty => Lib.run_clear_slice (P := Try.prog) wr 22 30 ty _ Try.underlying22 Try.zeroValue30 rfl rfl g q (zs.length - q) (cap - q) (by omega)
          (fun a ha => by
            rw [cell_of_block hg.1]
            show (cur'[_]?).isSome = true
            rw [Array.getElem?_eq_getElem (by have := hg.2; omega)]; rfl) (fun a _ => unfrozen_of_block hg.1 _)
        obtain ⟨cur2, h1, h2, h3⟩ := hst2 (List.replicate (zs.length - q) (.slice none 0 0)) q wr cur' (Nat.le_refl _) hg hI
        have hK2 : Hid (∀ (a : Nat) (z : RV), (kpt p zs)[a]? = some z → cur2[a]? = some z.2) := Lib.hid (fun a z ha => by
          rw [h2 a (by have := (List.getElem?_eq_some_iff.1 ha).1; have := hQH.out; omega)]
          exact hK.out a z ha)
        have hfin : Hid (PairC (wr.setCells g q (List.replicate (zs.length - q) (.slice none 0 0))) g cap cur2 ∧ Inv zs.length (wr.setCells g q (List.replicate (zs.length - q) (.slice none 0 0)))) := Lib.hid ⟨h1, h3⟩
        have hqc : ¬ cap = q := by omega
        have hq2 : q ≤ cap := by omega
        have hq3 : q ≤ zs.length := by omega
        clear hst2 hK h1 h2 h3 hI hg hql hcl hform hstH hR hkl hil
        generalize List.replicate (zs.length - q) (Value.slice none 0 0) = RP at *
        go_wp2
        go_ret
        exact ⟨cur2, by rw [hQH.out]; rfl, hfin.out.1, hK2.out, hfin.out.2⟩
end Go.Proofs.Ytcbhcclickjpnaa
