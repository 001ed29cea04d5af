/- move of the package search: prices stay prices. -/
import Derived.Test.YtcbhcclickjpnaaGK28
namespace Go.Proofs.Ytcbhcclickjpnaa
open Go.RowKit Go.Joins

theorem sq_bound15 {q : Int} (h1 : -101 ≤ q) (h2 : q ≤ 101) : 0 ≤ q * q ∧ q * q ≤ 10201 := by
  have e : q * q = ((q.natAbs * q.natAbs : Nat) : Int) := by rw [Int.natCast_mul, Int.natAbs_mul_self']
  have h : q.natAbs ≤ 101 := by omega
  have := Nat.mul_le_mul h h
  rw [e]
  omega
theorem mul_bound15 {d q D : Int} (h0 : 0 ≤ d) (hD : d ≤ D) (h1 : -101 ≤ q) (h2 : q ≤ 101) : -(101 * D) ≤ d * q ∧ d * q ≤ 101 * D := by
  have a := Int.mul_le_mul_of_nonneg_left h1 h0
  have b := Int.mul_le_mul_of_nonneg_left h2 h0
  constructor
  · have : d * -101 = -(101 * d) := by rw [Int.mul_comm]; omega
    omega
  · have : d * 101 = 101 * d := Int.mul_comm _ _
    omega
set_option maxHeartbeats 4000000 in
set_option maxRecDepth 100000 in
theorem move15_any (n bb ub g cp : Nat) (V : Value) (ls : List (List Int)) (ps : List Int) (a by' : Int) (f : Nat → Int) (w : World) (hoff : MatN w (fun b => b ≠ g) V ls) (hn : n ≤ 100) (hls : ls.length ≤ 100) (hr : ∀ r, r ∈ ls → risL n r)
    (hbi : BilM w bb ub n a f) (hp : IntB w g ps) (_hgb : g ≠ bb) (_hgu : g ≠ ub) (hlen : ps.length = ls.length) (hpo : PrOk ps) (hby : -10000000000000 ≤ by' ∧ by' ≤ 10000000000000) :
    Calls Try.prog 80 #[.pointer (some ⟨bb, 0, none⟩), mtv n V, .slice (some ⟨g, 0, none⟩) ps.length cp, .int .i64 by'] w fun e w' => ∃ q ps', e = .returned (.bool q) ∧ ps'.length = ps.length ∧ PrOk ps' ∧ IntB w' g ps' ∧ SumI w g g w' := by
  have hB0 := below_alloc1 w (mtb n V)
  have hbu : (w.alloc (mtb n V)).heap[w.heap.size]? = some (mtb n V) := heap_alloc_new _ _
  have hmk := fun w => make_ints14 ps.length (by omega) w
  have hs0 : (w.alloc (mtb n V)).heap.size = w.heap.size + 1 := World.size_alloc _ _
  have hw0 := heap_alloc_new (w.alloc (mtb n V)) (celO 3 ps.length fun _ => .int .i64 0)
  rw [hs0] at hw0
  have hB1 := hB0.trans ((below_alloc1 (w.alloc (mtb n V)) (celO 3 ps.length fun _ => .int .i64 0)).mono hB0.size)
  have hbu1 := keep_alloc (x := celO 3 ps.length fun _ => .int .i64 0) hbu
  have hg0 := hp.lt
  obtain ⟨A, c, rfl, hl, hc⟩ := hoff
  have hcH := Lib.hid hc
  have hrH := Lib.hid hr
  have hpH := Lib.hid hp
  have hpoH := Lib.hid hpo
  have hlenH := Lib.hid hlen
  have hbiH := Lib.hid hbi
  have hpl : ps.length ≤ 100 := by omega
  unfold mtv
  unfold mtb at *
  obtain ⟨m0, m1, -⟩ := now2 hbu1 rfl
  clear hc hr hp hpo hlen hbu hB0 hs0
  go_enter Try.func80, Try.ntmps80
  go_wp2
  generalize (w.alloc _).alloc _ = W1 at *
  clear m0 m1 hbu1
  go_loopw [10, 11, 12, 14, 22] (fun T _ _ _ t wr => ∃ (k : Nat) (tt : Int) (F : Nat → Int), k ≤ ls.length ∧ t = .int .i64 k ∧ T = .int .i64 tt ∧ 0 ≤ tt ∧ tt ≤ 10201 * k ∧ Hid (∀ i, -101 ≤ F i ∧ F i ≤ 101) ∧ wr.heap[w.heap.size + 1]? = some (celO 3 ps.length fun p => .int .i64 (F p)) ∧ Below w.heap.size w wr) (fun _ _ _ _ t _ => ls.length - (intOf t).toNat)
  case atStart => exact ⟨0, 0, fun _ => 0, by omega, rfl, rfl, by omega, by omega, Lib.hid (fun i => by show -101 ≤ (0 : Int) ∧ (0 : Int) ≤ 101; omega), hw0, hB1⟩
  case round =>
    clear hw0 hB1
    obtain ⟨k, tt, F, hk, rfl, rfl, ht0, ht1, hF, hwt, hb⟩ := hrel
    by_cases hlt : k < ls.length
    · obtain ⟨bp, op, rfl, hBp, hcc⟩ := hcH.out (by omega)
      obtain ⟨r, hrk⟩ : ∃ r, ls[k]? = some r := ⟨_, List.getElem?_eq_getElem hlt⟩
      obtain ⟨ov, z0, hov⟩ := hcc k r hrk
      have hbw := block_lt_of_cell z0
      have z1 := (hb.cell (p := ⟨bp, op + k, none⟩) hbw).trans z0
      have hris := hrH.out r (List.mem_of_getElem? hrk)
      have hrl : r.length ≤ 100 := by
        rcases ris_len hris with h | h
        · omega
        · rw [h]; decide
      obtain ⟨Ar, cr, rfl, hlr, hcr⟩ := hov
      have hcrH : Hid (∀ (j : Nat) (x : Int), r[j]? = some x → ∃ b off, Ar = some ⟨b, off, none⟩ ∧ b < w.heap.size ∧ w.cell? ⟨b, off + j, none⟩ = some (.int .i64 x)) := Lib.hid (fun j x hx => by
        obtain ⟨b, off, e, -, hcc2⟩ := hcr (by have := (List.getElem?_eq_some_iff.1 hx).1; omega)
        exact ⟨b, off, e, block_lt_of_cell (hcc2 j x hx), hcc2 j x hx⟩)
      have hlow := Lib.hid hris.1
      have hkp : k < ps.length := by have := hlenH.out; omega
      have k0 : (0 : Int) ≤ (k : Int) := by omega
      have k1 : (k : Int) < (ls.length : Int) := by omega
      have k2 : (k : Int) < (ps.length : Int) := by omega
      obtain ⟨y0, yf⟩ := cel_cell hwt hkp
      have hwt2 : (wr.setCell ⟨w.heap.size + 1, k, none⟩ (.int .i64 1)).heap[w.heap.size + 1]? = some (celO 3 ps.length fun p => .int .i64 (if p = k then 1 else F p)) :=
        (cel_set hwt _).trans (congrArg some (celO_ext fun p _ => by split <;> rfl))
      have hb2 := hb.setCell (p := ⟨w.heap.size + 1, k, none⟩) (by show w.heap.size ≤ w.heap.size + 1; omega) (.int .i64 1)
      have hwt2 := Lib.hid hwt2
      have hb2 := Lib.hid hb2
      clear hcr hcc hrk z0 hris hcH hwt hb hrH hmk
      go_wp2
      clear y0 yf
      go_loopw [14, 32] (fun _ t wi => ∃ (j : Nat) (q : Int), j ≤ r.length ∧ t = .int .i64 j ∧ 1 - (j : Int) ≤ q ∧ q ≤ 1 ∧ wi.heap[w.heap.size + 1]? = some (celO 3 ps.length fun p => .int .i64 (if p = k then q else F p)) ∧ Below w.heap.size w wi) (fun _ t _ => r.length - (intOf t).toNat)
      case atStart => exact ⟨0, 1, by omega, rfl, by omega, by omega, hwt2.out, hb2.out⟩
      case round =>
        clear hwt2 hb2
        obtain ⟨j, q, hj, rfl, hq1, hq2, hwt, hb⟩ := hrel
        by_cases hlt2 : j < r.length
        · obtain ⟨x, hx⟩ : ∃ x, r[j]? = some x := ⟨_, List.getElem?_eq_getElem hlt2⟩
          obtain ⟨x0, x1⟩ := hlow.out x (List.mem_of_getElem? hx)
          obtain ⟨y, rfl⟩ := Int.eq_ofNat_of_zero_le x0
          obtain ⟨br, offr, rfl, hbr, d0⟩ := hcrH.out j _ hx
          have d1 := (hb.cell (p := ⟨br, offr + j, none⟩) hbr).trans d0
          have hyn : y < n := by omega
          obtain ⟨u0, -⟩ := cel_cell ((hb.block _ (size_of_block hbiH.out.up)).trans hbiH.out.up) hyn
          obtain ⟨s0, s1, -⟩ := now2 ((hb.block _ (size_of_block hbiH.out.box)).trans hbiH.out.box) rfl
          obtain ⟨y0, yf⟩ := cel_cell hwt hkp
          rw [if_pos rfl] at y0
          have hwt2 : (wr.setCell ⟨w.heap.size + 1, k, none⟩ (.int .i64 (q - 1))).heap[w.heap.size + 1]? = some (celO 3 ps.length fun p => .int .i64 (if p = k then q - 1 else F p)) :=
            (cel_set hwt _).trans (congrArg some (celO_ext fun p _ => by
              by_cases e : p = k
              · rw [if_pos e, if_pos e]
              · rw [if_neg e, if_neg e, if_neg e]))
          have hb2 := hb.setCell (p := ⟨w.heap.size + 1, k, none⟩) (by show w.heap.size ≤ w.heap.size + 1; omega) (.int .i64 (q - 1))
          have hwt2 := Lib.hid hwt2
          have hb2 := Lib.hid hb2
          have hwt1 := Lib.hid hwt
          have hb1 := Lib.hid hb
          have j0 : (0 : Int) ≤ (j : Int) := by omega
          have j1 : (j : Int) < (r.length : Int) := by omega
          have w0 : (0 : Int) ≤ (y : Int) := by omega
          have w1 : (y : Int) < (n : Int) := by omega
          generalize f y = fy at *
          clear hx x0 x1 hcrH hlow d0 hwt hb hbiH
          by_cases hneg : fy < 0
          · go_wp2
            go_roundw
            case rel => exact ⟨j + 1, q - 1, by omega, by go_num, by omega, by omega, hwt2.out, hb2.out⟩
            case measure => simp [intOf]; omega
          · go_wp2
            go_roundw
            case rel => exact ⟨j + 1, q, by omega, by go_num, by omega, by omega, hwt1.out, hb1.out⟩
            case measure => simp [intOf]; omega
        · have e : j = r.length := by omega
          have hjd : ¬ (j : Int) < (r.length : Int) := by omega
          obtain ⟨y0, yf⟩ := cel_cell hwt hkp
          rw [if_pos rfl] at y0
          obtain ⟨sq0, sq1⟩ := sq_bound15 (q := q) (by omega) (by omega)
          have w1 : IntKind.i64.wrap (q * q) = q * q := by rw [IntKind.wrap_i64]; omega
          have w2 : IntKind.i64.wrap (tt + q * q) = tt + q * q := by rw [IntKind.wrap_i64]; omega
          have hF2 : Hid (∀ i, -101 ≤ (if i = k then q else F i) ∧ (if i = k then q else F i) ≤ 101) := Lib.hid (fun i => by
            split
            · omega
            · exact hF.out i)
          have hwtH := Lib.hid hwt
          clear e hcrH hlow hwt hF
          have hbH := Lib.hid hb
          clear hb
          go_wp2
          go_quiet (fail)
          go_wp2
          generalize q * q = qq at *
          go_roundw
          case rel => exact ⟨k + 1, tt + qq, fun p => if p = k then q else F p, by omega, by go_num, by go_num, by omega, by omega, hF2, hwtH.out, below_drewN' hbH.out _⟩
          case measure => simp [intOf]; omega
    · have e : k = ls.length := by omega
      have hkd : ¬ (k : Int) < (ls.length : Int) := by omega
      have hpg : IntB wr g ps := hpH.out.same (hb.block g hg0)
      have hS : SumI w g g wr := ⟨hb.size, fun b h1 _ _ => hb.block b h1, fun B _ _ h => hb.mono h⟩
      by_cases h0 : tt = 0
      · clear e hcH hrH hpH hlenH hbiH hF hwt hb
        subst h0
        go_wp2
        go_ret
        exact ⟨.inl rfl, ps, rfl, hpoH.out, hpg, hS⟩
      · by_cases hlt2 : by' < tt
        · have h1 : (tt == 0) = false := by rw [beq_eq_false_iff_ne]; exact h0
          clear e hcH hrH hpH hlenH hbiH hF hwt hb h0
          go_wp2
          go_ret
          exact ⟨.inl rfl, ps, rfl, hpoH.out, hpg, hS⟩
        · have h1 : (tt == 0) = false := by rw [beq_eq_false_iff_ne]; exact h0
          have hpgH := Lib.hid hpg
          have hSH := Lib.hid hS
          have hwl := size_of_block hwt
          clear e hcH hrH hpH hbiH hb hpg hS
          have ht9 : 0 < tt := by omega
          have hb9 : tt ≤ by' := by omega
          have hd0 : 0 ≤ by' / tt := Int.ediv_nonneg (by omega) (by omega)
          have hd1 : by' / tt ≤ 10000000000000 := Int.le_trans (Int.ediv_le_self _ (by omega)) (by omega)
          go_wp2
          go_loopw [15, 72] (fun _ t wr => ∃ (k : Nat) (qs : List Int), k ≤ ps.length ∧ t = .int .i64 k ∧ Hid (qs.length = ps.length) ∧ Hid (PrOk qs) ∧ IntB wr g qs ∧ wr.heap[w.heap.size + 1]? = some (celO 3 ps.length fun p => .int .i64 (F p)) ∧ SumI w g g wr) (fun _ t _ => ps.length - (intOf t).toNat)
          case atStart => exact ⟨0, ps, by omega, rfl, Lib.hid rfl, hpoH, hpgH.out, hwt, hSH.out⟩
          case round =>
            clear hpgH hSH hwt
            obtain ⟨k, qs, hk, rfl, hql, hqo, hq, hwt, hS⟩ := hrel
            by_cases hlt3 : k < ps.length
            · obtain ⟨p, hpk⟩ : ∃ p, qs[k]? = some p := ⟨_, List.getElem?_eq_getElem (by have := hql.out; omega)⟩
              obtain ⟨p0, p1⟩ := hqo.out p (List.mem_of_getElem? hpk)
              obtain ⟨c0, -⟩ := hq.cell hpk
              obtain ⟨y0, -⟩ := cel_cell hwt hlt3
              obtain ⟨f0, f1⟩ := hF.out k
              obtain ⟨mb0, mb1⟩ := mul_bound15 hd0 hd1 f0 f1
              have k0 : (0 : Int) ≤ (k : Int) := by omega
              have k1 : (k : Int) < (ps.length : Int) := by omega
              have q0 := fun X : After wr => After.cell X c0
              have y1 := fun X : After wr => After.cell X y0
              have hql2 : Hid ((qs.set k (min (max 0 (p + by' / tt * F k)) 1048576)).length = ps.length) := Lib.hid (by rw [List.length_set]; exact hql.out)
              have hqo2 : Hid (PrOk (qs.set k (min (max 0 (p + by' / tt * F k)) 1048576))) := Lib.hid (hqo.out.set (by omega) k)
              have hqH := Lib.hid hq
              have hpkH := Lib.hid hpk
              clear hq hql hqo hF hpk c0 y0
              generalize F k = fk at *
              generalize hdd : by' / tt = dd at *
              have w1 : IntKind.i64.wrap (dd * fk) = dd * fk := by rw [IntKind.wrap_i64]; omega
              have w2 : IntKind.i64.wrap (p + dd * fk) = p + dd * fk := by rw [IntKind.wrap_i64]; omega
              go_wp2
              refine wp_region_after_tail 18 (by kernel_rfl) (by kernel_rfl) ?_
              simp only [List.take_succ_cons, List.take_zero, List.drop_succ_cons, List.drop_zero]
              repeat (go_big_quiet_step (fail))
              refine wpQuiet_nil ?_
              intro X
              have hqX : IntB X.1 g qs := hqH.out.same (X.2.block g hqH.out.lt)
              have hwX := keep_blk X.2 hwt
              have hSX := hS.below X.2
              obtain ⟨c0, cf⟩ := hqX.cell hpkH.out
              have hq2 := hqX.set (k := k) (min (max 0 (p + dd * fk)) 1048576)
              have hw2 := keep_set (a := ⟨g, k, none⟩) (u := .int .i64 (min (max 0 (p + dd * fk)) 1048576)) (by show w.heap.size + 1 ≠ g; omega) hwX
              have hS2 := hSX.put (b := g) (.inl rfl) k (.int .i64 (min (max 0 (p + dd * fk)) 1048576))
              have hall := Lib.hid (And.intro hq2 (And.intro hw2 hS2))
              clear hqX hwX hSX hq2 hw2 hS2 hwt hS hqH q0 y1 hpkH
              generalize p + dd * fk = xx at *
              generalize hqs : qs.set k (min (max 0 xx) 1048576) = qs2 at *
              clear hqs
              go_wp2
              go_roundw
              case rel => exact ⟨k + 1, qs2, by omega, by go_num, hql2, hqo2, hall.out.1, hall.out.2.1, hall.out.2.2⟩
              case measure => simp [intOf]; omega
            · have e : k = ps.length := by omega
              have hkd2 : ¬ (k : Int) < (ps.length : Int) := by omega
              clear e hwt hF
              go_wp2
              go_ret
              exact ⟨.inr rfl, qs, hql.out, hqo.out, hq, hS⟩
end Go.Proofs.Ytcbhcclickjpnaa
