/- sum of the package search: the bill by some prices. -/
import Derived.Test.YtcbhcclickjpnaaGK27
namespace Go.Proofs.Ytcbhcclickjpnaa
open Go.RowKit Go.Joins

/-- What a column is not paid, when the rows ahead and the row up to here have paid. -/
def upJ (ls : List (List Int)) (ps : List Int) (r : List Int) (v : Int) (k j : Nat) (p : Nat) : Int := 1048576 - payU (ls.take k) (ps.take k) p - if (p : Int) ∈ r.take j then v else 0
theorem upJ_0 (ls : List (List Int)) (ps : List Int) (r : List Int) (v : Int) (k p : Nat) : upJ ls ps r v k 0 p = 1048576 - payU (ls.take k) (ps.take k) p := by
  unfold upJ; simp
theorem upJ_end {ls : List (List Int)} {ps : List Int} {k : Nat} {r : List Int} {v : Int} (hlen : ps.length = ls.length) (hr : ls[k]? = some r) (hv : ps[k]? = some v) (p : Nat) : upJ ls ps r v k r.length p = 1048576 - payU (ls.take (k + 1)) (ps.take (k + 1)) p := by
  unfold upJ
  rw [pay_take hlen hr hv, List.take_length]
  omega
theorem upJ_hit {n : Int} {ls : List (List Int)} {ps : List Int} {r : List Int} {v : Int} {k j p : Nat} (hr : risL n r) (h : r[j]? = some (p : Int)) : upJ ls ps r v k (j + 1) p = upJ ls ps r v k j p - v := by
  unfold upJ
  rw [List.take_add_one, h, if_pos (by simp), if_neg (ris_fresh hr h)]
  omega
theorem upJ_miss {ls : List (List Int)} {ps : List Int} {r : List Int} {v : Int} {k j p q : Nat} (h : r[j]? = some (p : Int)) (hne : q ≠ p) : upJ ls ps r v k (j + 1) q = upJ ls ps r v k j q := by
  unfold upJ
  rw [List.take_add_one, h]
  have : ¬ (q : Int) = (p : Int) := by omega
  simp [this]
theorem prOk_take {ps : List Int} (h : PrOk ps) (k : Nat) : PrOk (ps.take k) := fun v hv => h v (List.mem_of_mem_take hv)
theorem upJ_bound {ls : List (List Int)} {ps : List Int} {r : List Int} {v : Int} (hp : PrOk ps) (hl : ps.length ≤ 100) (hv : 0 ≤ v ∧ v ≤ 1048576) (k j p : Nat) : -200000000 ≤ upJ ls ps r v k j p ∧ upJ ls ps r v k j p ≤ 1048576 := by
  have h := up_bound (_n := 0) (ls := ls.take k) (ps := ps.take k) (prOk_take hp k) (by rw [List.length_take]; omega) (p : Int)
  unfold upJ
  split <;> omega
theorem sumI_bound {ps : List Int} (hp : PrOk ps) (hl : ps.length ≤ 100) (k : Nat) : 0 ≤ sumI (ps.take k) ∧ sumI (ps.take k) ≤ 200000000 := by
  have h := sum_le (u := 1048576) (ps.take k) (prOk_take hp k)
  rw [List.length_take] at h
  omega
/-- A bill in memory. -/
structure BilM (W : World) (bb ub n : Nat) (a : Int) (f : Nat → Int) : Prop where
  box : W.heap[bb]? = some (.cells #[.int .i64 a, .slice (some ⟨ub, 0, none⟩) n n] 77 (0, 0))
  up : W.heap[ub]? = some (celO 3 n fun p => .int .i64 (f p))
theorem BilM.ne {W : World} {bb ub n : Nat} {a : Int} {f : Nat → Int} (h : BilM W bb ub n a f) : ub ≠ bb := blkne15 h.up h.box (by decide)
theorem BilM.putUp {W : World} {bb ub n : Nat} {a : Int} {f g : Nat → Int} (h : BilM W bb ub n a f) (p : Nat) (v : Int) (hg : ∀ q, q < n → g q = if q = p then v else f q) : BilM (W.setCell ⟨ub, p, none⟩ (.int .i64 v)) bb ub n a g :=
  ⟨keep_set (fun e => h.ne e.symm) h.box, (cel_set h.up _).trans (congrArg some (celO_ext fun q hq => by
    rw [hg q hq]
    split <;> rfl))⟩
theorem BilM.putA {W : World} {bb ub n : Nat} {a : Int} {f : Nat → Int} (h : BilM W bb ub n a f) (v : Int) : BilM (W.setCell ⟨bb, 0, none⟩ (.int .i64 v)) bb ub n v f :=
  ⟨by rw [block_setCell h.box _]; rfl, keep_set h.ne h.up⟩
/-- What sum keeps. -/
structure SumI (w0 : World) (bb ub : Nat) (W : World) : Prop where
  size : w0.heap.size ≤ W.heap.size
  same : ∀ b, b < w0.heap.size → b ≠ bb → b ≠ ub → W.heap[b]? = w0.heap[b]?
  bel : ∀ B, B ≤ bb → B ≤ ub → B ≤ w0.heap.size → Below B w0 W
theorem SumI.refl (w0 : World) (bb ub : Nat) : SumI w0 bb ub w0 := ⟨Nat.le_refl _, fun _ _ _ _ => rfl, fun B _ _ _ => Below.refl B w0⟩
theorem SumI.put {w0 W : World} {bb ub : Nat} (h : SumI w0 bb ub W) {b : Nat} (hb : b = bb ∨ b = ub) (p : Nat) (v : Value) : SumI w0 bb ub (W.setCell ⟨b, p, none⟩ v) :=
  ⟨by simpa [World.setCell] using h.size, fun c hc h1 h2 => (Below.heap_setCell _ _ _ _ (by show c ≠ b; rcases hb with rfl | rfl <;> assumption)).trans (h.same c hc h1 h2), fun B h1 h2 h3 => (h.bel B h1 h2 h3).setCell (p := ⟨b, p, none⟩) (by show B ≤ b; rcases hb with rfl | rfl <;> assumption) v⟩
theorem SumI.drew {w0 W : World} {bb ub : Nat} (h : SumI w0 bb ub W) : SumI w0 bb ub W.drew :=
  ⟨h.size, h.same, fun B h1 h2 h3 => (h.bel B h1 h2 h3).drew⟩
theorem SumI.below {w0 W W' : World} {bb ub : Nat} (h : SumI w0 bb ub W) (hb : Below W.heap.size W W') : SumI w0 bb ub W' :=
  ⟨Nat.le_trans h.size hb.size, fun c hc h1 h2 => (hb.block c (Nat.lt_of_lt_of_le hc h.size)).trans (h.same c hc h1 h2), fun B h1 h2 h3 => (h.bel B h1 h2 h3).trans (hb.mono (Nat.le_trans h3 h.size))⟩
theorem BilM.below {W W' : World} {bb ub n : Nat} {a : Int} {f : Nat → Int} (h : BilM W bb ub n a f) (hb : Below W.heap.size W W') : BilM W' bb ub n a f := ⟨keep_blk hb h.box, keep_blk hb h.up⟩
theorem BilM.ext {W : World} {bb ub n : Nat} {a : Int} {f g : Nat → Int} (h : BilM W bb ub n a f) (hf : ∀ p, p < n → f p = g p) : BilM W bb ub n a g := ⟨h.box, by rw [h.up]; exact congrArg some (celO_ext fun p hp => by rw [hf p hp])⟩
set_option maxHeartbeats 4000000 in
set_option maxRecDepth 100000 in
theorem sum15_any (n bb ub g cp : Nat) (V : Value) (ls : List (List Int)) (ps : List Int) (a : Int) (f : Nat → Int) (w : World) (hV : MatAt w w.heap.size V ls) (hoff : MatN w (fun b => b ≠ bb ∧ b ≠ ub) V ls) (hn : n ≤ 100) (hls : ls.length ≤ 100) (hr : ∀ r, r ∈ ls → risL n r)
    (hbi : BilM w bb ub n a f) (hp : IntB w g ps) (hgb : g ≠ bb) (hgu : g ≠ ub) (hlen : ps.length = ls.length) (hpo : PrOk ps) :
    Calls Try.prog 79 #[.pointer (some ⟨bb, 0, none⟩), mtv n V, .slice (some ⟨g, 0, none⟩) ps.length cp] w fun e w' => e = .returned (.tuple #[]) ∧ BilM w' bb ub n (leastP ls ps n) (fun p => 1048576 - payU ls ps p) ∧ SumI w bb ub w' := by
  have hB0 := below_alloc1 w (mtb n V)
  have hbu : (w.alloc (mtb n V)).heap[w.heap.size]? = some (mtb n V) := heap_alloc_new _ _
  have hM0 := hbi.below hB0
  have hS0 := (SumI.refl w bb ub).below hB0
  have hu0 := size_of_block hbi.up
  have hb0 := size_of_block hbi.box
  have hg0 := hp.lt
  have hne := hbi.ne
  obtain ⟨A, c, rfl, hl, hc⟩ := hoff
  have hcH := Lib.hid hc
  have hrH := Lib.hid hr
  have hpH := Lib.hid hp
  have hpoH := Lib.hid hpo
  have hlenH := Lib.hid hlen
  have hpl : ps.length ≤ 100 := by omega
  have hsw := Lib.hid (World.size_alloc w (mtb n (.slice A ls.length c)))
  unfold mtv at *
  unfold mtb at *
  obtain ⟨m0, m1, -⟩ := now2 hbu rfl
  obtain ⟨s0, s1, -⟩ := now2 hM0.box rfl
  clear hc hr hp hpo hV hlen hbi
  go_enter Try.func79, Try.ntmps79
  go_wp2
  generalize w.alloc _ = W1 at *
  clear m0 m1 s0 s1
  go_loopw [6, 18] (fun _ t wr => ∃ k : Nat, k ≤ n ∧ t = .int .i64 k ∧ BilM wr bb ub n a (fun p => if p < k then 1048576 else f p) ∧ SumI w bb ub wr ∧ wr.heap[w.heap.size]? = W1.heap[w.heap.size]?) (fun _ t _ => n - (intOf t).toNat)
  case atStart => exact ⟨0, by omega, rfl, hM0.ext (fun p _ => by rw [if_neg (by omega)]), hS0, rfl⟩
  case round =>
    clear hM0 hS0
    obtain ⟨k, hk, rfl, hM, hS, hmb⟩ := hrel
    by_cases hlt : k < n
    · have hM2 : BilM (wr.setCell ⟨ub, k, none⟩ (.int .i64 1048576)) bb ub n a (fun p => if p < k + 1 then 1048576 else f p) := hM.putUp k 1048576 (fun q _ => by
        by_cases e : q = k
        · subst e; rw [if_pos rfl, if_pos (by omega)]
        · rw [if_neg e]
          by_cases e2 : q < k
          · rw [if_pos e2, if_pos (by omega)]
          · rw [if_neg e2, if_neg (by omega)])
      have hS2 := hS.put (b := ub) (.inr rfl) k (.int .i64 1048576)
      have hmb2 : (wr.setCell ⟨ub, k, none⟩ (.int .i64 1048576)).heap[w.heap.size]? = W1.heap[w.heap.size]? := (Below.heap_setCell _ _ _ _ (by show w.heap.size ≠ ub; omega)).trans hmb
      obtain ⟨y0, yf⟩ := cel_cell hM.up hlt
      obtain ⟨s0, s1, sf⟩ := now2 hM.box rfl
      have hM2 := Lib.hid hM2
      have hS2 := Lib.hid hS2
      have hmb2 := Lib.hid hmb2
      have k0 : (0 : Int) ≤ (k : Int) := by omega
      have k1 : (k : Int) < (n : Int) := by omega
      clear hM hS hmb hcH
      go_wp2
      go_roundw
      case rel => exact ⟨k + 1, by omega, by go_num, hM2.out, hS2.out, hmb2.out⟩
      case measure => simp [intOf]; omega
    · have e : k = n := by omega
      have hkd : ¬ (k : Int) < (n : Int) := by omega
      have hM2 : BilM (wr.setCell ⟨bb, 0, none⟩ (.int .i64 0)) bb ub n 0 (fun p => 1048576 - payU (ls.take 0) (ps.take 0) p) := (hM.putA 0).ext (fun p hp => by rw [if_pos (by omega)]; rfl)
      have hS2 := hS.put (b := bb) (.inl rfl) 0 (.int .i64 0)
      have hmb2 : (wr.setCell ⟨bb, 0, none⟩ (.int .i64 0)).heap[w.heap.size]? = some (.cells #[.int .i64 n, .slice A ls.length c] 24 (0, 0)) := ((Below.heap_setCell _ _ _ _ (by show w.heap.size ≠ bb; omega)).trans hmb).trans hbu
      obtain ⟨s0, s1, sf⟩ := now2 hM.box rfl
      obtain ⟨m0, m1, -⟩ := now2 hmb2 rfl
      have hM2H := Lib.hid hM2
      have hS2H := Lib.hid hS2
      clear hM hS hmb e hM2 hS2 hmb2 hbu
      go_wp2
      clear s0 s1 sf m0 m1
      go_loopw [7, 8, 10, 34] (fun _ _ _ t wr => ∃ k : Nat, k ≤ ls.length ∧ t = .int .i64 k ∧ BilM wr bb ub n (sumI (ps.take k)) (fun p => 1048576 - payU (ls.take k) (ps.take k) p) ∧ SumI w bb ub wr) (fun _ _ _ t _ => ls.length - (intOf t).toNat)
      case atStart => exact ⟨0, by omega, rfl, hM2H.out, hS2H.out⟩
      case round =>
        clear hM2H hS2H
        obtain ⟨k, hk, rfl, hM, hS⟩ := hrel
        by_cases hlt : k < ls.length
        · obtain ⟨bp, op, rfl, hBp, hcc⟩ := hcH.out (by omega)
          obtain ⟨r, hrk⟩ : ∃ r, ls[k]? = some r := ⟨_, List.getElem?_eq_getElem hlt⟩
          obtain ⟨ov, z0, hov⟩ := hcc k r hrk
          obtain ⟨v, hv⟩ : ∃ v, ps[k]? = some v := ⟨_, List.getElem?_eq_getElem (by have := hlenH.out; omega)⟩
          have z1 : wr.cell? ⟨bp, op + k, none⟩ = some ov := by
            rw [World.cell?_of_block (w := w) (a := ⟨bp, op + k, none⟩) (hS.same bp (block_lt_of_cell z0) hBp.1 hBp.2)]
            exact z0
          have hris := hrH.out r (List.mem_of_getElem? hrk)
          obtain ⟨v0, v1⟩ := hpoH.out v (List.mem_of_getElem? hv)
          obtain ⟨pc, -⟩ := (hpH.out.same (hS.same g hg0 hgb hgu)).cell hv
          obtain ⟨sb0, sb1⟩ := sumI_bound hpoH.out hpl k
          have hst := Lib.hid (sumI_take hv)
          have h0 := Lib.hid (upJ_0 ls ps r v k)
          have hen := Lib.hid (upJ_end (k := k) (r := r) (v := v) hlenH.out hrk hv)
          have hit : Hid (∀ j p : Nat, r[j]? = some (p : Int) → upJ ls ps r v k (j + 1) p = upJ ls ps r v k j p - v) := Lib.hid (fun j p h => upJ_hit hris h)
          have hmi : Hid (∀ j p q : Nat, r[j]? = some (p : Int) → q ≠ p → upJ ls ps r v k (j + 1) q = upJ ls ps r v k j q) := Lib.hid (fun j p q h hne => upJ_miss h hne)
          have hbo := Lib.hid (upJ_bound (ls := ls) (ps := ps) (r := r) (v := v) hpoH.out hpl ⟨v0, v1⟩ k)
          obtain ⟨Ar, cr, rfl, hlr, hcr⟩ := hov
          have hrS : Hid (∀ (W : World), SumI w bb ub W → ∀ (j : Nat) (x : Int), r[j]? = some x → ∃ b off, Ar = some ⟨b, off, none⟩ ∧ W.cell? ⟨b, off + j, none⟩ = some (.int .i64 x)) := Lib.hid (fun W hW j x hx => by
            obtain ⟨b, off, e, hN, hcc2⟩ := hcr (by have := (List.getElem?_eq_some_iff.1 hx).1; omega)
            refine ⟨b, off, e, ?_⟩
            rw [World.cell?_of_block (w := w) (a := ⟨b, off + j, none⟩) (hW.same b (block_lt_of_cell (hcc2 j x hx)) hN.1 hN.2)]
            exact hcc2 j x hx)
          have hpS : Hid (∀ (W : World), SumI w bb ub W → W.cell? ⟨g, k, none⟩ = some (.int .i64 v)) := Lib.hid (fun W hW => ((hpH.out.same (hW.same g hg0 hgb hgu)).cell hv).1)
          have hlow := Lib.hid hris.1
          have k0 : (0 : Int) ≤ (k : Int) := by omega
          have k1 : (k : Int) < (ls.length : Int) := by omega
          have k2 : (k : Int) < (ps.length : Int) := by have := hlenH.out; omega
          generalize hsk : sumI (ps.take k) = sk at *
          have hwr : IntKind.i64.wrap (sk + v) = sk + v := by rw [IntKind.wrap_i64]; omega
          clear hcr hcc hrk z0 hris hcH hsk
          go_wp2
          have s0 := (box2 hM.box rfl).1
          have s1 := (box2 hM.box rfl).2.1
          have p0 := fun X : After wr => After.cell X pc
          have hfz := fun X : After wr => (now2 (X.same hM.box) rfl).2.2 0
          clear pc z1
          refine wp_region_after_tail 11 (by kernel_rfl) (by kernel_rfl) ?_
          simp only [List.take_succ_cons, List.take_zero, List.drop_succ_cons, List.drop_zero]
          repeat (go_big_quiet_step (fail))
          refine wpQuiet_nil ?_
          intro X
          have hMX := hM.below X.2
          have hSX := hS.below X.2
          have hM2 : BilM (X.1.setCell ⟨bb, 0, none⟩ (.int .i64 (sk + v))) bb ub n (sumI (ps.take (k + 1))) (fun p => upJ ls ps r v k 0 p) := by
            rw [hst.out]
            exact (hMX.putA _).ext (fun p _ => by rw [h0.out])
          have hS2 := hSX.put (b := bb) (.inl rfl) 0 (.int .i64 (sk + v))
          obtain ⟨t0, t1, tf⟩ := now2 hMX.box rfl
          have hM2 := Lib.hid hM2
          have hS2 := Lib.hid hS2
          clear hM hS hMX hSX s0 s1 p0 hfz h0 hst
          generalize hsk1 : sumI (ps.take (k + 1)) = sk1 at *
          have hsk1 := Lib.hid hsk1
          go_wp2
          clear t0 t1 tf
          go_loopw [10, 52] (fun _ t wi => ∃ j : Nat, j ≤ r.length ∧ t = .int .i64 j ∧ BilM wi bb ub n sk1 (fun p => upJ ls ps r v k j p) ∧ SumI w bb ub wi) (fun _ t _ => r.length - (intOf t).toNat)
          case atStart => exact ⟨0, by omega, rfl, hM2.out, hS2.out⟩
          case round =>
            clear hM2 hS2
            obtain ⟨j, hj, rfl, hM, hS⟩ := hrel
            by_cases hlt2 : j < r.length
            · obtain ⟨x, hx⟩ : ∃ x, r[j]? = some x := ⟨_, List.getElem?_eq_getElem hlt2⟩
              obtain ⟨x0, x1⟩ := hlow.out x (List.mem_of_getElem? hx)
              obtain ⟨y, rfl⟩ := Int.eq_ofNat_of_zero_le x0
              obtain ⟨br, offr, rfl, d0⟩ := hrS.out wr hS j _ hx
              have hyn : y < n := by omega
              obtain ⟨y0, yf⟩ := cel_cell hM.up hyn
              obtain ⟨hb1, hb2⟩ := hbo.out j y
              have pc := hpS.out wr hS
              have hv1 := Lib.hid (hit.out j y hx)
              have hv2 := Lib.hid (fun q hne => hmi.out j y q hx hne)
              have j0 : (0 : Int) ≤ (j : Int) := by omega
              have j1 : (j : Int) < (r.length : Int) := by omega
              have w0 : (0 : Int) ≤ (y : Int) := by omega
              have w1 : (y : Int) < (n : Int) := by omega
              clear hx x0 x1 hrS hpS hit hmi hbo hlow hen
              go_wp2
              have s0 := (box2 hM.box rfl).1
              have s1 := (box2 hM.box rfl).2.1
              have p0 := fun X : After wr => After.cell X pc
              have u0 := fun X : After wr => After.cell X y0
              generalize hU : upJ ls ps r v k j y = uy at *
              have hwr : IntKind.i64.wrap (uy - v) = uy - v := by rw [IntKind.wrap_i64]; omega
              clear pc d0 y0 yf
              refine wp_region_after_tail 13 (by kernel_rfl) (by kernel_rfl) ?_
              simp only [List.take_succ_cons, List.take_zero, List.drop_succ_cons, List.drop_zero]
              repeat (go_big_quiet_step (fail))
              refine wpQuiet_nil ?_
              intro X
              have hMX := hM.below X.2
              have hSX := hS.below X.2
              have hM2 : BilM (X.1.setCell ⟨ub, y, none⟩ (.int .i64 (uy - v))) bb ub n sk1 (fun p => upJ ls ps r v k (j + 1) p) := hMX.putUp y (uy - v) (fun q _ => by
                by_cases e : q = y
                · subst e; rw [if_pos rfl, hv1.out]
                · rw [if_neg e, hv2.out q e])
              have hS2 := hSX.put (b := ub) (.inr rfl) y (.int .i64 (uy - v))
              obtain ⟨t0, t1, -⟩ := now2 hMX.box rfl
              obtain ⟨c0, cf⟩ := cel_cell hMX.up hyn
              have hM2 := Lib.hid hM2
              have hS2 := Lib.hid hS2
              clear hM hS hMX hSX s0 s1 p0 u0 hv1 hv2 hU
              go_wp2
              go_roundw
              case rel => exact ⟨j + 1, by omega, by go_num, hM2.out, hS2.out⟩
              case measure => simp [intOf]; omega
            · have e : j = r.length := by omega
              have hjd : ¬ (j : Int) < (r.length : Int) := by omega
              have hM2 : Hid (BilM wr bb ub n (sumI (ps.take (k + 1))) (fun p => 1048576 - payU (ls.take (k + 1)) (ps.take (k + 1)) p)) := Lib.hid (by
                rw [hsk1.out]
                exact hM.ext (fun p _ => by rw [e, hen.out]))
              clear e hM hrS hpS hit hmi hbo hlow hen
              go_wp2
              go_roundw
              case rel => exact ⟨k + 1, by omega, by go_num, hM2.out, hS⟩
              case measure => simp [intOf]; omega
        · have e : k = ls.length := by omega
          have hkd : ¬ (k : Int) < (ls.length : Int) := by omega
          have hM3 : BilM wr bb ub n (sumI ps + negS (fun c => 1048576 - payU ls ps c) 0) (fun p => 1048576 - payU ls ps p) := by
            have h := hM
            rw [e, List.take_length, show ps.take ls.length = ps by rw [← hlenH.out, List.take_length]] at h
            show BilM wr bb ub n (sumI ps + 0) _
            rw [Int.add_zero]
            exact h
          have hsb := sumI_bound hpoH.out hpl ps.length
          rw [List.take_length] at hsb
          have hnb : Hid (∀ c : Nat, c ≤ n → -20000000000 ≤ negS (fun c => 1048576 - payU ls ps c) c ∧ negS (fun c => 1048576 - payU ls ps c) c ≤ 0) := Lib.hid (fun c hc => by
            have h := neg_bound (u := 104857600) (by omega) (fun x => (up_bound (_n := n) (ls := ls) hpoH.out hpl x).1) c
            omega)
          have hns : Hid (∀ c : Nat, negS (fun c => 1048576 - payU ls ps c) (c + 1) = negS (fun c => 1048576 - payU ls ps c) c + min 0 (1048576 - payU ls ps c)) := Lib.hid (fun c => rfl)
          have hub : Hid (∀ c : Nat, -104857600 ≤ 1048576 - payU ls ps c ∧ 1048576 - payU ls ps c ≤ 1048576) := Lib.hid (fun c => up_bound (_n := n) (ls := ls) hpoH.out hpl c)
          have hres : Hid (leastP ls ps n = sumI ps + negS (fun c => 1048576 - payU ls ps c) n) := Lib.hid rfl
          obtain ⟨s0, s1, sf⟩ := now2 hM3.box rfl
          have hM3 := Lib.hid hM3
          generalize sumI ps = sp at *
          clear e hM hcH hrH hpH hpoH hlenH
          go_wp2
          clear s0 s1 sf
          go_loopw [12, 76] (fun _ t wi => ∃ c : Nat, c ≤ n ∧ t = .int .i64 c ∧ BilM wi bb ub n (sp + negS (fun c => 1048576 - payU ls ps c) c) (fun p => 1048576 - payU ls ps p) ∧ SumI w bb ub wi) (fun _ t _ => n - (intOf t).toNat)
          case atStart => exact ⟨0, by omega, rfl, hM3.out, hS⟩
          case round =>
            clear hM3 hS
            obtain ⟨c, hc, rfl, hM, hS⟩ := hrel
            by_cases hlt2 : c < n
            · obtain ⟨y0, yf⟩ := cel_cell hM.up hlt2
              obtain ⟨s0, s1, sf⟩ := now2 hM.box rfl
              have h1 := hnb.out c hc
              have h2 := hub.out c
              have hM2 : BilM (wr.setCell ⟨bb, 0, none⟩ (.int .i64 (sp + negS (fun c => 1048576 - payU ls ps c) c + min 0 (1048576 - payU ls ps c)))) bb ub n (sp + negS (fun c => 1048576 - payU ls ps c) (c + 1)) (fun p => 1048576 - payU ls ps p) := by
                rw [hns.out, ← Int.add_assoc]
                exact hM.putA _
              have hS2 := hS.put (b := bb) (.inl rfl) 0 (.int .i64 (sp + negS (fun c => 1048576 - payU ls ps c) c + min 0 (1048576 - payU ls ps c)))
              have hM2 := Lib.hid hM2
              have hS2 := Lib.hid hS2
              have j0 : (0 : Int) ≤ (c : Int) := by omega
              have j1 : (c : Int) < (n : Int) := by omega
              clear hM hS hnb hns hub hres
              generalize negS (fun c => 1048576 - payU ls ps c) c = nc at *
              generalize (1048576 - payU ls ps c) = uc at *
              go_wp2
              go_roundw
              case rel => exact ⟨c + 1, by omega, by go_num, hM2.out, hS2.out⟩
              case measure => simp [intOf]; omega
            · have e : c = n := by omega
              have hjd : ¬ (c : Int) < (n : Int) := by omega
              have hM2 : Hid (BilM wr bb ub n (leastP ls ps n) (fun p => 1048576 - payU ls ps p)) := Lib.hid (by
                rw [hres.out]
                rw [e] at hM
                exact hM)
              clear e hM hnb hns hub hres
              go_wp2
              go_end0
              exact ⟨rfl, hM2.out, hS⟩
end Go.Proofs.Ytcbhcclickjpnaa
