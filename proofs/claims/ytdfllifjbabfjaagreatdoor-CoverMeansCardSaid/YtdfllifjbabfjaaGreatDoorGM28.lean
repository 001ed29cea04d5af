/- Covers of the package spec, for every spec and all rows. The document's own May, Right and Covers of layer 4, for every spec and all rows. -/
import Derived.Test.YtdfllifjbabfjaaGreatDoorGM19
import Derived.Test.YtdfllifjbabfjaaGreatDoorGM17
namespace Go.Proofs.YtdfllifjbabfjaaGreatDoor
open Go.RowKit Go.Joins

theorem coversB_not_may {s : Sp} {rs : List Rw} (h : mayB s rs = false) : coversB s rs = false := by unfold coversB; rw [h]; rfl
theorem coversB_all {s : Sp} {rs : List Rw} (h : mayB s rs = true) (ha : ∀ j, j < s.on.length → coB s rs j = true) : coversB s rs = true := by
  unfold coversB; rw [h, Bool.true_and]; exact range_all.2 ha
theorem coversB_not {s : Sp} {rs : List Rw} {j : Nat} (hj : j < s.on.length) (h : coB s rs j = false) : coversB s rs = false := by
  unfold coversB; rw [range_not hj h, Bool.and_false]
set_option maxHeartbeats 2000000 in
set_option maxRecDepth 100000 in
theorem scovers_no (i : Int) (A C L : Value) (on may : List (BitVec 256)) (rs : List Rw) (w : World) (hA : SetsAt w w.heap.size A on) (hC : SetsAt w w.heap.size C may) (hL : RwsAt w w.heap.size L rs) (h : (spB ⟨i, on, may⟩ && mayB ⟨i, on, may⟩ rs) = false) :
    Calls Tryz.prog 15 #[spv i A C, L] w fun e w' => e = .returned (.bool false) ∧ Below w.heap.size w w' := by
  have hB0 := below_alloc1 w (spb i A C)
  have HP := permitted_any i A C L on may rs (w.alloc (spb i A C)) ((hA.below hB0).more hB0.size) ((hC.below hB0).more hB0.size) ((hL.below hB0).more hB0.size)
  rw [h] at HP
  obtain ⟨A, ac, rfl, la, -⟩ := hA
  obtain ⟨C, cc, rfl, lc, -⟩ := hC
  obtain ⟨L, lc', rfl, ll, -⟩ := hL
  unfold spv at *
  unfold spb at *
  clear h
  go_enter Tryz.func15, Tryz.ntmps15
  go_wp2_with fail
  refine HP.mono ?_
  rintro e w1 ⟨rfl, hb1⟩
  have hB1 := hB0.trans (hb1.mono hB0.size)
  clear HP
  go_wp2
  go_ret
  exact ⟨rfl, hB1⟩
set_option maxHeartbeats 4000000 in
set_option maxRecDepth 100000 in
theorem scovers_yes (i : Nat) (A C L : Value) (on may : List (BitVec 256)) (rs : List Rw) (w : World) (hA : SetsAt w w.heap.size A on) (hC : SetsAt w w.heap.size C may) (hL : RwsAt w w.heap.size L rs) (h : (spB ⟨i, on, may⟩ && mayB ⟨i, on, may⟩ rs) = true) :
    Calls Tryz.prog 15 #[spv i A C, L] w fun e w' => e = .returned (.bool (coversB ⟨i, on, may⟩ rs)) ∧ Below w.heap.size w w' := by
  have hB0 := below_alloc1 w (spb i A C)
  have hs0 := heap_alloc_new w (spb i A C)
  have HP := permitted_any i A C L on may rs (w.alloc (spb i A C)) ((hA.below hB0).more hB0.size) ((hC.below hB0).more hB0.size) ((hL.below hB0).more hB0.size)
  rw [h] at HP
  obtain ⟨hsB, hmB⟩ := Bool.and_eq_true_iff.1 h
  have hh := (headS_iff _).1 (Bool.and_eq_true_iff.1 (show (headS ⟨i, on, may⟩ && _) = true from hsB)).1
  have hi : i ≤ 8 := by have := hh.1.2; show i ≤ 8; simp only at this; omega
  have h4 : on.length ≤ 4 := hh.2.1.2
  have he : on.length = may.length := hh.2.2
  have hrr : (rs.all fun x => rightB x.m x.v i) = true := (Bool.and_eq_true_iff.1 (show ((rs.all fun x => rightB x.m x.v i) && _) = true from hmB)).1
  have hyes := Lib.hid (coversB_all (s := ⟨i, on, may⟩) (rs := rs) hmB)
  have hno := Lib.hid (fun j hj h => coversB_not (s := ⟨i, on, may⟩) (rs := rs) (j := j) hj h)
  have hco : Hid (∀ j X Y, on[j]? = some X → may[j]? = some Y → coB ⟨i, on, may⟩ rs j = (decide (X &&& ~~~(ptsR rs i j) = 0) && decide (ptsR rs i j &&& ~~~Y = 0))) := Lib.hid (by
    intro j X Y hX hY
    unfold coB
    simp only [getD_of hX, getD_of hY, Int.toNat_natCast])
  have HPts := fun (j : Nat) (hj : j < 4) w1 (hb : Below w.heap.size w w1) => spoints_good L rs i j w1 ((hL.below hb).more hb.size) hi hj hrr
  generalize coversB ⟨i, on, may⟩ rs = R at *
  obtain ⟨A, ac, rfl, la, hA⟩ := hA
  obtain ⟨C, cc, rfl, lc, hC⟩ := hC
  obtain ⟨L, lc', rfl, ll, -⟩ := hL
  have heN := Lib.hid he
  have h4N := Lib.hid h4
  unfold spv at *
  unfold spb at *
  clear h hsB hmB hh hrr h4 he
  go_enter Tryz.func15, Tryz.ntmps15
  go_wp2_with fail
  refine HP.mono ?_
  rintro e w1 ⟨rfl, hb1⟩
  have hB1 := hB0.trans (hb1.mono hB0.size)
  have hs1 := keep_blk hb1 hs0
  obtain ⟨d0, d1, d2, -⟩ := now3 hs1 rfl
  clear HP hb1 hs0 hB0
  go_wp2
  go_loopw [5, 6, 7, 8, 16] (fun _ _ _ _ t wr => ∃ j : Nat, j ≤ on.length ∧ t = .int .i64 j ∧ Hid (∀ q, q < j → coB ⟨i, on, may⟩ rs q = true) ∧ Below w.heap.size w wr ∧ wr.heap[w.heap.size]? = some (.cells #[Value.int IntKind.i64 i, .slice A on.length ac, .slice C may.length cc] 24 (0, 0))) (fun _ _ _ _ t _ => on.length - (intOf t).toNat)
  case atStart => exact ⟨0, by omega, rfl, Lib.hid (fun q hq => by omega), hB1, hs1⟩
  case round =>
    clear hB1 hs1 d0 d1 d2
    obtain ⟨j, hj, rfl, hH, hb, hsp⟩ := hrel
    by_cases hlt : j < on.length
    · obtain ⟨b, off, rfl, hBb, hc⟩ := hA (by omega)
      obtain ⟨b2, off2, rfl, hBb2, hc2⟩ := hC (by have := heN.out; omega)
      obtain ⟨X, hX⟩ : ∃ X, on[j]? = some X := ⟨_, List.getElem?_eq_getElem hlt⟩
      obtain ⟨Y, hY⟩ : ∃ Y, may[j]? = some Y := ⟨_, List.getElem?_eq_getElem (by rw [← heN.out]; exact hlt)⟩
      have hlt2 : (j : Int) < may.length := by have := heN.out; omega
      obtain ⟨x0, x1, x2, x3⟩ := hc j X hX
      obtain ⟨y0, y1, y2, y3⟩ := hc2 j Y hY
      have hcd := Lib.hid (hco.out j X Y hX hY)
      have u0 := (hb.cell (p := ⟨b, off + j * 4, none⟩) hBb).trans x0
      have u1 := (hb.cell (p := ⟨b, off + j * 4 + 1, none⟩) hBb).trans x1
      have u2 := (hb.cell (p := ⟨b, off + j * 4 + 2, none⟩) hBb).trans x2
      have u3 := (hb.cell (p := ⟨b, off + j * 4 + 3, none⟩) hBb).trans x3
      have hB3 := hb.alloc hb.size (.cells #[.int .u64 (wd X 0).toNat, .int .u64 (wd X 1).toNat, .int .u64 (wd X 2).toNat, .int .u64 (wd X 3).toNat] 50 (0, 0))
      have hsp3 := keep_alloc (x := .cells #[.int .u64 (wd X 0).toNat, .int .u64 (wd X 1).toNat, .int .u64 (wd X 2).toNat, .int .u64 (wd X 3).toNat] 50 (0, 0)) hsp
      have hbX := heap_alloc_new wr (.cells #[.int .u64 (wd X 0).toNat, .int .u64 (wd X 1).toNat, .int .u64 (wd X 2).toNat, .int .u64 (wd X 3).toNat] 50 (0, 0))
      have HP1 := HPts j (by have := h4N.out; omega) _ hB3
      generalize hPd : ptsR rs i j = P at *
      have HW1 := fun w => within_any X P w
      have HW2 := fun w => within_any P Y w
      obtain ⟨d0, d1, d2, -⟩ := now3 hsp rfl
      obtain ⟨e0, e1, e2, -⟩ := now3 hsp3 rfl
      clear hc hc2 hX hY x0 x1 x2 x3 hA hC HPts hPd
      unfold sv at HW1 HW2 HP1
      unfold wv at *
      cases e3 : decide (X &&& ~~~P = 0)
      · rw [e3] at HW1
        have hR := Lib.hid (hno.out j hlt (by rw [hcd.out, e3]; rfl))
        clear e3 hcd hno hyes
        go_wp2_with fail
        refine HP1.mono ?_
        rintro e w4 ⟨rfl, hb4⟩
        have hB4 := hB3.trans (hb4.mono hB3.size)
        have hsp4 := keep_blk hb4 hsp3
        have hbX4 := keep_blk hb4 hbX
        have hsp5 := keep_alloc (x := .cells #[.int .u64 (wd P 0).toNat, .int .u64 (wd P 1).toNat, .int .u64 (wd P 2).toNat, .int .u64 (wd P 3).toNat] 50 (0, 0)) hsp4
        have hbX5 := keep_alloc (x := .cells #[.int .u64 (wd P 0).toNat, .int .u64 (wd P 1).toNat, .int .u64 (wd P 2).toNat, .int .u64 (wd P 3).toNat] 50 (0, 0)) hbX4
        have hbP := heap_alloc_new w4 (.cells #[.int .u64 (wd P 0).toNat, .int .u64 (wd P 1).toNat, .int .u64 (wd P 2).toNat, .int .u64 (wd P 3).toNat] 50 (0, 0))
        have hB5 := hB4.alloc hB4.size (.cells #[.int .u64 (wd P 0).toNat, .int .u64 (wd P 1).toNat, .int .u64 (wd P 2).toNat, .int .u64 (wd P 3).toNat] 50 (0, 0))
        have t0 := (hB5.cell (p := ⟨b2, off2 + j * 4, none⟩) hBb2).trans y0
        have t1 := (hB5.cell (p := ⟨b2, off2 + j * 4 + 1, none⟩) hBb2).trans y1
        have t2 := (hB5.cell (p := ⟨b2, off2 + j * 4 + 2, none⟩) hBb2).trans y2
        have t3 := (hB5.cell (p := ⟨b2, off2 + j * 4 + 3, none⟩) hBb2).trans y3
        clear HP1 hb4 hB4 hbX4 hB3 hsp3 hbX y0 y1 y2 y3 hb hsp
        go_upto_region 7 with (fail)
        generalize hW : w4.alloc (.cells #[.int .u64 (wd P 0).toNat, .int .u64 (wd P 1).toNat, .int .u64 (wd P 2).toNat, .int .u64 (wd P 3).toNat] 50 (0, 0)) = W at *
        generalize hzr : w4.heap.size = bp at *
        clear hW
        obtain ⟨X0, X1, X2, X3, -⟩ := box4 hbX5 rfl
        obtain ⟨P0, P1, P2, P3, -⟩ := box4 hbP rfl
        obtain ⟨S0, S1, S2, -⟩ := box3 hsp5 rfl
        have T0 := fun x : After W => After.cell x t0
        have T1 := fun x : After W => After.cell x t1
        have T2 := fun x : After W => After.cell x t2
        have T3 := fun x : After W => After.cell x t3
        refine wp_region_after (by kernel_rfl) (by kernel_rfl) ?_
        repeat (first | go_big_quiet_step ((first | (go_at_call_of 46 (Value.agg #[.int .u64 (wd X 0).toNat, .int .u64 (wd X 1).toNat, .int .u64 (wd X 2).toNat, .int .u64 (wd X 3).toNat]); exact Calls.after_of (HW1 _)) | (go_at_call_of 46 (Value.agg #[.int .u64 (wd P 0).toNat, .int .u64 (wd P 1).toNat, .int .u64 (wd P 2).toNat, .int .u64 (wd P 3).toNat]); exact Calls.after_of (HW2 _)))))
        refine wpQuiet_nil ?_
        intro x
        clear T0 T1 T2 T3 t0 t1 t2 t3 X0 X1 X2 X3 P0 P1 P2 P3 S0 S1 S2 HW1 HW2 hco
        go_wp2
        go_ret
        exact ⟨by rw [hR.out]; rfl, hB5.trans (x.2.mono hB5.size)⟩
      · rw [e3] at HW1
        cases e4 : decide (P &&& ~~~Y = 0)
        · rw [e4] at HW2
          have hR := Lib.hid (hno.out j hlt (by rw [hcd.out, e3, e4]; rfl))
          clear e3 e4 hcd hno hyes
          go_wp2_with fail
          refine HP1.mono ?_
          rintro e w4 ⟨rfl, hb4⟩
          have hB4 := hB3.trans (hb4.mono hB3.size)
          have hsp4 := keep_blk hb4 hsp3
          have hbX4 := keep_blk hb4 hbX
          have hsp5 := keep_alloc (x := .cells #[.int .u64 (wd P 0).toNat, .int .u64 (wd P 1).toNat, .int .u64 (wd P 2).toNat, .int .u64 (wd P 3).toNat] 50 (0, 0)) hsp4
          have hbX5 := keep_alloc (x := .cells #[.int .u64 (wd P 0).toNat, .int .u64 (wd P 1).toNat, .int .u64 (wd P 2).toNat, .int .u64 (wd P 3).toNat] 50 (0, 0)) hbX4
          have hbP := heap_alloc_new w4 (.cells #[.int .u64 (wd P 0).toNat, .int .u64 (wd P 1).toNat, .int .u64 (wd P 2).toNat, .int .u64 (wd P 3).toNat] 50 (0, 0))
          have hB5 := hB4.alloc hB4.size (.cells #[.int .u64 (wd P 0).toNat, .int .u64 (wd P 1).toNat, .int .u64 (wd P 2).toNat, .int .u64 (wd P 3).toNat] 50 (0, 0))
          have t0 := (hB5.cell (p := ⟨b2, off2 + j * 4, none⟩) hBb2).trans y0
          have t1 := (hB5.cell (p := ⟨b2, off2 + j * 4 + 1, none⟩) hBb2).trans y1
          have t2 := (hB5.cell (p := ⟨b2, off2 + j * 4 + 2, none⟩) hBb2).trans y2
          have t3 := (hB5.cell (p := ⟨b2, off2 + j * 4 + 3, none⟩) hBb2).trans y3
          clear HP1 hb4 hB4 hbX4 hB3 hsp3 hbX y0 y1 y2 y3 hb hsp
          go_upto_region 7 with (fail)
          generalize hW : w4.alloc (.cells #[.int .u64 (wd P 0).toNat, .int .u64 (wd P 1).toNat, .int .u64 (wd P 2).toNat, .int .u64 (wd P 3).toNat] 50 (0, 0)) = W at *
          generalize hzr : w4.heap.size = bp at *
          clear hW
          obtain ⟨X0, X1, X2, X3, -⟩ := box4 hbX5 rfl
          obtain ⟨P0, P1, P2, P3, -⟩ := box4 hbP rfl
          obtain ⟨S0, S1, S2, -⟩ := box3 hsp5 rfl
          have T0 := fun x : After W => After.cell x t0
          have T1 := fun x : After W => After.cell x t1
          have T2 := fun x : After W => After.cell x t2
          have T3 := fun x : After W => After.cell x t3
          refine wp_region_after (by kernel_rfl) (by kernel_rfl) ?_
          repeat (first | go_big_quiet_step ((first | (go_at_call_of 46 (Value.agg #[.int .u64 (wd X 0).toNat, .int .u64 (wd X 1).toNat, .int .u64 (wd X 2).toNat, .int .u64 (wd X 3).toNat]); exact Calls.after_of (HW1 _)) | (go_at_call_of 46 (Value.agg #[.int .u64 (wd P 0).toNat, .int .u64 (wd P 1).toNat, .int .u64 (wd P 2).toNat, .int .u64 (wd P 3).toNat]); exact Calls.after_of (HW2 _)))))
          refine wpQuiet_nil ?_
          intro x
          clear T0 T1 T2 T3 t0 t1 t2 t3 X0 X1 X2 X3 P0 P1 P2 P3 S0 S1 S2 HW1 HW2 hco
          go_wp2
          go_ret
          exact ⟨by rw [hR.out]; rfl, hB5.trans (x.2.mono hB5.size)⟩
        · rw [e4] at HW2
          have hR := Lib.hid (show coB ⟨i, on, may⟩ rs j = true by rw [hcd.out, e3, e4]; rfl)
          clear e3 e4 hcd hno hyes
          go_wp2_with fail
          refine HP1.mono ?_
          rintro e w4 ⟨rfl, hb4⟩
          have hB4 := hB3.trans (hb4.mono hB3.size)
          have hsp4 := keep_blk hb4 hsp3
          have hbX4 := keep_blk hb4 hbX
          have hsp5 := keep_alloc (x := .cells #[.int .u64 (wd P 0).toNat, .int .u64 (wd P 1).toNat, .int .u64 (wd P 2).toNat, .int .u64 (wd P 3).toNat] 50 (0, 0)) hsp4
          have hbX5 := keep_alloc (x := .cells #[.int .u64 (wd P 0).toNat, .int .u64 (wd P 1).toNat, .int .u64 (wd P 2).toNat, .int .u64 (wd P 3).toNat] 50 (0, 0)) hbX4
          have hbP := heap_alloc_new w4 (.cells #[.int .u64 (wd P 0).toNat, .int .u64 (wd P 1).toNat, .int .u64 (wd P 2).toNat, .int .u64 (wd P 3).toNat] 50 (0, 0))
          have hB5 := hB4.alloc hB4.size (.cells #[.int .u64 (wd P 0).toNat, .int .u64 (wd P 1).toNat, .int .u64 (wd P 2).toNat, .int .u64 (wd P 3).toNat] 50 (0, 0))
          have t0 := (hB5.cell (p := ⟨b2, off2 + j * 4, none⟩) hBb2).trans y0
          have t1 := (hB5.cell (p := ⟨b2, off2 + j * 4 + 1, none⟩) hBb2).trans y1
          have t2 := (hB5.cell (p := ⟨b2, off2 + j * 4 + 2, none⟩) hBb2).trans y2
          have t3 := (hB5.cell (p := ⟨b2, off2 + j * 4 + 3, none⟩) hBb2).trans y3
          clear HP1 hb4 hB4 hbX4 hB3 hsp3 hbX y0 y1 y2 y3 hb hsp
          go_upto_region 7 with (fail)
          generalize hW : w4.alloc (.cells #[.int .u64 (wd P 0).toNat, .int .u64 (wd P 1).toNat, .int .u64 (wd P 2).toNat, .int .u64 (wd P 3).toNat] 50 (0, 0)) = W at *
          generalize hzr : w4.heap.size = bp at *
          clear hW
          obtain ⟨X0, X1, X2, X3, -⟩ := box4 hbX5 rfl
          obtain ⟨P0, P1, P2, P3, -⟩ := box4 hbP rfl
          obtain ⟨S0, S1, S2, -⟩ := box3 hsp5 rfl
          have T0 := fun x : After W => After.cell x t0
          have T1 := fun x : After W => After.cell x t1
          have T2 := fun x : After W => After.cell x t2
          have T3 := fun x : After W => After.cell x t3
          refine wp_region_after (by kernel_rfl) (by kernel_rfl) ?_
          repeat (first | go_big_quiet_step ((first | (go_at_call_of 46 (Value.agg #[.int .u64 (wd X 0).toNat, .int .u64 (wd X 1).toNat, .int .u64 (wd X 2).toNat, .int .u64 (wd X 3).toNat]); exact Calls.after_of (HW1 _)) | (go_at_call_of 46 (Value.agg #[.int .u64 (wd P 0).toNat, .int .u64 (wd P 1).toNat, .int .u64 (wd P 2).toNat, .int .u64 (wd P 3).toNat]); exact Calls.after_of (HW2 _)))))
          refine wpQuiet_nil ?_
          intro x
          clear T0 T1 T2 T3 t0 t1 t2 t3 X0 X1 X2 X3 P0 P1 P2 P3 S0 S1 S2 HW1 HW2 hco
          go_wp2
          go_roundw
          case rel => exact ⟨j + 1, by omega, by go_num, Lib.hid (fun q hq => by
            by_cases e : q = j
            · subst e; exact hR.out
            · exact hH.out q (by omega)), hB5.trans (x.2.mono hB5.size), x.same hsp5⟩
          case measure => simp [intOf]; omega
    · have e : j = on.length := by omega
      have hR := Lib.hid (hyes.out (fun q hq => hH.out q (by rw [e]; exact hq)))
      clear hyes hno hco hA hC
      go_wp2
      go_ret
      exact ⟨by rw [hR.out]; rfl, hb⟩
theorem scovers_any (i : Int) (A C L : Value) (on may : List (BitVec 256)) (rs : List Rw) (w : World) (hA : SetsAt w w.heap.size A on) (hC : SetsAt w w.heap.size C may) (hL : RwsAt w w.heap.size L rs) :
    Calls Tryz.prog 15 #[spv i A C, L] w fun e w' => e = .returned (.bool (spB ⟨i, on, may⟩ && coversB ⟨i, on, may⟩ rs)) ∧ Below w.heap.size w w' := by
  cases h : (spB ⟨i, on, may⟩ && mayB ⟨i, on, may⟩ rs)
  · have e : (spB ⟨i, on, may⟩ && coversB ⟨i, on, may⟩ rs) = false := by
      unfold coversB
      rw [← Bool.and_assoc, h]; rfl
    rw [e]
    exact scovers_no i A C L on may rs w hA hC hL h
  · have hs := (Bool.and_eq_true_iff.1 h).1
    rw [hs, Bool.true_and]
    have h0 : 0 ≤ i := ((headS_iff _).1 (Bool.and_eq_true_iff.1 (show (headS ⟨i, on, may⟩ && _) = true from hs)).1).1.1
    obtain ⟨k, rfl⟩ := Int.eq_ofNat_of_zero_le h0
    exact scovers_yes k A C L on may rs w hA hC hL h
end Go.Proofs.YtdfllifjbabfjaaGreatDoor
namespace Go.Proofs.YtdfllifjbabfjaaGreatDoor
open Go.RowKit Go.Joins

theorem outsB_no {o : BitVec 8} {k q : Nat} (hb : o.getLsbD q = true) (hk : k ≤ q) : outsB o k = false := by
  unfold outsB
  rw [Bool.and_eq_false_iff]
  refine Or.inr (decide_eq_false fun h => ?_)
  rw [(shr_zero o k).1 h q hk] at hb
  simp at hb
def someB (o : BitVec 8) (j : Nat) : Bool := (List.range j).any fun q => o.getLsbD q
theorem someB_iff (o : BitVec 8) (j : Nat) : someB o j = true ↔ ∃ q, q < j ∧ o.getLsbD q = true := by
  unfold someB
  rw [List.any_eq_true]
  constructor
  · rintro ⟨q, h1, h2⟩; exact ⟨q, List.mem_range.1 h1, h2⟩
  · rintro ⟨q, h1, h2⟩; exact ⟨q, List.mem_range.2 h1, h2⟩
theorem someB_skip {o : BitVec 8} {j : Nat} (h : o.getLsbD j = false) : someB o (j + 1) = someB o j := by
  unfold someB
  rw [List.range_succ, List.any_append]
  simp [h]
theorem someB_yes {o : BitVec 8} {j : Nat} (h : o.getLsbD j = true) : someB o (j + 1) = true := (someB_iff o (j + 1)).2 ⟨j, by omega, h⟩
theorem outsB_end {o : BitVec 8} {k : Nat} (h : ∀ q, q < 8 → o.getLsbD q = true → q < k) : outsB o k = someB o 8 := by
  unfold outsB
  have h1 : o.toNat / 2 ^ k = 0 := by
    rw [shr_zero]
    intro q hq
    cases hb : o.getLsbD q
    · rfl
    · by_cases h8 : q < 8
      · have := h q h8 hb; omega
      · rw [BitVec.getLsbD_of_ge _ _ (by omega)] at hb; simp at hb
  rw [decide_eq_true h1, Bool.and_true]
  rw [Bool.eq_iff_iff, decide_eq_true_eq, someB_iff]
  constructor
  · intro hne
    apply Classical.byContradiction
    intro hn
    apply hne
    apply BitVec.eq_of_getLsbD_eq
    intro q hq
    rw [show (0 : BitVec 8).getLsbD q = false by simp]
    cases hb : o.getLsbD q
    · rfl
    · exact absurd ⟨q, hq, hb⟩ hn
  · rintro ⟨q, -, hb⟩ e
    rw [e] at hb
    simp at hb
set_option maxHeartbeats 4000000 in
set_option maxRecDepth 100000 in
theorem rmay_any (x : Rw) (i : Int) (k : Nat) (w : World) :
    Calls Tryz.prog 38 #[rwv x, .int .i64 i, .int .i64 k] w fun e w' => e = .returned (.bool (rwB x i k)) ∧ Below w.heap.size w w' := by
  have hno := Lib.hid (fun (q : Nat) (hb : x.o.getLsbD q = true) (h : k ≤ q) => (show rwB x i k = false by unfold rwB; rw [outsB_no hb h]; rfl))
  have hend : Hid ((∀ q, q < 8 → x.o.getLsbD q = true → q < k) → rwB x i k = (someB x.o 8 && rightB x.m x.v i)) := Lib.hid (fun h => by unfold rwB; rw [outsB_end h])
  have HR := fun w => rright_any x.m x.v i w
  have hB0 := below_alloc1 w (.cells #[bvv x.m, bvv x.v, bvv x.o] 44 (0, 0))
  have hx0 := heap_alloc_new w (.cells #[bvv x.m, bvv x.v, bvv x.o] 44 (0, 0))
  generalize rwB x i k = R at *
  generalize rightB x.m x.v i = r at *
  have HB := fun (q : Nat) (hq : q < 8) w => bit8_any x.o q hq w
  unfold rwv cv at *
  unfold bvv at *
  go_enter Tryz.func38, Tryz.ntmps38
  go_wp2
  go_loopw [7, 8] (fun s t wr => ∃ j : Nat, j ≤ 8 ∧ t = .int .i64 j ∧ (∃ b, s = .bool b ∧ Hid (b = someB x.o j)) ∧ Hid (∀ q, q < j → x.o.getLsbD q = true → q < k) ∧ Below w.heap.size w wr ∧ wr.heap[w.heap.size]? = some (.cells #[.int .u8 x.m.toNat, .int .u8 x.v.toNat, .int .u8 x.o.toNat] 44 (0, 0))) (fun _ t _ => 8 - (intOf t).toNat)
  case atStart => exact ⟨0, by omega, rfl, ⟨false, rfl, Lib.hid rfl⟩, Lib.hid (fun q hq => by omega), hB0, hx0⟩
  case round =>
    clear hB0 hx0
    obtain ⟨j, hj, rfl, ⟨b, rfl, hb⟩, hH, hbw, hx⟩ := hrel
    obtain ⟨x0, x1, x2, -⟩ := now3 hx rfl
    by_cases hlt : j < 8
    · have HBj := fun w => HB j hlt w
      clear HB
      cases hbit : x.o.getLsbD j
      · rw [hbit] at HBj
        have hb' : Hid (b = someB x.o (j + 1)) := Lib.hid (by rw [hb.out, someB_skip hbit])
        have hH' : Hid (∀ q, q < j + 1 → x.o.getLsbD q = true → q < k) := Lib.hid (fun q h1 h2 => by
          by_cases e : q = j
          · subst e; rw [hbit] at h2; simp at h2
          · exact hH.out q (by omega) h2)
        clear hbit hb hH
        go_wp2_with (go_at_call 29; refine (HBj _).mono ?_; rintro e w' ⟨rfl, rfl⟩)
        go_roundw
        case rel => exact ⟨j + 1, by omega, by go_num, ⟨b, rfl, hb'⟩, hH', hbw, hx⟩
        case measure => simp [intOf]; omega
      · rw [hbit] at HBj
        by_cases hjk : k ≤ j
        · have hR := Lib.hid (hno.out j hbit hjk)
          have hjk' : (k : Int) ≤ j := by omega
          clear hbit hb hH
          go_wp2_with (go_at_call 29; refine (HBj _).mono ?_; rintro e w' ⟨rfl, rfl⟩)
          go_ret
          exact ⟨by rw [hR.out]; rfl, hbw⟩
        · have hjk' : ¬ (k : Int) ≤ j := by omega
          have hb' : Hid (true = someB x.o (j + 1)) := Lib.hid (someB_yes hbit).symm
          have hH' : Hid (∀ q, q < j + 1 → x.o.getLsbD q = true → q < k) := Lib.hid (fun q h1 h2 => by
            by_cases e : q = j
            · omega
            · exact hH.out q (by omega) h2)
          clear hbit hb hH
          go_wp2_with (go_at_call 29; refine (HBj _).mono ?_; rintro e w' ⟨rfl, rfl⟩)
          go_roundw
          case rel => exact ⟨j + 1, by omega, by go_num, ⟨true, rfl, hb'⟩, hH', hbw, hx⟩
          case measure => simp [intOf]; omega
    · have e : j = 8 := by omega
      subst e
      have hRe := hend.out hH.out
      rw [← hb.out] at hRe
      have hR := Lib.hid hRe
      clear hRe hb hH hno hend HB
      cases b
      · have hR' : Hid (R = false) := Lib.hid (by rw [hR.out]; rfl)
        clear hR
        go_wp2
        go_ret
        exact ⟨by rw [hR'.out]; rfl, hbw⟩
      · have hR' : Hid (R = r) := Lib.hid (by rw [hR.out]; rfl)
        clear hR
        go_wp2_with fail
        refine (HR _).mono ?_
        rintro e w1 ⟨rfl, hb1⟩
        have hB1 := hbw.trans (hb1.mono hbw.size)
        clear HR
        go_wp2
        go_ret
        exact ⟨by rw [hR'.out]; rfl, hB1⟩
end Go.Proofs.YtdfllifjbabfjaaGreatDoor
