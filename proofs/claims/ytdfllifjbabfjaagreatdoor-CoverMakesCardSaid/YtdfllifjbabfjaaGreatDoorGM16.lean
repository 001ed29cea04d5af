/- Right of the package spec, for every spec. -/
import Derived.Test.YtdfllifjbabfjaaGreatDoorGM15
namespace Go.Proofs.YtdfllifjbabfjaaGreatDoor
open Go.RowKit Go.Joins

theorem spB_head {s : Sp} (h : headS s = false) : spB s = false := by unfold spB; rw [h]; rfl
theorem spB_all {s : Sp} (h : headS s = true) (ha : ∀ j, j < s.on.length → sideB s j = true) : spB s = true := by
  unfold spB; rw [h, Bool.true_and]; exact range_all.2 ha
theorem spB_not {s : Sp} {j : Nat} (hj : j < s.on.length) (h : sideB s j = false) : spB s = false := by
  unfold spB; rw [range_not hj h, Bool.and_false]
set_option maxHeartbeats 1000000 in
set_option maxRecDepth 100000 in
theorem sright_in (i : Int) (A C : Value) (on may : List (BitVec 256)) (w : World) (hA : SetsAt w w.heap.size A on) (hC : SetsAt w w.heap.size C may) (hi : i < 0 ∨ 8 < i) :
    Calls Tryz.prog 17 #[spv i A C] w fun e w' => e = .returned (.bool false) ∧ Below w.heap.size w w' := by
  have HN := fun w => all_no i hi w
  obtain ⟨A, ac, rfl, -, -⟩ := hA
  obtain ⟨C, cc, rfl, -, -⟩ := hC
  unfold spv sv wv at *
  go_enter Tryz.func17, Tryz.ntmps17
  go_wp2_with fail
  refine (HN _).mono ?_
  rintro e w1 ⟨rfl, hb1⟩
  go_wp2
  go_ret
  exact ⟨rfl, ((below_alloc1 w _).trans (hb1.mono (by simp))).alloc (by have := hb1.size; simp at this; omega) _⟩
set_option maxHeartbeats 1000000 in
set_option maxRecDepth 100000 in
theorem sright_len (i : Nat) (A C : Value) (on may : List (BitVec 256)) (w : World) (hA : SetsAt w w.heap.size A on) (hC : SetsAt w w.heap.size C may) (hi : i ≤ 8) (hl : on.length < 1 ∨ 4 < on.length ∨ (1 ≤ on.length ∧ on.length ≤ 4 ∧ on.length ≠ may.length)) :
    Calls Tryz.prog 17 #[spv i A C] w fun e w' => e = .returned (.bool false) ∧ Below w.heap.size w w' := by
  have HN := fun w => all_any i hi w
  obtain ⟨A, ac, rfl, la, -⟩ := hA
  obtain ⟨C, cc, rfl, lc, -⟩ := hC
  unfold spv sv wv at *
  have hl' : (on.length : Int) < 1 ∨ (1 ≤ (on.length : Int) ∧ 4 < (on.length : Int)) ∨ (1 ≤ (on.length : Int) ∧ (on.length : Int) ≤ 4 ∧ (((on.length : Nat) : Int) != ((may.length : Nat) : Int)) = true) := by
    rw [bne_iff_ne]; omega
  clear hl
  rcases hl' with h | ⟨h1, h⟩ | ⟨h1, h2, h⟩
  all_goals
    go_enter Tryz.func17, Tryz.ntmps17
    go_wp2_with fail
    refine (HN _).mono ?_
    rintro e w1 ⟨rfl, hb1⟩
    have hs1 := keep_blk hb1 (heap_alloc_new w (.cells #[Value.int IntKind.i64 i, .slice A on.length ac, .slice C may.length cc] 24 (0, 0)))
    have hz1 := size_of_block hs1
    have hs2 := fun o => keep_alloc (x := o) hs1
    have d1 := fun o => (now3 (hs2 o) rfl).2.1
    have d2 := fun o => (now3 (hs2 o) rfl).2.2.1
    go_wp2
    go_ret
    exact ⟨rfl, ((below_alloc1 w _).trans (hb1.mono (by simp))).alloc (by have := hb1.size; simp at this; omega) _⟩
set_option maxHeartbeats 2000000 in
set_option maxRecDepth 100000 in
theorem sright_good (i : Nat) (A C : Value) (on may : List (BitVec 256)) (w : World) (hA : SetsAt w w.heap.size A on) (hC : SetsAt w w.heap.size C may) (hi : i ≤ 8) (h1 : 1 ≤ on.length) (h4 : on.length ≤ 4) (he : on.length = may.length) :
    Calls Tryz.prog 17 #[spv i A C] w fun e w' => e = .returned (.bool (spB ⟨i, on, may⟩)) ∧ Below w.heap.size w w' := by
  have HN := fun w => all_any i hi w
  have hyes := Lib.hid (spB_all (s := ⟨i, on, may⟩) ((headS_iff _).2 ⟨⟨Int.natCast_nonneg _, by show (i : Int) ≤ 8; omega⟩, ⟨h1, h4⟩, he⟩))
  have hno := Lib.hid (fun j hj h => spB_not (s := ⟨i, on, may⟩) (j := j) hj h)
  have hside : Hid (∀ j X Y, on[j]? = some X → may[j]? = some Y → sideB ⟨i, on, may⟩ j = (decide (X &&& ~~~Y = 0) && decide (Y &&& ~~~(allB i) = 0))) := Lib.hid (by
    intro j X Y hX hY
    unfold sideB
    simp only [getD_of hX, getD_of hY, Int.toNat_natCast])
  generalize allB i = all at *
  generalize spB ⟨i, on, may⟩ = R at *
  obtain ⟨A, ac, rfl, la, hA⟩ := hA
  obtain ⟨C, cc, rfl, lc, hC⟩ := hC
  have h1' : ¬ (on.length : Int) < 1 := by omega
  have h4' : ¬ 4 < (on.length : Int) := by omega
  have he' : (((on.length : Nat) : Int) != ((may.length : Nat) : Int)) = false := by rw [he]; simp
  have heN := Lib.hid he
  unfold spv at *
  unfold sv at HN
  clear h1 h4 he
  go_enter Tryz.func17, Tryz.ntmps17
  go_wp2_with fail
  refine (HN _).mono ?_
  rintro e w1 ⟨rfl, hb1⟩
  have hs1 := keep_blk hb1 (heap_alloc_new w (.cells #[Value.int IntKind.i64 i, .slice A on.length ac, .slice C may.length cc] 24 (0, 0)))
  have hB1 := (below_alloc1 w (.cells #[Value.int IntKind.i64 i, .slice A on.length ac, .slice C may.length cc] 24 (0, 0))).trans (hb1.mono (by simp))
  have hz1 := size_of_block hs1
  have hs2 := fun o => keep_alloc (x := o) hs1
  have d1 := fun o => (now3 (hs2 o) rfl).2.1
  have d2 := fun o => (now3 (hs2 o) rfl).2.2.1
  clear HN hb1
  have hal := heap_alloc_new w1 (.cells #[wv (wd all 0), wv (wd all 1), wv (wd all 2), wv (wd all 3)] 50 (0, 0))
  have hB2 := hB1.alloc (by omega) (.cells #[wv (wd all 0), wv (wd all 1), wv (wd all 2), wv (wd all 3)] 50 (0, 0))
  have hs2' := hs2 (.cells #[wv (wd all 0), wv (wd all 1), wv (wd all 2), wv (wd all 3)] 50 (0, 0))
  generalize hb1d : w1.heap.size = bl at *
  unfold wv at *
  go_wp2
  go_loopw [5, 6, 39] (fun _ _ t wr => ∃ j : Nat, j ≤ may.length ∧ t = .int .i64 j ∧ Hid (∀ q, q < j → sideB ⟨i, on, may⟩ q = true) ∧ Below w.heap.size w wr ∧ wr.heap[w.heap.size]? = some (.cells #[Value.int IntKind.i64 i, .slice A on.length ac, .slice C may.length cc] 24 (0, 0)) ∧
    wr.heap[bl]? = some (.cells #[.int .u64 (wd all 0).toNat, .int .u64 (wd all 1).toNat, .int .u64 (wd all 2).toNat, .int .u64 (wd all 3).toNat] 50 (0, 0))) (fun _ _ t _ => may.length - (intOf t).toNat)
  case atStart => exact ⟨0, by omega, rfl, Lib.hid (fun q hq => by omega), hB2, hs2', hal⟩
  case round =>
    clear hB2 hs2' hal hs1 hs2 d1 d2 hB1
    obtain ⟨j, hj, rfl, hH, hb, hsp, hal⟩ := hrel
    by_cases hlt : j < may.length
    · obtain ⟨b, off, rfl, hBb, hc⟩ := hA (by omega)
      obtain ⟨b2, off2, rfl, hBb2, hc2⟩ := hC (by omega)
      obtain ⟨X, hX⟩ : ∃ X, on[j]? = some X := ⟨_, List.getElem?_eq_getElem (by rw [heN.out]; exact hlt)⟩
      obtain ⟨Y, hY⟩ : ∃ Y, may[j]? = some Y := ⟨_, List.getElem?_eq_getElem hlt⟩
      obtain ⟨x0, x1, x2, x3⟩ := hc j X hX
      obtain ⟨y0, y1, y2, y3⟩ := hc2 j Y hY
      have hsd := Lib.hid (hside.out j X Y hX hY)
      have u0 := (hb.cell (p := ⟨b, off + j * 4, none⟩) hBb).trans x0
      have u1 := (hb.cell (p := ⟨b, off + j * 4 + 1, none⟩) hBb).trans x1
      have u2 := (hb.cell (p := ⟨b, off + j * 4 + 2, none⟩) hBb).trans x2
      have u3 := (hb.cell (p := ⟨b, off + j * 4 + 3, none⟩) hBb).trans x3
      have v0 := (hb.cell (p := ⟨b2, off2 + j * 4, none⟩) hBb2).trans y0
      have v1 := (hb.cell (p := ⟨b2, off2 + j * 4 + 1, none⟩) hBb2).trans y1
      have v2 := (hb.cell (p := ⟨b2, off2 + j * 4 + 2, none⟩) hBb2).trans y2
      have v3 := (hb.cell (p := ⟨b2, off2 + j * 4 + 3, none⟩) hBb2).trans y3
      clear hc hc2 hX hY x0 x1 x2 x3 y0 y1 y2 y3 hA hC
      unfold wv at *
      have HW1 := fun w => within_any X Y w
      have HW2 := fun w => within_any Y all w
      unfold sv wv at HW1 HW2
      have hjo : j < on.length := by rw [heN.out]; exact hlt
      cases e1 : decide (X &&& ~~~Y = 0)
      · rw [e1] at HW1
        have hR := Lib.hid (hno.out j hjo (by rw [hsd.out, e1]; rfl))
        clear e1 hsd hno hyes
        go_upto_region 7 with (fail)
        have hsp2 := keep_alloc (x := .cells #[.int .u64 (wd Y 0).toNat, .int .u64 (wd Y 1).toNat, .int .u64 (wd Y 2).toNat, .int .u64 (wd Y 3).toNat] 50 (0, 0)) hsp
        have hal2 := keep_alloc (x := .cells #[.int .u64 (wd Y 0).toNat, .int .u64 (wd Y 1).toNat, .int .u64 (wd Y 2).toNat, .int .u64 (wd Y 3).toNat] 50 (0, 0)) hal
        have hbY := heap_alloc_new wr (.cells #[.int .u64 (wd Y 0).toNat, .int .u64 (wd Y 1).toNat, .int .u64 (wd Y 2).toNat, .int .u64 (wd Y 3).toNat] 50 (0, 0))
        have hB3 := hb.alloc hb.size (.cells #[.int .u64 (wd Y 0).toNat, .int .u64 (wd Y 1).toNat, .int .u64 (wd Y 2).toNat, .int .u64 (wd Y 3).toNat] 50 (0, 0))
        have t0 := (World.cell?_alloc_lt wr (.cells #[.int .u64 (wd Y 0).toNat, .int .u64 (wd Y 1).toNat, .int .u64 (wd Y 2).toNat, .int .u64 (wd Y 3).toNat] 50 (0, 0)) _ (block_lt_of_cell u0)).trans u0
        have t1 := (World.cell?_alloc_lt wr (.cells #[.int .u64 (wd Y 0).toNat, .int .u64 (wd Y 1).toNat, .int .u64 (wd Y 2).toNat, .int .u64 (wd Y 3).toNat] 50 (0, 0)) _ (block_lt_of_cell u1)).trans u1
        have t2 := (World.cell?_alloc_lt wr (.cells #[.int .u64 (wd Y 0).toNat, .int .u64 (wd Y 1).toNat, .int .u64 (wd Y 2).toNat, .int .u64 (wd Y 3).toNat] 50 (0, 0)) _ (block_lt_of_cell u2)).trans u2
        have t3 := (World.cell?_alloc_lt wr (.cells #[.int .u64 (wd Y 0).toNat, .int .u64 (wd Y 1).toNat, .int .u64 (wd Y 2).toNat, .int .u64 (wd Y 3).toNat] 50 (0, 0)) _ (block_lt_of_cell u3)).trans u3
        generalize hW : wr.alloc (.cells #[.int .u64 (wd Y 0).toNat, .int .u64 (wd Y 1).toNat, .int .u64 (wd Y 2).toNat, .int .u64 (wd Y 3).toNat] 50 (0, 0)) = W at *
        generalize hzr : wr.heap.size = br at *
        clear hW u0 u1 u2 u3 v0 v1 v2 v3 hsp hal hb
        obtain ⟨Y0, Y1, Y2, Y3, -⟩ := box4 hbY rfl
        obtain ⟨L0, L1, L2, L3, -⟩ := box4 hal2 rfl
        obtain ⟨S0, S1, S2, -⟩ := box3 hsp2 rfl
        have T0 := fun x : After W => After.cell x t0
        have T1 := fun x : After W => After.cell x t1
        have T2 := fun x : After W => After.cell x t2
        have T3 := fun x : After W => After.cell x t3
        refine wp_region_after (by kernel_rfl) (by kernel_rfl) ?_
        repeat (first | go_big_quiet_step ((first | (go_at_call_of 46 (Value.agg #[.int .u64 (wd X 0).toNat, .int .u64 (wd X 1).toNat, .int .u64 (wd X 2).toNat, .int .u64 (wd X 3).toNat]); exact Calls.after_of (HW1 _)) | (go_at_call_of 46 (Value.agg #[.int .u64 (wd Y 0).toNat, .int .u64 (wd Y 1).toNat, .int .u64 (wd Y 2).toNat, .int .u64 (wd Y 3).toNat]); exact Calls.after_of (HW2 _)))))
        refine wpQuiet_nil ?_
        intro x
        clear T0 T1 T2 T3 t0 t1 t2 t3 Y0 Y1 Y2 Y3 L0 L1 L2 L3 S0 S1 S2 HW1 HW2 hside
        go_wp2
        go_ret
        exact ⟨by rw [hR.out]; rfl, hB3.trans (x.2.mono hB3.size)⟩
      · rw [e1] at HW1
        cases e2 : decide (Y &&& ~~~all = 0)
        · rw [e2] at HW2
          have hR := Lib.hid (hno.out j hjo (by rw [hsd.out, e1, e2]; rfl))
          clear e1 e2 hsd hno hyes
          go_upto_region 7 with (fail)
          have hsp2 := keep_alloc (x := .cells #[.int .u64 (wd Y 0).toNat, .int .u64 (wd Y 1).toNat, .int .u64 (wd Y 2).toNat, .int .u64 (wd Y 3).toNat] 50 (0, 0)) hsp
          have hal2 := keep_alloc (x := .cells #[.int .u64 (wd Y 0).toNat, .int .u64 (wd Y 1).toNat, .int .u64 (wd Y 2).toNat, .int .u64 (wd Y 3).toNat] 50 (0, 0)) hal
          have hbY := heap_alloc_new wr (.cells #[.int .u64 (wd Y 0).toNat, .int .u64 (wd Y 1).toNat, .int .u64 (wd Y 2).toNat, .int .u64 (wd Y 3).toNat] 50 (0, 0))
          have hB3 := hb.alloc hb.size (.cells #[.int .u64 (wd Y 0).toNat, .int .u64 (wd Y 1).toNat, .int .u64 (wd Y 2).toNat, .int .u64 (wd Y 3).toNat] 50 (0, 0))
          have t0 := (World.cell?_alloc_lt wr (.cells #[.int .u64 (wd Y 0).toNat, .int .u64 (wd Y 1).toNat, .int .u64 (wd Y 2).toNat, .int .u64 (wd Y 3).toNat] 50 (0, 0)) _ (block_lt_of_cell u0)).trans u0
          have t1 := (World.cell?_alloc_lt wr (.cells #[.int .u64 (wd Y 0).toNat, .int .u64 (wd Y 1).toNat, .int .u64 (wd Y 2).toNat, .int .u64 (wd Y 3).toNat] 50 (0, 0)) _ (block_lt_of_cell u1)).trans u1
          have t2 := (World.cell?_alloc_lt wr (.cells #[.int .u64 (wd Y 0).toNat, .int .u64 (wd Y 1).toNat, .int .u64 (wd Y 2).toNat, .int .u64 (wd Y 3).toNat] 50 (0, 0)) _ (block_lt_of_cell u2)).trans u2
          have t3 := (World.cell?_alloc_lt wr (.cells #[.int .u64 (wd Y 0).toNat, .int .u64 (wd Y 1).toNat, .int .u64 (wd Y 2).toNat, .int .u64 (wd Y 3).toNat] 50 (0, 0)) _ (block_lt_of_cell u3)).trans u3
          generalize hW : wr.alloc (.cells #[.int .u64 (wd Y 0).toNat, .int .u64 (wd Y 1).toNat, .int .u64 (wd Y 2).toNat, .int .u64 (wd Y 3).toNat] 50 (0, 0)) = W at *
          generalize hzr : wr.heap.size = br at *
          clear hW u0 u1 u2 u3 v0 v1 v2 v3 hsp hal hb
          obtain ⟨Y0, Y1, Y2, Y3, -⟩ := box4 hbY rfl
          obtain ⟨L0, L1, L2, L3, -⟩ := box4 hal2 rfl
          obtain ⟨S0, S1, S2, -⟩ := box3 hsp2 rfl
          have T0 := fun x : After W => After.cell x t0
          have T1 := fun x : After W => After.cell x t1
          have T2 := fun x : After W => After.cell x t2
          have T3 := fun x : After W => After.cell x t3
          refine wp_region_after (by kernel_rfl) (by kernel_rfl) ?_
          repeat (first | go_big_quiet_step ((first | (go_at_call_of 46 (Value.agg #[.int .u64 (wd X 0).toNat, .int .u64 (wd X 1).toNat, .int .u64 (wd X 2).toNat, .int .u64 (wd X 3).toNat]); exact Calls.after_of (HW1 _)) | (go_at_call_of 46 (Value.agg #[.int .u64 (wd Y 0).toNat, .int .u64 (wd Y 1).toNat, .int .u64 (wd Y 2).toNat, .int .u64 (wd Y 3).toNat]); exact Calls.after_of (HW2 _)))))
          refine wpQuiet_nil ?_
          intro x
          clear T0 T1 T2 T3 t0 t1 t2 t3 Y0 Y1 Y2 Y3 L0 L1 L2 L3 S0 S1 S2 HW1 HW2 hside
          go_wp2
          go_ret
          exact ⟨by rw [hR.out]; rfl, hB3.trans (x.2.mono hB3.size)⟩
        · rw [e2] at HW2
          have hR := Lib.hid (show sideB ⟨i, on, may⟩ j = true by rw [hsd.out, e1, e2]; rfl)
          clear e1 e2 hsd hno hyes
          go_upto_region 7 with (fail)
          have hsp2 := keep_alloc (x := .cells #[.int .u64 (wd Y 0).toNat, .int .u64 (wd Y 1).toNat, .int .u64 (wd Y 2).toNat, .int .u64 (wd Y 3).toNat] 50 (0, 0)) hsp
          have hal2 := keep_alloc (x := .cells #[.int .u64 (wd Y 0).toNat, .int .u64 (wd Y 1).toNat, .int .u64 (wd Y 2).toNat, .int .u64 (wd Y 3).toNat] 50 (0, 0)) hal
          have hbY := heap_alloc_new wr (.cells #[.int .u64 (wd Y 0).toNat, .int .u64 (wd Y 1).toNat, .int .u64 (wd Y 2).toNat, .int .u64 (wd Y 3).toNat] 50 (0, 0))
          have hB3 := hb.alloc hb.size (.cells #[.int .u64 (wd Y 0).toNat, .int .u64 (wd Y 1).toNat, .int .u64 (wd Y 2).toNat, .int .u64 (wd Y 3).toNat] 50 (0, 0))
          have t0 := (World.cell?_alloc_lt wr (.cells #[.int .u64 (wd Y 0).toNat, .int .u64 (wd Y 1).toNat, .int .u64 (wd Y 2).toNat, .int .u64 (wd Y 3).toNat] 50 (0, 0)) _ (block_lt_of_cell u0)).trans u0
          have t1 := (World.cell?_alloc_lt wr (.cells #[.int .u64 (wd Y 0).toNat, .int .u64 (wd Y 1).toNat, .int .u64 (wd Y 2).toNat, .int .u64 (wd Y 3).toNat] 50 (0, 0)) _ (block_lt_of_cell u1)).trans u1
          have t2 := (World.cell?_alloc_lt wr (.cells #[.int .u64 (wd Y 0).toNat, .int .u64 (wd Y 1).toNat, .int .u64 (wd Y 2).toNat, .int .u64 (wd Y 3).toNat] 50 (0, 0)) _ (block_lt_of_cell u2)).trans u2
          have t3 := (World.cell?_alloc_lt wr (.cells #[.int .u64 (wd Y 0).toNat, .int .u64 (wd Y 1).toNat, .int .u64 (wd Y 2).toNat, .int .u64 (wd Y 3).toNat] 50 (0, 0)) _ (block_lt_of_cell u3)).trans u3
          generalize hW : wr.alloc (.cells #[.int .u64 (wd Y 0).toNat, .int .u64 (wd Y 1).toNat, .int .u64 (wd Y 2).toNat, .int .u64 (wd Y 3).toNat] 50 (0, 0)) = W at *
          generalize hzr : wr.heap.size = br at *
          clear hW u0 u1 u2 u3 v0 v1 v2 v3 hsp hal hb
          obtain ⟨Y0, Y1, Y2, Y3, -⟩ := box4 hbY rfl
          obtain ⟨L0, L1, L2, L3, -⟩ := box4 hal2 rfl
          obtain ⟨S0, S1, S2, -⟩ := box3 hsp2 rfl
          have T0 := fun x : After W => After.cell x t0
          have T1 := fun x : After W => After.cell x t1
          have T2 := fun x : After W => After.cell x t2
          have T3 := fun x : After W => After.cell x t3
          refine wp_region_after (by kernel_rfl) (by kernel_rfl) ?_
          repeat (first | go_big_quiet_step ((first | (go_at_call_of 46 (Value.agg #[.int .u64 (wd X 0).toNat, .int .u64 (wd X 1).toNat, .int .u64 (wd X 2).toNat, .int .u64 (wd X 3).toNat]); exact Calls.after_of (HW1 _)) | (go_at_call_of 46 (Value.agg #[.int .u64 (wd Y 0).toNat, .int .u64 (wd Y 1).toNat, .int .u64 (wd Y 2).toNat, .int .u64 (wd Y 3).toNat]); exact Calls.after_of (HW2 _)))))
          refine wpQuiet_nil ?_
          intro x
          clear T0 T1 T2 T3 t0 t1 t2 t3 Y0 Y1 Y2 Y3 L0 L1 L2 L3 S0 S1 S2 HW1 HW2 hside
          go_wp2
          go_roundw
          case rel => exact ⟨j + 1, by omega, by go_num, Lib.hid (fun q hq => by
            by_cases e : q = j
            · subst e; exact hR.out
            · exact hH.out q (by omega)), hB3.trans (x.2.mono hB3.size), x.same hsp2, x.same hal2⟩
          case measure => simp [intOf]; omega
    · have e : j = may.length := by omega
      have hR := Lib.hid (hyes.out (fun q hq => hH.out q (by have := heN.out; omega)))
      clear hyes hno hside hA hC
      go_wp2
      go_ret
      exact ⟨by rw [hR.out]; rfl, hb⟩
theorem sright_any (i : Int) (A C : Value) (on may : List (BitVec 256)) (w : World) (hA : SetsAt w w.heap.size A on) (hC : SetsAt w w.heap.size C may) :
    Calls Tryz.prog 17 #[spv i A C] w fun e w' => e = .returned (.bool (spB ⟨i, on, may⟩)) ∧ Below w.heap.size w w' := by
  by_cases hi : i < 0 ∨ 8 < i
  · rw [spB_head (s := ⟨i, on, may⟩) (Bool.eq_false_iff.2 fun h => by have := ((headS_iff _).1 h).1; simp only at this; omega)]
    exact sright_in i A C on may w hA hC hi
  · obtain ⟨k, rfl⟩ := Int.eq_ofNat_of_zero_le (show 0 ≤ i by omega)
    by_cases hl : on.length < 1 ∨ 4 < on.length ∨ (1 ≤ on.length ∧ on.length ≤ 4 ∧ on.length ≠ may.length)
    · rw [spB_head (s := ⟨k, on, may⟩) (Bool.eq_false_iff.2 fun h => by have := ((headS_iff _).1 h).2; simp only at this; omega)]
      exact sright_len k A C on may w hA hC (by omega) hl
    · exact sright_good k A C on may w hA hC (by omega) (by omega) (by omega) (by omega)
end Go.Proofs.YtdfllifjbabfjaaGreatDoor
