/- Same of the package spec, for every two specs. -/
import Derived.Test.YtckmjampgeojbaaGreatDoorJ14
namespace Go.Proofs.YtckmjampgeojbaaGreatDoor
open Go.RowKit Go.Joins

set_option maxHeartbeats 4000000 in
set_option maxRecDepth 100000 in
theorem eqSets_any (A C : Value) (on on2 : List (BitVec 256)) (w : World) (hA : SetsAt w w.heap.size A on) (hC : SetsAt w w.heap.size C on2) :
    Calls Tryz.prog 19 #[A, C] w fun e w' => e = .returned (.bool (decide (on = on2))) ∧ Below w.heap.size w w' := by
  by_cases hl : on.length = on2.length
  · have hyes : Hid ((∀ q, q < on.length → on[q]? = on2[q]?) → decide (on = on2) = true) := Lib.hid (fun h => decide_eq_true (list_eq hl h))
    have hno : Hid (∀ j X Y, on[j]? = some X → on2[j]? = some Y → X ≠ Y → decide (on = on2) = false) := Lib.hid (fun j X Y h1 h2 h => decide_eq_false (ne_at4 h1 h2 h))
    generalize decide (on = on2) = R at *
    obtain ⟨A, ac, rfl, la, hA⟩ := hA
    obtain ⟨C, cc, rfl, lc, hC⟩ := hC
    have e2 : (((on.length : Nat) : Int) != ((on2.length : Nat) : Int)) = false := by rw [hl]; simp
    replace hl := Lib.hid hl
    go_enter Tryz.func19, Tryz.ntmps19
    go_wp2
    go_loopw [5, 13] (fun _ t wr => ∃ j : Nat, j ≤ on.length ∧ t = .int .i64 j ∧ Hid (∀ q, q < j → on[q]? = on2[q]?) ∧ Below w.heap.size w wr) (fun _ t _ => on.length - (intOf t).toNat)
    case atStart => exact ⟨0, by omega, rfl, Lib.hid (fun q hq => by omega), Below.refl _ _⟩
    case round =>
      obtain ⟨j, hj, rfl, hH, hb⟩ := hrel
      by_cases hlt : j < on.length
      · obtain ⟨b, off, rfl, hBb, hc⟩ := hA (by omega)
        obtain ⟨b2, off2, rfl, hBb2, hc2⟩ := hC (by have := hl.out; omega)
        obtain ⟨X, hX⟩ : ∃ X, on[j]? = some X := ⟨_, List.getElem?_eq_getElem hlt⟩
        obtain ⟨Y, hY⟩ : ∃ Y, on2[j]? = some Y := ⟨_, List.getElem?_eq_getElem (by have := hl.out; omega)⟩
        have hlt2 : (j : Int) < on2.length := by have := hl.out; omega
        obtain ⟨x0, x1, x2, x3⟩ := hc j X hX
        obtain ⟨y0, y1, y2, y3⟩ := hc2 j Y hY
        have C0 := fun x : After wr => After.cell x ((hb.cell (p := ⟨b, off + j * 4, none⟩) hBb).trans x0)
        have C1 := fun x : After wr => After.cell x ((hb.cell (p := ⟨b, off + j * 4 + 1, none⟩) hBb).trans x1)
        have C2 := fun x : After wr => After.cell x ((hb.cell (p := ⟨b, off + j * 4 + 2, none⟩) hBb).trans x2)
        have C3 := fun x : After wr => After.cell x ((hb.cell (p := ⟨b, off + j * 4 + 3, none⟩) hBb).trans x3)
        have D0 := fun x : After wr => After.cell x ((hb.cell (p := ⟨b2, off2 + j * 4, none⟩) hBb2).trans y0)
        have D1 := fun x : After wr => After.cell x ((hb.cell (p := ⟨b2, off2 + j * 4 + 1, none⟩) hBb2).trans y1)
        have D2 := fun x : After wr => After.cell x ((hb.cell (p := ⟨b2, off2 + j * 4 + 2, none⟩) hBb2).trans y2)
        have D3 := fun x : After wr => After.cell x ((hb.cell (p := ⟨b2, off2 + j * 4 + 3, none⟩) hBb2).trans y3)
        have E := eq4_set X Y
        have hgX := Lib.hid hX
        have hgY := Lib.hid hY
        clear hc hc2 hX hY x0 x1 x2 x3 y0 y1 y2 y3 hA hC
        unfold wv at *
        by_cases hXY : X = Y
        · rw [decide_eq_true hXY] at E
          have hXY' := Lib.hid hXY
          clear hXY
          go_upto_region 6 with (fail)
          refine wp_region_after (by kernel_rfl) (by kernel_rfl) ?_
          repeat (first | go_big_quiet_step (fail))
          refine wpQuiet_nil ?_
          intro x
          clear C0 C1 C2 C3 D0 D1 D2 D3 E
          go_wp2
          go_roundw
          case rel => exact ⟨j + 1, by omega, by go_num, Lib.hid (fun q hq => by
            by_cases e : q = j
            · subst e; rw [hgX.out, hgY.out, hXY'.out]
            · exact hH.out q (by omega)), hb.trans (x.2.mono hb.size)⟩
          case measure => simp [intOf]; omega
        · rw [decide_eq_false hXY] at E
          have hR := Lib.hid (hno.out j X Y hgX.out hgY.out hXY)
          clear hXY
          go_upto_region 6 with (fail)
          refine wp_region_after (by kernel_rfl) (by kernel_rfl) ?_
          repeat (first | go_big_quiet_step (fail))
          refine wpQuiet_nil ?_
          intro x
          clear C0 C1 C2 C3 D0 D1 D2 D3 E
          go_wp2
          go_ret
          exact ⟨by rw [hR.out]; rfl, hb.trans (x.2.mono hb.size)⟩
      · have e : j = on.length := by omega
        have hR := Lib.hid (hyes.out (fun q hq => hH.out q (by rw [e]; exact hq)))
        clear hyes hno hA hC
        go_wp2
        go_ret
        exact ⟨by rw [hR.out]; rfl, hb⟩
  · have hR : Hid (decide (on = on2) = false) := Lib.hid (decide_eq_false (fun e => hl (congrArg List.length e)))
    obtain ⟨A, ac, rfl, la, -⟩ := hA
    obtain ⟨C, cc, rfl, lc, -⟩ := hC
    have e2 : (((on.length : Nat) : Int) != ((on2.length : Nat) : Int)) = true := by rw [bne_iff_ne]; omega
    generalize decide (on = on2) = R at *
    clear hl
    go_enter Tryz.func19, Tryz.ntmps19
    go_wp2
    go_ret
    exact ⟨by rw [hR.out]; rfl, Below.refl _ _⟩
set_option maxHeartbeats 4000000 in
set_option maxRecDepth 100000 in
theorem ssame_any (a b : Sp) (A C A2 C2 : Value) (w : World) (hA : SetsAt w w.heap.size A a.on) (hC : SetsAt w w.heap.size C a.may) (hA2 : SetsAt w w.heap.size A2 b.on) (hC2 : SetsAt w w.heap.size C2 b.may) :
    Calls Tryz.prog 8 #[spv a.i A C, spv b.i A2 C2] w fun e w' => e = .returned (.bool (sameSp a b)) ∧ Below w.heap.size w w' := by
  have hB0 := below_alloc2 w (spb a.i A C) (spb b.i A2 C2)
  have ha0 := heap_alloc2_old w (spb a.i A C) (spb b.i A2 C2)
  have hb0 := heap_alloc2_new w (spb a.i A C) (spb b.i A2 C2)
  have HO := fun W (hW : Below w.heap.size w W) => eqSets_any A A2 a.on b.on W ((hA.below hW).more hW.size) ((hA2.below hW).more hW.size)
  have HM := fun W (hW : Below w.heap.size w W) => eqSets_any C C2 a.may b.may W ((hC.below hW).more hW.size) ((hC2.below hW).more hW.size)
  have hs : Hid (sameSp a b = (decide (a.i = b.i) && decide (a.on = b.on) && decide (a.may = b.may))) := Lib.hid rfl
  obtain ⟨A, ac, rfl, la, -⟩ := hA
  obtain ⟨C, cc, rfl, lc, -⟩ := hC
  obtain ⟨A2, ac2, rfl, la2, -⟩ := hA2
  obtain ⟨C2, cc2, rfl, lc2, -⟩ := hC2
  generalize sameSp a b = R at *
  generalize decide (a.on = b.on) = q1 at *
  generalize decide (a.may = b.may) = q2 at *
  unfold spv spb at *
  obtain ⟨p0, p1, p2, -⟩ := now3 ha0 rfl
  obtain ⟨u0, u1, u2, -⟩ := now3 hb0 rfl
  by_cases hi : a.i = b.i
  · have hib : ((a.i : Int) == b.i) = true := by rw [beq_iff_eq]; exact hi
    rw [decide_eq_true hi, Bool.true_and] at hs
    have HO1 := HO _ hB0
    clear hi
    cases q1
    · have hR : Hid (R = false) := Lib.hid (by rw [hs.out]; rfl)
      go_enter Tryz.func8, Tryz.ntmps8
      go_wp2_with fail
      refine HO1.mono ?_
      rintro e w1 ⟨rfl, hb1⟩
      have hB1 := hB0.trans (hb1.mono hB0.size)
      clear HO1
      go_wp2
      go_ret
      exact ⟨by rw [hR.out]; rfl, hB1⟩
    · have hR : Hid (R = q2) := Lib.hid (by rw [hs.out]; rfl)
      go_enter Tryz.func8, Tryz.ntmps8
      go_wp2_with fail
      refine HO1.mono ?_
      rintro e w1 ⟨rfl, hb1⟩
      have hB1 := hB0.trans (hb1.mono hB0.size)
      obtain ⟨p0, p1, p2, -⟩ := now3 (keep_blk hb1 ha0) rfl
      obtain ⟨u0, u1, u2, -⟩ := now3 (keep_blk hb1 hb0) rfl
      have HM1 := HM w1 hB1
      clear HO1
      go_wp2_with fail
      refine HM1.mono ?_
      rintro e w2 ⟨rfl, hb2⟩
      have hB2 := hB1.trans (hb2.mono hB1.size)
      clear HM1
      go_wp2
      go_ret
      exact ⟨by rw [hR.out]; rfl, hB2⟩
  · have hib : ((a.i : Int) == b.i) = false := by rw [beq_eq_false_iff_ne]; exact hi
    have hR : Hid (R = false) := Lib.hid (by rw [hs.out, decide_eq_false hi]; rfl)
    clear hi HO HM
    go_enter Tryz.func8, Tryz.ntmps8
    go_wp2
    go_ret
    exact ⟨by rw [hR.out]; rfl, hB0⟩
theorem great4_any (i : Int) (A C L : Value) (on may : List (BitVec 256)) (rs : List Rw) (w : World) (hA : SetsAt w w.heap.size A on) (hC : SetsAt w w.heap.size C may) (hL : RwsAt w w.heap.size L rs) :
    Calls Tryz.prog 4 #[spv i A C, L] w fun e w' => e = .returned (.bool (decide (20 < on.length) || (decide (20 < may.length) || decide (100 < rs.length)))) ∧ Below w.heap.size w w' := by
  have hB0 := below_alloc1 w (spb i A C)
  obtain ⟨A, ac, rfl, la, -⟩ := hA
  obtain ⟨C, cc, rfl, lc, -⟩ := hC
  obtain ⟨L, lc', rfl, ll, -⟩ := hL
  unfold spv spb at *
  by_cases h1 : 20 < on.length
  · have h1' : 20 < (on.length : Int) := by omega
    have hR : Hid ((decide (20 < on.length) || (decide (20 < may.length) || decide (100 < rs.length))) = true) := Lib.hid (by simp [h1])
    clear h1
    go_enter Tryz.func4, Tryz.ntmps4
    go_wp2
    go_ret
    exact ⟨by rw [hR.out]; rfl, hB0⟩
  · have h1' : ¬ 20 < (on.length : Int) := by omega
    by_cases h2 : 20 < may.length
    · have h2' : 20 < (may.length : Int) := by omega
      have hR : Hid ((decide (20 < on.length) || (decide (20 < may.length) || decide (100 < rs.length))) = true) := Lib.hid (by simp [h2])
      clear h1 h2
      go_enter Tryz.func4, Tryz.ntmps4
      go_wp2
      go_ret
      exact ⟨by rw [hR.out]; rfl, hB0⟩
    · have h2' : ¬ 20 < (may.length : Int) := by omega
      by_cases h3 : 100 < rs.length
      · have h3' : 100 < (rs.length : Int) := by omega
        have hR : Hid ((decide (20 < on.length) || (decide (20 < may.length) || decide (100 < rs.length))) = true) := Lib.hid (by simp [h3])
        clear h1 h2 h3
        go_enter Tryz.func4, Tryz.ntmps4
        go_wp2
        go_ret
        exact ⟨by rw [hR.out]; rfl, hB0⟩
      · have h3' : ¬ 100 < (rs.length : Int) := by omega
        have hR : Hid ((decide (20 < on.length) || (decide (20 < may.length) || decide (100 < rs.length))) = false) := Lib.hid (by simp [h1, h2, h3])
        clear h1 h2 h3
        go_enter Tryz.func4, Tryz.ntmps4
        go_wp2
        go_ret
        exact ⟨by rw [hR.out]; rfl, hB0⟩
end Go.Proofs.YtckmjampgeojbaaGreatDoor
