/- The document's own May of layer 13. What the statements of layer 13 say of cover.Make, as contracts; CoverMakes over them. -/
import Derived.Test.YtdfllifjbabfjaaGreatDoorGM26
import Derived.Test.YtdfllifjbabfjaaGreatDoorGM14
import Derived.Test.YtdfllifjbabfjaaGreatDoorGM19
import Derived.Test.YtdfllifjbabfjaaGreatDoorGM18
namespace Go.Proofs.YtdfllifjbabfjaaGreatDoor
open Go.RowKit Go.Joins

/-- The error that is told, when a covering may not be made. -/
def mayE (s : Sp) (rs : List Rw) : Nat := if spB s && rs.all (fun x => rightB x.m x.v s.i) then (if 4000 < rs.length then 3 else 0) else 1
theorem mayE_spec {s : Sp} {rs : List Rw} (h : spB s = false) : mayE s rs = 1 := by unfold mayE; rw [h]; rfl
theorem mayE_row {s : Sp} {rs : List Rw} {k : Nat} {x : Rw} (hx : rs[k]? = some x) (h : rightB x.m x.v s.i = false) : mayE s rs = 1 := by
  unfold mayE
  have : rs.all (fun x => rightB x.m x.v s.i) = false := by
    rw [List.all_eq_false]
    exact ⟨x, List.mem_of_getElem? hx, by simp [h]⟩
  rw [this, Bool.and_false]
  rfl
theorem mayE_ok {s : Sp} {rs : List Rw} (h : spB s = true) (hr : ∀ (k : Nat) (x : Rw), rs[k]? = some x → rightB x.m x.v s.i = true) : mayE s rs = if 4000 < rs.length then 3 else 0 := by
  unfold mayE
  have : rs.all (fun x => rightB x.m x.v s.i) = true := by
    rw [List.all_eq_true]
    intro x hx
    obtain ⟨k, hk, rfl⟩ := List.mem_iff_getElem.1 hx
    exact hr k _ (List.getElem?_eq_getElem hk)
  rw [h, this]
  rfl
set_option maxHeartbeats 2000000 in
set_option maxRecDepth 100000 in
theorem rmay13_any (i : Int) (A C L : Value) (on may : List (BitVec 256)) (rs : List Rw) (w : World) (hA : SetsAt w w.heap.size A on) (hC : SetsAt w w.heap.size C may) (hL : RwsAt w w.heap.size L rs) :
    Calls Tryz.prog 8 #[spv i A C, L] w fun e w' => e = .returned (.int .i64 (mayE ⟨i, on, may⟩ rs : Nat)) ∧ Below w.heap.size w w' := by
  have hB0 := below_alloc1 w (spb i A C)
  have hbx := heap_alloc_new w (spb i A C)
  have HR := rspec_any i A C on may (w.alloc (spb i A C)) ((hA.below hB0).more hB0.size) ((hC.below hB0).more hB0.size)
  have HX := fun m v w => rright_any m v i w
  have hbad := Lib.hid (mayE_spec (s := ⟨i, on, may⟩) (rs := rs))
  have hrow := Lib.hid (fun k x => mayE_row (s := ⟨i, on, may⟩) (rs := rs) (k := k) (x := x))
  have hok := Lib.hid (mayE_ok (s := ⟨i, on, may⟩) (rs := rs))
  obtain ⟨A1, c1, rfl, -, -⟩ := hA
  obtain ⟨A2, c2, rfl, -, -⟩ := hC
  obtain ⟨A3, c3, rfl, hlL, hcL⟩ := hL
  unfold spv cv at *
  unfold spb bvv at *
  obtain ⟨u0, u1, u2, -⟩ := now3 hbx rfl
  cases hs : spB ⟨i, on, may⟩
  · rw [hs] at HR
    have hE := Lib.hid (hbad.out hs)
    clear hs hbad hrow hok HX hcL
    go_enter Tryz.func8, Tryz.ntmps8
    go_wp2_with fail
    refine HR.mono ?_
    rintro e w1 ⟨rfl, hb1⟩
    have hB1 := hB0.trans (hb1.mono hB0.size)
    clear HR u0 u1 u2
    go_wp2
    go_ret
    exact ⟨by rw [hE.out]; rfl, hB1⟩
  · rw [hs] at HR
    have hok2 := Lib.hid (hok.out hs)
    clear hs hbad hok
    go_enter Tryz.func8, Tryz.ntmps8
    go_wp2_with fail
    refine HR.mono ?_
    rintro e w1 ⟨rfl, hb1⟩
    have hB1 := hB0.trans (hb1.mono hB0.size)
    have hbx1 := keep_blk hb1 hbx
    clear HR u0 u1 u2 hbx hB0 hb1
    go_wp2
    go_loopw [5] (fun t wr => ∃ k : Nat, k ≤ rs.length ∧ t = .int .i64 k ∧ Hid (∀ (j : Nat) (x : Rw), j < k → rs[j]? = some x → rightB x.m x.v i = true) ∧ wr.heap[w.heap.size]? = some (.cells #[.int .i64 i, .slice A1 on.length c1, .slice A2 may.length c2] 24 (0, 0)) ∧ Below w.heap.size w wr) (fun t _ => rs.length - (intOf t).toNat)
    case atStart => exact ⟨0, by omega, rfl, Lib.hid (fun j x h => absurd h (Nat.not_lt_zero _)), hbx1, hB1⟩
    case round =>
      clear hbx1 hB1
      obtain ⟨k, hk, rfl, hH, hbx, hb⟩ := hrel
      by_cases hkl : k < rs.length
      · obtain ⟨b3, off3, rfl, hB3, hc3⟩ := hcL (by omega)
        obtain ⟨x, hx⟩ : ∃ x, rs[k]? = some x := ⟨_, List.getElem?_eq_getElem hkl⟩
        obtain ⟨z0, z1, -⟩ := hc3 k x hx
        have y0 := fun X : After wr => After.cell X ((hb.cell (p := ⟨b3, off3 + k * 3, none⟩) hB3).trans z0)
        have y1 := fun X : After wr => After.cell X ((hb.cell (p := ⟨b3, off3 + k * 3 + 1, none⟩) hB3).trans z1)
        obtain ⟨v0, -, -, -⟩ := box3 hbx rfl
        have k0 : (0 : Int) ≤ (k : Int) := by omega
        have k1 : (k : Int) < (rs.length : Int) := by omega
        have HXc := fun w => HX x.m x.v w
        have hxH := Lib.hid hx
        clear hcL hc3 z0 z1 HX hx
        cases hr : rightB x.m x.v i
        · rw [hr] at HXc
          have hE := Lib.hid (hrow.out k x hxH.out hr)
          clear hr hH hrow hok2
          go_wp2_with fail
          refine wp_region_after (by kernel_rfl) (by kernel_rfl) ?_
          repeat (first | go_big_quiet_step (exact Calls.after_of (HXc _)))
          refine wpQuiet_nil ?_
          intro z
          have hbz := hb.trans (z.2.mono hb.size)
          clear y0 y1 v0 HXc
          go_wp2
          go_ret
          exact ⟨by rw [hE.out]; rfl, hbz⟩
        · rw [hr] at HXc
          have hst : Hid (∀ (j : Nat) (x : Rw), j < k + 1 → rs[j]? = some x → rightB x.m x.v i = true) := Lib.hid (fun j y hj hy => by
            by_cases e : j = k
            · subst e
              rw [hxH.out] at hy
              injection hy with hy
              rw [← hy]; exact hr
            · exact hH.out j y (by omega) hy)
          clear hr hH hrow hok2 hxH
          go_wp2_with fail
          refine wp_region_after (by kernel_rfl) (by kernel_rfl) ?_
          repeat (first | go_big_quiet_step (exact Calls.after_of (HXc _)))
          refine wpQuiet_nil ?_
          intro z
          have hbz := hb.trans (z.2.mono hb.size)
          have hbxz := keep_blk z.2 hbx
          clear y0 y1 v0 HXc
          go_wp2
          go_roundw
          case rel => exact ⟨k + 1, by omega, by go_num, hst, hbxz, hbz⟩
          case measure => simp [intOf]; omega
      · have e : k = rs.length := by omega
        subst e
        have hE := Lib.hid (hok2.out fun j x hj => hH.out j x (List.getElem?_eq_some_iff.1 hj).1 hj)
        clear hcL hH hok2 hrow HX hbx
        by_cases h4 : 4000 < rs.length
        · have h4' : decide ((4000 : Int) < (rs.length : Int)) = true := decide_eq_true (by omega)
          have hE2 := Lib.hid (hE.out.trans (if_pos h4))
          clear hE h4
          go_wp2
          go_ret
          exact ⟨by rw [hE2.out]; rfl, hb⟩
        · have h4' : decide ((4000 : Int) < (rs.length : Int)) = false := decide_eq_false (by omega)
          have hE2 := Lib.hid (hE.out.trans (if_neg h4))
          clear hE h4
          go_wp2
          go_ret
          exact ⟨by rw [hE2.out]; rfl, hb⟩
end Go.Proofs.YtdfllifjbabfjaaGreatDoor
namespace Go.Proofs.YtdfllifjbabfjaaGreatDoor
open Go.RowKit Go.Joins

def MakeBad : Prop := ∀ (i : Int) (A C L : Value) (on may : List (BitVec 256)) (rs : List Rw) (w : World), SetsAt w w.heap.size A on → SetsAt w w.heap.size C may → RwsAt w w.heap.size L rs → ¬ mayE ⟨i, on, may⟩ rs = 0 →
  Calls Tryz.prog 7 #[spv i A C, L] w fun e w' => ∃ A' c', e = .returned (.tuple #[.agg #[.int .i64 0, .slice A' 0 c'], .int .i64 (mayE ⟨i, on, may⟩ rs : Nat)]) ∧ Below w.heap.size w w'
def MakeGood : Prop := ∀ (i : Int) (A C L : Value) (on may : List (BitVec 256)) (rs : List Rw) (w : World), SetsAt w w.heap.size A on → SetsAt w w.heap.size C may → RwsAt w w.heap.size L rs → mayE ⟨i, on, may⟩ rs = 0 → TabW w →
  Calls Tryz.prog 7 #[spv i A C, L] w fun e w' => ∃ v K, e = .returned (.tuple #[.agg #[.int .i64 rs.length, v], .int .i64 0]) ∧ MatAt w' w'.heap.size v K ∧ K.Pairwise (fun a b => aheadL a b = true) ∧ (∀ x, x ∈ K ↔ x ∈ gotL on rs on.length 0) ∧ Below w.heap.size w w'
def great13 (on may : List (BitVec 256)) (rs : List Rw) : Bool := decide (20 < on.length) || decide (20 < may.length) || decide (60 < rs.length)
set_option maxHeartbeats 1000000 in
set_option maxRecDepth 100000 in
theorem greats13_any (i : Int) (A1 A2 A3 : Option Addr) (c1 c2 c3 : Nat) (on may : List (BitVec 256)) (rs : List Rw) (w : World) :
    Calls Tryz.prog 5 #[spv i (.slice A1 on.length c1) (.slice A2 may.length c2), .slice A3 rs.length c3] w fun e w' => e = .returned (.bool (great13 on may rs)) ∧ Below w.heap.size w w' := by
  unfold great13 spv
  have hB0 := below_alloc1 w (.cells #[.int .i64 i, .slice A1 on.length c1, .slice A2 may.length c2] 24 (0, 0))
  by_cases h1 : 20 < on.length
  · rw [decide_eq_true h1]
    have h1i : decide ((20 : Int) < (on.length : Int)) = true := decide_eq_true (by omega)
    clear h1
    go_enter Tryz.func5, Tryz.ntmps5
    go_wp2
    go_ret
    exact ⟨rfl, hB0⟩
  · rw [decide_eq_false h1]
    have h1i : decide ((20 : Int) < (on.length : Int)) = false := decide_eq_false (by omega)
    clear h1
    by_cases h2 : 20 < may.length
    · rw [decide_eq_true h2]
      have h2i : decide ((20 : Int) < (may.length : Int)) = true := decide_eq_true (by omega)
      clear h2
      go_enter Tryz.func5, Tryz.ntmps5
      go_wp2
      go_ret
      exact ⟨rfl, hB0⟩
    · rw [decide_eq_false h2]
      have h2i : decide ((20 : Int) < (may.length : Int)) = false := decide_eq_false (by omega)
      clear h2
      by_cases h3 : 60 < rs.length
      · rw [decide_eq_true h3]
        have h3i : decide ((60 : Int) < (rs.length : Int)) = true := decide_eq_true (by omega)
        clear h3
        go_enter Tryz.func5, Tryz.ntmps5
        go_wp2
        go_ret
        exact ⟨rfl, hB0⟩
      · rw [decide_eq_false h3]
        have h3i : decide ((60 : Int) < (rs.length : Int)) = false := decide_eq_false (by omega)
        clear h3
        go_enter Tryz.func5, Tryz.ntmps5
        go_wp2
        go_ret
        exact ⟨rfl, hB0⟩
set_option maxHeartbeats 4000000 in
set_option maxRecDepth 100000 in
theorem makes13_bad (HB : MakeBad) (HK : Knows13) (i : Int) (A C L : Value) (on may : List (BitVec 256)) (rs : List Rw) (w : World) (hT : TabW w) (hA : SetsAt w w.heap.size A on) (hC : SetsAt w w.heap.size C may) (hL : RwsAt w w.heap.size L rs) (hn : ¬ mayE ⟨i, on, may⟩ rs = 0) :
    Calls Tryz.prog 3 #[spv i A C, L] w fun e w' => e = .returned (.bool true) ∧ Below w.heap.size w w' := by
  have hB0 := below_alloc1 w (spb i A C)
  have hbx : (w.alloc (spb i A C)).heap[w.heap.size]? = some (spb i A C) := heap_alloc_new _ _
  have C1 := fun W (hb : Below w.heap.size w W) => HB i A C L on may rs W ((hA.below hb).more hb.size) ((hC.below hb).more hb.size) ((hL.below hb).more hb.size) hn
  have C2 := fun W (hb : Below w.heap.size w W) => rmay13_any i A C L on may rs W ((hA.below hb).more hb.size) ((hC.below hb).more hb.size) ((hL.below hb).more hb.size)
  obtain ⟨A1, c1, rfl, -, -⟩ := hA
  obtain ⟨A2, c2, rfl, -, -⟩ := hC
  obtain ⟨A3, c3, rfl, -, -⟩ := hL
  have CG := greats13_any i A1 A2 A3 c1 c2 c3 on may rs
  generalize hr : great13 on may rs = g at CG
  generalize mayE ⟨i, on, may⟩ rs = E at *
  have hE : ((E : Int) != 0) = true := by rw [bne_iff_ne]; omega
  have hEE : ((E : Int) == (E : Int)) = true := by simp
  clear hr
  unfold spb at hB0 hbx
  unfold spv at *
  obtain ⟨u0, u1, u2, -⟩ := now3 hbx rfl
  go_enter Tryz.func3, Tryz.ntmps3
  go_wp2_with fail
  refine (CG _).mono ?_
  rintro e w1 ⟨rfl, hb⟩
  have hB1 := hB0.trans (hb.mono hB0.size)
  have hbx1 := keep_blk hb hbx
  clear u0 u1 u2 hb CG hB0 hbx
  obtain ⟨u0, u1, u2, -⟩ := now3 hbx1 rfl
  cases g
  · have D1 := C1 _ hB1
    go_wp2_with fail
    refine D1.mono ?_
    rintro e w2 ⟨A', c', rfl, hb⟩
    have hB2 := (hB1.trans (hb.mono hB1.size)).alloc (Nat.le_trans hB1.size hb.size) (.cells #[.int .i64 0, .slice A' 0 c'] 30 (0, 0))
    have hbx2 := keep_alloc (x := .cells #[.int .i64 0, .slice A' 0 c'] 30 (0, 0)) (keep_blk hb hbx1)
    have hbm2 := heap_alloc_new w2 (.cells #[.int .i64 0, .slice A' 0 c'] 30 (0, 0))
    clear u0 u1 u2 D1 C1 hb hbx1 hB1
    obtain ⟨u0, u1, u2, -⟩ := now3 hbx2 rfl
    obtain ⟨m0, m1, -⟩ := now2 hbm2 rfl
    have D2 := C2 _ hB2
    go_wp2_with fail
    refine D2.mono ?_
    rintro e w3 ⟨rfl, hb⟩
    have hB3 := hB2.trans (hb.mono hB2.size)
    have hbm3 := keep_blk hb hbm2
    clear u0 u1 u2 m0 m1 D2 C2 hb hbx2 hB2 hbm2
    obtain ⟨m0, m1, -⟩ := now2 hbm3 rfl
    go_wp2_with fail
    refine (HK _ (hT.below (by assumption))).mono ?_
    rintro e w4 ⟨rfl, hb⟩
    go_wp2
    go_ret
    exact ⟨rfl, hB3.trans (hb.mono hB3.size)⟩
  · go_wp2_with fail
    refine (HK _ (hT.below (by assumption))).mono ?_
    rintro e w2 ⟨rfl, hb⟩
    go_wp2
    go_ret
    exact ⟨rfl, hB1.trans (hb.mono hB1.size)⟩
end Go.Proofs.YtdfllifjbabfjaaGreatDoor
