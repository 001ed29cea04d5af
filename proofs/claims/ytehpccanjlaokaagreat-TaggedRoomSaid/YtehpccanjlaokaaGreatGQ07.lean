/- Rows and specs: what they are in memory, and what is said of them, plain. Which tables are right, by the program: between, the lines' closures, ContainsFunc over numbers and over lines, rightLine, Right. Rows of the package spec: value, cubesRight, outsRight, for every list of rows. Right of the package spec, for every spec. The document's own answers of layer 4: Bit, Covered, Marked, size, Same. The document's own Member of layer 11. -/
import Derived.Test.YtehpccanjlaokaaGreatGQ06
import Derived.Test.YtehpccanjlaokaaGreatGQ05
namespace Go.Proofs.YtehpccanjlaokaaGreat
open Go.RowKit Go.Joins

/-- A row: a cube, and the bits of its outputs. -/
structure Rw where
  m : BitVec 8
  v : BitVec 8
  o : BitVec 8
/-- What is asked for. -/
structure Sp where
  i : Int
  on : List (BitVec 256)
  may : List (BitVec 256)
/-- The slice v reads as the rows rs. -/
def RwsAt (w : World) (B : Nat) (v : Value) (rs : List Rw) : Prop :=
  ∃ A c, v = .slice A rs.length c ∧ rs.length ≤ 9223372036854775807 ∧
    (0 < rs.length → ∃ b off, A = some ⟨b, off, none⟩ ∧ b < B ∧ ∀ j x, rs[j]? = some x → w.cell? ⟨b, off + j * 3, none⟩ = some (bvv x.m) ∧ w.cell? ⟨b, off + j * 3 + 1, none⟩ = some (bvv x.v) ∧
      w.cell? ⟨b, off + j * 3 + 2, none⟩ = some (bvv x.o))
def spv (i : Int) (A C : Value) : Value := .agg #[.int .i64 i, A, C]
def spb (i : Int) (A C : Value) : Obj := .cells #[.int .i64 i, A, C] 24 (0, 0)
def rwv (x : Rw) : Value := .agg #[bvv x.m, bvv x.v, bvv x.o]

theorem RwsAt.below {w w' : World} {B : Nat} {v : Value} {rs : List Rw} (h : RwsAt w B v rs) (hb : Below B w w') : RwsAt w' B v rs := by
  obtain ⟨A, c, e, hl, h⟩ := h
  refine ⟨A, c, e, hl, fun h0 => ?_⟩
  obtain ⟨b, off, eA, hB, hc⟩ := h h0
  refine ⟨b, off, eA, hB, fun j X hx => ?_⟩
  obtain ⟨a0, a1, a2⟩ := hc j X hx
  exact ⟨(hb.cell (p := ⟨b, off + j * 3, none⟩) hB).trans a0, (hb.cell (p := ⟨b, off + j * 3 + 1, none⟩) hB).trans a1, (hb.cell (p := ⟨b, off + j * 3 + 2, none⟩) hB).trans a2⟩
theorem RwsAt.more {w : World} {B B' : Nat} {v : Value} {rs : List Rw} (h : RwsAt w B v rs) (hB : B ≤ B') : RwsAt w B' v rs := by
  obtain ⟨A, c, e, hl, h⟩ := h
  refine ⟨A, c, e, hl, fun h0 => ?_⟩
  obtain ⟨b, off, eA, hb, hc⟩ := h h0
  exact ⟨b, off, eA, by omega, hc⟩

theorem two_pow_8 {n p : Nat} (hn : n ≤ 8) (hp : p < 2 ^ n) : p < 256 := Nat.lt_of_lt_of_le hp (Nat.le_trans (Nat.pow_le_pow_right (by decide) hn) (by decide : (2 : Nat) ^ 8 ≤ 256))
/-! ### What is right, and what covers -/
def outsB (o : BitVec 8) (k : Nat) : Bool := decide (o ≠ 0) && decide (o.toNat / 2 ^ k = 0)
def rwB (x : Rw) (i : Int) (k : Nat) : Bool := outsB x.o k && rightB x.m x.v i
/-- Of one output: on within may, may within all points. -/
def sideB (s : Sp) (j : Nat) : Bool := decide (s.on.getD j 0 &&& ~~~(s.may.getD j 0) = 0) && decide (s.may.getD j 0 &&& ~~~(allB s.i.toNat) = 0)
def headS (s : Sp) : Bool := decide (0 ≤ s.i) && decide (s.i ≤ 8) && (decide (1 ≤ s.on.length) && decide (s.on.length ≤ 4)) && decide (s.on.length = s.may.length)
def spB (s : Sp) : Bool := headS s && (List.range s.on.length).all (sideB s)
theorem headS_iff (s : Sp) : headS s = true ↔ (0 ≤ s.i ∧ s.i ≤ 8) ∧ (1 ≤ s.on.length ∧ s.on.length ≤ 4) ∧ s.on.length = s.may.length := by
  unfold headS; simp [and_assoc]
theorem range_all {n : Nat} {P : Nat → Bool} : (List.range n).all P = true ↔ ∀ j, j < n → P j = true := by
  simp [List.all_eq_true]
theorem range_not {n j : Nat} {P : Nat → Bool} (h : j < n) (hp : P j = false) : (List.range n).all P = false := by
  rw [List.all_eq_false]
  exact ⟨j, by simpa using h, by simp [hp]⟩

end Go.Proofs.YtehpccanjlaokaaGreat
namespace Go.Proofs.YtehpccanjlaokaaGreat
open Go.RowKit Go.Joins

end Go.Proofs.YtehpccanjlaokaaGreat
namespace Go.Proofs.YtehpccanjlaokaaGreat
open Go.RowKit Go.Joins

end Go.Proofs.YtehpccanjlaokaaGreat
namespace Go.Proofs.YtehpccanjlaokaaGreat
open Go.RowKit Go.Joins

theorem spB_head {s : Sp} (h : headS s = false) : spB s = false := by unfold spB; rw [h]; rfl
theorem spB_all {s : Sp} (h : headS s = true) (ha : ∀ j, j < s.on.length → sideB s j = true) : spB s = true := by
  unfold spB; rw [h, Bool.true_and]; exact range_all.2 ha
theorem spB_not {s : Sp} {j : Nat} (hj : j < s.on.length) (h : sideB s j = false) : spB s = false := by
  unfold spB; rw [range_not hj h, Bool.and_false]
set_option maxHeartbeats 1000000 in
set_option maxRecDepth 100000 in
theorem sright_in (i : Int) (A C : Value) (on may : List (BitVec 256)) (w : World) (hA : SetsAt w w.heap.size A on) (hC : SetsAt w w.heap.size C may) (hi : i < 0 ∨ 8 < i) :
    Calls Tryz.prog 22 #[spv i A C] w fun e w' => e = .returned (.bool false) ∧ Below w.heap.size w w' := by
  have HN := fun w => all_no i hi w
  obtain ⟨A, ac, rfl, -, -⟩ := hA
  obtain ⟨C, cc, rfl, -, -⟩ := hC
  unfold spv sv wv at *
  go_enter Tryz.func22, Tryz.ntmps22
  go_wp2_with fail
  refine (HN _).mono ?_
  rintro e w1 ⟨rfl, hb1⟩
  go_wp2
  go_ret
  exact ⟨rfl, ((below_alloc1 w _).trans (hb1.mono (by simp))).alloc (by have := hb1.size; simp at this; omega) _⟩
set_option maxHeartbeats 1000000 in
set_option maxRecDepth 100000 in
theorem sright_len (i : Nat) (A C : Value) (on may : List (BitVec 256)) (w : World) (hA : SetsAt w w.heap.size A on) (hC : SetsAt w w.heap.size C may) (hi : i ≤ 8) (hl : on.length < 1 ∨ 4 < on.length ∨ (1 ≤ on.length ∧ on.length ≤ 4 ∧ on.length ≠ may.length)) :
    Calls Tryz.prog 22 #[spv i A C] w fun e w' => e = .returned (.bool false) ∧ Below w.heap.size w w' := by
  have HN := fun w => all_any i hi w
  obtain ⟨A, ac, rfl, la, -⟩ := hA
  obtain ⟨C, cc, rfl, lc, -⟩ := hC
  unfold spv sv wv at *
  have hl' : (on.length : Int) < 1 ∨ (1 ≤ (on.length : Int) ∧ 4 < (on.length : Int)) ∨ (1 ≤ (on.length : Int) ∧ (on.length : Int) ≤ 4 ∧ (((on.length : Nat) : Int) != ((may.length : Nat) : Int)) = true) := by
    rw [bne_iff_ne]; omega
  clear hl
  rcases hl' with h | ⟨h1, h⟩ | ⟨h1, h2, h⟩
  all_goals
    go_enter Tryz.func22, Tryz.ntmps22
    go_wp2_with fail
    refine (HN _).mono ?_
    rintro e w1 ⟨rfl, hb1⟩
    have hs1 := keep_blk hb1 (heap_alloc_new w (.cells #[Value.int IntKind.i64 i, .slice A on.length ac, .slice C may.length cc] 24 (0, 0)))
    have hz1 := size_of_block hs1
    have hs2 := fun o => keep_alloc (x := o) hs1
    have d1 := fun o => (now3 (hs2 o) rfl).2.1
    have d2 := fun o => (now3 (hs2 o) rfl).2.2.1
    go_wp2
    go_ret
    exact ⟨rfl, ((below_alloc1 w _).trans (hb1.mono (by simp))).alloc (by have := hb1.size; simp at this; omega) _⟩
set_option maxHeartbeats 2000000 in
set_option maxRecDepth 100000 in
theorem sright_good (i : Nat) (A C : Value) (on may : List (BitVec 256)) (w : World) (hA : SetsAt w w.heap.size A on) (hC : SetsAt w w.heap.size C may) (hi : i ≤ 8) (h1 : 1 ≤ on.length) (h4 : on.length ≤ 4) (he : on.length = may.length) :
    Calls Tryz.prog 22 #[spv i A C] w fun e w' => e = .returned (.bool (spB ⟨i, on, may⟩)) ∧ Below w.heap.size w w' := by
  have HN := fun w => all_any i hi w
  have hyes := Lib.hid (spB_all (s := ⟨i, on, may⟩) ((headS_iff _).2 ⟨⟨Int.natCast_nonneg _, by show (i : Int) ≤ 8; omega⟩, ⟨h1, h4⟩, he⟩))
  have hno := Lib.hid (fun j hj h => spB_not (s := ⟨i, on, may⟩) (j := j) hj h)
  have hside : Hid (∀ j X Y, on[j]? = some X → may[j]? = some Y → sideB ⟨i, on, may⟩ j = (decide (X &&& ~~~Y = 0) && decide (Y &&& ~~~(allB i) = 0))) := Lib.hid (by
    intro j X Y hX hY
    unfold sideB
    simp only [getD_of hX, getD_of hY, Int.toNat_natCast])
  generalize allB i = all at *
  generalize spB ⟨i, on, may⟩ = R at *
  obtain ⟨A, ac, rfl, la, hA⟩ := hA
  obtain ⟨C, cc, rfl, lc, hC⟩ := hC
  have h1' : ¬ (on.length : Int) < 1 := by omega
  have h4' : ¬ 4 < (on.length : Int) := by omega
  have he' : (((on.length : Nat) : Int) != ((may.length : Nat) : Int)) = false := by rw [he]; simp
  have heN := Lib.hid he
  unfold spv at *
  unfold sv at HN
  clear h1 h4 he
  go_enter Tryz.func22, Tryz.ntmps22
  go_wp2_with fail
  refine (HN _).mono ?_
  rintro e w1 ⟨rfl, hb1⟩
  have hs1 := keep_blk hb1 (heap_alloc_new w (.cells #[Value.int IntKind.i64 i, .slice A on.length ac, .slice C may.length cc] 24 (0, 0)))
  have hB1 := (below_alloc1 w (.cells #[Value.int IntKind.i64 i, .slice A on.length ac, .slice C may.length cc] 24 (0, 0))).trans (hb1.mono (by simp))
  have hz1 := size_of_block hs1
  have hs2 := fun o => keep_alloc (x := o) hs1
  have d1 := fun o => (now3 (hs2 o) rfl).2.1
  have d2 := fun o => (now3 (hs2 o) rfl).2.2.1
  clear HN hb1
  have hal := heap_alloc_new w1 (.cells #[wv (wd all 0), wv (wd all 1), wv (wd all 2), wv (wd all 3)] 51 (0, 0))
  have hB2 := hB1.alloc (by omega) (.cells #[wv (wd all 0), wv (wd all 1), wv (wd all 2), wv (wd all 3)] 51 (0, 0))
  have hs2' := hs2 (.cells #[wv (wd all 0), wv (wd all 1), wv (wd all 2), wv (wd all 3)] 51 (0, 0))
  generalize hb1d : w1.heap.size = bl at *
  unfold wv at *
  go_wp2
  go_loopw [5, 6, 39] (fun _ _ t wr => ∃ j : Nat, j ≤ may.length ∧ t = .int .i64 j ∧ Hid (∀ q, q < j → sideB ⟨i, on, may⟩ q = true) ∧ Below w.heap.size w wr ∧ wr.heap[w.heap.size]? = some (.cells #[Value.int IntKind.i64 i, .slice A on.length ac, .slice C may.length cc] 24 (0, 0)) ∧
    wr.heap[bl]? = some (.cells #[.int .u64 (wd all 0).toNat, .int .u64 (wd all 1).toNat, .int .u64 (wd all 2).toNat, .int .u64 (wd all 3).toNat] 51 (0, 0))) (fun _ _ t _ => may.length - (intOf t).toNat)
  case atStart => exact ⟨0, by omega, rfl, Lib.hid (fun q hq => by omega), hB2, hs2', hal⟩
  case round =>
    clear hB2 hs2' hal hs1 hs2 d1 d2 hB1
    obtain ⟨j, hj, rfl, hH, hb, hsp, hal⟩ := hrel
    by_cases hlt : j < may.length
    · obtain ⟨b, off, rfl, hBb, hc⟩ := hA (by omega)
      obtain ⟨b2, off2, rfl, hBb2, hc2⟩ := hC (by omega)
      obtain ⟨X, hX⟩ : ∃ X, on[j]? = some X := ⟨_, List.getElem?_eq_getElem (by rw [heN.out]; exact hlt)⟩
      obtain ⟨Y, hY⟩ : ∃ Y, may[j]? = some Y := ⟨_, List.getElem?_eq_getElem hlt⟩
      obtain ⟨x0, x1, x2, x3⟩ := hc j X hX
      obtain ⟨y0, y1, y2, y3⟩ := hc2 j Y hY
      have hsd := Lib.hid (hside.out j X Y hX hY)
      have u0 := (hb.cell (p := ⟨b, off + j * 4, none⟩) hBb).trans x0
      have u1 := (hb.cell (p := ⟨b, off + j * 4 + 1, none⟩) hBb).trans x1
      have u2 := (hb.cell (p := ⟨b, off + j * 4 + 2, none⟩) hBb).trans x2
      have u3 := (hb.cell (p := ⟨b, off + j * 4 + 3, none⟩) hBb).trans x3
      have v0 := (hb.cell (p := ⟨b2, off2 + j * 4, none⟩) hBb2).trans y0
      have v1 := (hb.cell (p := ⟨b2, off2 + j * 4 + 1, none⟩) hBb2).trans y1
      have v2 := (hb.cell (p := ⟨b2, off2 + j * 4 + 2, none⟩) hBb2).trans y2
      have v3 := (hb.cell (p := ⟨b2, off2 + j * 4 + 3, none⟩) hBb2).trans y3
      clear hc hc2 hX hY x0 x1 x2 x3 y0 y1 y2 y3 hA hC
      unfold wv at *
      have HW1 := fun w => within_any X Y w
      have HW2 := fun w => within_any Y all w
      unfold sv wv at HW1 HW2
      have hjo : j < on.length := by rw [heN.out]; exact hlt
      cases e1 : decide (X &&& ~~~Y = 0)
      · rw [e1] at HW1
        have hR := Lib.hid (hno.out j hjo (by rw [hsd.out, e1]; rfl))
        clear e1 hsd hno hyes
        go_upto_region 7 with (fail)
        have hsp2 := keep_alloc (x := .cells #[.int .u64 (wd Y 0).toNat, .int .u64 (wd Y 1).toNat, .int .u64 (wd Y 2).toNat, .int .u64 (wd Y 3).toNat] 51 (0, 0)) hsp
        have hal2 := keep_alloc (x := .cells #[.int .u64 (wd Y 0).toNat, .int .u64 (wd Y 1).toNat, .int .u64 (wd Y 2).toNat, .int .u64 (wd Y 3).toNat] 51 (0, 0)) hal
        have hbY := heap_alloc_new wr (.cells #[.int .u64 (wd Y 0).toNat, .int .u64 (wd Y 1).toNat, .int .u64 (wd Y 2).toNat, .int .u64 (wd Y 3).toNat] 51 (0, 0))
        have hB3 := hb.alloc hb.size (.cells #[.int .u64 (wd Y 0).toNat, .int .u64 (wd Y 1).toNat, .int .u64 (wd Y 2).toNat, .int .u64 (wd Y 3).toNat] 51 (0, 0))
        have t0 := (World.cell?_alloc_lt wr (.cells #[.int .u64 (wd Y 0).toNat, .int .u64 (wd Y 1).toNat, .int .u64 (wd Y 2).toNat, .int .u64 (wd Y 3).toNat] 51 (0, 0)) _ (block_lt_of_cell u0)).trans u0
        have t1 := (World.cell?_alloc_lt wr (.cells #[.int .u64 (wd Y 0).toNat, .int .u64 (wd Y 1).toNat, .int .u64 (wd Y 2).toNat, .int .u64 (wd Y 3).toNat] 51 (0, 0)) _ (block_lt_of_cell u1)).trans u1
        have t2 := (World.cell?_alloc_lt wr (.cells #[.int .u64 (wd Y 0).toNat, .int .u64 (wd Y 1).toNat, .int .u64 (wd Y 2).toNat, .int .u64 (wd Y 3).toNat] 51 (0, 0)) _ (block_lt_of_cell u2)).trans u2
        have t3 := (World.cell?_alloc_lt wr (.cells #[.int .u64 (wd Y 0).toNat, .int .u64 (wd Y 1).toNat, .int .u64 (wd Y 2).toNat, .int .u64 (wd Y 3).toNat] 51 (0, 0)) _ (block_lt_of_cell u3)).trans u3
        generalize hW : wr.alloc (.cells #[.int .u64 (wd Y 0).toNat, .int .u64 (wd Y 1).toNat, .int .u64 (wd Y 2).toNat, .int .u64 (wd Y 3).toNat] 51 (0, 0)) = W at *
        generalize hzr : wr.heap.size = br at *
        clear hW u0 u1 u2 u3 v0 v1 v2 v3 hsp hal hb
        obtain ⟨Y0, Y1, Y2, Y3, -⟩ := box4 hbY rfl
        obtain ⟨L0, L1, L2, L3, -⟩ := box4 hal2 rfl
        obtain ⟨S0, S1, S2, -⟩ := box3 hsp2 rfl
        have T0 := fun x : After W => After.cell x t0
        have T1 := fun x : After W => After.cell x t1
        have T2 := fun x : After W => After.cell x t2
        have T3 := fun x : After W => After.cell x t3
        refine wp_region_after (by kernel_rfl) (by kernel_rfl) ?_
        repeat (first | go_big_quiet_step ((first | (go_at_call_of 43 (Value.agg #[.int .u64 (wd X 0).toNat, .int .u64 (wd X 1).toNat, .int .u64 (wd X 2).toNat, .int .u64 (wd X 3).toNat]); exact Calls.after_of (HW1 _)) | (go_at_call_of 43 (Value.agg #[.int .u64 (wd Y 0).toNat, .int .u64 (wd Y 1).toNat, .int .u64 (wd Y 2).toNat, .int .u64 (wd Y 3).toNat]); exact Calls.after_of (HW2 _)))))
        refine wpQuiet_nil ?_
        intro x
        clear T0 T1 T2 T3 t0 t1 t2 t3 Y0 Y1 Y2 Y3 L0 L1 L2 L3 S0 S1 S2 HW1 HW2 hside
        go_wp2
        go_ret
        exact ⟨by rw [hR.out]; rfl, hB3.trans (x.2.mono hB3.size)⟩
      · rw [e1] at HW1
        cases e2 : decide (Y &&& ~~~all = 0)
        · rw [e2] at HW2
          have hR := Lib.hid (hno.out j hjo (by rw [hsd.out, e1, e2]; rfl))
          clear e1 e2 hsd hno hyes
          go_upto_region 7 with (fail)
          have hsp2 := keep_alloc (x := .cells #[.int .u64 (wd Y 0).toNat, .int .u64 (wd Y 1).toNat, .int .u64 (wd Y 2).toNat, .int .u64 (wd Y 3).toNat] 51 (0, 0)) hsp
          have hal2 := keep_alloc (x := .cells #[.int .u64 (wd Y 0).toNat, .int .u64 (wd Y 1).toNat, .int .u64 (wd Y 2).toNat, .int .u64 (wd Y 3).toNat] 51 (0, 0)) hal
          have hbY := heap_alloc_new wr (.cells #[.int .u64 (wd Y 0).toNat, .int .u64 (wd Y 1).toNat, .int .u64 (wd Y 2).toNat, .int .u64 (wd Y 3).toNat] 51 (0, 0))
          have hB3 := hb.alloc hb.size (.cells #[.int .u64 (wd Y 0).toNat, .int .u64 (wd Y 1).toNat, .int .u64 (wd Y 2).toNat, .int .u64 (wd Y 3).toNat] 51 (0, 0))
          have t0 := (World.cell?_alloc_lt wr (.cells #[.int .u64 (wd Y 0).toNat, .int .u64 (wd Y 1).toNat, .int .u64 (wd Y 2).toNat, .int .u64 (wd Y 3).toNat] 51 (0, 0)) _ (block_lt_of_cell u0)).trans u0
          have t1 := (World.cell?_alloc_lt wr (.cells #[.int .u64 (wd Y 0).toNat, .int .u64 (wd Y 1).toNat, .int .u64 (wd Y 2).toNat, .int .u64 (wd Y 3).toNat] 51 (0, 0)) _ (block_lt_of_cell u1)).trans u1
          have t2 := (World.cell?_alloc_lt wr (.cells #[.int .u64 (wd Y 0).toNat, .int .u64 (wd Y 1).toNat, .int .u64 (wd Y 2).toNat, .int .u64 (wd Y 3).toNat] 51 (0, 0)) _ (block_lt_of_cell u2)).trans u2
          have t3 := (World.cell?_alloc_lt wr (.cells #[.int .u64 (wd Y 0).toNat, .int .u64 (wd Y 1).toNat, .int .u64 (wd Y 2).toNat, .int .u64 (wd Y 3).toNat] 51 (0, 0)) _ (block_lt_of_cell u3)).trans u3
          generalize hW : wr.alloc (.cells #[.int .u64 (wd Y 0).toNat, .int .u64 (wd Y 1).toNat, .int .u64 (wd Y 2).toNat, .int .u64 (wd Y 3).toNat] 51 (0, 0)) = W at *
          generalize hzr : wr.heap.size = br at *
          clear hW u0 u1 u2 u3 v0 v1 v2 v3 hsp hal hb
          obtain ⟨Y0, Y1, Y2, Y3, -⟩ := box4 hbY rfl
          obtain ⟨L0, L1, L2, L3, -⟩ := box4 hal2 rfl
          obtain ⟨S0, S1, S2, -⟩ := box3 hsp2 rfl
          have T0 := fun x : After W => After.cell x t0
          have T1 := fun x : After W => After.cell x t1
          have T2 := fun x : After W => After.cell x t2
          have T3 := fun x : After W => After.cell x t3
          refine wp_region_after (by kernel_rfl) (by kernel_rfl) ?_
          repeat (first | go_big_quiet_step ((first | (go_at_call_of 43 (Value.agg #[.int .u64 (wd X 0).toNat, .int .u64 (wd X 1).toNat, .int .u64 (wd X 2).toNat, .int .u64 (wd X 3).toNat]); exact Calls.after_of (HW1 _)) | (go_at_call_of 43 (Value.agg #[.int .u64 (wd Y 0).toNat, .int .u64 (wd Y 1).toNat, .int .u64 (wd Y 2).toNat, .int .u64 (wd Y 3).toNat]); exact Calls.after_of (HW2 _)))))
          refine wpQuiet_nil ?_
          intro x
          clear T0 T1 T2 T3 t0 t1 t2 t3 Y0 Y1 Y2 Y3 L0 L1 L2 L3 S0 S1 S2 HW1 HW2 hside
          go_wp2
          go_ret
          exact ⟨by rw [hR.out]; rfl, hB3.trans (x.2.mono hB3.size)⟩
        · rw [e2] at HW2
          have hR := Lib.hid (show sideB ⟨i, on, may⟩ j = true by rw [hsd.out, e1, e2]; rfl)
          clear e1 e2 hsd hno hyes
          go_upto_region 7 with (fail)
          have hsp2 := keep_alloc (x := .cells #[.int .u64 (wd Y 0).toNat, .int .u64 (wd Y 1).toNat, .int .u64 (wd Y 2).toNat, .int .u64 (wd Y 3).toNat] 51 (0, 0)) hsp
          have hal2 := keep_alloc (x := .cells #[.int .u64 (wd Y 0).toNat, .int .u64 (wd Y 1).toNat, .int .u64 (wd Y 2).toNat, .int .u64 (wd Y 3).toNat] 51 (0, 0)) hal
          have hbY := heap_alloc_new wr (.cells #[.int .u64 (wd Y 0).toNat, .int .u64 (wd Y 1).toNat, .int .u64 (wd Y 2).toNat, .int .u64 (wd Y 3).toNat] 51 (0, 0))
          have hB3 := hb.alloc hb.size (.cells #[.int .u64 (wd Y 0).toNat, .int .u64 (wd Y 1).toNat, .int .u64 (wd Y 2).toNat, .int .u64 (wd Y 3).toNat] 51 (0, 0))
          have t0 := (World.cell?_alloc_lt wr (.cells #[.int .u64 (wd Y 0).toNat, .int .u64 (wd Y 1).toNat, .int .u64 (wd Y 2).toNat, .int .u64 (wd Y 3).toNat] 51 (0, 0)) _ (block_lt_of_cell u0)).trans u0
          have t1 := (World.cell?_alloc_lt wr (.cells #[.int .u64 (wd Y 0).toNat, .int .u64 (wd Y 1).toNat, .int .u64 (wd Y 2).toNat, .int .u64 (wd Y 3).toNat] 51 (0, 0)) _ (block_lt_of_cell u1)).trans u1
          have t2 := (World.cell?_alloc_lt wr (.cells #[.int .u64 (wd Y 0).toNat, .int .u64 (wd Y 1).toNat, .int .u64 (wd Y 2).toNat, .int .u64 (wd Y 3).toNat] 51 (0, 0)) _ (block_lt_of_cell u2)).trans u2
          have t3 := (World.cell?_alloc_lt wr (.cells #[.int .u64 (wd Y 0).toNat, .int .u64 (wd Y 1).toNat, .int .u64 (wd Y 2).toNat, .int .u64 (wd Y 3).toNat] 51 (0, 0)) _ (block_lt_of_cell u3)).trans u3
          generalize hW : wr.alloc (.cells #[.int .u64 (wd Y 0).toNat, .int .u64 (wd Y 1).toNat, .int .u64 (wd Y 2).toNat, .int .u64 (wd Y 3).toNat] 51 (0, 0)) = W at *
          generalize hzr : wr.heap.size = br at *
          clear hW u0 u1 u2 u3 v0 v1 v2 v3 hsp hal hb
          obtain ⟨Y0, Y1, Y2, Y3, -⟩ := box4 hbY rfl
          obtain ⟨L0, L1, L2, L3, -⟩ := box4 hal2 rfl
          obtain ⟨S0, S1, S2, -⟩ := box3 hsp2 rfl
          have T0 := fun x : After W => After.cell x t0
          have T1 := fun x : After W => After.cell x t1
          have T2 := fun x : After W => After.cell x t2
          have T3 := fun x : After W => After.cell x t3
          refine wp_region_after (by kernel_rfl) (by kernel_rfl) ?_
          repeat (first | go_big_quiet_step ((first | (go_at_call_of 43 (Value.agg #[.int .u64 (wd X 0).toNat, .int .u64 (wd X 1).toNat, .int .u64 (wd X 2).toNat, .int .u64 (wd X 3).toNat]); exact Calls.after_of (HW1 _)) | (go_at_call_of 43 (Value.agg #[.int .u64 (wd Y 0).toNat, .int .u64 (wd Y 1).toNat, .int .u64 (wd Y 2).toNat, .int .u64 (wd Y 3).toNat]); exact Calls.after_of (HW2 _)))))
          refine wpQuiet_nil ?_
          intro x
          clear T0 T1 T2 T3 t0 t1 t2 t3 Y0 Y1 Y2 Y3 L0 L1 L2 L3 S0 S1 S2 HW1 HW2 hside
          go_wp2
          go_roundw
          case rel => exact ⟨j + 1, by omega, by go_num, Lib.hid (fun q hq => by
            by_cases e : q = j
            · subst e; exact hR.out
            · exact hH.out q (by omega)), hB3.trans (x.2.mono hB3.size), x.same hsp2, x.same hal2⟩
          case measure => simp [intOf]; omega
    · have e : j = may.length := by omega
      have hR := Lib.hid (hyes.out (fun q hq => hH.out q (by have := heN.out; omega)))
      clear hyes hno hside hA hC
      go_wp2
      go_ret
      exact ⟨by rw [hR.out]; rfl, hb⟩
theorem sright_any (i : Int) (A C : Value) (on may : List (BitVec 256)) (w : World) (hA : SetsAt w w.heap.size A on) (hC : SetsAt w w.heap.size C may) :
    Calls Tryz.prog 22 #[spv i A C] w fun e w' => e = .returned (.bool (spB ⟨i, on, may⟩)) ∧ Below w.heap.size w w' := by
  by_cases hi : i < 0 ∨ 8 < i
  · rw [spB_head (s := ⟨i, on, may⟩) (Bool.eq_false_iff.2 fun h => by have := ((headS_iff _).1 h).1; simp only at this; omega)]
    exact sright_in i A C on may w hA hC hi
  · obtain ⟨k, rfl⟩ := Int.eq_ofNat_of_zero_le (show 0 ≤ i by omega)
    by_cases hl : on.length < 1 ∨ 4 < on.length ∨ (1 ≤ on.length ∧ on.length ≤ 4 ∧ on.length ≠ may.length)
    · rw [spB_head (s := ⟨k, on, may⟩) (Bool.eq_false_iff.2 fun h => by have := ((headS_iff _).1 h).2; simp only at this; omega)]
      exact sright_len k A C on may w hA hC (by omega) hl
    · exact sright_good k A C on may w hA hC (by omega) (by omega) (by omega) (by omega)
end Go.Proofs.YtehpccanjlaokaaGreat
namespace Go.Proofs.YtehpccanjlaokaaGreat
open Go.RowKit Go.Joins

theorem bit8_any (x : BitVec 8) (i : Nat) (hi : i < 8) (w : World) :
    Calls Tryz.prog 73 #[bvv x, .int .i64 i] w fun e w' => e = .returned (.bool (x.getLsbD i)) ∧ w = w' := by
  have HB := fun w => bit_any x.toNat i (by omega) hi w
  have hm := bit_mod x i
  have hw : wrap64 (x.toNat : Int) = x.toNat := by unfold wrap64; omega
  unfold bvv
  cases hb : x.getLsbD i
  · rw [hm, hb] at HB
    clear hm
    go_enter Tryz.func73, Tryz.ntmps73
    go_wp2_with (go_at_call 109; refine (HB _).mono ?_; rintro e w' ⟨rfl, rfl⟩)
    go_ret
    exact ⟨rfl, rfl⟩
  · rw [hm, hb] at HB
    clear hm
    go_enter Tryz.func73, Tryz.ntmps73
    go_wp2_with (go_at_call 109; refine (HB _).mono ?_; rintro e w' ⟨rfl, rfl⟩)
    go_ret
    exact ⟨rfl, rfl⟩
end Go.Proofs.YtehpccanjlaokaaGreat
namespace Go.Proofs.YtehpccanjlaokaaGreat
open Go.RowKit Go.Joins

theorem rpower11_any (n : Nat) (hn : n ≤ 20) (w : World) :
    Calls Tryz.prog 72 #[.int .i64 n] w fun e w' => e = .returned (.int .i64 ((2 ^ n : Nat) : Int)) ∧ w = w' := by
  have hp2 : ∀ k, Hid (2 ^ (k + 1) = 2 ^ k * 2) := fun k => Lib.hid (Nat.pow_succ 2 k)
  have hple : ∀ k, k ≤ n → Hid (2 ^ k ≤ 1048576) := fun k hk => Lib.hid (Nat.le_trans (Nat.pow_le_pow_right (by decide) (by omega : k ≤ 20)) (by decide : (2 : Nat) ^ 20 ≤ 1048576))
  go_enter Tryz.func72, Tryz.ntmps72
  go_wp2
  go_loopw [3, 4] (fun p t wr => ∃ k : Nat, k ≤ n ∧ t = .int .i64 k ∧ p = .int .i64 ((2 ^ k : Nat) : Int) ∧ w = wr) (fun _ t _ => n - (intOf t).toNat)
  case atStart => exact ⟨0, by omega, rfl, rfl, rfl⟩
  case round =>
    obtain ⟨k, hk, rfl, rfl, rfl⟩ := hrel
    by_cases hki : k < n
    · have hp := hp2 k
      have h24 := (hple (k + 1) (by omega)).out
      clear hp2 hple
      generalize hq : 2 ^ (k + 1) = q at *
      generalize 2 ^ k = p at *
      have hpq := hp.out
      have hqH := Lib.hid hq
      clear hq
      go_wp2
      go_roundw
      case rel => exact ⟨k + 1, by omega, by go_num, by rw [hqH.out, hp.out]; go_num, trivial⟩
      case measure => simp [intOf]; omega
    · obtain rfl : k = n := by omega
      clear hp2 hple
      generalize hP : 2 ^ k = p at *
      have hPH := Lib.hid hP
      clear hP
      go_wp2
      go_ret
      exact ⟨by rw [hPH.out]; rfl, rfl⟩
/-- The box of a row. -/
def rwO (x : Rw) : Obj := .cells #[.int .u8 x.m.toNat, .int .u8 x.v.toNat, .int .u8 x.o.toNat] 59 (0, 0)
set_option maxHeartbeats 2000000 in
set_option maxRecDepth 100000 in
theorem rmember11_any (x : Rw) (w : World) :
    Calls Tryz.prog 38 #[rwv x] w fun e w' => e = .returned (.int .i64 (memB x.m x.v x.o)) ∧ Below w.heap.size w w' := by
  have HL := fun w => lits_any x.m x.v w
  have HP := fun n hn w => rpower11_any n hn w
  have HB := fun j (hj : j < 4) w => bit8_any x.o j (by omega) w
  have hx := heap_alloc_new w (rwO x)
  have hb := below_alloc1 w (rwO x)
  have hst := Lib.hid (fun i (hi : i < 8) => mb_step x.m x.v x.o hi)
  have hso := Lib.hid (fun j (hj : j < 4) => mb_out x.m x.v x.o hj)
  have hlt := Lib.hid (fun k (hk : k ≤ 20) => Nat.lt_of_lt_of_le (wsum_lt (mbF x.m x.v x.o) k) (Nat.pow_le_pow_right (by decide : 0 < 2) hk))
  have hll := Lib.hid (fun i => lit_le x.m x.v i)
  unfold rwv rwO cv bvv memB at *
  generalize mbF x.m x.v x.o = F at *
  go_enter Tryz.func38, Tryz.ntmps38
  go_upto_region 2 with (fail)
  generalize w.alloc _ = W at *
  obtain ⟨x0, x1, x2, -⟩ := now3 hx rfl
  go_wp2_with fail
  refine (HL _).mono ?_
  rintro e w1 ⟨lb1, lc1, rfl, hlb, hL, hb1⟩
  have hx1 := keep_blk hb1 hx
  have hB := hb.trans (hb1.mono hb.size)
  clear HL x0 x1 x2 hx hb hb1
  go_wp2_with fail
  go_loopw [3, 5] (fun s t wr => ∃ i A : Nat, i ≤ 8 ∧ t = .int .i64 i ∧ s = .int .i64 A ∧ Hid (A = wsum F (2 * i)) ∧ w1 = wr) (fun _ t _ => 8 - (intOf t).toNat)
  case atStart => exact ⟨0, 0, by omega, rfl, rfl, Lib.hid rfl, rfl⟩
  case round =>
    obtain ⟨i, A, hi, rfl, rfl, hA, rfl⟩ := hrel
    by_cases h8 : i < 8
    · have hc := hL.2 i h8
      have h1 := Lib.hid (hst.out i h8)
      have h2 := hll.out i
      have h3 := hlt.out (2 * (i + 1)) (by omega)
      have d1 : decide ((i : Int) < 8) = true := decide_eq_true (by omega)
      have i0 : ¬ (i : Int) < 0 := by omega
      clear hst hso hll hlt HB
      generalize lit x.m x.v i = L at *
      by_cases hL2 : L = 2
      · subst hL2
        have h5 : Hid (A = wsum F (2 * (i + 1))) := Lib.hid (by rw [h1.out, if_pos rfl, ← hA.out]; rfl)
        clear HP h2 h3 h1 hA
        go_wp2
        go_roundw
        case rel => exact ⟨i + 1, A, by omega, by go_num, rfl, h5, by simp⟩
        case measure => simp [intOf]; omega
      · have HPn : ∀ w, Calls Tryz.prog 72 #[.int .i64 (2 * (i : Int) + (L : Int))] w fun e w' => e = .returned (.int .i64 ((2 ^ (2 * i + L) : Nat) : Int)) ∧ w = w' := fun w => by
          have := HP (2 * i + L) (by omega) w
          rwa [show ((2 * i + L : Nat) : Int) = 2 * (i : Int) + (L : Int) by omega] at this
        have hd : ((L : Int) != 2) = true := by simp; omega
        have h5 : Hid (A + 2 ^ (2 * i + L) = wsum F (2 * (i + 1))) := Lib.hid (by rw [h1.out, if_neg hL2, ← hA.out])
        have h6 : A + 2 ^ (2 * i + L) < 1048576 := by rw [h5.out]; exact h3
        generalize 2 ^ (2 * i + L) = p at *
        clear HP h3 h1 hA
        go_wp2_with fail
        refine (HPn _).mono ?_
        rintro e w2 ⟨rfl, rfl⟩
        clear HPn
        go_wp2
        go_roundw
        case rel => exact ⟨i + 1, A + p, by omega, by go_num, by go_num, h5, by simp⟩
        case measure => simp [intOf]; omega
    · have hA8 : Hid (A = wsum F (16 + 0)) := Lib.hid (by rw [hA.out]; congr 1; omega)
      have d1 : decide ((i : Int) < 8) = false := decide_eq_false (by omega)
      clear hst hll hL hA
      go_wp2_with fail
      go_loopw [3, 6] (fun s t wr => ∃ j A : Nat, j ≤ 4 ∧ t = .int .i64 j ∧ s = .int .i64 A ∧ Hid (A = wsum F (16 + j)) ∧ w1 = wr) (fun _ t _ => 4 - (intOf t).toNat)
      case atStart => exact ⟨0, A, by omega, rfl, rfl, hA8, rfl⟩
      case round =>
        clear hA8
        obtain ⟨j, A, hj, rfl, rfl, hA, rfl⟩ := hrel
        by_cases h4 : j < 4
        · have hst := Lib.hid (hso.out j h4)
          have h3 := hlt.out (16 + (j + 1)) (by omega)
          have HBj := fun w => HB j h4 w
          have d1 : decide ((j : Int) < 4) = true := decide_eq_true (by omega)
          obtain ⟨x0, x1, x2, -⟩ := now3 hx1 rfl
          clear hso hlt HB
          go_wp2_with fail
          refine (HBj _).mono ?_
          rintro e w2 ⟨rfl, rfl⟩
          clear HBj x0 x1 x2
          cases hb : x.o.getLsbD j
          · have h5 : Hid (A = wsum F (16 + (j + 1))) := Lib.hid (by rw [hst.out, hb, if_neg (by decide), ← hA.out]; rfl)
            clear hst hA HP h3
            go_wp2
            go_roundw
            case rel => exact ⟨j + 1, A, by omega, by go_num, rfl, h5, by simp⟩
            case measure => simp [intOf]; omega
          · have h5 : Hid (A + 2 ^ (16 + j) = wsum F (16 + (j + 1))) := Lib.hid (by rw [hst.out, hb, if_pos rfl, ← hA.out])
            have h6 : A + 2 ^ (16 + j) < 1048576 := by rw [h5.out]; exact h3
            have HPn : ∀ w, Calls Tryz.prog 72 #[.int .i64 (16 + (j : Int))] w fun e w' => e = .returned (.int .i64 ((2 ^ (16 + j) : Nat) : Int)) ∧ w = w' := fun w => by
              have := HP (16 + j) (by omega) w
              rwa [show ((16 + j : Nat) : Int) = 16 + (j : Int) by omega] at this
            generalize 2 ^ (16 + j) = p at *
            clear hst hA HP h3
            go_wp2_with fail
            refine (HPn _).mono ?_
            rintro e w2 ⟨rfl, rfl⟩
            clear HPn
            go_wp2
            go_roundw
            case rel => exact ⟨j + 1, A + p, by omega, by go_num, by go_num, h5, by simp⟩
            case measure => simp [intOf]; omega
        · have hA4 : Hid (A = wsum F 20) := Lib.hid (by rw [hA.out]; congr 1; omega)
          have d2 : decide ((j : Int) < 4) = false := decide_eq_false (by omega)
          clear hso hlt HB HP hA
          go_wp2
          go_ret
          exact ⟨by rw [← hA4.out]; rfl, hB⟩
end Go.Proofs.YtehpccanjlaokaaGreat
