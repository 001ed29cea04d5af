/- A matrix that comes in. The table of powers lies where the three laid variables say. For CoverMore, plain: more columns, all of them, strange ones; and 'append(o, v...)' of numbers. -/
import Derived.Test.YtdfllifjbabfjaaDoorGD24
import Derived.Test.YtdfllifjbabfjaaDoorGD06
import Derived.Test.YtdfllifjbabfjaaDoorGD16
import Derived.Deep.Slices
import Derived.ChangeSlices
import Derived.Lib.LaidTab
import Derived.ProofKit
import Derived.LaidMore
import Derived.OpenShut
namespace Go.Proofs.YtdfllifjbabfjaaDoor
open Go.ChangeShapes Go.WideShapes Go.ChangeAt Go.RowKit Go.Joins

theorem Tryd.cellsMatrix : Tryd.prog.cellsOf 24 = 2 := by kernel_rfl
theorem Tryd.cellsRowM : Tryd.prog.cellsOf 25 = 1 := by kernel_rfl
theorem Tryd.cellsRowsM : Tryd.prog.cellsOf 22 = 1 := by kernel_rfl
set_option maxRecDepth 100000 in
theorem mat_of {H : Type} {enc : TypeId × Value → H} {w : World} {base m : Nat} {sp : Nat → Bool} {held : Bool} {c : Value} {y : DataW H × List MemPlace}
    (h : DataW.trod enc Tryd.prog w base sp held m 22 [c] = some y) : ∃ ls, MatAt w w.heap.size c ls := by
  rcases Go.Deep.open_slice Tryd.underlying22 h with ⟨e, _⟩ | ⟨a, len, cap, m, n, D, Pl, e, hb, hl, hm, hmm, hx, hel⟩
  · simp at e
    subst e
    exact ⟨[], none, 0, rfl, by decide, fun h => absurd h (by simp)⟩
  · simp at e
    subst e
    have hle : len ≤ m := by rw [hmm]; split <;> omega
    have hmx : maxLen = 9223372036854775807 := rfl
    have each : ∀ i, i < len → ∃ l : List Int, ∃ ov, w.cell? (a.add i) = some ov ∧ IntsAt w w.heap.size ov l := by
      intro i hi
      obtain ⟨cs, hcs, ht⟩ := hel i (by omega)
      rw [Tryd.cellsRowM] at hcs
      obtain ⟨_, hn, hat⟩ := World.cells?_some hcs
      match cs, hn with
      | [c0], _ =>
        have a0 := hat 0 (by decide)
        obtain ⟨o, ho⟩ := ints_of ht
        exact ⟨o, c0, by simpa [Addr.add] using a0, ho⟩
    obtain ⟨F, hF⟩ := Go.Deep.choose_lt each
    refine ⟨(List.range len).map F, some a, cap, by simp, by simp; omega, fun h0 => ?_⟩
    have hl0 : 0 < len := by simpa using h0
    obtain ⟨ov0, z0, -⟩ := hF 0 hl0
    obtain ⟨ea, hblk⟩ := plain_addr (by simpa using z0)
    refine ⟨a.block, a.off, congrArg some ea, hblk, fun j l hj => ?_⟩
    rw [List.getElem?_map] at hj
    obtain ⟨j', hj', rfl⟩ := Option.map_eq_some_iff.1 hj
    obtain ⟨hlt, e⟩ := List.getElem?_eq_some_iff.1 hj'
    have e' : j' = j := by simpa using e.symm
    subst e'
    obtain ⟨ov, q0, hi⟩ := hF j' (by simpa using hlt)
    rw [ea] at q0
    simp only [add_plain] at q0
    exact ⟨ov, q0, hi⟩
set_option maxRecDepth 100000 in
theorem open_matrix {H : Type} {enc : TypeId × Value → H} {w W : World} {r : Reach} {b0 base : Nat} {sp : Nat → Bool} {held : Bool} {v : Value} {d : DataW H} {p : List MemPlace}
    (hv : Value.okWide Tryd.prog W r b0 24 v) (h : DataW.Trod enc Tryd.prog w base sp held 24 v d p) : ∃ (n : Int) (L : Value) (ls : List (List Int)), v = mtv n L ∧ MatAt w w.heap.size L ls := by
  have hv' : ∃ cs, v = .agg cs ∧ cs.size = Tryd.prog.cellsOf 24 := by
    unfold Value.okWide at hv
    rw [Tryd.underlying24] at hv
    obtain ⟨cs, h1, h2, _⟩ := hv
    exact ⟨cs, h1, h2⟩
  obtain ⟨cs, rfl, hsz⟩ := hv'
  obtain ⟨c0, c1, rfl⟩ := array2 (hsz.trans Tryd.cellsMatrix)
  obtain ⟨fuel, hf⟩ := h
  obtain ⟨y0, y1, n, _, _, h0, h1⟩ := trod_struct2 Tryd.underlying24 hf
  simp only [Value.cells, List.drop_zero, Tryd.cellsInt, Tryd.cellsRowsM] at h0 h1
  obtain ⟨k, rfl⟩ := num_of h0
  obtain ⟨ls, hL⟩ := mat_of h1
  exact ⟨k, c1, ls, rfl, hL⟩
end Go.Proofs.YtdfllifjbabfjaaDoor
namespace Go.Proofs.YtdfllifjbabfjaaDoor
open Go.ChangeShapes Go.WideShapes Go.ChangeAt Go.RowKit Go.Joins

def laid3 : List (String × DataW Unit) := [("math/bits.deBruijn32tab", Rows.laid_math_bits_deBruijn32tab), ("math/bits.deBruijn64tab", Rows.laid_math_bits_deBruijn64tab), ("internal/strconv.uint64pow10", Rows.laid_internal_strconv_uint64pow10)]
set_option maxRecDepth 100000 in
theorem tab_of_laid {W : World} (h : laidMetH Tryd.prog laid3 W) : TabW W := by
  rw [MakeChecks.laidMetH_plain _ _ _ (by kernel_rfl)] at h
  obtain ⟨ps, ⟨g0, t0, cs0, f0, p0, q0, hg0, ht0, hv0, hd0, ⟨g1, t1, cs1, f1, p1, q1, hg1, ht1, hv1, hd1, ⟨g2, t2, cs2, f2, p2, q2, hg2, ht2, hv2, hd2, _, _⟩, _⟩, _⟩, _, _⟩ := h
  obtain rfl := Option.some.inj ((show Tryd.prog.globalNamed "internal/strconv.uint64pow10" = some 0 by kernel_rfl).symm.trans hg2)
  obtain rfl := Option.some.inj ((show (Tryd.prog.globals[0]?).map (·.type) = some 117 by kernel_rfl).symm.trans ht2)
  rw [show (Rows.laid_internal_strconv_uint64pow10 : DataW Unit) = Lib.tabData .u64 Lib.pow10Tab from rfl] at hd2
  unfold TabW Lib.TabIs
  rw [hv2, ← Lib.cells_of_tab Tryd.underlying117 Tryd.underlying32 (by kernel_rfl) (by kernel_rfl) hd2]
end Go.Proofs.YtdfllifjbabfjaaDoor
namespace Go.Proofs.YtdfllifjbabfjaaDoor
open Go.RowKit Go.Joins

theorem solves_more {ls : List (List Int)} {a b : List Int} (h : solvesM ls a = true) : solvesM ls (a ++ b) = true := by
  rw [solves_all] at h ⊢
  intro x hx
  obtain ⟨c, h1, h2⟩ := h x hx
  exact ⟨c, h1, List.mem_append_left _ h2⟩
theorem right_cols {n : Int} {ls : List (List Int)} (h : rightM n ls = true) {x : List Int} (hx : x ∈ ls) {c : Int} (hc : c ∈ x) : 0 ≤ c ∧ c < n := by
  unfold rightM at h
  rw [Bool.and_eq_true] at h
  have h2 := List.all_eq_true.1 h.2 x hx
  unfold rightR at h2
  rw [List.all_eq_true] at h2
  obtain ⟨k, hk, rfl⟩ := List.mem_iff_getElem.1 hc
  have h3 := h2 k (List.mem_range.2 hk)
  unfold okR at h3
  rw [Bool.and_eq_true, Bool.and_eq_true, decide_eq_true_iff, decide_eq_true_iff, getD_some (List.getElem?_eq_getElem hk)] at h3
  exact h3.1
theorem solves_every {n : Nat} {ls : List (List Int)} (h : rightM n ls = true) : solvesM ls ((List.range n).map fun c : Nat => (c : Int)) = ls.all fun x => decide (0 < x.length) := by
  rw [Bool.eq_iff_iff, solves_all, List.all_eq_true]
  constructor
  · intro H x hx
    obtain ⟨c, h1, -⟩ := H x hx
    exact decide_eq_true (List.length_pos_of_mem h1)
  · intro H x hx
    have h0 := of_decide_eq_true (H x hx)
    have hm := List.getElem_mem (l := x) h0
    obtain ⟨h1, h2⟩ := right_cols h hx hm
    refine ⟨x[0], hm, List.mem_map.2 ⟨x[0].toNat, List.mem_range.2 (by omega), by omega⟩⟩
theorem solves_strange {n : Int} {ls : List (List Int)} {cols : List Int} (h : rightM n ls = true) : solvesM ls (cols ++ [-1, n]) = solvesM ls cols := by
  rw [Bool.eq_iff_iff, solves_all, solves_all]
  constructor
  · intro H x hx
    obtain ⟨c, h1, h2⟩ := H x hx
    obtain ⟨h3, h4⟩ := right_cols h hx h1
    refine ⟨c, h1, ?_⟩
    rcases List.mem_append.1 h2 with h2 | h2
    · exact h2
    · simp at h2; omega
  · intro H x hx
    obtain ⟨c, h1, h2⟩ := H x hx
    exact ⟨c, h1, List.mem_append_left _ h2⟩
/-- Numbers as a row's values. -/
def intI (l : List Int) : List Value := l.map fun x => Value.int .i64 x
theorem intI_len (l : List Int) : (intI l).length = l.length := by unfold intI; simp
theorem own_intI {w : World} {B n : Nat} {v : Value} {o : List Int} (h : w.ownsRow B 3 1 v n (intI o)) : IntsAt w w.heap.size v o := by
  have hn : o.length = n := by have := h.1; rw [intI_len] at this; omega
  rcases h.2 with ⟨rfl, h0⟩ | ⟨g, cap, cur, rfl, hg, hgg, hnc, hcm, hcs, htake⟩
  · have : o = [] := List.eq_nil_of_length_eq_zero (by omega)
    subst this
    exact ⟨none, 0, rfl, by decide, fun h => absurd h (by decide)⟩
  · have hm : maxLen = 9223372036854775807 := rfl
    refine ⟨some ⟨g, 0, none⟩, cap, by rw [hn], by omega, fun _ => ⟨g, 0, rfl, size_of_block hgg, fun j x hx => ?_⟩⟩
    rw [cell_of_block hgg]
    have h2 : (intI o)[j]? = some (Value.int .i64 x) := by unfold intI; rw [List.getElem?_map, hx]; rfl
    rw [← htake, List.getElem?_take] at h2
    split at h2
    · simpa using h2
    · cases h2
set_option maxRecDepth 100000 in
/-- 'append(o, v...)' for a row of the call's own. -/
theorem append13 {w : World} {B : Nat} {V v : Value} {xs l : List Int} (ty : TypeId) (hown : w.ownsRow B 3 1 V xs.length (intI xs)) (hB : B ≤ w.heap.size) (hz : IntsAt w w.heap.size v l) (h1 : xs.length ≤ 1000) (h2 : l.length ≤ 1000) :
    ∃ v' w', (Builtin.append_ #[25, 25] ty #[V, v]).run Tryd.prog w = .ok v' w' ∧ w'.ownsRow B 3 1 v' (xs ++ l).length (intI (xs ++ l)) ∧ Below B w w' := by
  obtain ⟨i0, hi0, hz0, hz1, hz2⟩ := info_parts Tryd.infoInt
  obtain ⟨A, c, rfl, hl, hc⟩ := hz
  cases A with
  | none =>
    have h0 : l = [] := by
      cases l with
      | nil => rfl
      | cons x r => obtain ⟨b, off, e, _⟩ := hc (by simp); cases e
    subst h0
    refine ⟨V, w, ?_, by rw [List.append_nil]; exact hown, Below.refl _ _⟩
    rcases hown.2 with ⟨rfl, h⟩ | ⟨g, cap, cur, rfl, _, _, hnc, _⟩
    · simp [Builtin.append_, run_underlying Tryd.underlying25, sizeOf, typeInfo, hi0, Builtin.lenOf, Builtin.firstCells]
    · simp [Builtin.append_, run_underlying Tryd.underlying25, sizeOf, typeInfo, hi0, Builtin.lenOf, Builtin.firstCells, hnc, storeCells]
  | some a =>
    obtain ⟨v', w', hrun, ho, hg, -⟩ := run_append_own (P := Tryd.prog) w B 25 ty 3 i0 (.int .i64 0) 1 8 Tryd.underlying25 hi0 hz0 hz1 hz2 rfl (by decide) V xs.length (intI xs) hown a l.length c (intI l) (by rw [intI_len, Nat.mul_one])
      (fun j u hj => by
        unfold intI at hj
        rw [List.getElem?_map] at hj
        cases hx : l[j]? with
        | none => rw [hx] at hj; cases hj
        | some x =>
          rw [hx, Option.map_some] at hj
          have hjl := (List.getElem?_eq_some_iff.1 hx).1
          obtain ⟨b, off, e, hb, hcell⟩ := hc (by omega)
          injection e with e
          subst e
          rw [Addr.add_lit, hcell j x hx]
          exact hj)
      (fun u hu => by unfold intI at hu; obtain ⟨x, _, rfl⟩ := List.mem_map.1 hu; rfl) (by unfold maxLen; omega) (by omega) hB
    refine ⟨v', w', hrun, ?_, (Below.refl B w).grown hg hB (fun k hk => (hown.lt k hk).1)⟩
    rw [List.length_append]
    have e : intI (xs ++ l) = intI xs ++ intI l := by unfold intI; rw [List.map_append]
    rw [e]
    exact ho
theorem own_nil13 (w : World) : (w.alloc (.cells #[] 3 (0, 0))).ownsRow w.heap.size 3 1 (.slice (some ⟨w.heap.size, 0, none⟩) 0 0) ([] : List Int).length (intI []) := World.ownsRow_made w #[] 0 (Nat.le_refl _) (Nat.zero_le _) rfl
/-- 'append(append([]int{}, f...), g...)'. -/
theorem append13_two {w : World} {v u : Value} {l r : List Int} (ty : TypeId) (hz : IntsAt w w.heap.size v l) (hy : IntsAt w w.heap.size u r) (h1 : l.length ≤ 100) (h2 : r.length ≤ 100) :
    ∃ v1 w1 v2 w2, (Builtin.append_ #[25, 25] ty #[.slice (some ⟨w.heap.size, 0, none⟩) 0 0, v]).run Tryd.prog (w.alloc (.cells #[] 3 (0, 0))) = .ok v1 w1 ∧ (Builtin.append_ #[25, 25] ty #[v1, u]).run Tryd.prog w1 = .ok v2 w2 ∧
      IntsAt w2 w2.heap.size v2 (l ++ r) ∧ Below w.heap.size w w2 := by
  have hB := below_alloc1 w (.cells #[] 3 (0, 0))
  obtain ⟨v1, w1, e1, o1, b1⟩ := append13 ty (own_nil13 w) (by simp) ((hz.below hB).more hB.size) (by decide) (by omega)
  have hB1 := hB.trans b1
  obtain ⟨v2, w2, e2, o2, b2⟩ := append13 ty o1 hB1.size ((hy.below hB1).more hB1.size) (by rw [List.nil_append]; omega) (by omega)
  rw [List.nil_append] at o2
  exact ⟨v1, w1, v2, w2, e1, e2, own_intI o2, hB1.trans b2⟩
end Go.Proofs.YtdfllifjbabfjaaDoor
