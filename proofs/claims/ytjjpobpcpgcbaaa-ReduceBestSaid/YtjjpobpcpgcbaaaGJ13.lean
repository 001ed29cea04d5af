/- The fewest columns that solve a covering, plain: each choice is tried; what is lost by reducing: nothing. For CoverMore, plain: more columns, all of them, strange ones; and 'append(o, v...)' of numbers. -/
import Derived.Test.YtjjpobpcpgcbaaaGJ12
namespace Go.Proofs.Ytjjpobpcpgcbaaa
open Go.RowKit Go.Joins

/-- The columns of a choice. -/
def chL (n ch : Nat) : List Int := ((List.range n).filter fun c => ch.testBit c).map fun c : Nat => (c : Int)
def bestK (n : Nat) (ls : List (List Int)) : Nat → Int
  | 0 => -1
  | k + 1 => if ((decide (bestK n ls k < 0) || decide (((chL n k).length : Int) < bestK n ls k)) && solvesM ls (chL n k)) = true then ((chL n k).length : Int) else bestK n ls k
def bestM (n : Nat) (ls : List (List Int)) : Int := bestK n ls (2 ^ n)
theorem best_spec (n : Nat) (ls : List (List Int)) : ∀ k, (bestK n ls k = -1 ∧ ∀ ch, ch < k → solvesM ls (chL n ch) = false) ∨
    (∃ ch, ch < k ∧ solvesM ls (chL n ch) = true ∧ bestK n ls k = ((chL n ch).length : Int) ∧ ∀ ch', ch' < k → solvesM ls (chL n ch') = true → bestK n ls k ≤ ((chL n ch').length : Int))
  | 0 => .inl ⟨rfl, fun ch h => absurd h (Nat.not_lt_zero _)⟩
  | k + 1 => by
    have hk : bestK n ls (k + 1) = if ((decide (bestK n ls k < 0) || decide (((chL n k).length : Int) < bestK n ls k)) && solvesM ls (chL n k)) = true then ((chL n k).length : Int) else bestK n ls k := rfl
    rcases best_spec n ls k with ⟨h1, h2⟩ | ⟨ch, h1, h2, h3, h4⟩
    · rw [h1] at hk
      cases hs : solvesM ls (chL n k)
      · rw [hs, Bool.and_false, if_neg (by decide)] at hk
        refine .inl ⟨hk, fun ch hc => ?_⟩
        by_cases e : ch = k
        · rw [e]; exact hs
        · exact h2 ch (by omega)
      · rw [hs, Bool.and_true, decide_eq_true (show (-1 : Int) < 0 by decide), Bool.true_or, if_pos rfl] at hk
        refine .inr ⟨k, by omega, hs, hk, fun ch hc h => ?_⟩
        by_cases e : ch = k
        · rw [e, hk]; exact Int.le_refl _
        · rw [h2 ch (by omega)] at h; cases h
    · cases hs : solvesM ls (chL n k)
      · rw [hs, Bool.and_false, if_neg (by decide)] at hk
        refine .inr ⟨ch, by omega, h2, by rw [hk, h3], fun ch' hc h => ?_⟩
        by_cases e : ch' = k
        · rw [e, hs] at h; cases h
        · rw [hk]; exact h4 ch' (by omega) h
      · have hneg : decide (bestK n ls k < 0) = false := decide_eq_false (by rw [h3]; omega)
        rw [hs, Bool.and_true, hneg, Bool.false_or] at hk
        by_cases hl : ((chL n k).length : Int) < bestK n ls k
        · rw [decide_eq_true hl, if_pos rfl] at hk
          refine .inr ⟨k, by omega, hs, hk, fun ch' hc h => ?_⟩
          by_cases e : ch' = k
          · rw [e, hk]; exact Int.le_refl _
          · have := h4 ch' (by omega) h
            rw [hk]; omega
        · rw [decide_eq_false hl, if_neg (by decide)] at hk
          refine .inr ⟨ch, by omega, h2, by rw [hk, h3], fun ch' hc h => ?_⟩
          by_cases e : ch' = k
          · rw [hk, e]; omega
          · rw [hk]; exact h4 ch' (by omega) h
/-- The choice of columns told by flags. -/
def numT (T : Int → Bool) : Nat → Nat
  | 0 => 0
  | n + 1 => if T (n : Int) = true then 2 ^ n + numT T n else numT T n
theorem num_lt (T : Int → Bool) : ∀ n, numT T n < 2 ^ n
  | 0 => Nat.one_pos
  | n + 1 => by
    have := num_lt T n
    have e : 2 ^ (n + 1) = 2 ^ n + 2 ^ n := by rw [Nat.pow_succ]; omega
    show (if T (n : Int) = true then 2 ^ n + numT T n else numT T n) < _
    split <;> omega
theorem num_bit (T : Int → Bool) : ∀ (n c : Nat), c < n → (numT T n).testBit c = T (c : Int)
  | 0, c, h => absurd h (Nat.not_lt_zero _)
  | n + 1, c, h => by
    have hl := num_lt T n
    show (if T (n : Int) = true then 2 ^ n + numT T n else numT T n).testBit c = _
    by_cases e : c = n
    · subst e
      have h0 : (numT T c).testBit c = false := Nat.testBit_lt_two_pow hl
      split
      · rename_i ht
        rw [Nat.testBit_two_pow_add_eq, h0, ht]; rfl
      · rename_i ht
        rw [h0]
        simpa using ht
    · have ih := num_bit T n c (by omega)
      split
      · rw [Nat.testBit_two_pow_add_gt (by omega), ih]
      · exact ih
theorem mem_chL {n ch : Nat} {x : Int} : x ∈ chL n ch ↔ ∃ c : Nat, x = c ∧ c < n ∧ ch.testBit c = true := by
  unfold chL
  rw [List.mem_map]
  constructor
  · rintro ⟨c, hc, rfl⟩
    obtain ⟨h1, h2⟩ := List.mem_filter.1 hc
    exact ⟨c, rfl, List.mem_range.1 h1, h2⟩
  · rintro ⟨c, rfl, h1, h2⟩
    exact ⟨c, List.mem_filter.2 ⟨List.mem_range.2 h1, h2⟩, rfl⟩
theorem chL_len (n ch : Nat) : (chL n ch).length = crdT n fun x => ch.testBit x.toNat := by
  unfold chL crdT
  rw [List.length_map, ← List.countP_eq_length_filter]
  refine List.countP_congr fun c _ => ?_
  show _ ↔ ch.testBit (c : Int).toNat = true
  rw [Int.toNat_natCast]
theorem chL_num (n : Nat) (T : Int → Bool) : (chL n (numT T n)).length = crdT n T := by
  rw [chL_len]
  unfold crdT
  refine List.countP_congr fun c hc => ?_
  show (numT T n).testBit (c : Int).toNat = true ↔ _
  rw [Int.toNat_natCast, num_bit T n c (List.mem_range.1 hc)]
theorem sol_num {n : Nat} {ls : List (List Int)} (hl : ∀ r, r ∈ ls → ∀ c, c ∈ r → 0 ≤ c ∧ c < n) {T : Int → Bool} (h : SolT ls T) : solvesM ls (chL n (numT T n)) = true := by
  rw [solves_all]
  intro r hr
  obtain ⟨c, h1, h2⟩ := h r hr
  obtain ⟨h3, h4⟩ := hl r hr c h1
  refine ⟨c, h1, mem_chL.2 ⟨c.toNat, by omega, by omega, ?_⟩⟩
  rw [num_bit T n _ (by omega), show ((c.toNat : Nat) : Int) = c by omega]
  exact h2
theorem sol_ch {n ch : Nat} {ls : List (List Int)} (h : solvesM ls (chL n ch) = true) : SolT ls fun x => ch.testBit x.toNat := by
  rw [solves_all] at h
  intro r hr
  obtain ⟨c, h1, h2⟩ := h r hr
  obtain ⟨k, rfl, -, h3⟩ := mem_chL.1 h2
  exact ⟨k, h1, by show ch.testBit (k : Int).toNat = true; rw [Int.toNat_natCast]; exact h3⟩
theorem crd_or (T U : Int → Bool) : ∀ n, crdT n (fun x => T x || U x) ≤ crdT n T + crdT n U
  | 0 => by simp [crdT]
  | n + 1 => by
    have ih := crd_or T U n
    rw [crd_succ, crd_succ, crd_succ]
    cases hT : T (n : Int) <;> cases hU : U (n : Int) <;> simp <;> omega
/-- Of rows at the start as few columns solve them as were taken, and as few as solve what is left. -/
theorem red_best {n : Nat} {l0 ls : List (List Int)} {t : Int → Bool} (h : RedI n l0 t ls) (hl : ∀ r, r ∈ l0 → ∀ c, c ∈ r → 0 ≤ c ∧ c < n) :
    (bestM n l0 = -1 ∧ bestM n ls = -1) ∨ (0 ≤ bestM n l0 ∧ 0 ≤ bestM n ls ∧ bestM n l0 = (crdT n t : Int) + bestM n ls) := by
  have b0 := best_spec n l0 (2 ^ n)
  have b1 := best_spec n ls (2 ^ n)
  change (bestM n l0 = -1 ∧ _) ∨ (∃ ch, ch < 2 ^ n ∧ _ ∧ bestM n l0 = _ ∧ ∀ ch', _ → _ → bestM n l0 ≤ _) at b0
  change (bestM n ls = -1 ∧ _) ∨ (∃ ch, ch < 2 ^ n ∧ _ ∧ bestM n ls = _ ∧ ∀ ch', _ → _ → bestM n ls ≤ _) at b1
  rcases b0 with ⟨e0, n0⟩ | ⟨c0, p0, s0, e0, m0⟩ <;> rcases b1 with ⟨e1, n1⟩ | ⟨c1, p1, s1, e1, m1⟩
  · exact .inl ⟨e0, e1⟩
  · exfalso
    have h1 := h.up _ (sol_ch s1)
    have h2 := sol_num hl h1
    rw [n0 _ (num_lt _ n)] at h2; cases h2
  · exfalso
    obtain ⟨T', h1, -⟩ := h.down _ (sol_ch s0)
    have h2 := sol_num h.low h1
    rw [n1 _ (num_lt _ n)] at h2; cases h2
  · refine .inr ⟨by omega, by omega, ?_⟩
    have up1 := h.up _ (sol_ch s1)
    have u2 := m0 _ (num_lt _ n) (sol_num hl up1)
    rw [chL_num] at u2
    have u3 := crd_or t (fun x => c1.testBit x.toNat) n
    rw [← chL_len] at u3
    obtain ⟨T', d1, d2⟩ := h.down _ (sol_ch s0)
    have d3 := m1 _ (num_lt _ n) (sol_num h.low d1)
    rw [chL_num] at d3
    rw [← chL_len] at d2
    omega
end Go.Proofs.Ytjjpobpcpgcbaaa
namespace Go.Proofs.Ytjjpobpcpgcbaaa
open Go.RowKit Go.Joins

theorem solves_more {ls : List (List Int)} {a b : List Int} (h : solvesM ls a = true) : solvesM ls (a ++ b) = true := by
  rw [solves_all] at h ⊢
  intro x hx
  obtain ⟨c, h1, h2⟩ := h x hx
  exact ⟨c, h1, List.mem_append_left _ h2⟩
theorem right_cols {n : Int} {ls : List (List Int)} (h : rightM n ls = true) {x : List Int} (hx : x ∈ ls) {c : Int} (hc : c ∈ x) : 0 ≤ c ∧ c < n := by
  unfold rightM at h
  rw [Bool.and_eq_true] at h
  have h2 := List.all_eq_true.1 h.2 x hx
  unfold rightR at h2
  rw [List.all_eq_true] at h2
  obtain ⟨k, hk, rfl⟩ := List.mem_iff_getElem.1 hc
  have h3 := h2 k (List.mem_range.2 hk)
  unfold okR at h3
  rw [Bool.and_eq_true, Bool.and_eq_true, decide_eq_true_iff, decide_eq_true_iff, getD_some (List.getElem?_eq_getElem hk)] at h3
  exact h3.1
theorem solves_every {n : Nat} {ls : List (List Int)} (h : rightM n ls = true) : solvesM ls ((List.range n).map fun c : Nat => (c : Int)) = ls.all fun x => decide (0 < x.length) := by
  rw [Bool.eq_iff_iff, solves_all, List.all_eq_true]
  constructor
  · intro H x hx
    obtain ⟨c, h1, -⟩ := H x hx
    exact decide_eq_true (List.length_pos_of_mem h1)
  · intro H x hx
    have h0 := of_decide_eq_true (H x hx)
    have hm := List.getElem_mem (l := x) h0
    obtain ⟨h1, h2⟩ := right_cols h hx hm
    refine ⟨x[0], hm, List.mem_map.2 ⟨x[0].toNat, List.mem_range.2 (by omega), by omega⟩⟩
theorem solves_strange {n : Int} {ls : List (List Int)} {cols : List Int} (h : rightM n ls = true) : solvesM ls (cols ++ [-1, n]) = solvesM ls cols := by
  rw [Bool.eq_iff_iff, solves_all, solves_all]
  constructor
  · intro H x hx
    obtain ⟨c, h1, h2⟩ := H x hx
    obtain ⟨h3, h4⟩ := right_cols h hx h1
    refine ⟨c, h1, ?_⟩
    rcases List.mem_append.1 h2 with h2 | h2
    · exact h2
    · simp at h2; omega
  · intro H x hx
    obtain ⟨c, h1, h2⟩ := H x hx
    exact ⟨c, h1, List.mem_append_left _ h2⟩
/-- Numbers as a row's values. -/
def intI (l : List Int) : List Value := l.map fun x => Value.int .i64 x
theorem intI_len (l : List Int) : (intI l).length = l.length := by unfold intI; simp
theorem own_intI {w : World} {B n : Nat} {v : Value} {o : List Int} (h : w.ownsRow B 3 1 v n (intI o)) : IntsAt w w.heap.size v o := by
  have hn : o.length = n := by have := h.1; rw [intI_len] at this; omega
  rcases h.2 with ⟨rfl, h0⟩ | ⟨g, cap, cur, rfl, hg, hgg, hnc, hcm, hcs, htake⟩
  · have : o = [] := List.eq_nil_of_length_eq_zero (by omega)
    subst this
    exact ⟨none, 0, rfl, by decide, fun h => absurd h (by decide)⟩
  · have hm : maxLen = 9223372036854775807 := rfl
    refine ⟨some ⟨g, 0, none⟩, cap, by rw [hn], by omega, fun _ => ⟨g, 0, rfl, size_of_block hgg, fun j x hx => ?_⟩⟩
    rw [cell_of_block hgg]
    have h2 : (intI o)[j]? = some (Value.int .i64 x) := by unfold intI; rw [List.getElem?_map, hx]; rfl
    rw [← htake, List.getElem?_take] at h2
    split at h2
    · simpa using h2
    · cases h2
set_option maxRecDepth 100000 in
/-- 'append(o, v...)' for a row of the call's own. -/
theorem append13 {w : World} {B : Nat} {V v : Value} {xs l : List Int} (ty : TypeId) (hown : w.ownsRow B 3 1 V xs.length (intI xs)) (hB : B ≤ w.heap.size) (hz : IntsAt w w.heap.size v l) (h1 : xs.length ≤ 100000) (h2 : l.length ≤ 100000) :
    ∃ v' w', (Builtin.append_ #[38, 38] ty #[V, v]).run Try.prog w = .ok v' w' ∧ w'.ownsRow B 3 1 v' (xs ++ l).length (intI (xs ++ l)) ∧ Below B w w' := by
  obtain ⟨i0, hi0, hz0, hz1, hz2⟩ := info_parts Try.infoInt
  obtain ⟨A, c, rfl, hl, hc⟩ := hz
  cases A with
  | none =>
    have h0 : l = [] := by
      cases l with
      | nil => rfl
      | cons x r => obtain ⟨b, off, e, _⟩ := hc (by simp); cases e
    subst h0
    refine ⟨V, w, ?_, by rw [List.append_nil]; exact hown, Below.refl _ _⟩
    rcases hown.2 with ⟨rfl, h⟩ | ⟨g, cap, cur, rfl, _, _, hnc, _⟩
    · simp [Builtin.append_, run_underlying Try.underlying38, sizeOf, typeInfo, hi0, Builtin.lenOf, Builtin.firstCells]
    · simp [Builtin.append_, run_underlying Try.underlying38, sizeOf, typeInfo, hi0, Builtin.lenOf, Builtin.firstCells, hnc, storeCells]
  | some a =>
    obtain ⟨v', w', hrun, ho, hg, -⟩ := run_append_own (P := Try.prog) w B 38 ty 3 i0 (.int .i64 0) 1 8 Try.underlying38 hi0 hz0 hz1 hz2 rfl (by decide) V xs.length (intI xs) hown a l.length c (intI l) (by rw [intI_len, Nat.mul_one])
      (fun j u hj => by
        unfold intI at hj
        rw [List.getElem?_map] at hj
        cases hx : l[j]? with
        | none => rw [hx] at hj; cases hj
        | some x =>
          rw [hx, Option.map_some] at hj
          have hjl := (List.getElem?_eq_some_iff.1 hx).1
          obtain ⟨b, off, e, hb, hcell⟩ := hc (by omega)
          injection e with e
          subst e
          rw [Addr.add_lit, hcell j x hx]
          exact hj)
      (fun u hu => by unfold intI at hu; obtain ⟨x, _, rfl⟩ := List.mem_map.1 hu; rfl) (by unfold maxLen; omega) (by omega) hB
    refine ⟨v', w', hrun, ?_, (Below.refl B w).grown hg hB (fun k hk => (hown.lt k hk).1)⟩
    rw [List.length_append]
    have e : intI (xs ++ l) = intI xs ++ intI l := by unfold intI; rw [List.map_append]
    rw [e]
    exact ho
theorem own_nil13 (w : World) : (w.alloc (.cells #[] 3 (0, 0))).ownsRow w.heap.size 3 1 (.slice (some ⟨w.heap.size, 0, none⟩) 0 0) ([] : List Int).length (intI []) := World.ownsRow_made w #[] 0 (Nat.le_refl _) (Nat.zero_le _) rfl
/-- 'append(append([]int{}, f...), g...)'. -/
theorem append13_two {w : World} {v u : Value} {l r : List Int} (ty : TypeId) (hz : IntsAt w w.heap.size v l) (hy : IntsAt w w.heap.size u r) (h1 : l.length ≤ 100) (h2 : r.length ≤ 100) :
    ∃ v1 w1 v2 w2, (Builtin.append_ #[38, 38] ty #[.slice (some ⟨w.heap.size, 0, none⟩) 0 0, v]).run Try.prog (w.alloc (.cells #[] 3 (0, 0))) = .ok v1 w1 ∧ (Builtin.append_ #[38, 38] ty #[v1, u]).run Try.prog w1 = .ok v2 w2 ∧
      IntsAt w2 w2.heap.size v2 (l ++ r) ∧ Below w.heap.size w w2 := by
  have hB := below_alloc1 w (.cells #[] 3 (0, 0))
  obtain ⟨v1, w1, e1, o1, b1⟩ := append13 ty (own_nil13 w) (by simp) ((hz.below hB).more hB.size) (by decide) (by omega)
  have hB1 := hB.trans b1
  obtain ⟨v2, w2, e2, o2, b2⟩ := append13 ty o1 hB1.size ((hy.below hB1).more hB1.size) (by rw [List.nil_append]; omega) (by omega)
  rw [List.nil_append] at o2
  exact ⟨v1, w1, v2, w2, e1, e2, own_intI o2, hB1.trans b2⟩
end Go.Proofs.Ytjjpobpcpgcbaaa
