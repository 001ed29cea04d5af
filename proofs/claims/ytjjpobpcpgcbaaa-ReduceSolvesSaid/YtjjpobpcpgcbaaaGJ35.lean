/- What Reduce knows on its way: facts of the reductions, its memory, the sort at its end. -/
import Derived.Test.YtjjpobpcpgcbaaaGJ34
import Derived.Test.YtjjpobpcpgcbaaaGJ15
import Derived.Sort.OwnSortedInts
namespace Go.Proofs.Ytjjpobpcpgcbaaa
open Go.RowKit Go.Joins

/-- How far the reductions are. -/
structure RedF (P : (Int → Bool) × List (List Int)) (n : Nat) (l : List (List Int)) (K : List Int) : Prop where
  way : ∃ F t, masR l < F ∧ P = redP n F t l ∧ (∀ x, t x = true ↔ x ∈ K) ∧ ∀ r, r ∈ l → ∀ x, x ∈ r → t x = false
  once : K.Nodup
  low : ∀ x, x ∈ K → 0 ≤ x ∧ x < n
  ris : ∀ r, r ∈ l → risL n r
  len : K.length + l.length ≤ 4000
theorem RedF.start14 {n : Nat} {ls : List (List Int)} (hr : ∀ r, r ∈ ls → risL n r) (hl : ls.length ≤ 4000) : RedF (redP n (masR ls + 1) (fun _ => false) ls) n ls [] :=
  ⟨⟨_, _, Nat.lt_succ_self _, rfl, fun x => by simp, fun _ _ _ _ => rfl⟩, List.nodup_nil, fun x h => absurd h List.not_mem_nil, hr, by simpa using hl⟩
theorem RedF.take14 {P : (Int → Bool) × List (List Int)} {n : Nat} {l : List (List Int)} {K : List Int} {c : Int} (h : RedF P n l K) (ht : tkC l = some c) : RedF P n (tkR l c) (K ++ [c]) ∧ masR (tkR l c) < masR l := by
  obtain ⟨F, t, hF, hP, hK, hT⟩ := h.way
  have hc := tkC_some ht
  have hm : masR (tkR l c) < masR l := mas_filter_lt (fun r => !decide (c ∈ r)) hc (by simp)
  obtain ⟨f, rfl⟩ : ∃ f, F = f + 1 := ⟨F - 1, by omega⟩
  have htc : t c = false := hT _ hc c (List.mem_singleton.2 rfl)
  have hcK : c ∉ K := fun e => by rw [(hK c).2 e] at htc; cases htc
  have hsub : ∀ r, r ∈ tkR l c → r ∈ l ∧ ¬ c ∈ r := fun r hr => by
    have := List.mem_filter.1 hr
    exact ⟨this.1, by simpa using this.2⟩
  refine ⟨⟨⟨f, _, by omega, by rw [hP, red_t ht], fun x => ?_, fun r hr x hx => ?_⟩, ?_, fun x hx => ?_, fun r hr => h.ris r (hsub r hr).1, ?_⟩, hm⟩
  · rw [List.mem_append, List.mem_singleton, Bool.or_eq_true, hK, decide_eq_true_iff]
  · rw [Bool.or_eq_false_iff, decide_eq_false_iff_not]
    exact ⟨hT r (hsub r hr).1 x hx, fun e => (hsub r hr).2 (e ▸ hx)⟩
  · rw [List.nodup_append]
    refine ⟨h.once, by simp, fun a ha b hb e => ?_⟩
    rw [List.mem_singleton.1 hb] at e
    exact hcK (e ▸ ha)
  · rcases List.mem_append.1 hx with h1 | h1
    · exact h.low x h1
    · rw [List.mem_singleton.1 h1]
      exact (h.ris _ hc).1 c (List.mem_singleton.2 rfl)
  · have h1 : (tkR l c).length < l.length := by
      unfold tkR
      exact List.length_filter_lt_length_iff_exists.2 ⟨[c], hc, by simp⟩
    have := h.len
    rw [List.length_append, List.length_singleton]
    omega
theorem RedF.rows14 {P : (Int → Bool) × List (List Int)} {n : Nat} {l : List (List Int)} {K : List Int} {i : Nat} (h : RedF P n l K) (ht : tkC l = none) (hr : rwI l = some i) : RedF P n (splR l) K ∧ masR (splR l) < masR l := by
  obtain ⟨F, t, hF, hP, hK, hT⟩ := h.way
  have hR : RiseM l := rise_m14 fun r hr => (h.ris r hr).2
  obtain ⟨F', hP', hF'⟩ := red_rows14 (n := n) (t := t) F l hF hR ht
  have hs := spl_lt14 hR hr
  exact ⟨⟨⟨F', t, hF', by rw [hP, hP'], hK, fun r hr => hT r (keepL_sub _ _ hr)⟩, h.once, h.low, fun r hr => h.ris r (keepL_sub _ _ hr), by have := h.len; have := hs.2; omega⟩, hs.1⟩
theorem RedF.cols14 {P : (Int → Bool) × List (List Int)} {n : Nat} {l : List (List Int)} {K : List Int} {c : Nat} (h : RedF P n l K) (ht : tkC l = none) (hr : rwI l = none) (hc : clI l n = some c) : RedF P n (clR l c) K ∧ masR (clR l c) < masR l := by
  obtain ⟨F, t, hF, hP, hK, hT⟩ := h.way
  obtain ⟨-, ⟨r, m1, m2⟩, -⟩ := clI_some hc
  have hm := mas_col (c : Int) m1 m2
  obtain ⟨f, rfl⟩ : ∃ f, F = f + 1 := ⟨F - 1, by omega⟩
  have hsub : ∀ r, r ∈ clR l c → ∃ r0, r0 ∈ l ∧ r = r0.filter fun x => !decide (x = (c : Int)) := fun r hr => by
    obtain ⟨r0, h0, e⟩ := List.mem_map.1 hr
    exact ⟨r0, h0, e.symm⟩
  refine ⟨⟨⟨f, t, by omega, by rw [hP, red_c ht hr hc], hK, fun r hr x hx => ?_⟩, h.once, h.low, fun r hr => ?_, by unfold clR; rw [List.length_map]; exact h.len⟩, hm⟩
  · obtain ⟨r0, h0, rfl⟩ := hsub r hr
    exact hT r0 h0 x (List.mem_filter.1 hx).1
  · obtain ⟨r0, h0, rfl⟩ := hsub r hr
    exact ⟨fun x hx => (h.ris r0 h0).1 x (List.mem_filter.1 hx).1, (h.ris r0 h0).2.filter _⟩
/-- Two rising lists with the same numbers. -/
theorem rise_same14 : ∀ {a b : List Int}, a.Pairwise (· < ·) → b.Pairwise (· < ·) → (∀ x, x ∈ a ↔ x ∈ b) → a = b
  | [], [], _, _, _ => rfl
  | [], y :: b, _, _, h => absurd ((h y).2 (List.mem_cons_self ..)) List.not_mem_nil
  | x :: a, [], _, _, h => absurd ((h x).1 (List.mem_cons_self ..)) List.not_mem_nil
  | x :: a, y :: b, ha, hb, h => by
    obtain ⟨h1, h2⟩ := List.pairwise_cons.1 ha
    obtain ⟨h3, h4⟩ := List.pairwise_cons.1 hb
    have e : x = y := by
      rcases List.mem_cons.1 ((h x).1 (List.mem_cons_self ..)) with e | e
      · exact e
      · rcases List.mem_cons.1 ((h y).2 (List.mem_cons_self ..)) with e2 | e2
        · exact e2.symm
        · have := h3 x e
          have := h1 y e2
          omega
    subst e
    refine congrArg _ (rise_same14 h2 h4 fun z => ⟨fun hz => ?_, fun hz => ?_⟩)
    · rcases List.mem_cons.1 ((h z).1 (List.mem_cons_of_mem _ hz)) with e | e
      · have := h1 z hz; omega
      · exact e
    · rcases List.mem_cons.1 ((h z).2 (List.mem_cons_of_mem _ hz)) with e | e
      · have := h3 z hz; omega
      · exact e
theorem RedF.done14 {P : (Int → Bool) × List (List Int)} {n : Nat} {l : List (List Int)} {K : List Int} (h : RedF P n l K) (h1 : tkC l = none) (h2 : rwI l = none) (h3 : clI l n = none) : P.2 = l ∧ K.mergeSort (fun x y => decide (x ≤ y)) = ((List.range n).filter fun c : Nat => P.1 (c : Int)).map fun c : Nat => (c : Int) := by
  obtain ⟨F, t, hF, hP, hK, hT⟩ := h.way
  have e := red_stay (t := t) h1 h2 h3 F
  rw [e] at hP
  subst hP
  refine ⟨rfl, rise_same14 ?_ ?_ fun x => ?_⟩
  · have hs := List.pairwise_mergeSort (le := fun x y : Int => decide (x ≤ y)) (fun a b c h1 h2 => by simp at *; omega) (fun a b => by simp; omega) K
    have hn : (K.mergeSort fun x y => decide (x ≤ y)).Nodup := (List.mergeSort_perm K _).nodup_iff.2 h.once
    rw [List.nodup_iff_pairwise_ne] at hn
    exact (hs.and hn).imp fun h => by
      have := h.1
      have := h.2
      simp at *
      omega
  · rw [List.pairwise_map]
    exact ((List.pairwise_lt_range).filter _).imp fun h => by omega
  · rw [(List.mergeSort_perm K _).mem_iff, ← hK]
    constructor
    · intro hx
      have hl := h.low x ((hK x).1 hx)
      obtain ⟨q, rfl⟩ := Int.eq_ofNat_of_zero_le hl.1
      exact List.mem_map.2 ⟨q, List.mem_filter.2 ⟨List.mem_range.2 (by omega), hx⟩, rfl⟩
    · intro hx
      obtain ⟨q, hq, rfl⟩ := List.mem_map.1 hx
      exact (List.mem_filter.1 hq).2
theorem sort14_any {w : World} {B : Nat} {K : List Int} {T : Value} (h : w.ownsRow B 3 1 T K.length (intI K)) (hl : K.length ≤ 1000000) :
    Calls Try.prog 35 #[T] w fun e w' => e = .returned (.tuple #[]) ∧ w'.ownsRow B 3 1 T (K.mergeSort fun x y => decide (x ≤ y)).length (intI (K.mergeSort fun x y => decide (x ≤ y))) ∧ w.grownBy w' T.ownBlock := by
  have hml : (K.mergeSort fun x y => decide (x ≤ y)).length = K.length := List.length_mergeSort K
  rcases h.2 with ⟨rfl, h0⟩ | ⟨g, cap, cur, rfl, hg, hgg, h1, h2, h3, h4⟩
  · have : K = [] := List.length_eq_zero_iff.1 h0
    subst this
    refine (Try.slices_Sort_int_none none 0 w).mono ?_
    rintro e w' ⟨rfl, rfl⟩
    exact ⟨rfl, by rw [show ([] : List Int).mergeSort (fun x y => decide (x ≤ y)) = [] by simp]; exact World.ownsRow_nil _ _ _ _, ⟨rfl, rfl, rfl, Nat.le_refl _, fun _ _ _ => rfl⟩⟩
  · have hH : Go.Sort.Holds (Value.int .i64) w g 0 K.toArray := holds_of_blockI hgg (by rw [Nat.mul_one] at h4; exact h4)
    have hSrt := Try.slices_Sort_int g 0 cap K w hH (size_of_block hgg) (by omega)
    refine hSrt.mono ?_
    rintro e w' ⟨rfl, q, os, rfl⟩
    have hown := ownsRow_sortedI (n := q) (os := os) (ss := K) (ts := K.mergeSort fun x y => decide (x ≤ y)) hml hg hgg h1 h2 h3
    exact ⟨rfl, by rw [hml]; exact hown, grownBy_sortedI _⟩
/-- Reduce's memory. -/
structure RedW (W0 : World) (fo : Obj) (gb tq n : Nat) (U T : Value) (l : List (List Int)) (K : List Int) (W : World) : Prop where
  mat : MatN W (fun b => ¬ ((b = gb ∨ b = gb + 1 ∨ b = tq ∨ b = tq + 1) ∨ T.ownBlock = some b)) U l
  cap : CapM W U
  box : W.heap[gb]? = some (.cells #[.int .i64 n, U] 24 (0, 0))
  res : W.heap[gb + 1]? = some (.cells #[.int .i64 0, .slice none 0 0] 24 (0, 0))
  tak : W.heap[tq]? = some (.cells #[T] 38 (0, 0))
  ways : W.heap[tq + 1]? = some fo
  own : W.ownsRow gb 3 1 T K.length (intI K)
  bel : Below gb W0 W
theorem RedW.below14 {W0 W W' : World} {fo : Obj} {gb tq n : Nat} {U T : Value} {l : List (List Int)} {K : List Int} (h : RedW W0 fo gb tq n U T l K W) (hb : Below W.heap.size W W') : RedW W0 fo gb tq n U T l K W' :=
  ⟨h.mat.below14 hb, h.cap.below hb, keep_blk hb h.box, keep_blk hb h.res, keep_blk hb h.tak, keep_blk hb h.ways, owns_below h.own hb, h.bel.trans (hb.mono (Nat.le_of_lt (size_of_block h.box)))⟩
theorem RedW.put14 {W0 W : World} {fo : Obj} {gb tq n : Nat} {U T U' : Value} {l l' : List (List Int)} {K : List Int} (h : RedW W0 fo gb tq n U T l K W) (hq : gb + 2 ≤ tq) (hm : MatN W (fun b => ¬ ((b = gb ∨ b = gb + 1 ∨ b = tq ∨ b = tq + 1) ∨ T.ownBlock = some b)) U' l') (hc : CapM W U') :
    RedW W0 fo gb tq n U' T l' K ((W.setCell ⟨gb, 0, none⟩ (.int .i64 n)).setCell ⟨gb, 1, none⟩ U') := by
  have hk := (keepC_put14 (D := fun b => (b = gb ∨ b = gb + 1 ∨ b = tq ∨ b = tq + 1) ∨ T.ownBlock = some b) W 0 (.int .i64 n) (b := gb) (Or.inl (Or.inl rfl))).trans (keepC_put14 _ 1 U' (b := gb) (Or.inl (Or.inl rfl)))
  have hne : (3 : TypeId) ≠ 24 := by decide
  have nb := own_ne h.own h.box hne
  exact ⟨hk.mat hm, hc.keep14 hm hk, put2 h.box, heap_ne14 (by omega) (heap_ne14 (by omega) h.res), heap_ne14 (by omega) (heap_ne14 (by omega) h.tak), heap_ne14 (by omega) (heap_ne14 (by omega) h.ways), own_set (own_set h.own nb 0 _) nb 1 _, below2 (Nat.le_refl _) h.bel⟩
theorem RedW.lt14 {W0 W : World} {fo : Obj} {gb tq n : Nat} {U T : Value} {l : List (List Int)} {K : List Int} (h : RedW W0 fo gb tq n U T l K W) : ∀ b, ((b = gb ∨ b = gb + 1 ∨ b = tq ∨ b = tq + 1) ∨ T.ownBlock = some b) → b < W.heap.size := by
  rintro b ((rfl | rfl | rfl | rfl) | e)
  · exact size_of_block h.box
  · exact size_of_block h.res
  · exact size_of_block h.tak
  · exact size_of_block h.ways
  · exact (h.own.lt b e).2
/-- The way that takes a column. -/
theorem RedW.one14 {W0 W : World} {fo : Obj} {gb tq n : Nat} {U T : Value} {l : List (List Int)} {K : List Int} (h0 : RedW W0 fo gb tq n U T l K W) (hq : gb + 2 ≤ tq) (hfo : fo.isCells = true) (hfn : ¬ (tq + 1 = tq ∨ T.ownBlock = some (tq + 1))) (hl : l.length ≤ 4000) (hK : K.length ≤ 4000) :
    Calls Try.prog 33 #[mtv n U, .pointer (some ⟨tq, 0, none⟩)] W fun e W' => ∃ u T', e = .returned (.tuple #[mtv n u, .bool (tkC l).isSome]) ∧ RedW W0 fo gb tq n U T' l (K ++ (tkC l).toList) W' ∧
      MatN W' (fun b => ¬ ((b = gb ∨ b = gb + 1 ∨ b = tq ∨ b = tq + 1) ∨ T'.ownBlock = some b)) u (tkL l) ∧ CapM W' u := by
  have hgs := size_of_block h0.box
  have hqs := size_of_block h0.ways
  refine (red1_any14 (fun b => (b = gb ∨ b = gb + 1 ∨ b = tq ∨ b = tq + 1) ∨ T.ownBlock = some b) gb tq n U T l K W h0.lt14 h0.mat h0.cap hl h0.tak (Or.inl (Or.inr (Or.inr (Or.inl rfl)))) h0.own (fun g hg => Or.inr hg) hK (by omega) (by omega)).mono ?_
  rintro e W' ⟨u, T', rfl, hu, hcu, hT, ho, hob, hk, hb⟩
  have hD : ∀ b, (b = tq ∨ T.ownBlock = some b) → ((b = gb ∨ b = gb + 1 ∨ b = tq ∨ b = tq + 1) ∨ T.ownBlock = some b) := fun b h => h.elim (fun h => Or.inl (Or.inr (Or.inr (Or.inl h)))) Or.inr
  have nb : ∀ {c : Nat} {cs : Array Value} {X : TypeId}, W.heap[c]? = some (.cells cs X (0, 0)) → (3 : TypeId) ≠ X → c ≠ tq → ¬ (c = tq ∨ T.ownBlock = some c) := fun hc hX hne h => h.elim hne (own_ne h0.own hc hX)
  have m1 : MatN W (fun b => ¬ (((b = gb ∨ b = gb + 1 ∨ b = tq ∨ b = tq + 1) ∨ T.ownBlock = some b) ∨ W.heap.size ≤ b)) U l := h0.mat.imp14 (fun b h hb h2 => h2.elim h (fun h3 => by omega))
  have m2 := (keepC_mono14 hk (fun b h => Or.inl (hD b h))).mat m1
  refine ⟨u, T', rfl, ⟨m2.imp14 (fun b h _ h2 => h2.elim (fun h3 => h (Or.inl (Or.inl h3))) (fun h3 => (hob b h3).elim (fun h4 => h (Or.inl h4)) (fun h4 => h (Or.inr h4)))), h0.cap.keep14 h0.mat (keepC_mono14 hk hD), hk.same _ _ h0.box rfl (nb h0.box (by decide) (by omega)), hk.same _ _ h0.res rfl (nb h0.res (by decide) (by omega)), hT, hk.same _ _ h0.ways hfo (hfn), ho, h0.bel.trans hb⟩, hu.imp14 (fun b h _ h2 => h (h2.elim (fun h3 => Or.inl (Or.inl h3)) Or.inr)), hcu⟩
end Go.Proofs.Ytjjpobpcpgcbaaa
