/- Rows of rows that a call owns: a slice of slices that grows. Rows in their order, plain. -/
import Derived.Test.YtjjpobpcpgcbaaaGJ05
import Derived.Test.YtjjpobpcpgcbaaaGJ03
import Derived.Maps.AppendAt
namespace Go.Proofs.Ytjjpobpcpgcbaaa
open Go.RowKit Go.Joins

/-- The slice v reads as l; the block it lies in is one of N. -/
def IntsN (w : World) (N : Nat → Prop) (v : Value) (l : List Int) : Prop :=
  ∃ A c, v = .slice A l.length c ∧ l.length ≤ 9223372036854775807 ∧
    (0 < l.length → ∃ b off, A = some ⟨b, off, none⟩ ∧ N b ∧ ∀ j x, l[j]? = some x → w.cell? ⟨b, off + j, none⟩ = some (.int .i64 x))
theorem IntsN.ints {w : World} {N : Nat → Prop} {v : Value} {l : List Int} {B : Nat} (h : IntsN w N v l) (hN : ∀ b, N b → b < B) : IntsAt w B v l := by
  obtain ⟨A, c, e, hl, h⟩ := h
  refine ⟨A, c, e, hl, fun h0 => ?_⟩
  obtain ⟨b, off, eA, hb, hc⟩ := h h0
  exact ⟨b, off, eA, hN b hb, hc⟩
theorem IntsN.keep {w w' : World} {N N' : Nat → Prop} {v : Value} {l : List Int} (h : IntsN w N v l) (hk : ∀ b, N b → w'.heap[b]? = w.heap[b]?) (hN : ∀ b, N b → N' b) : IntsN w' N' v l := by
  obtain ⟨A, c, e, hl, h⟩ := h
  refine ⟨A, c, e, hl, fun h0 => ?_⟩
  obtain ⟨b, off, eA, hb, hc⟩ := h h0
  refine ⟨b, off, eA, hN b hb, fun j x hx => ?_⟩
  rw [World.cell?_of_block (w := w) (a := ⟨b, off + j, none⟩) (hk b hb)]
  exact hc j x hx
theorem IntsN.one {w : World} {N : Nat → Prop} {v : Value} {l : List Int} (h : IntsN w N v l) : v.oneCell' = true := by
  obtain ⟨A, c, rfl, -⟩ := h
  rfl
theorem IntsAt.intsN {w : World} {N : Nat → Prop} {v : Value} {l : List Int} {B : Nat} (h : IntsAt w B v l) (hN : ∀ b off n c, v = .slice (some ⟨b, off, none⟩) n c → 0 < n → b < B → N b) : IntsN w N v l := by
  obtain ⟨A, c, rfl, hl, h⟩ := h
  refine ⟨A, c, rfl, hl, fun h0 => ?_⟩
  obtain ⟨b, off, rfl, hb, hc⟩ := h h0
  exact ⟨b, off, rfl, hN b off _ _ rfl h0 hb, hc⟩
/-- The values vs, which the row V holds, read as the rows K; none of them lies in V's own block. -/
def RowsIn (w : World) (V : Value) (K : List (List Int)) (vs : List Value) : Prop :=
  ∀ (j : Nat) (l : List Int), K[j]? = some l → ∃ v, vs[j]? = some v ∧ IntsN w (fun b => b < w.heap.size ∧ V.ownBlock ≠ some b) v l
theorem RowsIn.nil (w : World) (V : Value) : RowsIn w V [] [] := fun j l h => by simp at h
theorem RowsIn.below {w w' : World} {V : Value} {K : List (List Int)} {vs : List Value} (h : RowsIn w V K vs) (hb : Below w.heap.size w w') : RowsIn w' V K vs := by
  intro j l hj
  obtain ⟨v, hv, hi⟩ := h j l hj
  exact ⟨v, hv, hi.keep (fun b hN => hb.block b hN.1) (fun b hN => ⟨Nat.lt_of_lt_of_le hN.1 hb.size, hN.2⟩)⟩
theorem RowsIn.push {w w1 w2 : World} {V V' v : Value} {K : List (List Int)} {vs : List Value} {l : List Int} (h : RowsIn w V K vs) (hlen : vs.length = K.length) (hv : IntsN w (fun b => b < w.heap.size ∧ V.ownBlock ≠ some b) v l)
    (h1 : Below w.heap.size w w1) (hg : w1.grownBy w2 V.ownBlock) (hloc : V'.ownBlock = V.ownBlock ∨ V'.ownBlock = some w1.heap.size) : RowsIn w2 V' (K ++ [l]) (vs ++ [v]) := by
  have hk : ∀ b, (b < w.heap.size ∧ V.ownBlock ≠ some b) → w2.heap[b]? = w.heap[b]? := fun b hN =>
    (hg.block b (Nat.lt_of_lt_of_le hN.1 h1.size) (fun e => hN.2 e.symm)).trans (h1.block b hN.1)
  have hN : ∀ b, (b < w.heap.size ∧ V.ownBlock ≠ some b) → (b < w2.heap.size ∧ V'.ownBlock ≠ some b) := fun b hN => by
    refine ⟨Nat.lt_of_lt_of_le hN.1 (Nat.le_trans h1.size hg.size), fun e => ?_⟩
    rcases hloc with h2 | h2
    · exact hN.2 (h2.symm.trans e)
    · rw [h2] at e
      injection e with e
      have := h1.size
      omega
  intro j l' hj
  rcases Nat.lt_trichotomy j K.length with hlt | heq | hgt
  · rw [List.getElem?_append_left hlt] at hj
    obtain ⟨u, hu, hi⟩ := h j l' hj
    exact ⟨u, by rw [List.getElem?_append_left (by omega)]; exact hu, hi.keep hk hN⟩
  · subst heq
    rw [List.getElem?_append_right (Nat.le_refl _), Nat.sub_self] at hj
    injection hj with hj
    subst hj
    exact ⟨v, by rw [← hlen, List.getElem?_append_right (Nat.le_refl _), Nat.sub_self]; rfl, hv.keep hk hN⟩
  · rw [List.getElem?_eq_none (by simp; omega)] at hj
    cases hj
theorem RowsIn.mat {w : World} {B : Nat} {V : Value} {K : List (List Int)} {vs : List Value} (h : RowsIn w V K vs) (ho : w.ownsRow B 38 1 V K.length vs) : MatAt w w.heap.size V K := by
  rcases ho.2 with ⟨rfl, h0⟩ | ⟨g, cap, cur, rfl, hg, hgg, h1, h2, h3, h4⟩
  · have : K = [] := List.eq_nil_of_length_eq_zero h0
    subst this
    exact mat_nil _ _
  · have hm : maxLen = 9223372036854775807 := rfl
    refine ⟨_, cap, rfl, by omega, fun _ => ⟨g, 0, rfl, size_of_block hgg, fun j l hj => ?_⟩⟩
    obtain ⟨v, hv, hi⟩ := h j l hj
    refine ⟨v, ?_, hi.ints (fun b hN => hN.1)⟩
    rw [cell_of_block hgg]
    rw [← h4, List.getElem?_take] at hv
    split at hv
    · simpa using hv
    · cases hv
theorem Try.infoInts : (Try.prog.info? 38).map (fun i => (i.zero, i.size, i.bytes)) = some (some (.slice none 0 0), 1, 24) := by kernel_rfl
theorem one_new13 {w : World} {x : Value} {T : TypeId} (j : Nat) (u : Value) (hj : [x][j]? = some u) : (w.alloc (.cells #[x] T (0, 0))).cell? ((⟨w.heap.size, 0, none⟩ : Addr).add j) = some u := by
  match j, hj with
  | 0, hj => rw [Addr.add_lit, cell_of_block (heap_alloc_new _ _)]; exact hj

/-! ### Rows in their order -/
theorem lexL_irr : ∀ a : List Int, lexL a a = false
  | [] => rfl
  | x :: a => by rw [lexL, if_pos rfl]; exact lexL_irr a
theorem lexL_asym : ∀ {a b : List Int}, lexL a b = true → lexL b a = false
  | [], _, h => by simp [lexL] at h
  | _ :: _, [], h => by simp [lexL] at h
  | x :: a, y :: b, h => by
    unfold lexL at h ⊢
    by_cases e : x = y
    · rw [if_pos e] at h
      rw [if_pos e.symm]
      exact lexL_asym h
    · rw [if_neg e] at h
      rw [if_neg (fun e' => e e'.symm)]
      have := of_decide_eq_true h
      exact decide_eq_false (by omega)
theorem lexL_trans : ∀ {a b c : List Int}, lexL a b = true → lexL b c = true → lexL a c = true
  | [], _, _, h, _ => by simp [lexL] at h
  | _ :: _, [], _, h, _ => by simp [lexL] at h
  | _ :: _, _ :: _, [], _, h => by simp [lexL] at h
  | x :: a, y :: b, z :: c, h1, h2 => by
    unfold lexL at h1 h2 ⊢
    by_cases e : x = y
    · rw [if_pos e] at h1
      subst e
      by_cases e2 : x = z
      · rw [if_pos e2] at h2 ⊢
        exact lexL_trans h1 h2
      · rw [if_neg e2] at h2 ⊢
        exact h2
    · rw [if_neg e] at h1
      have := of_decide_eq_true h1
      by_cases e2 : y = z
      · subst e2
        rw [if_neg e]
        exact h1
      · rw [if_neg e2] at h2
        have := of_decide_eq_true h2
        rw [if_neg (by omega)]
        exact decide_eq_true (by omega)
theorem lexL_total : ∀ {a b : List Int}, a.length = b.length → a ≠ b → lexL a b = true ∨ lexL b a = true
  | [], [], _, h => absurd rfl h
  | [], _ :: _, h, _ => by simp at h
  | _ :: _, [], h, _ => by simp at h
  | x :: a, y :: b, h, hne => by
    unfold lexL
    by_cases e : x = y
    · rw [if_pos e, if_pos e.symm]
      subst e
      exact lexL_total (by simpa using h) (fun e => hne (by rw [e]))
    · rw [if_neg e, if_neg (fun e' => e e'.symm)]
      rcases Int.lt_or_lt_of_ne e with h | h
      · exact .inl (decide_eq_true h)
      · exact .inr (decide_eq_true h)
theorem ahead_iff {a b : List Int} : aheadL a b = true ↔ a.length < b.length ∨ a.length = b.length ∧ lexL a b = true := by
  unfold aheadL
  simp
theorem ahead_irr (a : List Int) : ¬ aheadL a a = true := by
  rw [ahead_iff, lexL_irr]
  simp
theorem ahead_asym {a b : List Int} (h : aheadL a b = true) : ¬ aheadL b a = true := by
  rw [ahead_iff] at h ⊢
  rcases h with h | ⟨h, h2⟩
  · intro h3
    rcases h3 with h3 | ⟨h3, -⟩ <;> omega
  · intro h3
    rcases h3 with h3 | ⟨h3, h4⟩
    · omega
    · rw [lexL_asym h2] at h4
      cases h4
theorem ahead_trans {a b c : List Int} (h1 : aheadL a b = true) (h2 : aheadL b c = true) : aheadL a c = true := by
  rw [ahead_iff] at h1 h2 ⊢
  rcases h1 with h1 | ⟨h1, g1⟩
  · rcases h2 with h2 | ⟨h2, -⟩
    · exact .inl (by omega)
    · exact .inl (by omega)
  · rcases h2 with h2 | ⟨h2, g2⟩
    · exact .inl (by omega)
    · exact .inr ⟨by omega, lexL_trans g1 g2⟩
theorem ahead_total {a b : List Int} (h : a ≠ b) : aheadL a b = true ∨ aheadL b a = true := by
  rw [ahead_iff, ahead_iff]
  rcases Nat.lt_trichotomy a.length b.length with h1 | h1 | h1
  · exact .inl (.inl h1)
  · rcases lexL_total h1 h with h2 | h2
    · exact .inl (.inr ⟨h1, h2⟩)
    · exact .inr (.inr ⟨h1.symm, h2⟩)
  · exact .inr (.inl h1)
/-- Two rising rows of the same members are one. -/
theorem ahead_ext : ∀ {l m : List (List Int)}, l.Pairwise (fun a b => aheadL a b = true) → m.Pairwise (fun a b => aheadL a b = true) → (∀ x, x ∈ l ↔ x ∈ m) → l = m
  | [], [], _, _, _ => rfl
  | [], y :: m, _, _, h => absurd ((h y).2 (List.mem_cons_self ..)) (by simp)
  | x :: l, [], _, _, h => absurd ((h x).1 (List.mem_cons_self ..)) (by simp)
  | x :: l, y :: m, hl, hm, h => by
    rw [List.pairwise_cons] at hl hm
    have e : x = y := by
      rcases List.mem_cons.1 ((h x).1 (List.mem_cons_self ..)) with e | hx
      · exact e
      · rcases List.mem_cons.1 ((h y).2 (List.mem_cons_self ..)) with e | hy
        · exact e.symm
        · exact absurd (hm.1 x hx) (ahead_asym (hl.1 y hy))
    subst e
    have : l = m := ahead_ext hl.2 hm.2 fun z => by
      constructor
      · intro hz
        rcases List.mem_cons.1 ((h z).1 (List.mem_cons_of_mem _ hz)) with e | h2
        · subst e; exact absurd (hl.1 z hz) (ahead_irr z)
        · exact h2
      · intro hz
        rcases List.mem_cons.1 ((h z).2 (List.mem_cons_of_mem _ hz)) with e | h2
        · subst e; exact absurd (hm.1 z hz) (ahead_irr z)
        · exact h2
    rw [this]
end Go.Proofs.Ytjjpobpcpgcbaaa
