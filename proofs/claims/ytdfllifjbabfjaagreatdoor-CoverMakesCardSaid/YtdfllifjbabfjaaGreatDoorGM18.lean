/- The document's own Rows of layer 13. -/
import Derived.Test.YtdfllifjbabfjaaGreatDoorGM06
import Derived.Test.YtdfllifjbabfjaaGreatDoorGM17
import Derived.Test.YtdfllifjbabfjaaGreatDoorGM14
namespace Go.Proofs.YtdfllifjbabfjaaGreatDoor
open Go.RowKit Go.Joins

/-! ### Plain -/
def hitC (rs : List Rw) (out p c : Nat) : Bool := match rs[c]? with
  | some x => x.o.getLsbD out && fits x.m x.v 8 p
  | none => false
def colsN (rs : List Rw) (out p k : Nat) : List Nat := (List.range k).filter (hitC rs out p)
/-- The columns of one point. -/
def colsR (rs : List Rw) (out p : Nat) : List Int := (colsN rs out p rs.length).map fun c : Nat => (c : Int)
theorem colsN_yes {rs : List Rw} {out p k : Nat} {x : Rw} (hx : rs[k]? = some x) (h : (x.o.getLsbD out && fits x.m x.v 8 p) = true) : colsN rs out p (k + 1) = colsN rs out p k ++ [k] := by
  unfold colsN
  rw [List.range_succ, List.filter_append]
  simp [hitC, hx, h]
theorem colsN_no {rs : List Rw} {out p k : Nat} {x : Rw} (hx : rs[k]? = some x) (h : (x.o.getLsbD out && fits x.m x.v 8 p) = false) : colsN rs out p (k + 1) = colsN rs out p k := by
  unfold colsN
  rw [List.range_succ, List.filter_append]
  simp [hitC, hx, h]
theorem colsN_len (rs : List Rw) (out p k : Nat) : (colsN rs out p k).length ≤ k := by
  unfold colsN
  exact Nat.le_trans (List.length_filter_le _ _) (by rw [List.length_range]; exact Nat.le_refl _)
def gotL (on : List (BitVec 256)) (rs : List Rw) (o i : Nat) : List (List Int) :=
  ((List.range o).flatMap fun q => (pts (on.getD q 0)).map fun p => colsR rs q p) ++ ((pts (on.getD o 0)).take i).map fun p => colsR rs o p
def Got (on : List (BitVec 256)) (rs : List Rw) (o i : Nat) (K : List (List Int)) : Prop := K.Nodup ∧ ∀ x, x ∈ K ↔ x ∈ gotL on rs o i
theorem got_point {on : List (BitVec 256)} {rs : List Rw} {o i p : Nat} {X : BitVec 256} (hX : on[o]? = some X) (hp : (pts X)[i]? = some p) : gotL on rs o (i + 1) = gotL on rs o i ++ [colsR rs o p] := by
  unfold gotL
  rw [show on.getD o 0 = X by simp [List.getD, hX], List.take_add_one, hp]
  simp
theorem got_next {on : List (BitVec 256)} {rs : List Rw} {o : Nat} {X : BitVec 256} (hX : on[o]? = some X) : gotL on rs o (pts X).length = gotL on rs (o + 1) 0 := by
  unfold gotL
  rw [show on.getD o 0 = X by simp [List.getD, hX], List.take_length, List.range_succ, List.flatMap_append]
  simp [List.getD, hX]
theorem Got.met {on : List (BitVec 256)} {rs : List Rw} {o i p : Nat} {X : BitVec 256} {K : List (List Int)} (h : Got on rs o i K) (hX : on[o]? = some X) (hp : (pts X)[i]? = some p) (hm : colsR rs o p ∈ K) : Got on rs o (i + 1) K := by
  refine ⟨h.1, fun x => ?_⟩
  rw [got_point hX hp, List.mem_append, List.mem_singleton, ← h.2]
  exact ⟨.inl, fun hx => hx.elim id (fun e => e ▸ hm)⟩
theorem Got.new {on : List (BitVec 256)} {rs : List Rw} {o i p : Nat} {X : BitVec 256} {K : List (List Int)} (h : Got on rs o i K) (hX : on[o]? = some X) (hp : (pts X)[i]? = some p) (hm : colsR rs o p ∉ K) : Got on rs o (i + 1) (K ++ [colsR rs o p]) := by
  refine ⟨?_, fun x => ?_⟩
  · rw [List.nodup_append]
    refine ⟨h.1, by simp, fun a ha b hb e => ?_⟩
    rw [List.mem_singleton.1 hb] at e
    exact hm (e ▸ ha)
  · rw [got_point hX hp, List.mem_append, List.mem_append, h.2]
theorem own_int13 {w : World} {B n : Nat} {v : Value} {o : List Nat} (h : w.ownsRow B 3 1 v n (intsV o)) : IntsAt w w.heap.size v (o.map fun c : Nat => (c : Int)) := by
  have hn : o.length = n := by have := h.1; unfold intsV at this; rw [List.length_map] at this; omega
  rcases h.2 with ⟨rfl, h0⟩ | ⟨g, cap, cur, rfl, hg, hgg, hnc, hcm, hcs, htake⟩
  · have : o = [] := List.eq_nil_of_length_eq_zero (by omega)
    subst this
    exact ⟨none, 0, rfl, by decide, fun h => absurd h (by decide)⟩
  · have hm : maxLen = 9223372036854775807 := rfl
    refine ⟨some ⟨g, 0, none⟩, cap, by rw [List.length_map, hn], by rw [List.length_map]; omega, fun _ => ⟨g, 0, rfl, size_of_block hgg, fun j x hx => ?_⟩⟩
    rw [cell_of_block hgg]
    have h2 : (intsV o)[j]? = some (Value.int .i64 x) := by
      rw [List.getElem?_map] at hx
      unfold intsV
      rw [List.getElem?_map]
      cases ho : o[j]? with
      | none => rw [ho] at hx; cases hx
      | some y => rw [ho] at hx; injection hx with hx; rw [← hx]; rfl
    rw [← htake, List.getElem?_take] at h2
    split at h2
    · simpa using h2
    · cases h2
theorem own_intsN {w w0 : World} {n : Nat} {V v : Value} {o : List Nat} (h : w.ownsRow w0.heap.size 3 1 v n (intsV o)) (hV : ∀ g, V.ownBlock = some g → g < w0.heap.size) : IntsN w (fun b => b < w.heap.size ∧ V.ownBlock ≠ some b) v (o.map fun c : Nat => (c : Int)) := by
  refine (own_int13 h).intsN fun b off m c e h0 hb => ⟨hb, fun e2 => ?_⟩
  have h1 := hV b e2
  rcases h.2 with ⟨rfl, -⟩ | ⟨g, cap, cur, rfl, hg, -⟩
  · cases e
  · injection e with e
    injection e with e
    injection e with e
    omega
theorem intsV_snoc (l : List Nat) (x : Nat) : intsV (l ++ [x]) = intsV l ++ [.int .i64 (x : Int)] := by unfold intsV; rw [List.map_append]; rfl
theorem pts_len13 (S : BitVec 256) : (pts S).length ≤ 256 := by
  unfold pts
  exact Nat.le_trans (List.length_filter_le _ _) (by rw [List.length_range]; exact Nat.le_refl _)
theorem pts_at13 (S : BitVec 256) {j p : Nat} (h : (pts S)[j]? = some p) : p < 256 := by
  have := List.mem_of_getElem? h
  unfold pts at this
  rw [List.mem_filter, List.mem_range] at this
  exact this.1
theorem any_mem13 (K : List (List Int)) (x : List Int) : (K.any fun y => decide (y = x)) = decide (x ∈ K) := by
  rw [Bool.eq_iff_iff, List.any_eq_true, decide_eq_true_iff]
  exact ⟨fun ⟨y, hy, e⟩ => of_decide_eq_true e ▸ hy, fun h => ⟨x, h, decide_eq_true rfl⟩⟩
def Apart (V U : Value) : Prop := ∀ g, V.ownBlock = some g → U.ownBlock ≠ some g
theorem own_cells13 {w : World} {base size n : Nat} {e : TypeId} {v : Value} {xs : List Value} (h : w.ownsRow base e size v n xs) (hn : 0 < n) :
    ∃ g c, v = .slice (some ⟨g, 0, none⟩) n c ∧ g < w.heap.size ∧ n ≤ 9223372036854775807 ∧ ∀ i x, xs[i]? = some x → w.cell? ⟨g, i, none⟩ = some x := by
  rcases h.2 with ⟨rfl, h0⟩ | ⟨g, cap, cur, rfl, hg, hgg, h1, h2, h3, h4⟩
  · omega
  · have hm : maxLen = 9223372036854775807 := rfl
    refine ⟨g, cap, rfl, size_of_block hgg, by omega, fun i x hx => ?_⟩
    rw [cell_of_block hgg]
    rw [← h4, List.getElem?_take] at hx
    split at hx
    · simpa using hx
    · cases hx
/-! ### Sorting by choosing, plain -/
def lenV : Value → Nat
  | .slice _ n _ => n
  | _ => 0
def behB (O : List (List Int)) (x : List Int) : Bool := match O.getLast? with
  | none => true
  | some y => aheadL y x
def Sel (K O : List (List Int)) : Prop := O.Pairwise (fun a b => aheadL a b = true) ∧ (∀ x, x ∈ O → x ∈ K) ∧ ∀ x, x ∈ K → x ∈ O ∨ ∀ y, y ∈ O → aheadL y x = true
theorem Sel.nil (K : List (List Int)) : Sel K [] := ⟨List.Pairwise.nil, fun x h => by simp at h, fun x _ => .inr fun y h => by simp at h⟩
theorem last_all {O : List (List Int)} (h : O.Pairwise (fun a b => aheadL a b = true)) {y : List Int} (hy : O.getLast? = some y) : ∀ x, x ∈ O → x = y ∨ aheadL x y = true := by
  obtain ⟨P, rfl⟩ := List.getLast?_eq_some_iff.1 hy
  intro x hx
  rw [List.pairwise_append] at h
  rcases List.mem_append.1 hx with hx | hx
  · exact .inr (h.2.2 x hx y (by simp))
  · exact .inl (List.mem_singleton.1 hx)
theorem Sel.beh {K O : List (List Int)} (h : Sel K O) {x : List Int} (hx : x ∈ K) : behB O x = true ↔ x ∉ O := by
  unfold behB
  cases hl : O.getLast? with
  | none =>
    rw [List.getLast?_eq_none_iff] at hl
    subst hl
    simp
  | some y =>
    have hy : y ∈ O := List.mem_of_getLast? hl
    show aheadL y x = true ↔ x ∉ O
    constructor
    · intro h1 h2
      rcases last_all h.1 hl x h2 with e | e
      · subst e; exact ahead_irr x h1
      · exact ahead_asym h1 e
    · intro h1
      rcases h.2.2 x hx with h2 | h2
      · exact absurd h2 h1
      · exact h2 y hy
def BestI (K O : List (List Int)) (i : Nat) (z : Int) : Prop :=
  (z = -1 ∧ ∀ (j : Nat) (y : List Int), j < i → K[j]? = some y → behB O y = false) ∨
  ∃ (m : Nat) (x : List Int), z = m ∧ K[m]? = some x ∧ behB O x = true ∧ ∀ (j : Nat) (y : List Int), j < i → K[j]? = some y → behB O y = true → ¬ aheadL y x = true
theorem BestI.zero (K O : List (List Int)) : BestI K O 0 (-1) := .inl ⟨rfl, fun _ _ h => absurd h (Nat.not_lt_zero _)⟩
theorem BestI.skip {K O : List (List Int)} {i : Nat} {z : Int} {x : List Int} (h : BestI K O i z) (hx : K[i]? = some x) (hb : behB O x = false) : BestI K O (i + 1) z := by
  rcases h with ⟨e, h⟩ | ⟨m, u, e, hu, hbu, h⟩
  · refine .inl ⟨e, fun j y hj hy => ?_⟩
    by_cases e2 : j = i
    · subst e2; rw [hx] at hy; injection hy with hy; rw [← hy]; exact hb
    · exact h j y (by omega) hy
  · refine .inr ⟨m, u, e, hu, hbu, fun j y hj hy hby => ?_⟩
    by_cases e2 : j = i
    · subst e2; rw [hx] at hy; injection hy with hy; rw [← hy, hb] at hby; cases hby
    · exact h j y (by omega) hy hby
theorem BestI.first {K O : List (List Int)} {i : Nat} {x : List Int} (h : BestI K O i (-1)) (hx : K[i]? = some x) (hb : behB O x = true) : BestI K O (i + 1) i := by
  rcases h with ⟨-, h⟩ | ⟨m, u, e, -⟩
  · refine .inr ⟨i, x, rfl, hx, hb, fun j y hj hy hby => ?_⟩
    by_cases e2 : j = i
    · subst e2; rw [hx] at hy; injection hy with hy; rw [← hy]; exact ahead_irr x
    · rw [h j y (by omega) hy] at hby; cases hby
  · omega
theorem BestI.turn {K O : List (List Int)} {i m : Nat} {x u : List Int} (h : BestI K O i (m : Int)) (hu : K[m]? = some u) (hx : K[i]? = some x) (hb : behB O x = true) (ha : aheadL x u = true) : BestI K O (i + 1) i := by
  rcases h with ⟨e, -⟩ | ⟨m', u', e, hu', hbu, h⟩
  · omega
  · have : m' = m := by omega
    subst this
    rw [hu] at hu'
    injection hu' with hu'
    subst hu'
    refine .inr ⟨i, x, rfl, hx, hb, fun j y hj hy hby h2 => ?_⟩
    by_cases e2 : j = i
    · subst e2; rw [hx] at hy; injection hy with hy; rw [← hy] at h2; exact ahead_irr x h2
    · exact h j y (by omega) hy hby (ahead_trans h2 ha)
theorem BestI.stay {K O : List (List Int)} {i m : Nat} {x u : List Int} (h : BestI K O i (m : Int)) (hu : K[m]? = some u) (hx : K[i]? = some x) (ha : aheadL x u = false) : BestI K O (i + 1) m := by
  rcases h with ⟨e, -⟩ | ⟨m', u', e, hu', hbu, h⟩
  · omega
  · have : m' = m := by omega
    subst this
    rw [hu] at hu'
    injection hu' with hu'
    subst hu'
    refine .inr ⟨m', u, rfl, hu, hbu, fun j y hj hy hby h2 => ?_⟩
    by_cases e2 : j = i
    · subst e2; rw [hx] at hy; injection hy with hy; rw [← hy, ha] at h2; cases h2
    · exact h j y (by omega) hy hby h2
theorem nodup_le13 {α : Type} [DecidableEq α] : ∀ (a b : List α), a.Nodup → (∀ x ∈ a, x ∈ b) → a.length ≤ b.length
  | [], _, _, _ => Nat.zero_le _
  | x :: a, b, hn, h => by
    rw [List.nodup_cons] at hn
    have hx := h x (List.mem_cons_self ..)
    have := nodup_le13 a (b.erase x) hn.2 fun y hy => by
      have hne : y ≠ x := fun e => hn.1 (e ▸ hy)
      exact (List.mem_erase_of_ne hne).2 (h y (List.mem_cons_of_mem _ hy))
    rw [List.length_erase_of_mem hx] at this
    have := List.length_pos_of_mem hx
    rw [List.length_cons]
    omega
theorem pw_nodup13 {O : List (List Int)} (h : O.Pairwise (fun a b => aheadL a b = true)) : O.Nodup := h.imp fun h e => by subst e; exact ahead_irr _ h
theorem BestI.found {K O : List (List Int)} {z : Int} (h : BestI K O K.length z) (hs : Sel K O) (hn : K.Nodup) (hl : O.length < K.length) : ∃ (m : Nat) (x : List Int), z = m ∧ K[m]? = some x ∧ Sel K (O ++ [x]) := by
  rcases h with ⟨-, h⟩ | ⟨m, x, e, hx, hb, h⟩
  · have := nodup_le13 K O hn fun x hx => by
      obtain ⟨j, hj, rfl⟩ := List.mem_iff_getElem.1 hx
      have h2 := h j _ hj (List.getElem?_eq_getElem hj)
      by_cases h3 : K[j] ∈ O
      · exact h3
      · rw [(hs.beh hx).2 h3] at h2; cases h2
    omega
  · have hxK := List.mem_of_getElem? hx
    have hxO := (hs.beh hxK).1 hb
    have hall : ∀ y, y ∈ O → aheadL y x = true := (hs.2.2 x hxK).resolve_left hxO
    refine ⟨m, x, e, hx, ?_, fun y hy => ?_, fun y hy => ?_⟩
    · rw [List.pairwise_append]
      refine ⟨hs.1, by simp, fun a ha b hb => ?_⟩
      rw [List.mem_singleton.1 hb]
      exact hall a ha
    · rcases List.mem_append.1 hy with hy | hy
      · exact hs.2.1 y hy
      · rw [List.mem_singleton.1 hy]; exact hxK
    · by_cases h3 : y ∈ O
      · exact .inl (List.mem_append_left _ h3)
      · by_cases h4 : y = x
        · exact .inl (List.mem_append_right _ (by simp [h4]))
        · obtain ⟨j, hj, rfl⟩ := List.mem_iff_getElem.1 hy
          have h5 := h j _ hj (List.getElem?_eq_getElem hj) ((hs.beh hy).2 h3)
          have h6 := (ahead_total h4).resolve_left h5
          refine .inr fun q hq => ?_
          rcases List.mem_append.1 hq with hq | hq
          · exact (hs.2.2 _ hy).resolve_left h3 q hq
          · rw [List.mem_singleton.1 hq]; exact h6
theorem Sel.done {K O : List (List Int)} (hs : Sel K O) (hl : K.length ≤ O.length) : ∀ x, x ∈ O ↔ x ∈ K := fun x => by
  refine ⟨hs.2.1 x, fun hx => ?_⟩
  by_cases h : x ∈ O
  · exact h
  · have := nodup_le13 (x :: O) K (List.nodup_cons.2 ⟨h, pw_nodup13 hs.1⟩) fun y hy => by
      rcases List.mem_cons.1 hy with e | hy
      · rw [e]; exact hx
      · exact hs.2.1 y hy
    rw [List.length_cons] at this
    omega
theorem beh_last {O : List (List Int)} {q : Nat} {y x : List Int} (hl : O.length = q + 1) (hy : O[q]? = some y) : behB O x = aheadL y x := by
  unfold behB
  rw [List.getLast?_eq_getElem?, hl, Nat.add_sub_cancel, hy]
set_option maxHeartbeats 8000000 in
set_option maxRecDepth 100000 in
theorem rrows13_any (i : Int) (A C L : Value) (on may : List (BitVec 256)) (rs : List Rw) (w : World) (hA : SetsAt w w.heap.size A on) (hC : SetsAt w w.heap.size C may) (hL : RwsAt w w.heap.size L rs) (h8 : on.length ≤ 8) (h60 : rs.length ≤ 60) :
    Calls Tryz.prog 10 #[spv i A C, L] w fun e w' => ∃ v K, e = .returned v ∧ MatAt w' w'.heap.size v K ∧ K.Pairwise (fun a b => aheadL a b = true) ∧ (∀ x, x ∈ K ↔ x ∈ gotL on rs on.length 0) ∧ Below w.heap.size w w' := by
  obtain ⟨i0, hi0, hz0, hz1, hz2⟩ := info_parts Tryz.infoInt
  obtain ⟨j0, hj0, jz0, jz1, jz2⟩ := info_parts Tryz.infoInts
  have HLi := fun S w => reflist_any S w
  have HB := fun (x : BitVec 8) (q : Nat) (hq : q < 8) w => bit8_any x q hq w
  have HH := fun (x : Rw) (p : Nat) (hp : p < 256) w => rhas_any x.m x.v p hp w
  have HS := fun (v u : Value) (xs ys : List Int) (w : World) (h1 : IntsAt w w.heap.size v xs) (h2 : IntsAt w w.heap.size u ys) => rsame13_any w v u xs ys h1 h2
  have HD := fun (v u : Value) (xs ys : List Int) (w : World) (h1 : IntsAt w w.heap.size v xs) (h2 : IntsAt w w.heap.size u ys) => rahead13_any w v u xs ys h1 h2
  have hB0 := below_alloc1 w (spb i A C)
  have hbx := heap_alloc_new w (spb i A C)
  have hs1 : (w.alloc (spb i A C)).heap.size = w.heap.size + 1 := by simp
  obtain ⟨A1, c1, rfl, hlA, hcA⟩ := hA
  obtain ⟨A2, c2, rfl, -, -⟩ := hC
  obtain ⟨A3, c3, rfl, hlL, hcL⟩ := hL
  unfold spv sv cv at *
  unfold spb bvv wv at *
  go_enter Tryz.func10, Tryz.ntmps10
  go_wp2
  go_loopw [5, 6] (fun V t wr => ∃ (o : Nat) (K : List (List Int)) (vs : List Value), o ≤ on.length ∧ t = .int .i64 o ∧ Hid (Got on rs o 0 K) ∧ K.length ≤ 256 * o ∧ wr.ownsRow (w.heap.size + 1) 45 1 V K.length vs ∧ RowsIn wr V K vs ∧ wr.heap[w.heap.size]? = some (.cells #[.int .i64 i, .slice A1 on.length c1, .slice A2 may.length c2] 24 (0, 0)) ∧ Below w.heap.size w wr) (fun _ t _ => on.length - (intOf t).toNat)
  case atStart => exact ⟨0, [], [], by omega, rfl, Lib.hid ⟨List.nodup_nil, fun x => by simp [gotL]⟩, by simp, World.ownsRow_nil _ _ _ _, RowsIn.nil _ _, hbx, hB0⟩
  case round =>
    clear hbx hB0
    obtain ⟨o, K, vs, ho, rfl, hG, hKl, hown, hin, hbx, hb⟩ := hrel
    obtain ⟨AV, cV, rfl⟩ := own_form hown
    obtain ⟨u0, u1, u2, -⟩ := now3 hbx rfl
    by_cases hol : o < on.length
    · obtain ⟨b1, off1, rfl, hB1, hc1⟩ := hcA (by omega)
      obtain ⟨X, hX⟩ : ∃ X, on[o]? = some X := ⟨_, List.getElem?_eq_getElem hol⟩
      obtain ⟨x0, x1, x2, x3⟩ := hc1 o X hX
      have q0 := (hb.cell (p := ⟨b1, off1 + o * 4, none⟩) hB1).trans x0
      have q1 := (hb.cell (p := ⟨b1, off1 + o * 4 + 1, none⟩) hB1).trans x1
      have q2 := (hb.cell (p := ⟨b1, off1 + o * 4 + 2, none⟩) hB1).trans x2
      have q3 := (hb.cell (p := ⟨b1, off1 + o * 4 + 3, none⟩) hB1).trans x3
      have o0 : (0 : Int) ≤ (o : Int) := by omega
      have o1 : (o : Int) < (on.length : Int) := by omega
      have HLX := HLi X wr
      have hXH := Lib.hid hX
      have hG1 : Hid (Got on rs o 0 K) := hG
      clear hcA hc1 x0 x1 x2 x3 hX hG
      go_wp2_with fail
      refine HLX.mono ?_
      rintro e w2 ⟨V7, rfl, ho7, hb2⟩
      have hV : ∀ g, (Value.slice AV K.length cV).ownBlock = some g → g < wr.heap.size := fun g hg => (hown.lt g hg).2
      have hown2 := owns_below hown hb2
      have hin2 := hin.below hb2
      have hbx2 := keep_blk hb2 hbx
      have hBw2 := hb.trans (hb2.mono hb.size)
      have hs12 : w.heap.size + 1 ≤ wr.heap.size := size_of_block hbx
      have hap : Apart (.slice AV K.length cV) V7 := fun g hg e => by
        have h1 := hV g hg
        have h2 := (ho7.lt g e).1
        omega
      have ho7b := own_more ho7 hs12
      obtain ⟨A7, c7, rfl⟩ := own_form ho7
      clear u0 u1 u2 q0 q1 q2 q3 HLX hown hin hbx hb ho7 hV hs12
      go_wp2
      go_loopw [5, 8] (fun V t wi => ∃ (j : Nat) (K : List (List Int)) (vs : List Value), j ≤ (pts X).length ∧ t = .int .i64 j ∧ Hid (Got on rs o j K) ∧ K.length ≤ 256 * o + j ∧ wi.ownsRow (w.heap.size + 1) 45 1 V K.length vs ∧ RowsIn wi V K vs ∧ wi.heap[w.heap.size]? = some (.cells #[.int .i64 i, .slice (some ⟨b1, off1, none⟩) on.length c1, .slice A2 may.length c2] 24 (0, 0)) ∧
        wi.ownsRow (w.heap.size + 1) 3 1 (.slice A7 (pts X).length c7) (pts X).length (intsV (pts X)) ∧ Apart V (.slice A7 (pts X).length c7) ∧ Below w.heap.size w wi) (fun _ t _ => (pts X).length - (intOf t).toNat)
      case atStart => exact ⟨0, K, vs, by omega, rfl, hG1, by omega, hown2, hin2, hbx2, ho7b, hap, hBw2⟩
      case round =>
        clear hown2 hin2 hbx2 ho7b hap hBw2 hG1 hKl
        obtain ⟨j, K, vs, hj, rfl, hG, hKl, hown, hin, hbx, ho7, hap, hb⟩ := hrel
        obtain ⟨AV, cV, rfl⟩ := own_form hown
        by_cases hjl : j < (pts X).length
        · obtain ⟨p, hp⟩ : ∃ p, (pts X)[j]? = some p := ⟨_, List.getElem?_eq_getElem hjl⟩
          have hp256 := pts_at13 X hp
          have hpl := pts_len13 X
          obtain ⟨g7, cap7, e7, hg7, -, hc7⟩ := own_cells13 ho7 (by omega)
          injection e7 with e7 _ e7c
          subst e7
          subst e7c
          have d7 := hc7 j _ (by unfold intsV; rw [List.getElem?_map, hp]; rfl)
          have j0' : (0 : Int) ≤ (j : Int) := by omega
          have j1' : (j : Int) < ((pts X).length : Int) := by omega
          have hpH := Lib.hid hp
          clear hc7 hp
          go_wp2
          rename World => wi
          go_loopw [9, 10] (fun R t wk => ∃ c : Nat, c ≤ rs.length ∧ t = .int .i64 c ∧ wk.ownsRow wi.heap.size 3 1 R (colsN rs o p c).length (intsV (colsN rs o p c)) ∧ Below wi.heap.size wi wk) (fun _ t _ => rs.length - (intOf t).toNat)
          case atStart => exact ⟨0, by omega, rfl, World.ownsRow_nil _ _ _ _, Below.refl _ _⟩
          case round =>
            obtain ⟨c, hc, rfl, hoR, hbk⟩ := hrel
            by_cases hcl : c < rs.length
            · obtain ⟨b3, off3, rfl, hB3, hc3⟩ := hcL (by omega)
              obtain ⟨x, hx⟩ : ∃ x, rs[c]? = some x := ⟨_, List.getElem?_eq_getElem hcl⟩
              obtain ⟨z0, z1, z2⟩ := hc3 c x hx
              have hbw := hb.trans (hbk.mono hb.size)
              have y0 := fun X : After wr => After.cell X ((hbw.cell (p := ⟨b3, off3 + c * 3, none⟩) hB3).trans z0)
              have y1 := fun X : After wr => After.cell X ((hbw.cell (p := ⟨b3, off3 + c * 3 + 1, none⟩) hB3).trans z1)
              have y2 := fun X : After wr => After.cell X ((hbw.cell (p := ⟨b3, off3 + c * 3 + 2, none⟩) hB3).trans z2)
              have e7 := fun X : After wr => After.cell X ((hbk.cell (p := ⟨g7, j, none⟩) hg7).trans d7)
              have c0 : (0 : Int) ≤ (c : Int) := by omega
              have c1 : (c : Int) < (rs.length : Int) := by omega
              have hcn := colsN_len rs o p c
              have HBc := fun w => HB x.o o (by omega) w
              have HHc := fun w => HH x p hp256 w
              have hyes := Lib.hid (colsN_yes (out := o) (p := p) hx)
              have hno := Lib.hid (colsN_no (out := o) (p := p) hx)
              clear hcL hc3 z0 z1 z2 hx HB HH HLi HS HD
              cases hbit : x.o.getLsbD o
              · rw [hbit] at HBc
                have hst := Lib.hid (hno.out (by rw [hbit]; rfl))
                clear hbit hyes hno
                go_wp2_with fail
                refine wp_region_after (by kernel_rfl) (by kernel_rfl) ?_
                repeat (first | go_big_quiet_step ((first | (go_at_call 29; exact Calls.after_same (HBc _)) | (go_at_call 30; exact Calls.after_of (HHc _)))))
                refine wpQuiet_nil ?_
                intro z
                have hbz := hbk.trans (z.2.mono hbk.size)
                have hoz := owns_below hoR z.2
                clear y0 y1 y2 e7 HBc HHc
                go_wp2
                go_roundw
                case rel => exact ⟨c + 1, by omega, by go_num, by rw [hst.out]; exact hoz, hbz⟩
                case measure => simp [intOf]; omega
              · rw [hbit] at HBc
                cases hfit : fits x.m x.v 8 p
                · rw [hfit] at HHc
                  have hst := Lib.hid (hno.out (by rw [hbit, hfit]; rfl))
                  clear hbit hfit hyes hno
                  go_wp2_with fail
                  refine wp_region_after (by kernel_rfl) (by kernel_rfl) ?_
                  repeat (first | go_big_quiet_step ((first | (go_at_call 29; exact Calls.after_same (HBc _)) | (go_at_call 30; exact Calls.after_of (HHc _)))))
                  refine wpQuiet_nil ?_
                  intro z
                  have hbz := hbk.trans (z.2.mono hbk.size)
                  have hoz := owns_below hoR z.2
                  clear y0 y1 y2 e7 HBc HHc
                  go_wp2
                  go_roundw
                  case rel => exact ⟨c + 1, by omega, by go_num, by rw [hst.out]; exact hoz, hbz⟩
                  case measure => simp [intOf]; omega
                · rw [hfit] at HHc
                  have hst := Lib.hid (hyes.out (by rw [hbit, hfit]; rfl))
                  clear hbit hfit hyes hno
                  go_wp2_with fail
                  refine wp_region_after (by kernel_rfl) (by kernel_rfl) ?_
                  repeat (first | go_big_quiet_step ((first | (go_at_call 29; exact Calls.after_same (HBc _)) | (go_at_call 30; exact Calls.after_of (HHc _)))))
                  refine wpQuiet_nil ?_
                  intro z
                  have hbz := hbk.trans (z.2.mono hbk.size)
                  have hoz := owns_below hoR z.2
                  clear y0 y1 y2 e7 HBc HHc
                  have hsz := Nat.le_trans hbk.size z.2.size
                  go_wp2_with (at_builtin; refine wpList_append_own_at _ rfl _ _ 45 rfl wi.heap.size 3 i0 (.int .i64 0) 1 8 Tryz.underlying45 hi0 hz0 hz1 hz2 rfl (by decide) _ _ _ rfl (hoz.alloc _) ⟨z.1.heap.size, 0, none⟩ 1 1 [.int .i64 (c : Int)] rfl rfl one_new13 (fun u hu => by rw [List.mem_singleton.1 hu]; rfl) ?c3 ?c4 ?c5 ?_)
                  case c3 => unfold maxLen; omega
                  case c4 => omega
                  case c5 => simp; omega
                  intro v8 w8 ho8 hg8 _ _
                  have hB8 := grown_below (hoz.alloc (.cells #[.int .i64 (c : Int)] 3)) hg8 (hbz.alloc hbz.size _) (Nat.le_refl _) (by simp; omega)
                  have ho8' : w8.ownsRow wi.heap.size 3 1 v8 (colsN rs o p (c + 1)).length (intsV (colsN rs o p (c + 1))) := by
                    rw [hst.out, intsV_snoc, List.length_append]
                    exact ho8
                  clear hg8 hoz ho8 hoR hbz
                  go_wp2
                  go_roundw
                  case rel => exact ⟨c + 1, by omega, by go_num, ho8', hB8⟩
                  case measure => simp [intOf]; omega
            · have e : c = rs.length := by omega
              subst e
              have hV : ∀ g, (Value.slice AV K.length cV).ownBlock = some g → g < wi.heap.size := fun g hg => (hown.lt g hg).2
              have hI : IntsN wr (fun b => b < wr.heap.size ∧ (Value.slice AV K.length cV).ownBlock ≠ some b) _ (colsR rs o p) := own_intsN hoR hV
              have hIR := hI.ints (B := wr.heap.size) (fun b h => h.1)
              have hownk := owns_below hown hbk
              have hink := hin.below hbk
              have hbxk := keep_blk hbk hbx
              have ho7k := owns_below ho7 hbk
              have hBk := hb.trans (hbk.mono hb.size)
              obtain ⟨AR, cR, rfl⟩ := own_form hoR
              obtain ⟨AV', cV', eV, hlK, hcK⟩ := hink.mat hownk
              injection eV with eA _ eC
              subst eA
              subst eC
              have hmem : Hid ((K.any fun y => decide (y = colsR rs o p)) = decide (colsR rs o p ∈ K)) := Lib.hid (any_mem13 K _)
              have hlen := hownk.1
              clear hown hin hbx ho7 hb hbk hoR hV d7 hg7
              go_wp2
              rename World => wk
              go_loopw [11, 12] (fun s t wm => ∃ k : Nat, k ≤ K.length ∧ t = .int .i64 k ∧ s = .bool ((K.take k).any fun y => decide (y = colsR rs o p)) ∧ Below wk.heap.size wk wm) (fun _ t _ => K.length - (intOf t).toNat)
              case atStart => exact ⟨0, by omega, rfl, by simp, Below.refl _ _⟩
              case round =>
                obtain ⟨k, hk, rfl, rfl, hbm⟩ := hrel
                by_cases hkl : k < K.length
                · obtain ⟨bv, offv, rfl, hBv, hcv⟩ := hcK (by omega)
                  obtain ⟨l, hl⟩ : ∃ l, K[k]? = some l := ⟨_, List.getElem?_eq_getElem hkl⟩
                  obtain ⟨ov, cv0, hiv⟩ := hcv k l hl
                  have f0 := (hbm.cell (p := ⟨bv, offv + k, none⟩) hBv).trans cv0
                  have HSc := HS ov _ l _ wr ((hiv.below hbm).more hbm.size) ((hIR.below hbm).more hbm.size)
                  have hst := Lib.hid (any_append_one (fun y => decide (y = colsR rs o p)) K k l hl)
                  have k0 : (0 : Int) ≤ (k : Int) := by omega
                  have k1 : (k : Int) < (K.length : Int) := by omega
                  generalize hs : ((K.take k).any fun y => decide (y = colsR rs o p)) = s at *
                  have hsH := Lib.hid hs
                  clear hs hcv hcK hiv cv0 hl hmem HS HB HH HLi HD hIR hI hink hownk ho7k hbxk
                  cases s
                  · generalize hd : decide (l = colsR rs o p) = d at *
                    have hdH := Lib.hid hd
                    clear hd
                    go_wp2_with fail
                    refine HSc.mono ?_
                    rintro e w5 ⟨rfl, hb5⟩
                    have hb5' := hbm.trans (hb5.mono hbm.size)
                    clear HSc f0
                    go_wp2
                    go_roundw
                    case rel => exact ⟨k + 1, by omega, by go_num, by rw [hst.out, Bool.false_or], hb5'⟩
                    case measure => simp [intOf]; omega
                  · clear HSc f0
                    go_wp2
                    go_roundw
                    case rel => exact ⟨k + 1, by omega, by go_num, by rw [hst.out, Bool.true_or], hbm⟩
                    case measure => simp [intOf]; omega
                · have e : k = K.length := by omega
                  subst e
                  rw [List.take_length, hmem.out]
                  have hownm := owns_below hownk hbm
                  have hinm := hink.below hbm
                  have hbxm := keep_blk hbm hbxk
                  have ho7m := owns_below ho7k hbm
                  have hBm := hBk.trans (hbm.mono hBk.size)
                  have hIm : IntsN wr (fun b => b < wr.heap.size ∧ (Value.slice AV K.length cV).ownBlock ≠ some b) _ (colsR rs o p) := hI.keep (fun b h => hbm.block b h.1) (fun b h => ⟨Nat.lt_of_lt_of_le h.1 hbm.size, h.2⟩)
                  clear hcK hownk hink hbxk ho7k hBk hI hIR hmem
                  by_cases hm : colsR rs o p ∈ K
                  · rw [decide_eq_true hm]
                    have hG2 : Hid (Got on rs o (j + 1) K) := Lib.hid (hG.out.met hXH.out hpH.out hm)
                    clear hm hG hIm
                    go_wp2
                    go_roundw
                    case rel => exact ⟨j + 1, K, vs, by omega, by go_num, hG2, by omega, hownm, hinm, hbxm, ho7m, hap, hBm⟩
                    case measure => simp [intOf]; omega
                  · rw [decide_eq_false hm]
                    have hG2 : Hid (Got on rs o (j + 1) (K ++ [colsR rs o p])) := Lib.hid (hG.out.new hXH.out hpH.out hm)
                    have hone := hIm.one
                    have hsb := size_of_block hbxm
                    clear hm hG
                    go_wp2_with (at_builtin; refine wpList_append_own_at _ rfl _ _ 28 rfl (w.heap.size + 1) 45 j0 (.slice none 0 0) 1 24 Tryz.underlying28 hj0 jz0 jz1 jz2 rfl (by decide) _ _ _ rfl (hownm.alloc _) ⟨wr.heap.size, 0, none⟩ 1 1 [.slice AR (colsN rs o p rs.length).length cR] rfl rfl one_new13 (fun u hu => by rw [List.mem_singleton.1 hu]; rfl) ?c3 ?c4 ?c5 ?_)
                    case c3 => unfold maxLen; omega
                    case c4 => omega
                    case c5 => simp; omega
                    intro v8 w8 ho8 hg8 _ hloc
                    have hba := below_alloc1 wr (.cells #[.slice AR (colsN rs o p rs.length).length cR] 45 (0, 0))
                    have hin8 := hinm.push (V' := v8) (by omega) hIm hba hg8 (hloc.imp id (fun h => h.trans (by simp)))
                    have hB8 := grown_below (hownm.alloc (.cells #[.slice AR (colsN rs o p rs.length).length cR] 45)) hg8 (hBm.alloc hBm.size _) (by omega) (by simp; omega)
                    have ho8' : w8.ownsRow (w.heap.size + 1) 45 1 v8 (K ++ [colsR rs o p]).length (vs ++ [.slice AR (colsN rs o p rs.length).length cR]) := by
                      rw [List.length_append]
                      exact ho8
                    have ho78 := own_keep ho7m (w' := w8) (fun g e hg hlt => (hg8.block g (by simp; omega) (fun e2 => hap g e2.symm e)).trans (hba.block g hlt))
                    have hbx8 : w8.heap[w.heap.size]? = some _ := ((hg8.block w.heap.size (by simp; omega) (fun e2 => by have := (hownm.lt _ e2.symm).1; omega)).trans (hba.block _ hsb)).trans hbxm
                    have hap8 : Apart v8 (.slice (some ⟨g7, 0, none⟩) (pts X).length c7) := fun g e e2 => by
                      rcases hloc with h | h
                      · exact hap g (h.symm.trans e) e2
                      · rw [h] at e
                        injection e with e
                        have := (ho7m.lt g e2).2
                        omega
                    clear hg8 hloc ho8 hownm hinm hIm hbxm ho7m hba hBm
                    go_wp2
                    go_roundw
                    case rel => exact ⟨j + 1, K ++ [colsR rs o p], _, by omega, by go_num, hG2, by rw [List.length_append]; simp; omega, ho8', hin8, hbx8, ho78, hap8, hB8⟩
                    case measure => simp [intOf]; omega
        · have e : j = (pts X).length := by omega
          subst e
          have hp256 := pts_len13 X
          have hG2 : Hid (Got on rs (o + 1) 0 K) := Lib.hid (by have h := hG.out; unfold Got at h ⊢; rw [got_next hXH.out] at h; exact h)
          clear hap ho7 hG
          go_wp2
          go_roundw
          case rel => exact ⟨o + 1, K, vs, by omega, by go_num, hG2, by omega, hown, hin, hbx, hb⟩
          case measure => simp [intOf]; omega
    · have e : o = on.length := by omega
      subst e
      rename World => wa
      obtain ⟨AV', cV', eV, hlK, hcK⟩ := hin.mat hown
      injection eV with eA _ eC
      subst eA
      subst eC
      have hKn := Lib.hid hG.out.1
      have hKm := Lib.hid hG.out.2
      have hwa := size_of_block hbx
      clear hcA hcL hin hbx hG HLi HB HH HS
      go_wp2
      clear u0 u1 u2
      go_loopw [13] (fun U wr => ∃ (O : List (List Int)) (vo : List Value), O.length ≤ K.length ∧ Hid (Sel K O) ∧ wr.ownsRow wa.heap.size 45 1 U O.length vo ∧ RowsIn wr U O vo ∧ Below wa.heap.size wa wr) (fun t _ => K.length - lenV t)
      case atStart => exact ⟨[], [], by simp, Lib.hid (Sel.nil K), World.ownsRow_nil _ _ _ _, RowsIn.nil _ _, Below.refl _ _⟩
      case round =>
        clear hown
        obtain ⟨O, vo, hOK, hS, hoO, hiO, hbr⟩ := hrel
        obtain ⟨AU, cU, rfl⟩ := own_form hoO
        by_cases hlt : O.length < K.length
        · have l1 : (O.length : Int) < (K.length : Int) := by omega
          obtain ⟨AU', cU', eU, hlO, hcO⟩ := hiO.mat hoO
          injection eU with eA _ eC
          subst eA
          subst eC
          rename World => wq
          go_wp2
          clear l1
          go_loopw [14, 15] (fun b t wm => ∃ (j : Nat) (z : Int), j ≤ K.length ∧ t = .int .i64 j ∧ b = .int .i64 z ∧ Hid (BestI K O j z) ∧ Below wq.heap.size wq wm) (fun _ t _ => K.length - (intOf t).toNat)
          case atStart => exact ⟨0, -1, by omega, rfl, rfl, Lib.hid (BestI.zero K O), Below.refl _ _⟩
          case round =>
            obtain ⟨j, z, hj, rfl, rfl, hBI, hbm⟩ := hrel
            by_cases hjl : j < K.length
            · obtain ⟨bv, offv, rfl, hBv, hcv⟩ := hcK (by omega)
              obtain ⟨l, hl⟩ : ∃ l, K[j]? = some l := ⟨_, List.getElem?_eq_getElem hjl⟩
              obtain ⟨ov, cv0, hiv⟩ := hcv j l hl
              have hbr2 := hbr.trans (hbm.mono hbr.size)
              have f0 := fun X : After wr => After.cell X ((hbr2.cell (p := ⟨bv, offv + j, none⟩) hBv).trans cv0)
              have j1 : (0 : Int) ≤ (j : Int) := by omega
              have j2 : (j : Int) < (K.length : Int) := by omega
              have hlH := Lib.hid hl
              clear hcK hoO hiO cv0
              by_cases h0 : O.length = 0
              · have hd : ((O.length : Int) == 0) = true := by simp [h0]
                have hbeh : behB O l = true := by
                  have e := List.eq_nil_of_length_eq_zero h0
                  rw [e]; rfl
                clear hcO hl h0
                go_wp2_with fail
                refine wp_region_after (by kernel_rfl) (by kernel_rfl) ?_
                repeat (first | go_big_quiet_step (fail))
                refine wpQuiet_nil ?_
                intro z1
                have hbz := hbm.trans (z1.2.mono hbm.size)
                have p0 := fun X : After z1.1 => After.cell X (f0 z1)
                clear f0
                clear hd
                rcases hBI.out with ⟨ez, -⟩ | ⟨m, x, ez, hx, -, -⟩
                · subst ez
                  have hB2 := Lib.hid (hBI.out.first hlH.out hbeh)
                  clear hbeh hBI hlH
                  go_wp2_with fail
                  refine wp_region_after (by kernel_rfl) (by kernel_rfl) ?_
                  repeat (first | go_big_quiet_step (fail))
                  refine wpQuiet_nil ?_
                  intro z2
                  have hbz2 := hbz.trans (z2.2.mono hbz.size)
                  clear p0
                  go_wp2
                  go_roundw
                  case rel => exact ⟨j + 1, j, by omega, by go_num, rfl, hB2, hbz2⟩
                  case measure => simp [intOf]; omega
                · subst ez
                  have hmK : m < K.length := (List.getElem?_eq_some_iff.1 hx).1
                  obtain ⟨ox, cx0, hix⟩ := hcv m x hx
                  have g0 := fun X : After z1.1 => After.cell X (After.cell z1 ((hbr2.cell (p := ⟨bv, offv + m, none⟩) hBv).trans cx0))
                  have m0 : (0 : Int) ≤ (m : Int) := by omega
                  have m1 : (m : Int) < (K.length : Int) := by omega
                  have m2 : decide ((m : Int) < 0) = false := decide_eq_false (by omega)
                  have HD2 := fun X : After z1.1 => HD ov ox l x X.1 ((hiv.below (hbr2.trans ((z1.2.trans (X.2.mono z1.2.size)).mono hbr2.size))).more (by have := hbr2.size; have := z1.2.size; have := X.2.size; omega)) ((hix.below (hbr2.trans ((z1.2.trans (X.2.mono z1.2.size)).mono hbr2.size))).more (by have := hbr2.size; have := z1.2.size; have := X.2.size; omega))
                  cases hah : aheadL l x
                  · rw [hah] at HD2
                    have hB2 := Lib.hid (hBI.out.stay hx hlH.out hah)
                    clear hah hbeh hBI hlH hx hix cx0
                    go_wp2_with fail
                    refine wp_region_after (by kernel_rfl) (by kernel_rfl) ?_
                    repeat (first | go_big_quiet_step (exact Calls.after_of (HD2 _)))
                    refine wpQuiet_nil ?_
                    intro z2
                    have hbz2 := hbz.trans (z2.2.mono hbz.size)
                    clear p0 g0 HD2
                    go_wp2
                    go_roundw
                    case rel => exact ⟨j + 1, (m : Int), by omega, by go_num, rfl, hB2, hbz2⟩
                    case measure => simp [intOf]; omega
                  · rw [hah] at HD2
                    have hB2 := Lib.hid (hBI.out.turn hx hlH.out hbeh hah)
                    clear hah hbeh hBI hlH hx hix cx0
                    go_wp2_with fail
                    refine wp_region_after (by kernel_rfl) (by kernel_rfl) ?_
                    repeat (first | go_big_quiet_step (exact Calls.after_of (HD2 _)))
                    refine wpQuiet_nil ?_
                    intro z2
                    have hbz2 := hbz.trans (z2.2.mono hbz.size)
                    clear p0 g0 HD2
                    go_wp2
                    go_roundw
                    case rel => exact ⟨j + 1, (j : Int), by omega, by go_num, rfl, hB2, hbz2⟩
                    case measure => simp [intOf]; omega
              · obtain ⟨q, hq⟩ : ∃ q, O.length = q + 1 := ⟨O.length - 1, by omega⟩
                obtain ⟨y, hy⟩ : ∃ y, O[q]? = some y := ⟨_, List.getElem?_eq_getElem (by omega)⟩
                obtain ⟨bo, offo, rfl, hBo, hco⟩ := hcO (by omega)
                obtain ⟨ou, co0, hio⟩ := hco q y hy
                have f1 := fun X : After wr => After.cell X ((hbm.cell (p := ⟨bo, offo + q, none⟩) hBo).trans co0)
                have hd : ((O.length : Int) == 0) = false := by rw [beq_eq_false_iff_ne]; omega
                have q1 : (O.length : Int) - 1 = (q : Int) := by omega
                have q2 : (0 : Int) ≤ (q : Int) := by omega
                have q3 : (q : Int) < (O.length : Int) := by omega
                have HD1 := fun X : After wr => HD ou ov y l X.1 ((hio.below (hbm.trans (X.2.mono hbm.size))).more (by have := hbm.size; have := X.2.size; omega)) ((hiv.below (hbr2.trans (X.2.mono hbr2.size))).more (by have := hbr2.size; have := X.2.size; omega))
                rw [← beh_last hq hy] at HD1
                clear hcO hco hl hio co0 hy hq h0
                cases hbeh : behB O l
                · rw [hbeh] at HD1
                  go_wp2_with fail
                  refine wp_region_after (by kernel_rfl) (by kernel_rfl) ?_
                  repeat (first | go_big_quiet_step (exact Calls.after_of (HD1 _)))
                  refine wpQuiet_nil ?_
                  intro z1
                  have hbz := hbm.trans (z1.2.mono hbm.size)
                  have p0 := fun X : After z1.1 => After.cell X (f0 z1)
                  clear f0
                  clear hd HD1 f1
                  have hB2 := Lib.hid (hBI.out.skip hlH.out hbeh)
                  clear hbeh hBI hlH
                  go_wp2_with fail
                  refine wp_region_after (by kernel_rfl) (by kernel_rfl) ?_
                  repeat (first | go_big_quiet_step (fail))
                  refine wpQuiet_nil ?_
                  intro z2
                  have hbz2 := hbz.trans (z2.2.mono hbz.size)
                  clear p0
                  go_wp2
                  go_roundw
                  case rel => exact ⟨j + 1, z, by omega, by go_num, rfl, hB2, hbz2⟩
                  case measure => simp [intOf]; omega
                · rw [hbeh] at HD1
                  go_wp2_with fail
                  refine wp_region_after (by kernel_rfl) (by kernel_rfl) ?_
                  repeat (first | go_big_quiet_step (exact Calls.after_of (HD1 _)))
                  refine wpQuiet_nil ?_
                  intro z1
                  have hbz := hbm.trans (z1.2.mono hbm.size)
                  have p0 := fun X : After z1.1 => After.cell X (f0 z1)
                  clear f0
                  clear hd HD1 f1
                  rcases hBI.out with ⟨ez, -⟩ | ⟨m, x, ez, hx, -, -⟩
                  · subst ez
                    have hB2 := Lib.hid (hBI.out.first hlH.out hbeh)
                    clear hbeh hBI hlH
                    go_wp2_with fail
                    refine wp_region_after (by kernel_rfl) (by kernel_rfl) ?_
                    repeat (first | go_big_quiet_step (fail))
                    refine wpQuiet_nil ?_
                    intro z2
                    have hbz2 := hbz.trans (z2.2.mono hbz.size)
                    clear p0
                    go_wp2
                    go_roundw
                    case rel => exact ⟨j + 1, j, by omega, by go_num, rfl, hB2, hbz2⟩
                    case measure => simp [intOf]; omega
                  · subst ez
                    have hmK : m < K.length := (List.getElem?_eq_some_iff.1 hx).1
                    obtain ⟨ox, cx0, hix⟩ := hcv m x hx
                    have g0 := fun X : After z1.1 => After.cell X (After.cell z1 ((hbr2.cell (p := ⟨bv, offv + m, none⟩) hBv).trans cx0))
                    have m0 : (0 : Int) ≤ (m : Int) := by omega
                    have m1 : (m : Int) < (K.length : Int) := by omega
                    have m2 : decide ((m : Int) < 0) = false := decide_eq_false (by omega)
                    have HD2 := fun X : After z1.1 => HD ov ox l x X.1 ((hiv.below (hbr2.trans ((z1.2.trans (X.2.mono z1.2.size)).mono hbr2.size))).more (by have := hbr2.size; have := z1.2.size; have := X.2.size; omega)) ((hix.below (hbr2.trans ((z1.2.trans (X.2.mono z1.2.size)).mono hbr2.size))).more (by have := hbr2.size; have := z1.2.size; have := X.2.size; omega))
                    cases hah : aheadL l x
                    · rw [hah] at HD2
                      have hB2 := Lib.hid (hBI.out.stay hx hlH.out hah)
                      clear hah hbeh hBI hlH hx hix cx0
                      go_wp2_with fail
                      refine wp_region_after (by kernel_rfl) (by kernel_rfl) ?_
                      repeat (first | go_big_quiet_step (exact Calls.after_of (HD2 _)))
                      refine wpQuiet_nil ?_
                      intro z2
                      have hbz2 := hbz.trans (z2.2.mono hbz.size)
                      clear p0 g0 HD2
                      go_wp2
                      go_roundw
                      case rel => exact ⟨j + 1, (m : Int), by omega, by go_num, rfl, hB2, hbz2⟩
                      case measure => simp [intOf]; omega
                    · rw [hah] at HD2
                      have hB2 := Lib.hid (hBI.out.turn hx hlH.out hbeh hah)
                      clear hah hbeh hBI hlH hx hix cx0
                      go_wp2_with fail
                      refine wp_region_after (by kernel_rfl) (by kernel_rfl) ?_
                      repeat (first | go_big_quiet_step (exact Calls.after_of (HD2 _)))
                      refine wpQuiet_nil ?_
                      intro z2
                      have hbz2 := hbz.trans (z2.2.mono hbz.size)
                      clear p0 g0 HD2
                      go_wp2
                      go_roundw
                      case rel => exact ⟨j + 1, (j : Int), by omega, by go_num, rfl, hB2, hbz2⟩
                      case measure => simp [intOf]; omega
            · have e : j = K.length := by omega
              subst e
              obtain ⟨m, x, rfl, hx, hS2⟩ := hBI.out.found hS.out hKn.out hlt
              obtain ⟨bv, offv, rfl, hBv, hcv⟩ := hcK (by omega)
              have hmK : m < K.length := (List.getElem?_eq_some_iff.1 hx).1
              obtain ⟨ox, cx0, hix⟩ := hcv m x hx
              have hbr2 := hbr.trans (hbm.mono hbr.size)
              have g0 := (hbr2.cell (p := ⟨bv, offv + m, none⟩) hBv).trans cx0
              have g1 : ∀ o, (wr.alloc o).cell? ⟨bv, offv + m, none⟩ = some ox := fun o => (World.cell?_alloc_lt _ _ _ (block_lt_of_cell g0)).trans g0
              have m0 : (0 : Int) ≤ (m : Int) := by omega
              have m1 : (m : Int) < (K.length : Int) := by omega
              have hoz := owns_below hoO hbm
              have hiz := hiO.below hbm
              obtain ⟨Ax, cx, ex, -, -⟩ := id hix
              subst ex
              have hN : IntsN wr (fun b => b < wr.heap.size ∧ (Value.slice AU O.length cU).ownBlock ≠ some b) (.slice Ax x.length cx) x := (hix.below hbr2).intsN fun b off n c _ _ hb => ⟨Nat.lt_of_lt_of_le hb hbr2.size, fun e2 => by have := (hoz.lt b e2).1; omega⟩
              have hone := hN.one
              have hlv := hoz.1
              have hSH := Lib.hid hS2
              clear hcK hcv hix cx0 hBI hS hx hcO hoO hiO hS2
              have hsz := hbr2.size
              go_wp2_with (at_builtin; refine wpList_append_own_at _ rfl _ _ 28 rfl wa.heap.size 45 j0 (.slice none 0 0) 1 24 Tryz.underlying28 hj0 jz0 jz1 jz2 rfl (by decide) _ _ _ rfl (hoz.alloc _) ⟨wr.heap.size, 0, none⟩ 1 1 [.slice Ax x.length cx] rfl rfl one_new13 (fun u hu => by rw [List.mem_singleton.1 hu]; exact hone) ?c3 ?c4 ?c5 ?_)
              case c3 => unfold maxLen; omega
              case c4 => omega
              case c5 => simp; omega
              intro v8 w8 ho8 hg8 _ hloc
              have hba := below_alloc1 wr (.cells #[.slice Ax x.length cx] 45 (0, 0))
              have hi8 := hiz.push (V' := v8) (by omega) hN hba hg8 (hloc.imp id (fun h => h.trans (by simp)))
              have hB8 := grown_below (hoz.alloc (.cells #[.slice Ax x.length cx] 45)) hg8 (hbr2.alloc hbr2.size _) (Nat.le_refl _) (by simp; omega)
              have ho8' : w8.ownsRow wa.heap.size 45 1 v8 (O ++ [x]).length (vo ++ [.slice Ax x.length cx]) := by
                rw [List.length_append]
                exact ho8
              clear hg8 hloc ho8 hoz hiz hN hba g0 g1
              obtain ⟨A8, c8, rfl⟩ := own_form ho8'
              go_wp2
              go_roundw
              case rel => exact ⟨O ++ [x], _, by rw [List.length_append]; simp; omega, hSH, ho8', hi8, hB8⟩
              case measure => simp [lenV]; omega
        · have hD := Lib.hid (hS.out.done (by omega))
          have hpw := Lib.hid hS.out.1
          have hm := hiO.mat hoO
          have hB9 := hb.trans (hbr.mono hb.size)
          clear hcK hS hiO hoO
          go_wp2
          go_ret
          exact ⟨_, O, rfl, hm, hpw.out, fun x => (hD.out x).trans (hKm.out x), hB9⟩
end Go.Proofs.YtdfllifjbabfjaaGreatDoor
