/- How many nodes a set needs, plain: at each level as many as there are unlike rows that hang on the bit there. -/
import Derived.Test.YtkkdfpmjmommcaaSay06
namespace Go.Proofs.Ytkkdfpmjmommcaa

/-- The bits of the levels: those of a below k, those of w from k on. -/
def joinB (k a w : Nat) : Nat → Bool := fun l => if l < k then a.testBit l else w.testBit (l - k)
/-- A row: what F says of all ways of the bits from level k on. -/
def rowB (F : (Nat → Bool) → Bool) (n k a : Nat) : List Bool := (List.range (2 ^ (n - k))).map fun w => F (joinB k a w)
/-- It hangs on its first bit. -/
def turnsB : List Bool → Bool
  | x :: y :: r => (x != y) || turnsB r
  | _ => false
/-- From an id down to where a level is reached. -/
def down (S : St) (c : Nat → Bool) (k : Nat) : Nat → Int → Int
  | 0, id => id
  | f + 1, id => if lvl S id < k then (match ndAt S id with
    | some n => down S c k f (if c n.1.toNat then n.2.2 else n.2.1)
    | none => id) else id
theorem down_lvl {S : St} (hV : VSt S) (c : Nat → Bool) (k : Nat) (hk : k ≤ 24) : ∀ (f : Nat) (id : Int), 0 ≤ lvl S id → 24 ≤ lvl S id + f → (k : Int) ≤ lvl S (down S c k f id) ∧ says S c (down S c k f id) = says S c id
  | 0, id, h0, h => ⟨by show (k : Int) ≤ lvl S id; omega, rfl⟩
  | f + 1, id, h0, h => by
    unfold down
    by_cases hlt : lvl S id < k
    · rw [if_pos hlt]
      obtain ⟨n, hn, e⟩ := nd_of_lvl h0 (by omega)
      rw [hn]
      have hl := kid_lvl hV hn (c n.1.toNat)
      have h1 := (kids_lvl hV hn).1
      obtain ⟨h2, h3⟩ := down_lvl hV c k hk f (if c n.1.toNat then n.2.2 else n.2.1) (by omega) (by omega)
      exact ⟨h2, h3.trans (says_node hV c hn).symm⟩
    · rw [if_neg hlt]
      exact ⟨by omega, rfl⟩
theorem down_agree {S : St} (hV : VSt S) {c d : Nat → Bool} {k : Nat} (hk : k ≤ 24) (hcd : ∀ l, l < k → c l = d l) : ∀ (f : Nat) (id : Int), 0 ≤ lvl S id → 24 ≤ lvl S id + f → down S c k f id = down S d k f id
  | 0, _, _, _ => rfl
  | f + 1, id, h0, h => by
    unfold down
    by_cases hlt : lvl S id < k
    · rw [if_pos hlt, if_pos hlt]
      obtain ⟨n, hn, e⟩ := nd_of_lvl h0 (by omega)
      rw [hn]
      have hl := kid_lvl hV hn (d n.1.toNat)
      have h1 := (kids_lvl hV hn).1
      simp only
      rw [hcd n.1.toNat (by omega)]
      exact down_agree hV hk hcd f _ (by omega) (by omega)
    · rw [if_neg hlt, if_neg hlt]
/-- What is come to on the way down is come to. -/
theorem down_rch {S : St} (hV : VSt S) (c : Nat → Bool) (k : Nat) (hk : k ≤ 24) (K : List Int) : ∀ (f : Nat) (id : Int), 0 ≤ lvl S id → 24 ≤ lvl S id + f → (∀ i : Nat, id = (i : Int) + 2 → (∃ n, S[i]? = some (some n)) → Rch S K i) → ∀ i : Nat, down S c k f id = (i : Int) + 2 → (∃ n, S[i]? = some (some n)) → Rch S K i
  | 0, id, _, _, h, i, hi, hn => h i hi hn
  | f + 1, id, h0, hf, h, i, hi, hn => by
    unfold down at hi
    by_cases hlt : lvl S id < k
    · rw [if_pos hlt] at hi
      obtain ⟨n, hnd, e⟩ := nd_of_lvl h0 (by omega)
      rw [hnd] at hi
      have hl := kid_lvl hV hnd (c n.1.toNat)
      have h1 := (kids_lvl hV hnd).1
      obtain ⟨h2, h3⟩ := ndAt_some.1 hnd
      have hr := h (id - 2).toNat (by omega) ⟨n, h3⟩
      refine down_rch hV c k hk K f _ (by omega) (by omega) (fun i' hi' hn' => ?_) i hi hn
      obtain ⟨m, hm⟩ := hn'
      cases hb : c n.1.toNat
      · rw [hb] at hi'; exact .lo hr h3 hi' hm
      · rw [hb] at hi'; exact .hi hr h3 hi' hm
    · rw [if_neg hlt] at hi
      exact h i hi hn
theorem down_stop {S : St} {c : Nat → Bool} {k : Nat} {id : Int} (h : (k : Int) ≤ lvl S id) : ∀ f, down S c k f id = id
  | 0 => rfl
  | f + 1 => by unfold down; rw [if_neg (by omega)]
theorem down_fuel {S : St} (hV : VSt S) (c : Nat → Bool) {k : Nat} (hk : k ≤ 24) : ∀ (f g : Nat) (id : Int), 0 ≤ lvl S id → 24 ≤ lvl S id + f → 24 ≤ lvl S id + g → down S c k f id = down S c k g id
  | 0, g, id, _, hf, _ => by rw [down_stop (f := g) (by omega)]; rfl
  | f + 1, 0, id, _, _, hg => by rw [down_stop (f := f + 1) (by omega)]; rfl
  | f + 1, g + 1, id, h0, hf, hg => by
    unfold down
    by_cases hlt : lvl S id < k
    · rw [if_pos hlt, if_pos hlt]
      obtain ⟨n, hn, e⟩ := nd_of_lvl h0 (by omega)
      rw [hn]
      have hl := kid_lvl hV hn (c n.1.toNat)
      have h1 := (kids_lvl hV hn).1
      exact down_fuel hV c hk f g _ (by omega) (by omega) (by omega)
    · rw [if_neg hlt, if_neg hlt]
theorem down_comp {S : St} (hV : VSt S) (c : Nat → Bool) {k l : Nat} (hkl : k ≤ l) (hl : l ≤ 24) : ∀ (f : Nat) (id : Int), 0 ≤ lvl S id → 24 ≤ lvl S id + f → down S c l f id = down S c l 24 (down S c k f id)
  | 0, id, _, h => by
    show id = down S c l 24 id
    rw [down_stop (by omega)]
  | f + 1, id, h0, h => by
    by_cases hlt : lvl S id < k
    · obtain ⟨n, hn, e⟩ := nd_of_lvl h0 (by omega)
      have hl' := kid_lvl hV hn (c n.1.toNat)
      have h1 := (kids_lvl hV hn).1
      have ih := down_comp hV c hkl hl f (if c n.1.toNat then n.2.2 else n.2.1) (by omega) (by omega)
      have e1 : down S c l (f + 1) id = down S c l f (if c n.1.toNat then n.2.2 else n.2.1) := by
        show (if lvl S id < l then (match ndAt S id with | some n => down S c l f (if c n.1.toNat then n.2.2 else n.2.1) | none => id) else id) = _
        rw [if_pos (by omega), hn]
      have e2 : down S c k (f + 1) id = down S c k f (if c n.1.toNat then n.2.2 else n.2.1) := by
        show (if lvl S id < k then (match ndAt S id with | some n => down S c k f (if c n.1.toNat then n.2.2 else n.2.1) | none => id) else id) = _
        rw [if_pos hlt, hn]
      rw [e1, e2, ih]
    · rw [down_stop (k := k) (f := f + 1) (by omega)]
      exact down_fuel hV c hl _ _ id h0 h (by omega)
theorem down_next {S : St} (hV : VSt S) {c : Nat → Bool} {id : Int} (h0 : 0 ≤ lvl S id) {i j : Nat} {m n : Nd} (hm : S[i]? = some (some m)) (hn : S[j]? = some (some n)) {b : Bool} (he : (if b then m.2.2 else m.2.1) = (j : Int) + 2) (hc : down S c m.1.toNat 24 id = (i : Int) + 2) :
    down S (setB c m.1.toNat b) n.1.toNat 24 id = (j : Int) + 2 := by
  have hmn := ndAt_id hm
  have h1 := (kids_lvl hV hmn).1
  have h2 := (kids_lvl hV (ndAt_id hn)).1
  have hk := kid_lvl hV hmn b
  rw [he, lvl_node (ndAt_id hn)] at hk
  have e1 : down S (setB c m.1.toNat b) m.1.toNat 24 id = (i : Int) + 2 := by
    rw [← hc]
    exact down_agree hV (by omega) (fun l hl => setB_off (by omega)) 24 id h0 (by omega)
  rw [down_comp hV _ (k := m.1.toNat) (by omega) (by omega) 24 id h0 (by omega), e1]
  have hlv : lvl S ((i : Int) + 2) = m.1 := lvl_node hmn
  show (if lvl S ((i : Int) + 2) < (n.1.toNat : Int) then (match ndAt S ((i : Int) + 2) with | some n' => down S (setB c m.1.toNat b) n.1.toNat 23 (if setB c m.1.toNat b n'.1.toNat then n'.2.2 else n'.2.1) | none => (i : Int) + 2) else (i : Int) + 2) = _
  rw [if_pos (by omega), hmn]
  simp only [setB_at]
  rw [he, down_stop (by rw [lvl_node (ndAt_id hn)]; omega)]
/-- Each node that is come to is on the way down for some bits. -/
theorem rch_down {S : St} (hV : VSt S) {id : Int} (h0 : 0 ≤ lvl S id) {i : Nat} (hr : Rch S [id] i) : ∀ n, S[i]? = some (some n) → ∃ c, down S c n.1.toNat 24 id = (i : Int) + 2 := by
  induction hr with
  | @here i m h hx =>
    intro n hn
    have e : id = (i : Int) + 2 := (List.mem_singleton.1 hx).symm
    have h1 := (kids_lvl hV (ndAt_id hn)).1
    exact ⟨fun _ => false, by rw [down_stop (by rw [e, lvl_node (ndAt_id hn)]; omega), e]⟩
  | @lo i j m n' hr hm e hn' ih =>
    intro n hn
    obtain ⟨c, hc⟩ := ih m hm
    exact ⟨_, down_next hV h0 hm hn (b := false) e hc⟩
  | @hi i j m n' hr hm e hn' ih =>
    intro n hn
    obtain ⟨c, hc⟩ := ih m hm
    exact ⟨_, down_next hV h0 hm hn (b := true) e hc⟩
/-- A number with given bits. -/
theorem bits_num (b : Nat → Bool) : ∀ m : Nat, ∃ j, j < 2 ^ m ∧ ∀ q, q < m → j.testBit q = b q
  | 0 => ⟨0, by simp, fun q hq => by omega⟩
  | m + 1 => by
    obtain ⟨j, hj, hb⟩ := bits_num (fun q => b (q + 1)) m
    refine ⟨2 * j + (if b 0 then 1 else 0), ?_, fun q hq => ?_⟩
    · rw [Nat.pow_succ]; split <;> omega
    · cases q with
      | zero =>
        cases h : b 0 <;> simp [Nat.testBit_zero]
      | succ q =>
        rw [Nat.testBit_succ]
        have e : (2 * j + (if b 0 then 1 else 0)) / 2 = j := by split <;> omega
        rw [e]
        exact hb q (by omega)
theorem range_two (M : Nat) : List.range (2 * M) = (List.range M).flatMap fun j => [2 * j, 2 * j + 1] := by
  induction M with
  | zero => rfl
  | succ M ih => rw [show 2 * (M + 1) = 2 * M + 1 + 1 by omega, List.range_succ, List.range_succ, List.range_succ, List.flatMap_append, ih]; simp
theorem turnsB_flat (g : Nat → Bool) : ∀ l : List Nat, turnsB ((l.flatMap fun j => [2 * j, 2 * j + 1]).map g) = l.any fun j => g (2 * j) != g (2 * j + 1)
  | [] => rfl
  | j :: l => by
    have ih := turnsB_flat g l
    simp only [List.flatMap_cons, List.map_cons, List.cons_append, List.nil_append, List.any_cons]
    rw [← ih]
    rfl
theorem turnsB_row (F : (Nat → Bool) → Bool) (n k a : Nat) (hk : k < n) : turnsB (rowB F n k a) = true ↔ ∃ j, j < 2 ^ (n - k - 1) ∧ F (joinB k a (2 * j)) ≠ F (joinB k a (2 * j + 1)) := by
  unfold rowB
  rw [show 2 ^ (n - k) = 2 * 2 ^ (n - k - 1) by rw [← Nat.pow_succ']; congr 1; omega, range_two, turnsB_flat]
  simp only [List.any_eq_true, List.mem_range, bne_iff_ne]
/-- All levels are below n. -/
def LSt (S : St) (n : Nat) : Prop := ∀ (i : Nat) (m : Nd), S[i]? = some (some m) → m.1 < n
theorem says_agree_n {S : St} (hV : VSt S) {n : Nat} (hL : LSt S n) {c d : Nat → Bool} : ∀ (k : Nat) (id : Int), 0 ≤ lvl S id → 24 ≤ lvl S id + k → (∀ l : Nat, lvl S id ≤ l → l < n → c l = d l) → says S c id = says S d id
  | 0, id, h0, h, _ => by
    have he := end_of_lvl hV (id := id) (by omega)
    rcases he with rfl | rfl
    · rw [says_zero, says_zero]
    · rw [says_one, says_one]
  | k + 1, id, h0, h, hcd => by
    rcases Int.lt_or_le (lvl S id) 24 with hl | hl
    · obtain ⟨m, hn, e⟩ := nd_of_lvl h0 hl
      have h1 := (kids_lvl hV hn).1
      have h2 := hL _ m (ndAt_some.1 hn).2
      have hb : c m.1.toNat = d m.1.toNat := hcd _ (by omega) (by omega)
      rw [says_node hV c hn, says_node hV d hn, hb]
      have hk := kid_lvl hV hn (d m.1.toNat)
      exact says_agree_n hV hL k _ (by omega) (by omega) (fun l hl' hln => hcd l (by omega) hln)
    · rcases end_of_lvl hV hl with rfl | rfl
      · rw [says_zero, says_zero]
      · rw [says_one, says_one]
theorem joinB_low {k a w l : Nat} (h : l < k) : joinB k a w l = a.testBit l := by unfold joinB; rw [if_pos h]
theorem joinB_high {k a w l : Nat} (h : k ≤ l) : joinB k a w l = w.testBit (l - k) := by unfold joinB; rw [if_neg (by omega)]
/-- A row is that of the id to which its bits lead. -/
theorem row_down {S : St} (hV : VSt S) {id : Int} (h0 : 0 ≤ lvl S id) (n k a : Nat) (hk : k ≤ 24) :
    rowB (fun c => says S c id) n k a = rowB (fun c => says S c (down S (joinB k a 0) k 24 id)) n k 0 := by
  unfold rowB
  refine List.map_congr_left fun w _ => ?_
  obtain ⟨h1, h2⟩ := down_lvl hV (joinB k a w) k hk 24 id h0 (by omega)
  have e := down_agree hV (c := joinB k a w) (d := joinB k a 0) hk (fun l hl => by rw [joinB_low hl, joinB_low hl]) 24 id h0 (by omega)
  rw [e] at h1 h2
  show says S (joinB k a w) id = says S (joinB k 0 w) _
  rw [← h2]
  exact says_agree hV 24 _ (by omega) (by omega) fun l hl => by rw [joinB_high (by omega), joinB_high (by omega)]
theorem bit_pair (j q : Nat) (b : Bool) : (2 * j + (if b then 1 else 0)).testBit (q + 1) = j.testBit q := by
  rw [Nat.testBit_succ]
  congr 1
  split <;> omega
theorem row_turns {S : St} (hR : RSt S) {n k : Nat} (hL : LSt S n) (hk : k < n) (hn : n ≤ 24) {d : Int} (hd : (k : Int) ≤ lvl S d) : turnsB (rowB (fun c => says S c d) n k 0) = true ↔ lvl S d = k := by
  have hV := hR.vst
  rw [turnsB_row _ n k 0 hk]
  constructor
  · rintro ⟨j, _, hj⟩
    rcases Int.lt_or_eq_of_le hd with hlt | he
    · refine absurd (says_agree hV 24 d (by omega) (by omega) fun l hl => ?_) hj
      obtain ⟨q, rfl⟩ : ∃ q, l = k + q + 1 := ⟨l - k - 1, by omega⟩
      rw [joinB_high (by omega), joinB_high (by omega), show k + q + 1 - k = q + 1 by omega]
      have h1 := bit_pair j q false
      have h2 := bit_pair j q true
      simp only [Bool.false_eq_true, if_false, if_true, Nat.add_zero] at h1 h2
      rw [h1, h2]
    · exact he.symm
  · intro he
    obtain ⟨m, hm, em⟩ := nd_of_lvl (S := S) (id := d) (by omega) (by omega)
    obtain ⟨⟨h0, h1⟩, h2, h3⟩ := kids_lvl hV hm
    have hne := hR.ne_of hm
    have hex : ∃ c, says S c m.2.1 ≠ says S c m.2.2 := by
      by_cases hall : ∀ c, says S c m.2.1 = says S c m.2.2
      · exact absurd ((says_eq hR (by omega) (by omega)).1 hall) hne
      · exact Classical.not_forall.1 hall
    obtain ⟨c, hc⟩ := hex
    obtain ⟨j, hj, hb⟩ := bits_num (fun q => c (k + q + 1)) (n - k - 1)
    refine ⟨j, hj, ?_⟩
    have hmk : m.1.toNat = k := by omega
    have key : ∀ b : Bool, says S (joinB k 0 (2 * j + (if b then 1 else 0))) d = says S c (if b then m.2.2 else m.2.1) := fun b => by
      have e0 : joinB k 0 (2 * j + (if b then 1 else 0)) m.1.toNat = b := by
        rw [hmk, joinB_high (Nat.le_refl _), Nat.sub_self, Nat.testBit_zero]
        cases b <;> simp <;> omega
      rw [says_node hV _ hm, e0]
      have hkl := kid_lvl hV hm b
      refine says_agree_n hV hL 24 _ (by omega) (by omega) fun l hl hln => ?_
      obtain ⟨q, rfl⟩ : ∃ q, l = k + q + 1 := ⟨l - k - 1, by omega⟩
      rw [joinB_high (by omega), show k + q + 1 - k = q + 1 by omega, bit_pair, hb q (by omega)]
    have k0 := key false
    have k1 := key true
    simp only [Bool.false_eq_true, if_false, if_true, Nat.add_zero] at k0 k1
    rw [k0, k1]
    exact hc
theorem row_inj {S : St} (hR : RSt S) {n k : Nat} (hL : LSt S n) (hk : k < n) (hn : n ≤ 24) {a b : Int} (ha : (k : Int) ≤ lvl S a) (hb : (k : Int) ≤ lvl S b) (h : rowB (fun c => says S c a) n k 0 = rowB (fun c => says S c b) n k 0) : a = b := by
  have hV := hR.vst
  refine (says_eq hR (by omega) (by omega)).1 fun c => ?_
  obtain ⟨w, hw, hbit⟩ := bits_num (fun q => c (k + q)) (n - k)
  have e := congrArg (fun l : List Bool => l[w]?) h
  unfold rowB at e
  simp only [List.getElem?_map, List.getElem?_range hw, Option.map_some, Option.some.injEq] at e
  have ag : ∀ x : Int, (k : Int) ≤ lvl S x → says S (joinB k 0 w) x = says S c x := fun x hx =>
    says_agree_n hV hL 24 x (by omega) (by omega) fun l hl hln => by
      rw [joinB_high (by omega), hbit (l - k) (by omega)]
      congr 1
      omega
  rw [ag a ha, ag b hb] at e
  exact e
/-- The unlike rows that hang on their first bit, as they are met. -/
def metB (F : (Nat → Bool) → Bool) (n k : Nat) : Nat → List (List Bool)
  | 0 => []
  | a + 1 => if turnsB (rowB F n k a) && (metB F n k a).all (fun y => y != rowB F n k a) then metB F n k a ++ [rowB F n k a] else metB F n k a
theorem met_mem {F : (Nat → Bool) → Bool} {n k : Nat} {x : List Bool} : ∀ A : Nat, x ∈ metB F n k A ↔ ∃ a, a < A ∧ turnsB (rowB F n k a) = true ∧ rowB F n k a = x
  | 0 => by simp [metB]
  | A + 1 => by
    have ih := met_mem (F := F) (n := n) (k := k) (x := x) A
    unfold metB
    constructor
    · intro h
      split at h
      · rename_i hc
        rcases List.mem_append.1 h with h | h
        · obtain ⟨a, h1, h2⟩ := ih.1 h
          exact ⟨a, by omega, h2⟩
        · have := List.mem_singleton.1 h
          exact ⟨A, by omega, (Bool.and_eq_true_iff.1 hc).1, this.symm⟩
      · obtain ⟨a, h1, h2⟩ := ih.1 h
        exact ⟨a, by omega, h2⟩
    · rintro ⟨a, h1, h2, h3⟩
      by_cases e : a = A
      · subst e
        split
        · rw [h3]; simp
        · rename_i hc
          rw [h2, Bool.true_and] at hc
          simp only [List.all_eq_true, bne_iff_ne, Classical.not_forall] at hc
          obtain ⟨y, hy, hne⟩ := hc
          have : y = rowB F n k a := Classical.not_not.1 hne
          rw [← h3, ← this]; exact hy
      · have := ih.2 ⟨a, by omega, h2, h3⟩
        split
        · exact List.mem_append_left _ this
        · exact this
theorem met_nodup {F : (Nat → Bool) → Bool} {n k : Nat} : ∀ A : Nat, (metB F n k A).Nodup
  | 0 => by simp [metB]
  | A + 1 => by
    have ih := met_nodup (F := F) (n := n) (k := k) A
    unfold metB
    split
    · rename_i hc
      have h2 := (Bool.and_eq_true_iff.1 hc).2
      simp only [List.all_eq_true, bne_iff_ne] at h2
      rw [List.nodup_append]
      exact ⟨ih, by simp, fun y hy z hz => by rw [List.mem_singleton.1 hz]; exact h2 y hy⟩
    · exact ih
def atLvl (S : St) (f : Nat → Bool) (k : Nat) : List Nat := (List.range S.length).filter fun i => f i && decide (lvl S ((i : Int) + 2) = k)
theorem atLvl_mem {S : St} {f : Nat → Bool} {k i : Nat} : i ∈ atLvl S f k ↔ i < S.length ∧ f i = true ∧ lvl S ((i : Int) + 2) = k := by
  unfold atLvl
  simp
/-- At each level: as many nodes as unlike rows. -/
theorem met_count {S : St} (hR : RSt S) {n k : Nat} (hL : LSt S n) (hk : k < n) (hn : n ≤ 24) {id : Int} (h0 : 0 ≤ lvl S id) {f : Nat → Bool} (hf : ∀ i, i < S.length → (f i = true ↔ Rch S [id] i)) :
    (metB (fun c => says S c id) n k (2 ^ k)).length = (atLvl S f k).length := by
  have hV := hR.vst
  have hp : (metB (fun c => says S c id) n k (2 ^ k)).Perm ((atLvl S f k).map fun i : Nat => rowB (fun c => says S c ((i : Int) + 2)) n k 0) := by
    refine (List.perm_ext_iff_of_nodup (met_nodup _) ?_).2 fun x => ?_
    · rw [List.nodup_iff_pairwise_ne, List.pairwise_map]
      have hnd : (atLvl S f k).Nodup := List.nodup_range.filter _
      refine List.Pairwise.imp_of_mem ?_ (List.nodup_iff_pairwise_ne.1 hnd)
      intro a b ha hb hab e
      have h1 := (atLvl_mem.1 ha).2.2
      have h2 := (atLvl_mem.1 hb).2.2
      have := row_inj hR hL hk hn (a := (a : Int) + 2) (b := (b : Int) + 2) (by omega) (by omega) e
      omega
    · rw [met_mem, List.mem_map]
      constructor
      · rintro ⟨a, ha, ht, rfl⟩
        have e := row_down hV h0 n k a (by omega)
        obtain ⟨h1, _⟩ := down_lvl hV (joinB k a 0) k (by omega) 24 id h0 (by omega)
        rw [e] at ht
        have hl := (row_turns hR hL hk hn h1).1 ht
        obtain ⟨m, hm, em⟩ := nd_of_lvl (S := S) (id := down S (joinB k a 0) k 24 id) (by omega) (by omega)
        obtain ⟨h2, h3⟩ := ndAt_some.1 hm
        refine ⟨(down S (joinB k a 0) k 24 id - 2).toNat, ?_, ?_⟩
        · have hi : down S (joinB k a 0) k 24 id = (((down S (joinB k a 0) k 24 id - 2).toNat : Nat) : Int) + 2 := by omega
          have hlt := (List.getElem?_eq_some_iff.1 h3).1
          refine atLvl_mem.2 ⟨hlt, (hf _ hlt).2 ?_, by rw [← hi]; exact hl⟩
          exact down_rch hV (joinB k a 0) k (by omega) [id] 24 id h0 (by omega) (fun i' e' hn' => by
            obtain ⟨m', hm'⟩ := hn'
            exact .here hm' (by rw [e']; simp)) _ hi ⟨m, h3⟩
        · rw [e]
          congr 1
          funext c
          congr 1
          omega
      · rintro ⟨i, hi, rfl⟩
        obtain ⟨h1, h2, h3⟩ := atLvl_mem.1 hi
        have hr := (hf i h1).1 h2
        obtain ⟨m, hm⟩ := hr.node
        have hlv : lvl S ((i : Int) + 2) = m.1 := lvl_node (ndAt_id hm)
        obtain ⟨c, hc⟩ := rch_down hV h0 hr m hm
        have hmk : m.1.toNat = k := by omega
        rw [hmk] at hc
        obtain ⟨a, ha, hb⟩ := bits_num c k
        have e1 : down S (joinB k a 0) k 24 id = (i : Int) + 2 := by
          rw [← hc]
          exact down_agree hV (by omega) (fun l hl => by rw [joinB_low hl]; exact hb l hl) 24 id h0 (by omega)
        have e2 := row_down hV h0 n k a (by omega)
        rw [e1] at e2
        exact ⟨a, ha, by rw [e2]; exact (row_turns hR hL hk hn (by omega)).2 h3, e2⟩
  rw [hp.length_eq, List.length_map]
def sizeB (F : (Nat → Bool) → Bool) (n : Nat) : Nat → Nat
  | 0 => 0
  | k + 1 => sizeB F n k + (metB F n k (2 ^ k)).length
theorem count_split (p q r : Nat → Bool) (hr : ∀ i, r i = (p i || q i)) (hd : ∀ i, p i = true → q i = false) : ∀ l : List Nat, (l.filter r).length = (l.filter p).length + (l.filter q).length
  | [] => rfl
  | x :: l => by
    have ih := count_split p q r hr hd l
    simp only [List.filter_cons, hr x]
    cases hp : p x
    · cases hq : q x <;> simp <;> omega
    · rw [hd x hp]; simp; omega
/-- HOW MANY NODES AN ID LEADS TO. -/
theorem size_says {S : St} (hR : RSt S) {n : Nat} (hL : LSt S n) (hn : n ≤ 24) {id : Int} (h0 : 0 ≤ lvl S id) {f : Nat → Bool} (hf : ∀ i, i < S.length → (f i = true ↔ Rch S [id] i)) :
    ((List.range S.length).filter f).length = sizeB (fun c => says S c id) n n := by
  have key : ∀ K, K ≤ n → ((List.range S.length).filter fun i => f i && decide (lvl S ((i : Int) + 2) < K)).length = sizeB (fun c => says S c id) n K := by
    intro K
    induction K with
    | zero =>
      intro _
      rw [List.filter_eq_nil_iff.2]
      · rfl
      · intro i hi hc
        have hi' : i < S.length := by simpa using hi
        obtain ⟨h1, h2⟩ := Bool.and_eq_true_iff.1 hc
        obtain ⟨m, hm⟩ := ((hf i hi').1 h1).node
        have := lvl_node (ndAt_id hm)
        have h3 := (kids_lvl hR.vst (ndAt_id hm)).1
        have h4 : lvl S ((i : Int) + 2) < (0 : Nat) := by simpa using h2
        omega
    | succ K ih =>
      intro hK
      unfold sizeB
      rw [met_count hR hL (by omega) hn h0 hf, ← ih (by omega)]
      refine count_split _ _ _ (fun i => ?_) (fun i hi => ?_) _
      · cases f i
        · rfl
        · simp only [Bool.true_and]
          rw [Bool.eq_iff_iff]
          simp only [Bool.or_eq_true, decide_eq_true_eq]
          omega
      · obtain ⟨_, h2⟩ := Bool.and_eq_true_iff.1 hi
        have h2' : lvl S ((i : Int) + 2) < K := by simpa using h2
        rw [decide_eq_false (by omega), Bool.and_false]
  rw [← key n (Nat.le_refl _)]
  congr 1
  refine List.filter_congr fun i hi => ?_
  have hi' : i < S.length := by simpa using hi
  cases hfi : f i
  · rfl
  · obtain ⟨m, hm⟩ := ((hf i hi').1 hfi).node
    have h1 := lvl_node (ndAt_id hm)
    have h2 := hL i m hm
    rw [decide_eq_true (by omega)]; rfl
end Go.Proofs.Ytkkdfpmjmommcaa
