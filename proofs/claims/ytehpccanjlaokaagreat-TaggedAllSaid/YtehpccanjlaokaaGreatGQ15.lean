/- What an id's family is, plain: which members it has; two ids of one family are one; how many members there are, and how many nodes they lead to at most. -/
import Derived.Test.YtehpccanjlaokaaGreatGQ13
namespace Go.Proofs.YtehpccanjlaokaaGreat

/-- Has the family of id the member whose bits from item 24 - D on are n? D: how many items are left. -/
def zf (S : St) : Nat → Int → Nat → Bool
  | 0, id, n => decide (id = 1) && decide (n = 0)
  | D + 1, id, n => match (if lvl S id + (D + 1 : Nat) = 24 then ndAt S id else none) with
    | some nd => zf S D (if n % 2 = 1 then nd.2.2 else nd.2.1) (n / 2)
    | none => decide (n % 2 = 0) && zf S D id (n / 2)
theorem zf_skip {S : St} {D : Nat} {id : Int} (h : 24 < lvl S id + (D + 1 : Nat)) (n : Nat) : zf S (D + 1) id n = (decide (n % 2 = 0) && zf S D id (n / 2)) := by
  rw [zf, if_neg (by omega)]
theorem zf_node {S : St} {D : Nat} {id : Int} {nd : Nd} (hn : ndAt S id = some nd) (h : lvl S id + (D + 1 : Nat) = 24) (n : Nat) : zf S (D + 1) id n = zf S D (if n % 2 = 1 then nd.2.2 else nd.2.1) (n / 2) := by
  rw [zf, if_pos h, hn]
theorem zf_lt {S : St} : ∀ (D : Nat) (id : Int) (n : Nat), zf S D id n = true → n < 2 ^ D
  | 0, id, n, h => by
    rw [zf, Bool.and_eq_true] at h
    have := of_decide_eq_true h.2
    subst this
    decide
  | D + 1, id, n, h => by
    rw [Nat.pow_succ]
    rw [zf] at h
    split at h
    · have := zf_lt D _ _ h; omega
    · rw [Bool.and_eq_true] at h
      have := zf_lt D _ _ h.2; omega
theorem zf_zero (S : St) : ∀ (D n : Nat), D ≤ 24 → zf S D 0 n = false
  | 0, n, _ => by rw [zf]; rfl
  | D + 1, n, h => by
    rw [zf_skip (by rw [lvl_end (.inl rfl)]; omega), zf_zero S D _ (by omega), Bool.and_false]
theorem zf_one (S : St) : ∀ (D n : Nat), D ≤ 24 → zf S D 1 n = decide (n = 0)
  | 0, n, _ => by rw [zf]; rfl
  | D + 1, n, h => by
    rw [zf_skip (by rw [lvl_end (.inr rfl)]; omega), zf_one S D _ (by omega), Bool.eq_iff_iff]
    simp only [Bool.and_eq_true, decide_eq_true_eq]
    omega
/-- Its halves: the members without the first item, and those with it. -/
def half0 (F : Nat → Bool) : Nat → Bool := fun n => F (2 * n)
def half1 (F : Nat → Bool) : Nat → Bool := fun n => F (2 * n + 1)
theorem zf_skip0 {S : St} {D : Nat} {id : Int} (h : 24 < lvl S id + (D + 1 : Nat)) : half0 (zf S (D + 1) id) = zf S D id := by
  funext n
  unfold half0
  rw [zf_skip h, show 2 * n / 2 = n by omega, show 2 * n % 2 = 0 by omega]
  rfl
theorem zf_skip1 {S : St} {D : Nat} {id : Int} (h : 24 < lvl S id + (D + 1 : Nat)) : half1 (zf S (D + 1) id) = fun _ => false := by
  funext n
  unfold half1
  rw [zf_skip h, show (2 * n + 1) % 2 = 1 by omega]
  rfl
theorem zf_node0 {S : St} {D : Nat} {id : Int} {nd : Nd} (hn : ndAt S id = some nd) (h : lvl S id + (D + 1 : Nat) = 24) : half0 (zf S (D + 1) id) = zf S D nd.2.1 := by
  funext n
  unfold half0
  rw [zf_node hn h, show 2 * n / 2 = n by omega, show 2 * n % 2 = 0 by omega]
  rfl
theorem zf_node1 {S : St} {D : Nat} {id : Int} {nd : Nd} (hn : ndAt S id = some nd) (h : lvl S id + (D + 1 : Nat) = 24) : half1 (zf S (D + 1) id) = zf S D nd.2.2 := by
  funext n
  unfold half1
  rw [zf_node hn h, show (2 * n + 1) / 2 = n by omega, show (2 * n + 1) % 2 = 1 by omega]
  rfl
theorem famh_ext {F G : Nat → Bool} (h0 : half0 F = half0 G) (h1 : half1 F = half1 G) : F = G := by
  funext n
  by_cases h : n % 2 = 0
  · have := congrFun h0 (n / 2)
    unfold half0 at this
    rwa [show 2 * (n / 2) = n by omega] at this
  · have := congrFun h1 (n / 2)
    unfold half1 at this
    rwa [show 2 * (n / 2) + 1 = n by omega] at this
/-- No node has 0 for its high. -/
structure ZSt (S : St) : Prop where
  vst : VSt S
  hi : ∀ (i : Nat) (n : Nd), S[i]? = some (some n) → n.2.2 ≠ 0
theorem ZSt.hi_of {S : St} (h : ZSt S) {id : Int} {n : Nd} (hn : ndAt S id = some n) : n.2.2 ≠ 0 := h.hi _ n (ndAt_some.1 hn).2
/-- Where an id stands, D items left: at a node of the first of them, or behind it. -/
theorem z_kind {S : St} (hV : VSt S) {D : Nat} {id : Int} (h0 : 0 ≤ lvl S id) (h : 24 ≤ lvl S id + (D + 1 : Nat)) :
    (∃ nd, ndAt S id = some nd ∧ lvl S id + (D + 1 : Nat) = 24 ∧ 0 ≤ lvl S nd.2.1 ∧ 0 ≤ lvl S nd.2.2 ∧ 24 ≤ lvl S nd.2.1 + D ∧ 24 ≤ lvl S nd.2.2 + D) ∨ (24 < lvl S id + (D + 1 : Nat) ∧ 24 ≤ lvl S id + D) := by
  by_cases he : lvl S id + (D + 1 : Nat) = 24
  · obtain ⟨nd, hn, e⟩ := nd_of_lvl h0 (by omega)
    obtain ⟨⟨k0, k1⟩, k2, k3⟩ := kids_lvl hV hn
    exact .inl ⟨nd, hn, he, by omega, by omega, by omega, by omega⟩
  · exact .inr ⟨by omega, by omega⟩
theorem z_end {S : St} (hV : VSt S) {id : Int} (h : 24 ≤ lvl S id + (0 : Nat)) : id = 0 ∨ id = 1 := end_of_lvl hV (by omega)
/-- A family that is not that of 0 has a member. -/
theorem z_some {S : St} (hZ : ZSt S) : ∀ (D : Nat) (id : Int), D ≤ 24 → 0 ≤ lvl S id → 24 ≤ lvl S id + D → id ≠ 0 → ∃ n, zf S D id n = true
  | 0, id, _, _, h, hne => by
    rcases z_end hZ.vst h with e | e
    · exact absurd e hne
    · subst e; exact ⟨0, rfl⟩
  | D + 1, id, hD, h0, h, hne => by
    rcases z_kind hZ.vst h0 h with ⟨nd, hn, he, -, l1, -, l3⟩ | ⟨hs, hl⟩
    · obtain ⟨n, h1⟩ := z_some hZ D nd.2.2 (by omega) l1 l3 (hZ.hi_of hn)
      exact ⟨2 * n + 1, by rw [← congrFun (zf_node1 hn he) n] at h1; exact h1⟩
    · obtain ⟨n, h1⟩ := z_some hZ D id (by omega) h0 hl hne
      exact ⟨2 * n, by rw [← congrFun (zf_skip0 hs) n] at h1; exact h1⟩
/-! ### More nodes; what is made -/
theorem Ext.zf {S T : St} (hV : VSt S) (h : Ext S T) : ∀ (D : Nat) (id : Int), D ≤ 24 → 0 ≤ Go.Proofs.YtehpccanjlaokaaGreat.lvl S id → 24 ≤ Go.Proofs.YtehpccanjlaokaaGreat.lvl S id + D → Go.Proofs.YtehpccanjlaokaaGreat.zf T D id = Go.Proofs.YtehpccanjlaokaaGreat.zf S D id
  | 0, id, _, _, _ => by funext n; rw [Go.Proofs.YtehpccanjlaokaaGreat.zf, Go.Proofs.YtehpccanjlaokaaGreat.zf]
  | D + 1, id, hD, h0, hl => by
    have hlv := h.lvl h0
    refine famh_ext ?_ ?_
    · rcases z_kind hV h0 hl with ⟨nd, hn, e, l0, l1, l2, l3⟩ | ⟨hs, hl2⟩
      · rw [zf_node0 hn e, zf_node0 (h.nd hn) (by rw [hlv]; exact e)]
        exact Ext.zf hV h D nd.2.1 (by omega) l0 l2
      · rw [zf_skip0 hs, zf_skip0 (by rw [hlv]; exact hs)]
        exact Ext.zf hV h D id (by omega) h0 hl2
    · rcases z_kind hV h0 hl with ⟨nd, hn, e, l0, l1, l2, l3⟩ | ⟨hs, hl2⟩
      · rw [zf_node1 hn e, zf_node1 (h.nd hn) (by rw [hlv]; exact e)]
        exact Ext.zf hV h D nd.2.2 (by omega) l1 l3
      · rw [zf_skip1 hs, zf_skip1 (by rw [hlv]; exact hs)]
theorem ZSt.nil : ZSt [] := ⟨VSt.nil, fun _ _ h => by simp at h⟩
theorem ZSt.made {S : St} (h : ZSt S) (room : Nat) (n : Nd) (hne : n.2.2 ≠ 0) : ZSt (mkS room S n).1 := by
  refine ⟨h.vst.made room n, fun i m hm => ?_⟩
  unfold mkS at hm
  split at hm
  · exact h.hi i m hm
  · split at hm
    · exact h.hi i m hm
    · split at hm
      · exact h.hi i m hm
      · by_cases e : i = freeI S
        · subst e
          have h2 := putS_get (S := S) (n := n) (freeI_le S)
          have h3 := hm
          simp only at h3
          rw [h2] at h3
          injection h3 with h3; injection h3 with h3
          rw [← h3]; exact hne
        · have h3 := hm
          simp only at h3
          rw [putS_other e (freeI_le S)] at h3
          exact h.hi i m h3
/-- What is made: its halves are its low and its high. -/
theorem mk_fam {S : St} (hV : VSt S) {room D : Nat} {n : Nd} (hk : okN S n = true) (hD : n.1 + (D + 1 : Nat) = 24) (he : (mkS room S n).2.2 = 0) :
    ndAt (mkS room S n).1 (mkS room S n).2.1 = some n ∧ lvl (mkS room S n).1 (mkS room S n).2.1 = n.1 ∧ half0 (zf (mkS room S n).1 (D + 1) (mkS room S n).2.1) = zf S D n.2.1 ∧ half1 (zf (mkS room S n).1 (D + 1) (mkS room S n).2.1) = zf S D n.2.2 := by
  have hnd : ndAt (mkS room S n).1 (mkS room S n).2.1 = some n := by
    unfold mkS at he ⊢
    rw [if_neg (by rw [hk]; decide)] at he ⊢
    cases hw : whereN S n with
    | some i => exact ndAt_id (whereN_some hw)
    | none =>
      simp only [hw] at he ⊢
      split
      · rename_i hr; rw [if_pos hr] at he; cases he
      · exact ndAt_id (putS_get (freeI_le S))
  have hl := lvl_node hnd
  obtain ⟨h0, h1, h2, h3⟩ := (okN_iff _ _).1 hk
  refine ⟨hnd, hl, ?_, ?_⟩
  · rw [zf_node0 hnd (by rw [hl]; exact hD)]
    exact (Ext.mk room S n).zf hV D n.2.1 (by omega) (by omega) (by omega)
  · rw [zf_node1 hnd (by rw [hl]; exact hD)]
    exact (Ext.mk room S n).zf hV D n.2.2 (by omega) (by omega) (by omega)

/-! ### How many members -/
def cF : Nat → (Nat → Bool) → Nat
  | 0, F => if F 0 then 1 else 0
  | D + 1, F => cF D (half0 F) + cF D (half1 F)
theorem cF_false : ∀ D, cF D (fun _ => false) = 0
  | 0 => rfl
  | D + 1 => by
    have e0 : half0 (fun _ => false) = fun _ => false := rfl
    have e1 : half1 (fun _ => false) = fun _ => false := rfl
    rw [cF, e0, e1, cF_false D]
theorem cF_pos {F : Nat → Bool} : ∀ {D n : Nat}, n < 2 ^ D → F n = true → 1 ≤ cF D F := by
  intro D
  induction D generalizing F with
  | zero =>
    intro n hn h
    have : n = 0 := by omega
    subst this
    rw [cF, if_pos h]
    exact Nat.le_refl 1
  | succ D ih =>
    intro n hn h
    rw [Nat.pow_succ] at hn
    rw [cF]
    by_cases e : n % 2 = 0
    · have := ih (F := half0 F) (n := n / 2) (by omega) (by unfold half0; rw [show 2 * (n / 2) = n by omega]; exact h)
      omega
    · have := ih (F := half1 F) (n := n / 2) (by omega) (by unfold half1; rw [show 2 * (n / 2) + 1 = n by omega]; exact h)
      omega
theorem countP_halves (F : Nat → Bool) : ∀ N, (List.range (2 * N)).countP F = (List.range N).countP (half0 F) + (List.range N).countP (half1 F)
  | 0 => rfl
  | N + 1 => by
    have ih := countP_halves F N
    rw [show 2 * (N + 1) = 2 * N + 1 + 1 by omega, List.range_succ, List.range_succ, List.range_succ]
    simp only [List.countP_append, List.countP_cons, List.countP_nil]
    rw [ih]
    unfold half0 half1
    omega
theorem cF_count : ∀ (D : Nat) (F : Nat → Bool), (List.range (2 ^ D)).countP F = cF D F
  | 0, F => by
    show (List.range 1).countP F = _
    rw [cF]
    cases h : F 0 <;> simp [h]
  | D + 1, F => by
    rw [Nat.pow_succ, Nat.mul_comm, countP_halves, cF_count D, cF_count D, cF]
theorem cF_le {F G : Nat → Bool} : ∀ D, (∀ n, F n = true → G n = true) → cF D F ≤ cF D G := by
  intro D
  induction D generalizing F G with
  | zero =>
    intro h
    rw [cF, cF]
    cases hF : F 0
    · simp
    · rw [h 0 hF]; exact Nat.le_refl _
  | succ D ih =>
    intro h
    rw [cF, cF]
    have h0 := ih (F := half0 F) (G := half0 G) (fun n hn => h _ hn)
    have h1 := ih (F := half1 F) (G := half1 G) (fun n hn => h _ hn)
    omega
theorem cF_or (D : Nat) : ∀ (F G : Nat → Bool), cF D (fun n => F n || G n) ≤ cF D F + cF D G := by
  induction D with
  | zero =>
    intro F G
    rw [cF, cF, cF]
    cases F 0 <;> cases G 0 <;> simp
  | succ D ih =>
    intro F G
    rw [cF, cF, cF]
    have h0 := ih (half0 F) (half0 G)
    have h1 := ih (half1 F) (half1 G)
    have e0 : half0 (fun n => F n || G n) = fun n => half0 F n || half0 G n := rfl
    have e1 : half1 (fun n => F n || G n) = fun n => half1 F n || half1 G n := rfl
    rw [e0, e1]
    omega
/-- How many members an id has, D items left. -/
def zc (S : St) (D : Nat) (id : Int) : Nat := cF D (zf S D id)
theorem zc_skip {S : St} {D : Nat} {id : Int} (h : 24 < lvl S id + (D + 1 : Nat)) : zc S (D + 1) id = zc S D id := by
  unfold zc
  rw [cF, zf_skip0 h, zf_skip1 h, cF_false]
  rfl
theorem zc_node {S : St} {D : Nat} {id : Int} {nd : Nd} (hn : ndAt S id = some nd) (h : lvl S id + (D + 1 : Nat) = 24) : zc S (D + 1) id = zc S D nd.2.1 + zc S D nd.2.2 := by
  unfold zc
  rw [cF, zf_node0 hn h, zf_node1 hn h]
theorem zc_pos {S : St} (hZ : ZSt S) {D : Nat} {id : Int} (hD : D ≤ 24) (h0 : 0 ≤ lvl S id) (h : 24 ≤ lvl S id + D) (hne : id ≠ 0) : 1 ≤ zc S D id := by
  obtain ⟨n, hn⟩ := z_some hZ D id hD h0 h hne
  exact cF_pos (zf_lt D id n hn) hn
theorem zc_zero (S : St) {D : Nat} (hD : D ≤ 24) : zc S D 0 = 0 := by
  unfold zc
  rw [show zf S D 0 = fun _ => false from funext fun n => zf_zero S D n hD, cF_false]

theorem countP_one8 {N i : Nat} : (List.range N).countP (fun j => decide (j = i)) ≤ 1 := by
  induction N with
  | zero => simp
  | succ N ih =>
    rw [List.range_succ, List.countP_append, List.countP_cons, List.countP_nil]
    by_cases h : N = i
    · subst h
      have : (List.range N).countP (fun j => decide (j = N)) = 0 := by
        rw [List.countP_eq_zero]
        intro j hj
        have := List.mem_range.1 hj
        simp; omega
      rw [this]; simp
    · simp [h]; exact ih
end Go.Proofs.YtehpccanjlaokaaGreat
