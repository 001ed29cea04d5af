/- What an id says, plain: where the bit of each level is given; two ids that say the same are one; more nodes, and a sweep, turn nothing. -/
import Derived.Test.YtkkdfpmjmommcaaNod05
namespace Go.Proofs.Ytkkdfpmjmommcaa

/-- What id says where the bit of level l is c l; k: how many levels at most are to come. -/
def ev (S : St) (c : Nat → Bool) : Nat → Int → Bool
  | 0, id => decide (id = 1)
  | k + 1, id => match ndAt S id with
    | some n => ev S c k (if c n.1.toNat then n.2.2 else n.2.1)
    | none => decide (id = 1)
def says (S : St) (c : Nat → Bool) (id : Int) : Bool := ev S c 24 id
theorem nd_of_lvl {S : St} {id : Int} (h0 : 0 ≤ lvl S id) (h : lvl S id < 24) : ∃ n, ndAt S id = some n ∧ lvl S id = n.1 := by
  rcases lvl_kind h0 with he | ⟨j, m, rfl, hm, hl⟩
  · rw [lvl_end he] at h; omega
  · exact ⟨m, ndAt_id hm, hl⟩
theorem end_of_lvl {S : St} (hV : VSt S) {id : Int} (h : 24 ≤ lvl S id) : id = 0 ∨ id = 1 := by
  rcases lvl_kind (S := S) (id := id) (by omega) with he | ⟨j, m, rfl, hm, hl⟩
  · exact he
  · have := ((okN_iff _ _).1 (hV.ok j m hm)).2.1
    omega
theorem nd_end {S : St} {id : Int} (h : id = 0 ∨ id = 1) : ndAt S id = none := ndAt_not (.inl (by omega))
/-- The kids of a node: their levels. -/
theorem kids_lvl {S : St} (hV : VSt S) {id : Int} {n : Nd} (h : ndAt S id = some n) : (0 ≤ n.1 ∧ n.1 < 24) ∧ n.1 < lvl S n.2.1 ∧ n.1 < lvl S n.2.2 := by
  obtain ⟨h0, h1, h2, h3⟩ := (okN_iff _ _).1 (hV.ok _ n (ndAt_some.1 h).2)
  exact ⟨⟨h0, h1⟩, h2, h3⟩
theorem kid_lvl {S : St} (hV : VSt S) {id : Int} {n : Nd} (h : ndAt S id = some n) (b : Bool) : n.1 < lvl S (if b then n.2.2 else n.2.1) := by
  obtain ⟨_, h2, h3⟩ := kids_lvl hV h
  cases b
  · exact h2
  · exact h3
theorem ev_end {S : St} {c : Nat → Bool} {id : Int} (h : id = 0 ∨ id = 1) : ∀ k, ev S c k id = decide (id = 1)
  | 0 => rfl
  | k + 1 => by unfold ev; rw [nd_end h]
theorem ev_more {S : St} (hV : VSt S) (c : Nat → Bool) : ∀ (k : Nat) (id : Int), 0 ≤ lvl S id → 24 ≤ lvl S id + k → ev S c (k + 1) id = ev S c k id
  | 0, id, h0, h => by
    have he := end_of_lvl hV (id := id) (by omega)
    rw [ev_end he, ev_end he]
  | k + 1, id, h0, h => by
    rcases Int.lt_or_le (lvl S id) 24 with hl | hl
    · obtain ⟨n, hn, e⟩ := nd_of_lvl h0 hl
      have hk := kid_lvl hV hn (c n.1.toNat)
      have h1 := (kids_lvl hV hn).1
      have ih := ev_more hV c k (if c n.1.toNat then n.2.2 else n.2.1) (by omega) (by omega)
      show (match ndAt S id with | some n => ev S c (k + 1) (if c n.1.toNat then n.2.2 else n.2.1) | none => decide (id = 1)) = (match ndAt S id with | some n => ev S c k (if c n.1.toNat then n.2.2 else n.2.1) | none => decide (id = 1))
      rw [hn]
      exact ih
    · have he := end_of_lvl hV hl
      rw [ev_end he, ev_end he]
theorem ev_enough {S : St} (hV : VSt S) (c : Nat → Bool) {id : Int} (h0 : 0 ≤ lvl S id) {k : Nat} (h : 24 ≤ lvl S id + k) : ∀ d, ev S c (k + d) id = ev S c k id
  | 0 => rfl
  | d + 1 => by rw [← Nat.add_assoc, ev_more hV c (k + d) id h0 (by omega), ev_enough hV c h0 h d]
theorem says_zero (S : St) (c : Nat → Bool) : says S c 0 = false := ev_end (.inl rfl) 24
theorem says_one (S : St) (c : Nat → Bool) : says S c 1 = true := ev_end (.inr rfl) 24
theorem says_node {S : St} (hV : VSt S) (c : Nat → Bool) {id : Int} {n : Nd} (h : ndAt S id = some n) : says S c id = says S c (if c n.1.toNat then n.2.2 else n.2.1) := by
  have hk := kid_lvl hV h (c n.1.toNat)
  have h1 := (kids_lvl hV h).1
  have e : says S c id = ev S c 23 (if c n.1.toNat then n.2.2 else n.2.1) := by
    show (match ndAt S id with | some n => ev S c 23 (if c n.1.toNat then n.2.2 else n.2.1) | none => decide (id = 1)) = _
    rw [h]
  rw [e]
  exact (ev_more hV c 23 _ (by omega) (by omega)).symm
/-- What an id says hangs on no bit above its level. -/
theorem says_agree {S : St} (hV : VSt S) {c d : Nat → Bool} : ∀ (k : Nat) (id : Int), 0 ≤ lvl S id → 24 ≤ lvl S id + k → (∀ l : Nat, lvl S id ≤ l → c l = d l) → says S c id = says S d id
  | 0, id, h0, h, _ => by
    have he := end_of_lvl hV (id := id) (by omega)
    rcases he with rfl | rfl
    · rw [says_zero, says_zero]
    · rw [says_one, says_one]
  | k + 1, id, h0, h, hcd => by
    rcases Int.lt_or_le (lvl S id) 24 with hl | hl
    · obtain ⟨n, hn, e⟩ := nd_of_lvl h0 hl
      have h1 := (kids_lvl hV hn).1
      have hb : c n.1.toNat = d n.1.toNat := hcd _ (by omega)
      rw [says_node hV c hn, says_node hV d hn, hb]
      have hk := kid_lvl hV hn (d n.1.toNat)
      exact says_agree hV k _ (by omega) (by omega) (fun l hl' => hcd l (by omega))
    · rcases end_of_lvl hV hl with rfl | rfl
      · rw [says_zero, says_zero]
      · rw [says_one, says_one]
/-- The bit of one level turned. -/
def setB (c : Nat → Bool) (l : Nat) (b : Bool) : Nat → Bool := fun q => if q = l then b else c q
theorem setB_at (c : Nat → Bool) (l : Nat) (b : Bool) : setB c l b l = b := by unfold setB; simp
theorem setB_off {c : Nat → Bool} {l q : Nat} {b : Bool} (h : q ≠ l) : setB c l b q = c q := by unfold setB; simp [h]
theorem says_kid {S : St} (hV : VSt S) (c : Nat → Bool) {id : Int} {n : Nd} (h : ndAt S id = some n) (b : Bool) : says S (setB c n.1.toNat b) id = says S c (if b then n.2.2 else n.2.1) := by
  have h1 := (kids_lvl hV h).1
  have hk := kid_lvl hV h b
  rw [says_node hV _ h, setB_at]
  exact says_agree hV 24 _ (by omega) (by omega) (fun l hl => setB_off (by omega))
theorem says_above {S : St} (hV : VSt S) (c : Nat → Bool) {id : Int} {l : Nat} (h0 : 0 ≤ lvl S id) (h : (l : Int) < lvl S id) (b : Bool) : says S (setB c l b) id = says S c id :=
  says_agree hV 24 _ h0 (by omega) (fun q hq => setB_off (by omega))
/-- No node has one id for its low and its high. -/
structure RSt (S : St) : Prop where
  vst : VSt S
  ne : ∀ (i : Nat) (n : Nd), S[i]? = some (some n) → n.2.1 ≠ n.2.2
theorem RSt.ne_of {S : St} (h : RSt S) {id : Int} {n : Nd} (hn : ndAt S id = some n) : n.2.1 ≠ n.2.2 := h.ne _ n (ndAt_some.1 hn).2
theorem nd_inj {S : St} (hV : VSt S) {a b : Int} {n : Nd} (ha : ndAt S a = some n) (hb : ndAt S b = some n) : a = b := by
  obtain ⟨h1, h2⟩ := ndAt_some.1 ha
  obtain ⟨h3, h4⟩ := ndAt_some.1 hb
  have := hV.one _ _ n h2 h4
  omega
/-- TWO IDS THAT SAY THE SAME ARE ONE. -/
theorem canon {S : St} (hR : RSt S) : ∀ (k : Nat) (a b : Int), 0 ≤ lvl S a → 0 ≤ lvl S b → 24 ≤ lvl S a + k → 24 ≤ lvl S b + k → (∀ c, says S c a = says S c b) → a = b
  | 0, a, b, _, _, ha, hb, hs => by
    have h1 := end_of_lvl hR.vst (id := a) (by omega)
    have h2 := end_of_lvl hR.vst (id := b) (by omega)
    have := hs fun _ => false
    rcases h1 with rfl | rfl <;> rcases h2 with rfl | rfl
    · rfl
    · rw [says_zero, says_one] at this; cases this
    · rw [says_zero, says_one] at this; cases this
    · rfl
  | k + 1, a, b, ha0, hb0, ha, hb, hs => by
    have hV := hR.vst
    -- one of them above the other: its kids say the same
    have above : ∀ x y : Int, 0 ≤ lvl S x → 0 ≤ lvl S y → 24 ≤ lvl S x + (k + 1 : Nat) → lvl S x < lvl S y → (∀ c, says S c x = says S c y) → False := fun x y hx0 hy0 hx hlt hxy => by
      have h24 : lvl S y ≤ 24 := by
        rcases lvl_kind hy0 with he | ⟨j, m, e, hm, hl⟩
        · rw [lvl_end he]; omega
        · have := ((okN_iff _ _).1 (hV.ok j m hm)).2.1; omega
      obtain ⟨n, hn, e⟩ := nd_of_lvl hx0 (by omega)
      have h1 := (kids_lvl hV hn).1
      obtain ⟨_, h2, h3⟩ := kids_lvl hV hn
      refine hR.ne_of hn (canon hR k n.2.1 n.2.2 (by omega) (by omega) (by omega) (by omega) fun c => ?_)
      have e0 := says_kid hV c hn false
      have e1 := says_kid hV c hn true
      rw [hxy, says_above hV c hy0 (by omega)] at e0 e1
      exact e0.symm.trans e1
    rcases Int.lt_trichotomy (lvl S a) (lvl S b) with h | h | h
    · exact (above a b ha0 hb0 ha h hs).elim
    · rcases Int.lt_or_le (lvl S a) 24 with hl | hl
      · obtain ⟨n, hn, en⟩ := nd_of_lvl ha0 hl
        obtain ⟨m, hm, em⟩ := nd_of_lvl hb0 (by omega)
        have hl1 : n.1 = m.1 := by omega
        obtain ⟨h1, h2, h3⟩ := kids_lvl hV hn
        obtain ⟨_, h5, h6⟩ := kids_lvl hV hm
        have elo : n.2.1 = m.2.1 := canon hR k _ _ (by omega) (by omega) (by omega) (by omega) fun c => by
          have e0 := says_kid hV c hn false
          have e1 := says_kid hV c hm false
          rw [hl1] at e0
          exact e0.symm.trans ((hs _).trans e1)
        have ehi : n.2.2 = m.2.2 := canon hR k _ _ (by omega) (by omega) (by omega) (by omega) fun c => by
          have e0 := says_kid hV c hn true
          have e1 := says_kid hV c hm true
          rw [hl1] at e0
          exact e0.symm.trans ((hs _).trans e1)
        have : n = m := Prod.ext hl1 (Prod.ext elo ehi)
        subst this
        exact nd_inj hV hn hm
      · have h1 := end_of_lvl hV hl
        have h2 := end_of_lvl hV (id := b) (by omega)
        have := hs fun _ => false
        rcases h1 with rfl | rfl <;> rcases h2 with rfl | rfl
        · rfl
        · rw [says_zero, says_one] at this; cases this
        · rw [says_zero, says_one] at this; cases this
        · rfl
    · exact (above b a hb0 ha0 hb h fun c => (hs c).symm).elim
theorem says_eq {S : St} (hR : RSt S) {a b : Int} (ha : 0 ≤ lvl S a) (hb : 0 ≤ lvl S b) : (∀ c, says S c a = says S c b) ↔ a = b :=
  ⟨fun h => canon hR 24 a b ha hb (by omega) (by omega) h, fun e _ => by rw [e]⟩

/-! ### More nodes; fewer -/
/-- What was there is there. -/
def Ext (S T : St) : Prop := ∀ (i : Nat) (n : Nd), S[i]? = some (some n) → T[i]? = some (some n)
theorem Ext.refl (S : St) : Ext S S := fun _ _ h => h
theorem Ext.trans {S T U : St} (h : Ext S T) (k : Ext T U) : Ext S U := fun _ _ hn => k _ _ (h _ _ hn)
theorem Ext.nd {S T : St} (h : Ext S T) {id : Int} {n : Nd} (hn : ndAt S id = some n) : ndAt T id = some n := by
  obtain ⟨h2, h3⟩ := ndAt_some.1 hn
  exact ndAt_some.2 ⟨h2, h _ n h3⟩
theorem Ext.lvl {S T : St} (h : Ext S T) {id : Int} (h0 : 0 ≤ Go.Proofs.Ytkkdfpmjmommcaa.lvl S id) : Go.Proofs.Ytkkdfpmjmommcaa.lvl T id = Go.Proofs.Ytkkdfpmjmommcaa.lvl S id := by
  rcases lvl_kind h0 with he | ⟨j, m, rfl, hm, hl⟩
  · rw [lvl_end he, lvl_end he]
  · rw [lvl_node (ndAt_id hm), lvl_node (ndAt_id (h j m hm))]
theorem Ext.ev {S T : St} (hV : VSt S) (h : Ext S T) (c : Nat → Bool) : ∀ (k : Nat) (id : Int), 0 ≤ Go.Proofs.Ytkkdfpmjmommcaa.lvl S id → Go.Proofs.Ytkkdfpmjmommcaa.ev T c k id = Go.Proofs.Ytkkdfpmjmommcaa.ev S c k id
  | 0, id, _ => rfl
  | k + 1, id, h0 => by
    rcases lvl_kind h0 with he | ⟨j, m, rfl, hm, hl⟩
    · rw [ev_end he, ev_end he]
    · have hn := ndAt_id hm
      have hk := kid_lvl hV hn (c m.1.toNat)
      have h1 := (kids_lvl hV hn).1
      show (match ndAt T ((j : Int) + 2) with | some n => Go.Proofs.Ytkkdfpmjmommcaa.ev T c k (if c n.1.toNat then n.2.2 else n.2.1) | none => _) = (match ndAt S ((j : Int) + 2) with | some n => Go.Proofs.Ytkkdfpmjmommcaa.ev S c k (if c n.1.toNat then n.2.2 else n.2.1) | none => _)
      rw [hn, h.nd hn]
      exact Ext.ev hV h c k _ (by omega)
theorem Ext.says {S T : St} (hV : VSt S) (h : Ext S T) (c : Nat → Bool) {id : Int} (h0 : 0 ≤ Go.Proofs.Ytkkdfpmjmommcaa.lvl S id) : Go.Proofs.Ytkkdfpmjmommcaa.says T c id = Go.Proofs.Ytkkdfpmjmommcaa.says S c id := Ext.ev hV h c 24 id h0
theorem Ext.put {S : St} {i : Nat} {n : Nd} (hi : i ≤ S.length) (hf : ∀ m, S[i]? ≠ some (some m)) : Ext S (putS S i n) := fun j m hj => by
  have hji : j ≠ i := fun e => hf m (e ▸ hj)
  exact (putS_other hji hi).trans hj
theorem Ext.mk (room : Nat) (S : St) (n : Nd) : Ext S (mkS room S n).1 := by
  unfold mkS
  split
  · exact Ext.refl S
  · split
    · exact Ext.refl S
    · split
      · exact Ext.refl S
      · exact Ext.put (freeI_le S) free_not
theorem Ext.swp (S : St) (f : Nat → Bool) : Ext (Go.Proofs.Ytkkdfpmjmommcaa.swp S f) S := fun _ _ h => (swp_some.1 h).1
theorem RSt.nil : RSt [] := ⟨VSt.nil, fun _ _ h => by simp at h⟩
theorem RSt.made {S : St} (h : RSt S) (room : Nat) (n : Nd) (hne : n.2.1 ≠ n.2.2) : RSt (mkS room S n).1 := by
  refine ⟨h.vst.made room n, fun i m hm => ?_⟩
  unfold mkS at hm
  split at hm
  · exact h.ne i m hm
  · split at hm
    · exact h.ne i m hm
    · split at hm
      · exact h.ne i m hm
      · by_cases e : i = freeI S
        · subst e
          have h2 := putS_get (S := S) (n := n) (freeI_le S)
          have h3 := hm
          simp only at h3
          rw [h2] at h3
          injection h3 with h3; injection h3 with h3
          rw [← h3]; exact hne
        · have h3 := hm
          simp only at h3
          rw [putS_other e (freeI_le S)] at h3
          exact h.ne i m h3
theorem RSt.swept {S : St} {f : Nat → Bool} {K : List Int} (h : RSt S) (hf : ∀ i, i < S.length → (f i = true ↔ Rch S K i)) : RSt (Go.Proofs.Ytkkdfpmjmommcaa.swp S f) :=
  ⟨h.vst.swept hf, fun i n hn => h.ne i n (swp_some.1 hn).1⟩
/-- What is made: it is there, and says what its low and its high say. -/
theorem mk_says {S : St} (hV : VSt S) {room : Nat} {n : Nd} (hk : okN S n = true) (he : (mkS room S n).2.2 = 0) (c : Nat → Bool) :
    ndAt (mkS room S n).1 (mkS room S n).2.1 = some n ∧ says (mkS room S n).1 c (mkS room S n).2.1 = says S c (if c n.1.toNat then n.2.2 else n.2.1) := by
  have hnd : ndAt (mkS room S n).1 (mkS room S n).2.1 = some n := by
    unfold mkS at he ⊢
    rw [if_neg (by rw [hk]; decide)] at he ⊢
    cases hw : whereN S n with
    | some i => exact ndAt_id (whereN_some hw)
    | none =>
      simp only [hw] at he ⊢
      split
      · rename_i hr; rw [if_pos hr] at he; cases he
      · exact ndAt_id (putS_get (freeI_le S))
  refine ⟨hnd, ?_⟩
  rw [says_node (hV.made room n) c hnd]
  obtain ⟨h0, h1, h2, h3⟩ := (okN_iff _ _).1 hk
  refine (Ext.mk room S n).says hV c ?_
  cases c n.1.toNat
  · show 0 ≤ lvl S n.2.1; omega
  · show 0 ≤ lvl S n.2.2; omega
end Go.Proofs.Ytkkdfpmjmommcaa
