/- What the statements of layer 6 compare, plain. -/
import Derived.Test.YtbffcnnfkfjpgaaKnw06
namespace Go.Proofs.Ytbffcnnfkfjpgaa

theorem cnt_swp : ∀ (S : St) (f : Nat → Bool), cnt (swp S f) ≤ cnt S
  | [], _ => Nat.le_refl _
  | o :: S, f => by
    have ih := cnt_swp S (fun i => f (i + 1))
    unfold swp cnt at *
    rw [List.mapIdx_cons, List.countP_cons, List.countP_cons]
    have : (if (if f 0 = true then o else none).isSome = true then 1 else 0) ≤ (if o.isSome = true then 1 else 0) := by
      cases f 0 <;> cases o <;> simp
    exact Nat.add_le_add ih this
theorem swp_used {S : St} {id : Int} (h0 : 0 ≤ lvl S id) {f : Nat → Bool} (hf : ∀ i, i < S.length → (f i = true ↔ Rch S [id] i)) : 0 ≤ lvl (swp S f) id := by
  rcases lvl_kind h0 with he | ⟨j, m, rfl, hm, hl⟩
  · rw [lvl_end he]; decide
  · have hj := (List.getElem?_eq_some_iff.1 hm).1
    have hs : (swp S f)[j]? = some (some m) := swp_some.2 ⟨hm, (hf j hj).2 (.here hm (by simp))⟩
    rw [lvl_node (ndAt_id hs), ← hl]; exact h0
theorem swp_says {S : St} (hR : RSt S) {id : Int} (h0 : 0 ≤ lvl S id) {f : Nat → Bool} (hf : ∀ i, i < S.length → (f i = true ↔ Rch S [id] i)) (c : Nat → Bool) : says (swp S f) c id = says S c id :=
  ((Ext.swp S f).says (hR.swept hf).vst c (swp_used h0 hf)).symm
theorem Out.less {n : Nat} {l : Int} {room : Nat} {S T : St} {F : (Nat → Bool) → Bool} {id e : Int} (h : Out n n l room S F T id e) (h8 : n ≤ 8) : cnt T ≤ cnt S + 255 := by
  have := h.few
  have := two_eight h8
  omega
/-- Two ids say the same sets just if they are one. -/
theorem one_sets {S : St} (hR : RSt S) {o : List Nat} (ho : OrdOk o) {f g : Int} (f0 : 0 ≤ lvl S f) (g0 : 0 ≤ lvl S g) {X Y : BitVec 256} (hX : ∀ p, 2 ^ o.length ≤ p → X.getLsbD p = false) (hY : ∀ p, 2 ^ o.length ≤ p → Y.getLsbD p = false) (hf : ∀ c, says S c f = setF o X c) (hg : ∀ c, says S c g = setF o Y c) : (f == g) = decide (X = Y) := by
  rw [Bool.eq_iff_iff, beq_iff_eq, decide_eq_true_eq]
  constructor
  · intro e
    refine setF_inj ho hX hY fun c => ?_
    rw [← hf c, ← hg c, e]
  · intro e
    refine (says_eq hR f0 g0).1 fun c => ?_
    rw [hf c, hg c, e]
theorem setF_or (o : List Nat) (X Y : BitVec 256) (c : Nat → Bool) : setF o (X ||| Y) c = (setF o X c || setF o Y c) := by unfold setF; rw [BitVec.getLsbD_or]
theorem setF_and (o : List Nat) (X Y : BitVec 256) (c : Nat → Bool) : setF o (X &&& Y) c = (setF o X c && setF o Y c) := by unfold setF; rw [BitVec.getLsbD_and]
theorem setF_less {o : List Nat} (ho : OrdOk o) (h8 : o.length ≤ 8) (X Y : BitVec 256) (c : Nat → Bool) : setF o (X &&& ~~~Y) c = (setF o X c && !(setF o Y c)) := by
  unfold setF
  have h1 := ptOf_lt ho c
  have h2 := two_eight h8
  rw [BitVec.getLsbD_and, BitVec.getLsbD_not, decide_eq_true (show ptOf c o 0 < 256 by omega), Bool.true_and]
theorem setF_all {o : List Nat} (ho : OrdOk o) (h8 : o.length ≤ 8) (c : Nat → Bool) : setF o (allB o.length) c = true := by
  unfold setF
  rw [allB_bit6 _ _ h8]
  exact decide_eq_true (ptOf_lt ho c)
theorem low_or {n : Nat} {X Y : BitVec 256} (hX : ∀ p, 2 ^ n ≤ p → X.getLsbD p = false) (hY : ∀ p, 2 ^ n ≤ p → Y.getLsbD p = false) (p : Nat) (hp : 2 ^ n ≤ p) : (X ||| Y).getLsbD p = false := by rw [BitVec.getLsbD_or, hX p hp, hY p hp]; rfl
theorem low_and {n : Nat} {X : BitVec 256} (Y : BitVec 256) (hX : ∀ p, 2 ^ n ≤ p → X.getLsbD p = false) (p : Nat) (hp : 2 ^ n ≤ p) : (X &&& Y).getLsbD p = false := by rw [BitVec.getLsbD_and, hX p hp]; rfl
theorem or_and_same (X Y : BitVec 256) : (X ||| Y = X &&& Y) ↔ X = Y := by
  constructor
  · intro h
    apply BitVec.eq_of_getLsbD_eq
    intro p _
    have := congrArg (fun Z => Z.getLsbD p) h
    simp only [BitVec.getLsbD_or, BitVec.getLsbD_and] at this
    cases hx : X.getLsbD p <;> cases hy : Y.getLsbD p <;> simp [hx, hy] at this ⊢
  · rintro rfl
    rw [BitVec.or_self, BitVec.and_self]
/-- What an id says after more has been made. -/
theorem says_on {S T : St} (hV : VSt S) (hx : Ext S T) {id : Int} (h0 : 0 ≤ lvl S id) {F : (Nat → Bool) → Bool} (h : ∀ c, says S c id = F c) : 0 ≤ lvl T id ∧ ∀ c, says T c id = F c :=
  ⟨by rw [hx.lvl h0]; exact h0, fun c => by rw [hx.says hV c h0]; exact h c⟩
theorem ite_or {o : List Nat} {S : St} {f g : Int} {X Y : BitVec 256} (hf : ∀ c, says S c f = setF o X c) (hg : ∀ c, says S c g = setF o Y c) (c : Nat → Bool) : iteF S f 1 g c = setF o (X ||| Y) c := by
  unfold iteF; rw [hf c, hg c, says_one, setF_or]; cases setF o X c <;> rfl
theorem ite_and {o : List Nat} {S : St} {f g : Int} {X Y : BitVec 256} (hf : ∀ c, says S c f = setF o X c) (hg : ∀ c, says S c g = setF o Y c) (c : Nat → Bool) : iteF S f g 0 c = setF o (X &&& Y) c := by
  unfold iteF; rw [hf c, hg c, says_zero, setF_and]; cases setF o X c <;> rfl
theorem ite_ite {o : List Nat} (ho : OrdOk o) (h8 : o.length ≤ 8) {S : St} {f g k : Int} {X Y Z : BitVec 256} (hf : ∀ c, says S c f = setF o X c) (hg : ∀ c, says S c g = setF o Y c) (hk : ∀ c, says S c k = setF o Z c) (c : Nat → Bool) : iteF S f g k c = setF o ((X &&& Y) ||| (Z &&& ~~~X)) c := by
  unfold iteF; rw [hf c, hg c, hk c, setF_or, setF_and, setF_less ho h8]; cases setF o X c <;> simp
theorem ite_not {o : List Nat} (ho : OrdOk o) (h8 : o.length ≤ 8) {S : St} {f : Int} {X : BitVec 256} (hf : ∀ c, says S c f = setF o X c) (c : Nat → Bool) : iteF S f 0 1 c = setF o (allB o.length &&& ~~~X) c := by
  unfold iteF; rw [hf c, says_zero, says_one, setF_less ho h8, setF_all ho h8]; cases setF o X c <;> rfl
end Go.Proofs.Ytbffcnnfkfjpgaa
