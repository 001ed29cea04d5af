/- The halves of an id and of a set, point by point, plain: what Of and the others come down by. -/
import Derived.Test.YtkkdfpmjmommcaaBdd06
namespace Go.Proofs.Ytkkdfpmjmommcaa

/-- The bits d below level k, and c from it on. -/
def mixB (k : Nat) (d c : Nat → Bool) : Nat → Bool := fun l => if l < k then d l else c l
/-- What a set says of the bits from level k on, where the bits below are d. -/
def setFk (o : List Nat) (X : BitVec 256) (k : Nat) (d : Nat → Bool) (c : Nat → Bool) : Bool := setF o X (mixB k d c)
theorem setFk_zero (o : List Nat) (X : BitVec 256) (d c : Nat → Bool) : setFk o X 0 d c = setF o X c := by
  unfold setFk mixB
  congr 1
theorem setFk_split (o : List Nat) (X : BitVec 256) (k : Nat) (d c : Nat → Bool) : setFk o X k d c = if c k then setFk o X (k + 1) (setB d k true) c else setFk o X (k + 1) (setB d k false) c := by
  have e : ∀ b, c k = b → mixB (k + 1) (setB d k b) c = mixB k d c := fun b hb => by
    funext l
    unfold mixB
    by_cases h : l < k
    · rw [if_pos (by omega), if_pos h, setB_off (by omega)]
    · rw [if_neg h]
      by_cases h2 : l = k
      · subst h2; rw [if_pos (by omega), setB_at, hb]
      · rw [if_neg (by omega)]
  unfold setFk
  cases hb : c k
  · rw [if_neg (by decide), e false hb]
  · rw [if_pos rfl, e true hb]
/-- The bits d below level k as a number. -/
theorem setFk_row (o : List Nat) (X : BitVec 256) (k : Nat) (d : Nat → Bool) : ∃ a, a < 2 ^ k ∧ ∀ w, setFk o X k d (joinB k 0 w) = setF o X (joinB k a w) := by
  obtain ⟨a, ha, hb⟩ := bits_num d k
  refine ⟨a, ha, fun w => ?_⟩
  unfold setFk
  congr 1
  funext l
  unfold mixB joinB
  by_cases h : l < k
  · rw [if_pos h, if_pos h, hb l h]
  · rw [if_neg h, if_neg h, if_neg h]
/-- The point of the bits d below level k. -/
def ptK (o : List Nat) (k : Nat) (d : Nat → Bool) : Nat := ptOf d (o.take k) 0
theorem ptK_zero (o : List Nat) (d : Nat → Bool) : ptK o 0 d = 0 := by unfold ptK; simp [ptOf]
theorem ptOf_agree {c d : Nat → Bool} : ∀ (l : List Nat) (k : Nat), (∀ q, k ≤ q → q < k + l.length → c q = d q) → ptOf c l k = ptOf d l k
  | [], _, _ => rfl
  | i :: r, k, h => by
    unfold ptOf
    rw [h k (Nat.le_refl _) (by simp), ptOf_agree r (k + 1) (fun q h1 h2 => h q (by omega) (by simp only [List.length_cons]; omega))]
theorem ptOf_append (c : Nat → Bool) : ∀ (a b : List Nat) (k : Nat), ptOf c (a ++ b) k = ptOf c a k + ptOf c b (k + a.length)
  | [], b, k => by simp [ptOf]
  | i :: a, b, k => by
    have e : k + 1 + a.length = k + (i :: a).length := by simp only [List.length_cons]; omega
    rw [List.cons_append, ptOf, ptOf, ptOf_append c a b (k + 1), e, Nat.add_assoc]
theorem ptK_low {o : List Nat} {k : Nat} {d : Nat → Bool} (hk : k < o.length) : ptK o (k + 1) (setB d k false) = ptK o k d := by
  unfold ptK
  have hlen : (o.take k).length = k := by simp; omega
  rw [List.take_add_one, List.getElem?_eq_getElem hk, ptOf_append, ptOf_agree (d := d) (o.take k) 0 (fun q _ h => setB_off (by omega)), hlen]
  simp [ptOf, setB_at]
theorem ptK_high {o : List Nat} (ho : OrdOk o) {k i : Nat} {d : Nat → Bool} (hk : o[k]? = some i) : ptK o (k + 1) (setB d k true) = ptK o k d ||| 2 ^ i := by
  have hl := (List.getElem?_eq_some_iff.1 hk).1
  have hlen : (o.take k).length = k := by simp; omega
  have hni : i ∉ o.take k := fun hm => by
    obtain ⟨j, hj, e⟩ := List.mem_iff_getElem.1 hm
    have hj' : j < k := by omega
    rw [List.getElem_take] at e
    exact (List.pairwise_iff_getElem.1 (List.nodup_iff_pairwise_ne.1 ho.nodup)) j k (by omega) hl hj' (e.trans (List.getElem?_eq_some_iff.1 hk).2.symm)
  have hz : (ptK o k d).testBit i = false := ptOf_out (c := d) (o.take k) 0 i hni (ho.nodup.sublist (List.take_sublist _ _))
  have e : ptK o (k + 1) (setB d k true) = 2 ^ i + ptK o k d := by
    unfold ptK
    rw [List.take_add_one, hk, ptOf_append, ptOf_agree (d := d) (o.take k) 0 (fun q _ h => setB_off (by omega)), hlen]
    simp [ptOf, setB_at, Nat.add_comm]
  rw [e]
  apply Nat.eq_of_testBit_eq
  intro q
  rw [add_bit i _ hz, Nat.testBit_or, Nat.testBit_two_pow, Bool.or_comm]
  congr 1
  rw [Bool.eq_iff_iff]; simp [eq_comm]
theorem ptK_lt {o : List Nat} (ho : OrdOk o) (k : Nat) (d : Nat → Bool) : ptK o k d < 2 ^ o.length :=
  Nat.lt_pow_two_of_testBit _ fun i hi => ptOf_out (o.take k) 0 i (fun hm => by have := ho.lt i (List.mem_of_mem_take hm); omega) (ho.nodup.sublist (List.take_sublist _ _))
/-- Where all bits are d: a point. -/
theorem setFk_all (o : List Nat) (X : BitVec 256) (d c : Nat → Bool) : setFk o X o.length d c = X.getLsbD (ptK o o.length d) := by
  unfold setFk setF ptK
  rw [List.take_length, ptOf_agree (d := d) o 0 (fun q _ h => by unfold mixB; rw [if_pos (by omega)])]

/-! ### Halves of an id -/
/-- The level of an id in a diagram of n inputs. -/
def lvN (n : Nat) (S : St) (id : Int) : Nat := match ndAt S id with
  | some m => m.1.toNat
  | none => n
def halfI (S : St) (id : Int) (l : Nat) (b : Bool) : Int := match ndAt S id with
  | some m => if m.1 = (l : Int) then (if b then m.2.2 else m.2.1) else id
  | none => id
theorem lvN_end {n : Nat} {S : St} {id : Int} (h : id = 0 ∨ id = 1) : lvN n S id = n := by unfold lvN; rw [nd_end h]
/-- An id that is used: its level here and there. -/
theorem lvN_used {n : Nat} {S : St} (hV : VSt S) (hL : LSt S n) {id : Int} (h0 : 0 ≤ lvl S id) (hn : n ≤ 24) : (lvN n S id : Int) ≤ lvl S id ∧ lvN n S id ≤ n ∧ (lvN n S id < n → lvl S id = lvN n S id) ∧ (lvN n S id = n → id = 0 ∨ id = 1) := by
  unfold lvN
  rcases lvl_kind h0 with he | ⟨j, m, rfl, hm, hl⟩
  · rw [nd_end he, lvl_end he]
    exact ⟨by show (n : Int) ≤ 24; omega, Nat.le_refl _, fun h => absurd h (Nat.lt_irrefl _), fun _ => he⟩
  · have h1 := (okN_iff _ _).1 (hV.ok j m hm)
    have h2 := hL j m hm
    rw [ndAt_id hm, hl]
    exact ⟨by show ((m.1.toNat : Nat) : Int) ≤ m.1; omega, by show m.1.toNat ≤ n; omega, fun _ => by show m.1 = ((m.1.toNat : Nat) : Int); omega, fun h => by have h' : m.1.toNat = n := h; omega⟩
theorem half_says {S : St} (hV : VSt S) (c : Nat → Bool) {id : Int} {l : Nat} : says S c (halfI S id l (c l)) = says S c id := by
  unfold halfI
  cases hn : ndAt S id with
  | none => rfl
  | some m =>
    simp only
    split
    · rename_i h
      rw [says_node hV c hn, h, Int.toNat_natCast]
    · rfl
theorem half_lvl {S : St} (hV : VSt S) {id : Int} {l : Nat} (h : (l : Int) ≤ lvl S id) (hl : l < 24) (b : Bool) : (l : Int) + 1 ≤ lvl S (halfI S id l b) := by
  have h0 : 0 ≤ lvl S id := by omega
  unfold halfI
  cases hn : ndAt S id with
  | none =>
    rcases lvl_kind h0 with he | ⟨j, m, rfl, hm, hl⟩
    · show (l : Int) + 1 ≤ lvl S id
      rw [lvl_end he]; omega
    · rw [ndAt_id hm] at hn; cases hn
  | some m =>
    simp only
    split
    · rename_i e
      have := kid_lvl hV hn b
      omega
    · rename_i e
      rw [lvl_node hn] at h ⊢
      omega
theorem half_ext {S T : St} (h : Ext S T) {id : Int} (h0 : 0 ≤ lvl S id) (l : Nat) (b : Bool) : halfI T id l b = halfI S id l b := by
  unfold halfI
  rcases lvl_kind h0 with he | ⟨j, m, rfl, hm, hl⟩
  · rw [nd_end he, nd_end he]
  · rw [ndAt_id hm, ndAt_id (h j m hm)]
theorem lvN_ext {S T : St} (h : Ext S T) (n : Nat) {id : Int} (h0 : 0 ≤ lvl S id) : lvN n T id = lvN n S id := by
  unfold lvN
  rcases lvl_kind h0 with he | ⟨j, m, rfl, hm, hl⟩
  · rw [nd_end he, nd_end he]
  · rw [ndAt_id hm, ndAt_id (h j m hm)]
/-- Below its level a half is what is said there: of bits that are not asked. -/
theorem half_off {S : St} (hV : VSt S) (c : Nat → Bool) {id : Int} {l : Nat} (h : (l : Int) ≤ lvl S id) (hl : l < 24) (b : Bool) : says S (setB c l b) id = says S c (halfI S id l b) := by
  have h1 := half_says hV (setB c l b) (id := id) (l := l)
  rw [setB_at] at h1
  rw [← h1]
  have h2 := half_lvl hV h hl b
  exact says_above hV c (by omega) (by omega) b
end Go.Proofs.Ytkkdfpmjmommcaa
