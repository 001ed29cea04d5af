/- What Some says, point by point, plain: with an input inverted or not. -/
import Derived.Test.YtbffcnnfkfjpgaaOnp06
namespace Go.Proofs.Ytbffcnnfkfjpgaa

theorem xor_up {q i : Nat} (h : q.testBit i = false) : q + 2 ^ i = q ^^^ 2 ^ i := by
  rw [Nat.add_comm]
  apply Nat.eq_of_testBit_eq
  intro j
  rw [add_bit i q h, Nat.testBit_xor, Nat.testBit_two_pow]
  by_cases e : i = j
  · subst e; rw [h]; simp
  · simp [e]; omega
theorem xor_down {q i : Nat} (h : q.testBit i = true) : 2 ^ i ≤ q ∧ q - 2 ^ i = q ^^^ 2 ^ i := by
  have hz : (q ^^^ 2 ^ i).testBit i = false := by rw [Nat.testBit_xor, Nat.testBit_two_pow, h]; simp
  have e := xor_up hz
  rw [Nat.xor_assoc, Nat.xor_self, Nat.xor_zero] at e
  omega
theorem xor_lt {q i n : Nat} (hq : q < 2 ^ n) (hi : i < n) : q ^^^ 2 ^ i < 2 ^ n := Nat.xor_lt_two_pow hq (Nat.pow_lt_pow_right (by decide) hi)
/-- The point of the bits with that of level L the other way. -/
theorem ptOf_flip {o : List Nat} (ho : OrdOk o) {L i : Nat} (hL : o[L]? = some i) (c : Nat → Bool) : ptOf (setB c L (!(c L))) o 0 = ptOf c o 0 ^^^ 2 ^ i := by
  have hLl := (List.getElem?_eq_some_iff.1 hL).1
  have hin : i < o.length := ho.lt i (List.mem_of_getElem? hL)
  apply Nat.eq_of_testBit_eq
  intro j
  rw [Nat.testBit_xor, Nat.testBit_two_pow]
  by_cases hj : j < o.length
  · obtain ⟨m, hm, e⟩ := ho.place hj
    rw [ptOf_bit o 0 m j ho.nodup e, ptOf_bit o 0 m j ho.nodup e, Nat.zero_add]
    by_cases hmL : m = L
    · subst hmL
      have : i = j := by rw [hL] at e; injection e
      rw [setB_at, this]; simp
    · have hne : i ≠ j := fun h => by
        subst h
        have h1 := (List.getElem?_eq_some_iff.1 hL).2
        have h2 := (List.getElem?_eq_some_iff.1 e).2
        rcases Nat.lt_or_gt_of_ne hmL with hlt | hgt
        · exact (List.pairwise_iff_getElem.1 (List.nodup_iff_pairwise_ne.1 ho.nodup)) m L hm hLl hlt (h2.trans h1.symm)
        · exact (List.pairwise_iff_getElem.1 (List.nodup_iff_pairwise_ne.1 ho.nodup)) L m hLl hm hgt (h1.trans h2.symm)
      rw [setB_off hmL]; simp [hne]
  · have hne : i ≠ j := by omega
    rw [ptOf_out o 0 j (fun h => hj (ho.lt j h)) ho.nodup, ptOf_out o 0 j (fun h => hj (ho.lt j h)) ho.nodup]
    simp [hne]
theorem setB_self (c : Nat → Bool) (L : Nat) : setB c L (c L) = c := by
  funext q
  unfold setB
  split
  · rename_i h; rw [h]
  · rfl
/-- The points of X, and what they are with input i the other way: of the first k. -/
def wantK (X : BitVec 256) (i k : Nat) : Nat → Bool := fun p => ((pts X).take k).any fun q => p == q || p == q ^^^ 2 ^ i
theorem wantK_zero (X : BitVec 256) (i : Nat) : wantK X i 0 = fun _ => false := by funext p; unfold wantK; simp
theorem wantK_succ {X : BitVec 256} {i k q : Nat} (h : (pts X)[k]? = some q) (p : Nat) : wantK X i (k + 1) p = (wantK X i k p || (p == q || p == q ^^^ 2 ^ i)) := by
  unfold wantK
  rw [List.take_add_one, h, List.any_append]
  simp
theorem want_all {X : BitVec 256} {i : Nat} {p : Nat} (hp : p < 256) (hi : i < 8) : wantK X i (pts X).length p = (X.getLsbD p || X.getLsbD (p ^^^ 2 ^ i)) := by
  have hf : p ^^^ 2 ^ i < 256 := xor_lt (n := 8) hp hi
  have hff : (p ^^^ 2 ^ i) ^^^ 2 ^ i = p := by rw [Nat.xor_assoc, Nat.xor_self, Nat.xor_zero]
  unfold wantK
  rw [List.take_length, Bool.eq_iff_iff, List.any_eq_true, Bool.or_eq_true]
  constructor
  · rintro ⟨q, hq, he⟩
    have hX := (pts_lt X q hq).2
    simp only [Bool.or_eq_true, beq_iff_eq] at he
    rcases he with rfl | rfl
    · exact .inl hX
    · rw [Nat.xor_assoc, Nat.xor_self, Nat.xor_zero]; exact .inr hX
  · have hm : ∀ q, q < 256 → X.getLsbD q = true → q ∈ pts X := fun q hq hX => by unfold pts; rw [List.mem_filter]; exact ⟨by simpa using hq, hX⟩
    rintro (h | h)
    · exact ⟨p, hm p hp h, by simp⟩
    · exact ⟨p ^^^ 2 ^ i, hm _ hf h, by rw [hff]; simp⟩
/-- The set that the document asks for. -/
def wantB (X : BitVec 256) (i : Nat) : BitVec 256 := bvOf (wantK X i (pts X).length)
theorem want_low {X : BitVec 256} {n i : Nat} (h8 : n ≤ 8) (hi : i < n) (hX : ∀ p, 2 ^ n ≤ p → X.getLsbD p = false) (p : Nat) (hp : 2 ^ n ≤ p) : (wantB X i).getLsbD p = false := by
  unfold wantB
  rw [bvOf_bit]
  by_cases h2 : p < 256
  · rw [want_all h2 (by omega), hX p hp]
    have : 2 ^ n ≤ p ^^^ 2 ^ i := by
      refine Nat.le_of_not_lt fun hlt => ?_
      have := xor_lt hlt hi
      rw [Nat.xor_assoc, Nat.xor_self, Nat.xor_zero] at this
      omega
    rw [hX _ this]; simp
  · simp [h2]
theorem some_want {o : List Nat} (ho : OrdOk o) (h8 : o.length ≤ 8) {S : St} {f : Int} {X : BitVec 256} (hf : ∀ c, says S c f = setF o X c) {L i : Nat} (hL : o[L]? = some i) (c : Nat → Bool) : someF S L f c = setF o (wantB X i) c := by
  have h1 := ptOf_lt ho c
  have h2 := two_eight h8
  have hin : i < o.length := ho.lt i (List.mem_of_getElem? hL)
  have e : setF o (wantB X i) c = (X.getLsbD (ptOf c o 0) || X.getLsbD (ptOf c o 0 ^^^ 2 ^ i)) := by
    unfold setF wantB
    rw [bvOf_bit, want_all (by omega) (by omega), decide_eq_true (show ptOf c o 0 < 256 by omega), Bool.true_and]
  have e1 : says S (setB c L (c L)) f = X.getLsbD (ptOf c o 0) := by rw [setB_self, hf c]; rfl
  have e2 : says S (setB c L (!(c L))) f = X.getLsbD (ptOf c o 0 ^^^ 2 ^ i) := by rw [hf]; unfold setF; rw [ptOf_flip ho hL]
  rw [e]
  unfold someF
  cases hc : c L
  · rw [hc] at e1 e2
    rw [e1, show true = !false from rfl, e2]
  · rw [hc] at e1 e2
    rw [e1, show false = !true from rfl, e2, Bool.or_comm]
end Go.Proofs.Ytbffcnnfkfjpgaa
