/- What an id is asked: whether a point is in its set, the set, how many nodes it leads to; and what is kept. -/
import Derived.Test.YtkkdfpmjmommcaaMem06
namespace Go.Proofs.Ytkkdfpmjmommcaa
open Go.RowKit Go.Joins

theorem intsV_at {l : List Nat} {j i : Nat} (h : l[j]? = some i) : (intsV l)[j]? = some (.int .i64 (i : Int)) := by unfold intsV; simp [h]
theorem row_at {w : World} {B : Nat} {ov : Value} {o : List Nat} (h : w.ownsRow B 3 1 ov o.length (intsV o)) {j i : Nat} (hj : o[j]? = some i) : ∃ g c, ov = .slice (some ⟨g, 0, none⟩) o.length c ∧ w.cell? ⟨g, j, none⟩ = some (.int .i64 (i : Int)) := by
  have hl := (List.getElem?_eq_some_iff.1 hj).1
  obtain ⟨g, c, e⟩ := own_some h (by omega)
  subst e
  exact ⟨g, c, rfl, (h.cellAt j (by simpa using hl)).trans (intsV_at hj)⟩
theorem i64_nat (op : Bool) (a b : Nat) (ha : a < 4611686018427387904) (hb : b < 4611686018427387904) : bits (if op then .or else .and) .i64 (a : Int) (b : Int) = (((if op then a ||| b else a &&& b) : Nat) : Int) := by
  have ea : (BitVec.ofInt 64 (a : Int)).toNat = a := by rw [BitVec.ofInt_natCast, BitVec.toNat_ofNat]; omega
  have eb : (BitVec.ofInt 64 (b : Int)).toNat = b := by rw [BitVec.ofInt_natCast, BitVec.toNat_ofNat]; omega
  cases op
  · show IntKind.i64.wrap (((BitVec.ofInt 64 (a : Int) &&& BitVec.ofInt 64 (b : Int)).toNat : Nat) : Int) = ((a &&& b : Nat) : Int)
    rw [BitVec.toNat_and, ea, eb, IntKind.wrap_i64]
    have := Nat.and_le_left (n := a) (m := b)
    omega
  · show IntKind.i64.wrap (((BitVec.ofInt 64 (a : Int) ||| BitVec.ofInt 64 (b : Int)).toNat : Nat) : Int) = ((a ||| b : Nat) : Int)
    rw [BitVec.toNat_or, ea, eb, IntKind.wrap_i64]
    have : a ||| b < 2 ^ 62 := Nat.or_lt_two_pow (by omega) (by omega)
    omega
theorem bit_of (p i : Nat) (hp : p < 256) : (bits BinOp.and IntKind.i64 ((p : Int) / 2 ^ i) 1 == 1) = p.testBit i := by
  have e : ((p : Int) / 2 ^ i) = ((p / 2 ^ i : Nat) : Int) := by simp
  have hlt : p / 2 ^ i ≤ p := Nat.div_le_self _ _
  have h := i64_nat false (p / 2 ^ i) 1 (by omega) (by decide)
  simp only [Bool.false_eq_true, if_false] at h
  rw [e, show (1 : Int) = ((1 : Nat) : Int) from rfl, h, Nat.and_one_is_mod, Nat.testBit_eq_decide_div_mod_eq, Bool.eq_iff_iff]
  simp
  omega
/-- The set that an id says. -/
def setOf (o : List Nat) (S : St) (id : Int) : BitVec 256 := bvOf fun p => decide (p < 2 ^ o.length) && says S (bitsOf o p) id
theorem two_eight {n : Nat} (h : n ≤ 8) : 2 ^ n ≤ 256 := Nat.pow_le_pow_right (n := 2) (by decide) h
theorem setOf_eq {o : List Nat} (ho : OrdOk o) {S : St} {id : Int} {X : BitVec 256} (hX : ∀ p, 2 ^ o.length ≤ p → X.getLsbD p = false) (h : ∀ c, says S c id = setF o X c) : setOf o S id = X := by
  unfold setOf
  refine bvOf_eq _ _ fun p hp => ?_
  by_cases hlt : p < 2 ^ o.length
  · rw [decide_eq_true hlt, Bool.true_and, h]
    unfold setF
    rw [ptOf_bits ho hlt]
  · rw [decide_eq_false hlt, Bool.false_and, hX p (by omega)]
/-- The points below k of it. -/
def setUp (o : List Nat) (S : St) (id : Int) (k : Nat) : BitVec 256 := bvOf fun p => decide (p < k) && says S (bitsOf o p) id
theorem setUp_zero (o : List Nat) (S : St) (id : Int) : setUp o S id 0 = 0 := bvOf_eq _ _ fun p _ => by simp
theorem getLsbD_bvOf (g : Nat → Bool) (p : Nat) (hp : p < 256) : (bvOf g).getLsbD p = g p := by
  rw [bvOf_bit]; simp [hp]
theorem setUp_no {o : List Nat} {S : St} {id : Int} {k : Nat} (h : says S (bitsOf o k) id = false) : setUp o S id (k + 1) = setUp o S id k := by
  refine bvOf_eq _ _ fun p hp => ?_
  unfold setUp
  rw [getLsbD_bvOf _ p hp]
  by_cases e : p = k
  · subst e; rw [h]; simp
  · have : decide (p < k + 1) = decide (p < k) := by rw [Bool.eq_iff_iff]; simp; omega
    rw [this]
theorem setUp_yes {o : List Nat} {S : St} {id : Int} {k : Nat} (hk : k < 256) (h : says S (bitsOf o k) id = true) : addB (setUp o S id k) k = setUp o S id (k + 1) := by
  unfold addB
  rw [if_pos (by omega)]
  symm
  refine bvOf_eq _ _ fun p hp => ?_
  rw [BitVec.getLsbD_or, BitVec.getLsbD_twoPow]
  unfold setUp
  rw [getLsbD_bvOf _ p hp]
  by_cases e : p = k
  · subst e; rw [h]; simp [hp]
  · have : decide (p < k + 1) = decide (p < k) := by rw [Bool.eq_iff_iff]; simp; omega
    rw [this]
    have : decide (((k : Int)).toNat = p) = false := decide_eq_false (by omega)
    rw [this]; simp
theorem w64_pow (n : Nat) (h : n ≤ 8) : wrap64 ((2 : Int) ^ n) = ((2 ^ n : Nat) : Int) := by
  have h2 := two_eight h
  have e : ((2 : Int) ^ n) = ((2 ^ n : Nat) : Int) := by simp
  rw [e]
  generalize 2 ^ n = m at h2
  unfold wrap64
  omega
theorem setUp_all (o : List Nat) (S : St) (id : Int) : setUp o S id (2 ^ o.length) = setOf o S id := rfl
end Go.Proofs.Ytkkdfpmjmommcaa
