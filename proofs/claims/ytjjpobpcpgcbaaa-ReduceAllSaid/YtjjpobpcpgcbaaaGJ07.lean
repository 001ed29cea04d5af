/- Plain mathematics on cubes, told as two numbers of 8 bits: their literals, their points, their texts; no program is spoken of. What each function of the package cube answers, for every input; nothing that was there before a call turns. What Right and Points of the package cube answer, for every input. What Text of the package cube answers, for every input. -/
import Derived.Test.YtjjpobpcpgcbaaaGJ01
import Derived.Test.YtjjpobpcpgcbaaaGJ05
import Derived.Test.YtjjpobpcpgcbaaaGJ03
import Derived.WalkKit
import Derived.Laws.BitsAllLaws
import Derived.Lib.SlBytesRow
namespace Go.Proofs.Ytjjpobpcpgcbaaa
open Go.RowKit

/-- A byte as the program holds it. -/
def bvv (x : BitVec 8) : Value := .int .u8 (x.toNat : Int)
/-- A cube as the program holds it. -/
def cv (m v : BitVec 8) : Value := .agg #[bvv m, bvv v]

/-- The literal of input i: 0, 1, or 2 for none. -/
def lit (m v : BitVec 8) (i : Nat) : Nat := if m.getLsbD i then (if v.getLsbD i then 1 else 0) else 2
theorem lit_le (m v : BitVec 8) (i : Nat) : lit m v i ≤ 2 := by unfold lit; split <;> (try split) <;> omega

/-- The cube of literals, those of the first k inputs. -/
def mB (g : Nat → Nat) (k : Nat) : BitVec 8 := BitVec.ofNat 8 (wsum (fun i => decide (g i < 2)) k)
def vB (g : Nat → Nat) (k : Nat) : BitVec 8 := BitVec.ofNat 8 (wsum (fun i => decide (g i = 1)) k)
theorem mB_bit (g : Nat → Nat) (k i : Nat) : (mB g k).getLsbD i = (decide (i < 8) && (decide (i < k) && decide (g i < 2))) := by
  unfold mB; rw [BitVec.getLsbD_ofNat, wsum_bit]
theorem vB_bit (g : Nat → Nat) (k i : Nat) : (vB g k).getLsbD i = (decide (i < 8) && (decide (i < k) && decide (g i = 1))) := by
  unfold vB; rw [BitVec.getLsbD_ofNat, wsum_bit]
theorem mB_nat (g : Nat → Nat) (k : Nat) (h : k ≤ 8) : (mB g k).toNat = wsum (fun i => decide (g i < 2)) k := by
  unfold mB; rw [BitVec.toNat_ofNat]
  exact Nat.mod_eq_of_lt (Nat.lt_of_lt_of_le (wsum_lt _ _) (Nat.pow_le_pow_right (n := 2) (by decide) h))
theorem vB_nat (g : Nat → Nat) (k : Nat) (h : k ≤ 8) : (vB g k).toNat = wsum (fun i => decide (g i = 1)) k := by
  unfold vB; rw [BitVec.toNat_ofNat]
  exact Nat.mod_eq_of_lt (Nat.lt_of_lt_of_le (wsum_lt _ _) (Nat.pow_le_pow_right (n := 2) (by decide) h))
theorem mB_lit (m v : BitVec 8) : mB (lit m v) 8 = m := by
  apply BitVec.eq_of_getLsbD_eq
  intro i hi
  rw [mB_bit]
  unfold lit
  cases m.getLsbD i <;> cases v.getLsbD i <;> simp [hi]
theorem vB_lit (m v : BitVec 8) : vB (lit m v) 8 = v &&& m := by
  apply BitVec.eq_of_getLsbD_eq
  intro i hi
  rw [vB_bit, BitVec.getLsbD_and]
  unfold lit
  cases m.getLsbD i <;> cases v.getLsbD i <;> simp [hi]
theorem cv_inj {m v m' v' : BitVec 8} (h : cv m v = cv m' v') : m = m' ∧ v = v' := by
  unfold cv bvv at h
  injection h with h
  have h' := congrArg Array.toList h
  simp only [List.cons.injEq, and_true, Value.int.injEq, true_and] at h'
  exact ⟨BitVec.eq_of_toNat_eq (by exact_mod_cast h'.1), BitVec.eq_of_toNat_eq (by exact_mod_cast h'.2)⟩

theorem shr_zero (m : BitVec 8) (n : Nat) : m.toNat / 2 ^ n = 0 ↔ ∀ i, n ≤ i → m.getLsbD i = false := by
  constructor
  · intro h i hi
    have hlt : m.toNat < 2 ^ n := (Nat.div_eq_zero_iff_lt (Nat.two_pow_pos n)).1 h
    simp only [BitVec.getLsbD]
    exact Nat.testBit_lt_two_pow (Nat.lt_of_lt_of_le hlt (Nat.pow_le_pow_right (by decide) hi))
  · intro h
    rw [Nat.div_eq_zero_iff_lt (Nat.two_pow_pos n)]
    exact Nat.lt_pow_two_of_testBit _ fun i hi => h i hi
/-- Is a cube right, of n inputs? -/
def rightB (m v : BitVec 8) (n : Int) : Bool := decide (0 ≤ n ∧ n ≤ 8 ∧ m.toNat / 2 ^ n.toNat = 0 ∧ v &&& m = v)
theorem rightB_iff (m v : BitVec 8) (n : Int) : rightB m v n = true ↔ 0 ≤ n ∧ n ≤ 8 ∧ (∀ i, n.toNat ≤ i → m.getLsbD i = false) ∧ v &&& m = v := by
  unfold rightB; rw [decide_eq_true_iff, shr_zero]

/- POINTS. -/
/-- Has a point the literals of the first k inputs? -/
def fits (m v : BitVec 8) : Nat → Nat → Bool
  | 0, _ => true
  | k + 1, p => fits m v k p && (!m.getLsbD k || p.testBit k == v.getLsbD k)
theorem fits_iff (m v : BitVec 8) (k p : Nat) : fits m v k p = true ↔ ∀ i, i < k → m.getLsbD i = true → p.testBit i = v.getLsbD i := by
  induction k with
  | zero => simp [fits]
  | succ k ih =>
    rw [fits, Bool.and_eq_true, ih]
    constructor
    · rintro ⟨h1, h2⟩ i hi hm
      by_cases e : i = k
      · subst e; simpa [hm] using h2
      · exact h1 i (by omega) hm
    · intro h
      refine ⟨fun i hi hm => h i (by omega) hm, ?_⟩
      cases hm : m.getLsbD k
      · rfl
      · simpa using h k (by omega) hm
/-- The points of n inputs that have the literals of the first k. -/
def cpts (m v : BitVec 8) (n k : Nat) : BitVec 256 := bvOf fun p => decide (p < 2 ^ n) && fits m v k p
theorem cpts_bit (m v : BitVec 8) (n k p : Nat) (hn : n ≤ 8) : (cpts m v n k).getLsbD p = (decide (p < 2 ^ n) && fits m v k p) := by
  unfold cpts
  rw [bvOf_bit]
  have : 2 ^ n ≤ 256 := Nat.pow_le_pow_right (n := 2) (by decide) hn
  by_cases h : p < 2 ^ n
  · have : p < 256 := by omega
    simp [h, this]
  · simp [h]

/-- How many of the first k inputs have a literal. -/
def szK (m : BitVec 8) (k : Nat) : Nat := (List.range k).countP fun i => m.getLsbD i
theorem szK_succ (m : BitVec 8) (k : Nat) : szK m (k + 1) = szK m k + if m.getLsbD k then 1 else 0 := by
  unfold szK; rw [List.range_succ, List.countP_append]; simp [List.countP_cons]
theorem szK_le (m : BitVec 8) (k : Nat) : szK m k ≤ k := by
  unfold szK
  have := List.countP_le_length (p := fun i => m.getLsbD i) (l := List.range k)
  simpa using this
theorem szK_right (m : BitVec 8) (n k : Nat) (h : ∀ i, n ≤ i → m.getLsbD i = false) (hk : n ≤ k) : szK m k = szK m n := by
  induction k with
  | zero => have : n = 0 := by omega
            subst this; rfl
  | succ k ih =>
    by_cases e : n = k + 1
    · subst e; rfl
    · rw [szK_succ, ih (by omega), h k (by omega)]; rfl
theorem fits_high (m v : BitVec 8) (k p q : Nat) (hq : q < 2 ^ k) (j : Nat) (hj : j ≤ k) : fits m v j (2 ^ k * p + q) = fits m v j q := by
  rw [Bool.eq_iff_iff, fits_iff, fits_iff]
  have key : ∀ i, i < j → (2 ^ k * p + q).testBit i = q.testBit i := fun i hi => by
    rw [Nat.testBit_two_pow_mul_add _ hq, if_pos (by omega)]
  constructor
  · intro h i hi hm; rw [← key i hi]; exact h i hi hm
  · intro h i hi hm; rw [key i hi]; exact h i hi hm
theorem fits_count (m v : BitVec 8) (k : Nat) : (List.range (2 ^ k)).countP (fun p => fits m v k p) = 2 ^ (k - szK m k) := by
  induction k with
  | zero => simp [fits, szK]
  | succ k ih =>
    have hs : 2 ^ (k + 1) = 2 ^ k + 2 ^ k := by rw [Nat.pow_succ]; omega
    rw [hs, List.range_add, List.countP_append, List.countP_map]
    have lo : ∀ p, p ∈ List.range (2 ^ k) → p.testBit k = false := fun p hp => Nat.testBit_lt_two_pow (by simpa using hp)
    have hi : ∀ p, p ∈ List.range (2 ^ k) → (2 ^ k + p).testBit k = true := fun p hp => by
      have hp' : p < 2 ^ k := by simpa using hp
      have e : 2 ^ k + p = 2 ^ k * 1 + p := by omega
      rw [e, Nat.testBit_two_pow_mul_add _ hp', if_neg (by omega)]; simp
    have fh : ∀ p, p ∈ List.range (2 ^ k) → fits m v k (2 ^ k + p) = fits m v k p := fun p hp => by
      have hp' : p < 2 ^ k := by simpa using hp
      have := fits_high m v k 1 p hp' k (Nat.le_refl _)
      rwa [Nat.mul_one] at this
    have c1 : (List.range (2 ^ k)).countP (fun p => fits m v (k + 1) p) = if m.getLsbD k && v.getLsbD k then 0 else 2 ^ (k - szK m k) := by
      by_cases hc : m.getLsbD k && v.getLsbD k
      · rw [if_pos hc, List.countP_eq_zero]
        intro p hp
        simp only [Bool.and_eq_true] at hc
        simp [fits, lo p hp, hc.1, hc.2]
      · rw [if_neg hc, ← ih]
        apply List.countP_congr
        intro p hp
        rw [fits, lo p hp]
        cases hm : m.getLsbD k <;> cases hv : v.getLsbD k <;> simp_all
    have c2 : (List.range (2 ^ k)).countP ((fun p => fits m v (k + 1) p) ∘ fun p => 2 ^ k + p) = if m.getLsbD k && !v.getLsbD k then 0 else 2 ^ (k - szK m k) := by
      by_cases hc : m.getLsbD k && !v.getLsbD k
      · rw [if_pos hc, List.countP_eq_zero]
        intro p hp
        simp only [Bool.and_eq_true, Bool.not_eq_true'] at hc
        simp [fits, hi p hp, hc.1, hc.2]
      · rw [if_neg hc, ← ih]
        apply List.countP_congr
        intro p hp
        simp only [Function.comp_apply]
        rw [fits, hi p hp, fh p hp]
        cases hm : m.getLsbD k <;> cases hv : v.getLsbD k <;> simp_all
    rw [c1, c2, szK_succ]
    have hle := szK_le m k
    have h2 : k + 1 - szK m k = k - szK m k + 1 := by omega
    cases hm : m.getLsbD k <;> cases hv : v.getLsbD k <;> simp [h2, Nat.pow_succ] <;> omega
/-- A cube has as many points as its literals leave. -/
theorem pop_pts (m v : BitVec 8) (n : Nat) (hn : n ≤ 8) : pop (cpts m v n n) = 2 ^ (n - szK m n) := by
  rw [← fits_count m v n]
  have hle : 2 ^ n ≤ 256 := Nat.pow_le_pow_right (n := 2) (by decide) hn
  unfold pop
  have hr : List.range 256 = List.range (2 ^ n) ++ (List.range (256 - 2 ^ n)).map (2 ^ n + ·) := by
    rw [← List.range_add]; congr 1; omega
  rw [hr, List.countP_append, List.countP_map]
  have h0 : (List.range (256 - 2 ^ n)).countP ((fun p => (cpts m v n n).getLsbD p) ∘ fun p => 2 ^ n + p) = 0 := by
    rw [List.countP_eq_zero]
    intro p _
    have h : ¬ 2 ^ n + p < 2 ^ n := by omega
    simp [cpts_bit _ _ _ _ _ hn, h]
  rw [h0, Nat.add_zero]
  apply List.countP_congr
  intro p hp
  have : p < 2 ^ n := by simpa using hp
  simp [cpts_bit _ _ _ _ _ hn, this]

/- WHAT TWO CUBES HAVE TO DO WITH ONE ANOTHER. -/
def clashB (m v m' v' : BitVec 8) : BitVec 8 := m &&& m' &&& (v ^^^ v')
theorem clashB_bit (m v m' v' : BitVec 8) (i : Nat) : (clashB m v m' v').getLsbD i = (m.getLsbD i && m'.getLsbD i && (v.getLsbD i ^^ v'.getLsbD i)) := by
  unfold clashB; rw [BitVec.getLsbD_and, BitVec.getLsbD_and, BitVec.getLsbD_xor]
def joinM (m v m' v' : BitVec 8) : BitVec 8 := m &&& m' &&& ~~~(clashB m v m' v')
theorem joinM_bit (m v m' v' : BitVec 8) (i : Nat) : (joinM m v m' v').getLsbD i = (m.getLsbD i && m'.getLsbD i && !(v.getLsbD i ^^ v'.getLsbD i)) := by
  unfold joinM
  rw [BitVec.getLsbD_and, BitVec.getLsbD_and, BitVec.getLsbD_not, clashB_bit]
  by_cases h : i < 8
  · cases m.getLsbD i <;> cases m'.getLsbD i <;> simp [h]
  · rw [BitVec.getLsbD_of_ge m i (by omega)]; simp
/-- Does the first hold the second? -/
def holdsB (m v m' v' : BitVec 8) : Bool := decide (joinM m v m' v' = m)
theorem holdsB_iff (m v m' v' : BitVec 8) : holdsB m v m' v' = true ↔ ∀ i, m.getLsbD i = true → m'.getLsbD i = true ∧ v.getLsbD i = v'.getLsbD i := by
  unfold holdsB
  rw [decide_eq_true_iff]
  constructor
  · intro h i hm
    have := joinM_bit m v m' v' i
    rw [h, hm] at this
    revert this
    cases m'.getLsbD i <;> cases v.getLsbD i <;> cases v'.getLsbD i <;> simp
  · intro h
    apply BitVec.eq_of_getLsbD_eq
    intro i hi
    rw [joinM_bit]
    cases hm : m.getLsbD i
    · simp
    · obtain ⟨h1, h2⟩ := h i hm
      rw [h1, h2]; simp
/-- A cube's own point. -/
theorem own_fits (m v : BitVec 8) (n : Nat) : fits m v n v.toNat = true := by
  rw [fits_iff]; intro i _ _; rfl
theorem lt_of_right {m v : BitVec 8} {n : Nat} (hm : ∀ i, n ≤ i → m.getLsbD i = false) (hv : v &&& m = v) : v.toNat < 2 ^ n := by
  refine Nat.lt_pow_two_of_testBit _ fun i hi => ?_
  have h := congrArg (fun x => x.getLsbD i) hv
  simp only [BitVec.getLsbD_and, hm i hi, Bool.and_false] at h
  exact h.symm
/-- To hold is that the points are within. -/
theorem holds_within (m v m' v' : BitVec 8) (n : Nat) (hn : n ≤ 8) (hm : ∀ i, n ≤ i → m.getLsbD i = false) (hm' : ∀ i, n ≤ i → m'.getLsbD i = false) (hv' : v' &&& m' = v') :
    decide (cpts m' v' n n &&& ~~~(cpts m v n n) = 0) = holdsB m v m' v' := by
  rw [Bool.eq_iff_iff, decide_eq_true_iff, holdsB_iff]
  have hle : 2 ^ n ≤ 256 := Nat.pow_le_pow_right (n := 2) (by decide) hn
  have sub : (cpts m' v' n n &&& ~~~(cpts m v n n) = 0) ↔ ∀ p, p < 2 ^ n → fits m' v' n p = true → fits m v n p = true := by
    constructor
    · intro h p hp hf
      have h1 := congrArg (fun x => x.getLsbD p) h
      have hp2 : p < 256 := by omega
      simp only [BitVec.getLsbD_and, BitVec.getLsbD_not, cpts_bit _ _ _ _ _ hn, hp, hf, hp2, decide_true, Bool.true_and] at h1
      simpa using h1
    · intro h
      apply BitVec.eq_of_getLsbD_eq
      intro p hp
      simp only [BitVec.getLsbD_and, BitVec.getLsbD_not, cpts_bit _ _ _ _ _ hn, hp, decide_true, Bool.true_and]
      by_cases hp2 : p < 2 ^ n
      · cases hf : fits m' v' n p
        · simp
        · simp [h p hp2 hf]
      · simp [hp2]
  rw [sub]
  constructor
  · intro h i hi
    have hin : i < n := by
      rcases Nat.lt_or_ge i n with k | k
      · exact k
      · rw [hm i k] at hi; cases hi
    have own := h v'.toNat (lt_of_right hm' hv') (own_fits m' v' n)
    rw [fits_iff] at own
    have hvi : v'.getLsbD i = v.getLsbD i := own i hin hi
    refine ⟨?_, hvi.symm⟩
    cases hmi : m'.getLsbD i
    · exfalso
      -- the point with bit i turned
      have hx : (v' ^^^ BitVec.twoPow 8 i).toNat < 2 ^ n := by
        refine Nat.lt_pow_two_of_testBit _ fun j hj => ?_
        show (v' ^^^ BitVec.twoPow 8 i).getLsbD j = false
        rw [BitVec.getLsbD_xor, BitVec.getLsbD_twoPow]
        have e1 : v'.getLsbD j = false := Nat.testBit_lt_two_pow (Nat.lt_of_lt_of_le (lt_of_right hm' hv') (Nat.pow_le_pow_right (by decide) hj))
        have e2 : ¬ i = j := by omega
        simp [e1, e2]
      have hbit : ∀ j, (v' ^^^ BitVec.twoPow 8 i).toNat.testBit j = (v'.getLsbD j ^^ (decide (i < 8) && decide (i = j))) := fun j => by
        show (v' ^^^ BitVec.twoPow 8 i).getLsbD j = _
        rw [BitVec.getLsbD_xor, BitVec.getLsbD_twoPow]
      have hf : fits m' v' n (v' ^^^ BitVec.twoPow 8 i).toNat = true := by
        rw [fits_iff]
        intro j hj hmj
        have e2 : ¬ i = j := by rintro rfl; rw [hmi] at hmj; cases hmj
        rw [hbit]; simp [e2]
      have := (fits_iff m v n _).1 (h _ hx hf) i hin hi
      rw [hbit, hvi] at this
      have h8 : i < 8 := by omega
      simp [h8] at this
    · rfl
  · intro h p hp hf
    rw [fits_iff] at hf ⊢
    intro i hi hm1
    obtain ⟨h1, h2⟩ := h i hm1
    rw [h2]; exact hf i hi h1
/-- Two cubes that want an input differently have no point in common. -/
theorem meet_none (m v m' v' : BitVec 8) (n : Nat) (hn : n ≤ 8) (hm : ∀ i, n ≤ i → m.getLsbD i = false) (h : clashB m v m' v' ≠ 0) : cpts m v n n &&& cpts m' v' n n = 0 := by
  apply BitVec.eq_of_getLsbD_eq
  intro p hp
  rw [BitVec.getLsbD_and, cpts_bit _ _ _ _ _ hn, cpts_bit _ _ _ _ _ hn]
  have hc : ∃ i, (clashB m v m' v').getLsbD i = true := by
    by_cases hx : ∃ i, (clashB m v m' v').getLsbD i = true
    · exact hx
    · exfalso
      apply h
      apply BitVec.eq_of_getLsbD_eq
      intro i _
      cases hi : (clashB m v m' v').getLsbD i
      · simp
      · exact absurd ⟨i, hi⟩ hx
  obtain ⟨i, hi⟩ := hc
  rw [clashB_bit] at hi
  simp only [Bool.and_eq_true] at hi
  obtain ⟨⟨h1, h2⟩, h3⟩ := hi
  have hin : i < n := by
    rcases Nat.lt_or_ge i n with k | k
    · exact k
    · rw [hm i k] at h1; cases h1
  cases hf : fits m v n p
  · simp
  · cases hf' : fits m' v' n p
    · simp
    · exfalso
      have a := (fits_iff m v n p).1 hf i hin h1
      have b := (fits_iff m' v' n p).1 hf' i hin h2
      rw [a] at b; rw [b] at h3; simp at h3
/-- The points of both are those of what both have. -/
theorem meet_some (m v m' v' : BitVec 8) (n : Nat) (hn : n ≤ 8) (h : clashB m v m' v' = 0) : cpts m v n n &&& cpts m' v' n n = cpts (m ||| m') ((v &&& m) ||| (v' &&& m')) n n := by
  apply BitVec.eq_of_getLsbD_eq
  intro p hp
  rw [BitVec.getLsbD_and, cpts_bit _ _ _ _ _ hn, cpts_bit _ _ _ _ _ hn, cpts_bit _ _ _ _ _ hn]
  by_cases hp2 : p < 2 ^ n
  · simp only [hp2, decide_true, Bool.true_and]
    rw [Bool.eq_iff_iff, Bool.and_eq_true, fits_iff, fits_iff, fits_iff]
    constructor
    · rintro ⟨h1, h2⟩ i hi hmm
      rw [BitVec.getLsbD_or, BitVec.getLsbD_and, BitVec.getLsbD_and]
      rw [BitVec.getLsbD_or] at hmm
      have hc := clashB_bit m v m' v' i
      rw [h] at hc
      cases e1 : m.getLsbD i <;> cases e2 : m'.getLsbD i <;> rw [e1, e2] at hmm hc <;> simp at hmm hc
      · rw [h2 i hi e2]; simp
      · rw [h1 i hi e1]; simp
      · rw [h1 i hi e1]; simp [hc]
    · intro hh
      constructor
      · intro i hi e1
        have := hh i hi (by rw [BitVec.getLsbD_or, e1]; rfl)
        rw [this, BitVec.getLsbD_or, BitVec.getLsbD_and, BitVec.getLsbD_and]
        have hc := clashB_bit m v m' v' i
        rw [h, e1] at hc
        cases e2 : m'.getLsbD i <;> rw [e2] at hc <;> simp [e1] at hc ⊢
        simp [hc]
      · intro i hi e2
        have := hh i hi (by rw [BitVec.getLsbD_or, e2]; simp)
        rw [this, BitVec.getLsbD_or, BitVec.getLsbD_and, BitVec.getLsbD_and]
        have hc := clashB_bit m v m' v' i
        rw [h, e2] at hc
        cases e1 : m.getLsbD i <;> rw [e1] at hc <;> simp [e2] at hc ⊢
        simp [hc]
  · simp [hp2]
theorem meet_right {m v m' v' : BitVec 8} {n : Int} (h1 : rightB m v n = true) (h2 : rightB m' v' n = true) : rightB (m ||| m') ((v &&& m) ||| (v' &&& m')) n = true := by
  rw [rightB_iff] at *
  obtain ⟨a0, a1, a2, a3⟩ := h1
  obtain ⟨b0, b1, b2, b3⟩ := h2
  refine ⟨a0, a1, fun i hi => by rw [BitVec.getLsbD_or, a2 i hi, b2 i hi]; rfl, ?_⟩
  apply BitVec.eq_of_getLsbD_eq
  intro i _
  simp only [BitVec.getLsbD_and, BitVec.getLsbD_or]
  cases m.getLsbD i <;> cases m'.getLsbD i <;> cases v.getLsbD i <;> cases v'.getLsbD i <;> rfl
theorem zero_right (n : Int) (h0 : 0 ≤ n) (h1 : n ≤ 8) : rightB 0 0 n = true := by
  rw [rightB_iff]; exact ⟨h0, h1, fun i _ => by simp, by simp⟩
/-- What holds both holds each, and is held by each that holds both. -/
theorem join_left (m v m' v' : BitVec 8) : holdsB (joinM m v m' v') (v &&& joinM m v m' v') m v = true := by
  rw [holdsB_iff]
  intro i hi
  rw [BitVec.getLsbD_and, hi]
  rw [joinM_bit] at hi
  simp only [Bool.and_eq_true] at hi
  exact ⟨hi.1.1, by simp⟩
theorem join_right (m v m' v' : BitVec 8) : holdsB (joinM m v m' v') (v &&& joinM m v m' v') m' v' = true := by
  rw [holdsB_iff]
  intro i hi
  rw [BitVec.getLsbD_and, hi]
  rw [joinM_bit] at hi
  simp only [Bool.and_eq_true] at hi
  refine ⟨hi.1.2, ?_⟩
  have := hi.2
  cases h1 : v.getLsbD i <;> cases h2 : v'.getLsbD i <;> rw [h1, h2] at this <;> simp at this ⊢
theorem join_least (m v m' v' c d : BitVec 8) (h1 : holdsB c d m v = true) (h2 : holdsB c d m' v' = true) : holdsB c d (joinM m v m' v') (v &&& joinM m v m' v') = true := by
  rw [holdsB_iff] at *
  intro i hi
  obtain ⟨a1, a2⟩ := h1 i hi
  obtain ⟨b1, b2⟩ := h2 i hi
  have hj : (joinM m v m' v').getLsbD i = true := by rw [joinM_bit, a1, b1, ← a2, ← b2]; simp
  exact ⟨hj, by rw [BitVec.getLsbD_and, hj, a2]; simp⟩
end Go.Proofs.Ytjjpobpcpgcbaaa
namespace Go.Proofs.Ytjjpobpcpgcbaaa
open Go.RowKit Go.Joins

theorem and8 (a b : BitVec 8) : bits .and .u8 (a.toNat : Int) (b.toNat : Int) = ((a &&& b).toNat : Int) := by
  rw [u8_and_nat _ _ a.isLt b.isLt, BitVec.toNat_and]
theorem or8 (a b : BitVec 8) : bits .or .u8 (a.toNat : Int) (b.toNat : Int) = ((a ||| b).toNat : Int) := by
  rw [u8_or_nat _ _ a.isLt b.isLt, BitVec.toNat_or]
theorem xor8 (a b : BitVec 8) : bits .xor .u8 (a.toNat : Int) (b.toNat : Int) = ((a ^^^ b).toNat : Int) := by
  rw [u8_xor_nat _ _ a.isLt b.isLt, BitVec.toNat_xor]
theorem less8 (a b : BitVec 8) : bits .andNot .u8 (a.toNat : Int) (b.toNat : Int) = ((a &&& ~~~b).toNat : Int) := by
  rw [u8_andNot_nat _ _ a.isLt b.isLt, BitVec.toNat_and, BitVec.toNat_not]

/-- A bit as a number. -/
def bitI (x : BitVec 8) (i : Nat) : Int := if x.getLsbD i then 1 else 0
theorem bitI_eq (x : BitVec 8) (i : Nat) : bits .and .u8 ((x.toNat : Int) / 2 ^ i) 1 = bitI x i := by
  have hn : (x.toNat : Int) / 2 ^ i = ((x.toNat / 2 ^ i : Nat) : Int) := by rw [Int.natCast_ediv]; simp
  have hl : x.toNat / 2 ^ i < 256 := Nat.lt_of_le_of_lt (Nat.div_le_self _ _) x.isLt
  rw [hn, show (1 : Int) = ((1 : Nat) : Int) from rfl, u8_and_nat _ _ hl (by decide), Nat.and_one_is_mod]
  unfold bitI
  have hb : x.getLsbD i = decide (x.toNat / 2 ^ i % 2 = 1) := by simp only [BitVec.getLsbD, Nat.testBit_eq_decide_div_mod_eq]
  rw [hb]
  by_cases h : x.toNat / 2 ^ i % 2 = 1
  · simp [h]
  · have h0 : x.toNat / 2 ^ i % 2 = 0 := by omega
    simp [h0]
theorem toNat_ne {a b : BitVec 8} (h : ¬ a = b) : ¬ ((a.toNat : Int) = (b.toNat : Int)) := fun e => h (BitVec.eq_of_toNat_eq (by exact_mod_cast e))
theorem szI_succ (m : BitVec 8) (k : Nat) : (szK m k : Int) + bitI m k = (szK m (k + 1) : Nat) := by
  rw [szK_succ]; unfold bitI; split <;> simp
end Go.Proofs.Ytjjpobpcpgcbaaa
namespace Go.Proofs.Ytjjpobpcpgcbaaa
open Go.RowKit Go.Joins

theorem cpts_zero (m v : BitVec 8) (n : Nat) : cpts m v n 0 = allB n := by
  unfold cpts allB; congr 1; funext p; simp [fits]
theorem cpts_step (m v : BitVec 8) (n k : Nat) (hn : n ≤ 8) (hk : k < 8) (hm : m.getLsbD k = true) : halfB (cpts m v n k) k (v.getLsbD k) = cpts m v n (k + 1) := by
  apply BitVec.eq_of_getLsbD_eq
  intro p hp
  have h : 0 ≤ (k : Int) ∧ (k : Int) < 8 := by omega
  have ho : (onesB k).getLsbD p = p.testBit k := by unfold onesB; rw [bvOf_bit]; simp [hp]
  unfold halfB
  rw [if_pos h, cpts_bit _ _ _ _ _ hn, fits, hm]
  cases hv : v.getLsbD k <;> simp only [Int.toNat_natCast, if_true, Bool.false_eq_true, if_false, BitVec.getLsbD_and, BitVec.getLsbD_not, ho, hp, decide_true, Bool.true_and, cpts_bit _ _ _ _ _ hn, Bool.not_true, Bool.false_or, Bool.and_assoc]
  · cases p.testBit k <;> simp
  · cases p.testBit k <;> simp
theorem cpts_skip (m v : BitVec 8) (n k : Nat) (hm : m.getLsbD k = false) : cpts m v n (k + 1) = cpts m v n k := by
  unfold cpts; congr 1; funext p; rw [fits, hm]; simp
end Go.Proofs.Ytjjpobpcpgcbaaa
namespace Go.Proofs.Ytjjpobpcpgcbaaa
open Go.RowKit Go.Joins

/-- The byte of a literal. -/
def litC (x : Nat) : UInt8 := if x = 2 then 45 else if x = 1 then 49 else 48
/-- The text of the first n inputs. -/
def txtL (m v : BitVec 8) (n : Nat) : List UInt8 := (List.range n).map fun i => litC (lit m v i)
theorem txtL_succ (m v : BitVec 8) (n : Nat) : txtL m v (n + 1) = txtL m v n ++ [litC (lit m v n)] := by
  unfold txtL; rw [List.range_succ, List.map_append]; rfl
theorem txtL_len (m v : BitVec 8) (n : Nat) : (txtL m v n).length = n := by simp [txtL]
def str (l : List UInt8) : ByteArray := ⟨l.toArray⟩
def byteV (l : List UInt8) : List Value := l.map fun c => .int .u8 (c.toNat : Int)
theorem byteV_len (l : List UInt8) : (byteV l).length = l.length := by simp [byteV]
theorem Try.infoU8 : (Try.prog.info? 5).map (fun i => (i.zero, i.size, i.bytes)) = some (some (.int .u8 0), 1, 1) := by kernel_rfl
end Go.Proofs.Ytjjpobpcpgcbaaa
