/- Covers without a search, plain: the document's cover of flags; it holds on and is within may; none of its cubes is too much. -/
import Derived.Test.YtnddepijbbchiaaPrm09
namespace Go.Proofs.Ytnddepijbbchiaa
open Go.RowKit

/-- A point with bit i set to b. -/
def sb12 (p i : Nat) (b : Bool) : Nat := if p.testBit i = b then p else p ^^^ 2 ^ i
theorem sb12_bit (p i : Nat) (b : Bool) (j : Nat) : (sb12 p i b).testBit j = if j = i then b else p.testBit j := by
  unfold sb12
  by_cases h : p.testBit i = b
  · rw [if_pos h]
    by_cases e : j = i
    · rw [if_pos e, e, h]
    · rw [if_neg e]
  · rw [if_neg h, Nat.testBit_xor, Nat.testBit_two_pow]
    by_cases e : j = i
    · subst e
      rw [if_pos rfl]
      cases b <;> cases hp : p.testBit j <;> simp_all
    · have : ¬ i = j := fun q => e q.symm
      rw [if_neg e]
      simp [this]
theorem sb12_same {p i : Nat} {b : Bool} (h : p.testBit i = b) : sb12 p i b = p := by unfold sb12; rw [if_pos h]
def sideF (F : Nat → Bool) (i : Nat) (b : Bool) : Nat → Bool := fun p => F (sb12 p i b)
/-- Hangs on no input below i. -/
def Ind (i : Nat) (F : Nat → Bool) : Prop := ∀ j, j < i → ∀ p b, F (sb12 p j b) = F p
theorem sb12_comm (p i j : Nat) (b c : Bool) (h : i ≠ j) : sb12 (sb12 p i b) j c = sb12 (sb12 p j c) i b := by
  apply Nat.eq_of_testBit_eq
  intro k
  rw [sb12_bit, sb12_bit, sb12_bit, sb12_bit]
  by_cases h1 : k = i <;> by_cases h2 : k = j
  · exact absurd (h1.symm.trans h2) h
  · simp [h1, h]
  · have h' : ¬ j = i := fun e => h e.symm
    simp [h2, h']
  · simp [h1, h2]
theorem sb12_twice (p i : Nat) (b c : Bool) : sb12 (sb12 p i b) i c = sb12 p i c := by
  apply Nat.eq_of_testBit_eq
  intro k
  rw [sb12_bit, sb12_bit, sb12_bit]
  by_cases h1 : k = i
  · simp [h1]
  · simp [h1]
theorem Ind.side {i : Nat} {F : Nat → Bool} (h : Ind i F) (b : Bool) : Ind (i + 1) (sideF F i b) := by
  intro j hj p c
  unfold sideF
  by_cases e : j = i
  · subst e; rw [sb12_twice]
  · rw [sb12_comm _ _ _ _ _ e]
    exact h j (by omega) _ _
theorem Ind.op {i : Nat} {F G : Nat → Bool} (o : Bool → Bool → Bool) (hF : Ind i F) (hG : Ind i G) : Ind i (fun p => o (F p) (G p)) := by
  intro j hj p b
  show o _ _ = o _ _
  rw [hF j hj, hG j hj]
/-- Do cubes hold a point? -/
def heldF (l : List Cb) (p : Nat) : Bool := l.any fun x => fits x.m x.v 8 p
/-- A cube has no literal below i. -/
def FreeC (i : Nat) (x : Cb) : Prop := ∀ j, j < i → x.m.getLsbD j = false
theorem fits_sb {x : Cb} {j : Nat} (h : x.m.getLsbD j = false) (p : Nat) (b : Bool) : fits x.m x.v 8 (sb12 p j b) = fits x.m x.v 8 p := by
  rw [Bool.eq_iff_iff, fits_iff, fits_iff]
  have key : ∀ i, x.m.getLsbD i = true → (sb12 p j b).testBit i = p.testBit i := fun i hi => by
    rw [sb12_bit, if_neg (fun e => by subst e; rw [h] at hi; cases hi)]
  constructor
  · intro hh i hi hm; rw [← key i hm]; exact hh i hi hm
  · intro hh i hi hm; rw [key i hm]; exact hh i hi hm
theorem held_ind {i : Nat} {l : List Cb} (h : ∀ x ∈ l, FreeC i x) : Ind i (heldF l) := by
  intro j hj p b
  unfold heldF
  rw [Bool.eq_iff_iff, List.any_eq_true, List.any_eq_true]
  constructor
  · rintro ⟨x, hx, hf⟩; exact ⟨x, hx, by rw [fits_sb (h x hx j hj)] at hf; exact hf⟩
  · rintro ⟨x, hx, hf⟩; exact ⟨x, hx, by rw [fits_sb (h x hx j hj)]; exact hf⟩
/-- A cube with the literal of input i. -/
def lit12 (x : Cb) (i : Nat) (b : Bool) : Cb := ⟨x.m ||| BitVec.twoPow 8 i, if b = true then x.v ||| BitVec.twoPow 8 i else drM x.v i⟩
theorem two_bit {i : Nat} (hi : i < 8) (j : Nat) : (BitVec.twoPow 8 i).getLsbD j = decide (j = i) := by
  rw [BitVec.getLsbD_twoPow, decide_eq_true hi, Bool.true_and]
  by_cases e : j = i
  · subst e; simp
  · have : ¬ i = j := fun q => e q.symm
    simp [e, this]
theorem lit12_fits {x : Cb} {i : Nat} (hi : i < 8) (hx : x.m.getLsbD i = false) (b : Bool) (p : Nat) : fits (lit12 x i b).m (lit12 x i b).v 8 p = (fits x.m x.v 8 p && (p.testBit i == b)) := by
  have hv : ∀ j, j ≠ i → (lit12 x i b).v.getLsbD j = x.v.getLsbD j := fun j hj => by
    unfold lit12
    cases b
    · simp [drM_bit, hj]
    · simp only [if_true]
      rw [BitVec.getLsbD_or, two_bit hi, decide_eq_false hj, Bool.or_false]
  have hvi : (lit12 x i b).v.getLsbD i = b := by
    unfold lit12
    cases b
    · simp [drM_bit]
    · simp only [if_true]
      rw [BitVec.getLsbD_or, two_bit hi]; simp
  have hm : ∀ j, (lit12 x i b).m.getLsbD j = (x.m.getLsbD j || decide (j = i)) := fun j => by
    unfold lit12; rw [BitVec.getLsbD_or, two_bit hi]
  rw [Bool.eq_iff_iff, Bool.and_eq_true, fits_iff, fits_iff, beq_iff_eq]
  constructor
  · intro h
    refine ⟨fun j hj hmj => ?_, ?_⟩
    · have hne : j ≠ i := fun e => by subst e; rw [hx] at hmj; cases hmj
      rw [h j hj (by rw [hm, hmj]; rfl), hv j hne]
    · rw [h i hi (by rw [hm]; simp), hvi]
  · rintro ⟨h1, h2⟩ j hj hmj
    by_cases e : j = i
    · subst e; rw [h2, hvi]
    · rw [hm, decide_eq_false e, Bool.or_false] at hmj
      rw [h1 j hj hmj, hv j e]
def emptyF (F : Nat → Bool) : Bool := (List.range 256).all fun p => !F p
def fullF (n : Nat) (F : Nat → Bool) : Bool := (List.range (2 ^ n)).all fun p => F p
/-- The document's cover, from input i on. -/
def isoF (n : Nat) : Nat → (Nat → Bool) → (Nat → Bool) → Nat → List Cb
  | 0, _, _, _ => []
  | f + 1, on, may, i =>
    if emptyF on = true then [] else if fullF n may = true then [⟨0, 0⟩] else
      let a := isoF n f (fun p => sideF on i false p && !sideF may i true p) (sideF may i false) (i + 1)
      let b := isoF n f (fun p => sideF on i true p && !sideF may i false p) (sideF may i true) (i + 1)
      let c := isoF n f (fun p => (sideF on i false p && !heldF a p) || (sideF on i true p && !heldF b p)) (fun p => sideF may i false p && sideF may i true p) (i + 1)
      (a.map fun x => lit12 x i false) ++ (b.map fun x => lit12 x i true) ++ c
theorem ind_all : ∀ (n : Nat) (F : Nat → Bool), Ind n F → ∀ p q, (∀ j, n ≤ j → p.testBit j = q.testBit j) → F p = F q
  | 0, F, _, p, q, h => by rw [Nat.eq_of_testBit_eq fun j => h j (Nat.zero_le _)]
  | n + 1, F, hF, p, q, h => by
    rw [← hF n (by omega) p (q.testBit n)]
    refine ind_all n F (fun j hj => hF j (by omega)) _ _ fun j hj => ?_
    rw [sb12_bit]
    by_cases e : j = n
    · rw [if_pos e, e]
    · rw [if_neg e]; exact h j (by omega)
theorem sb12_lt {p n i : Nat} (hi : i < n) (hp : p < 2 ^ n) (b : Bool) : sb12 p i b < 2 ^ n := by
  refine Nat.lt_pow_two_of_testBit _ fun j hj => ?_
  rw [sb12_bit, if_neg (by omega)]
  exact Nat.testBit_lt_two_pow (Nat.lt_of_lt_of_le hp (Nat.pow_le_pow_right (by decide) hj))
theorem sb12_back {p n i : Nat} (hi : i < n) {b : Bool} (h : sb12 p i b < 2 ^ n) : p < 2 ^ n := by
  have := sb12_lt (p := sb12 p i b) hi h (p.testBit i)
  rwa [sb12_twice, sb12_same rfl] at this
theorem emptyF_iff {F : Nat → Bool} (h : ∀ p, F p = true → p < 256) : emptyF F = true ↔ ∀ p, F p = false := by
  unfold emptyF
  rw [List.all_eq_true]
  constructor
  · intro hh p
    rw [Bool.eq_false_iff]
    intro hp
    have := hh p (List.mem_range.2 (h p hp))
    rw [hp] at this; cases this
  · intro hh p _
    rw [hh p]; rfl
/-- What may be covered, from input i on. -/
structure Iso (n i : Nat) (on may : Nat → Bool) : Prop where
  n8 : n ≤ 8
  le : i ≤ n
  ion : Ind i on
  imay : Ind i may
  sub : ∀ p, on p = true → may p = true
  low : ∀ p, may p = true → p < 2 ^ n
/-- What a cover is. -/
structure IsC (n i : Nat) (on may : Nat → Bool) (l : List Cb) : Prop where
  right : ∀ x ∈ l, rightB x.m x.v n = true
  free : ∀ x ∈ l, FreeC i x
  holds : ∀ p, on p = true → heldF l p = true
  within : ∀ p, p < 2 ^ n → heldF l p = true → may p = true
  none : ∀ (k : Nat) (x : Cb), l[k]? = some x → ∃ p, on p = true ∧ ∀ (j : Nat) (y : Cb), l[j]? = some y → fits y.m y.v 8 p = true → j = k
theorem heldF_append (a b : List Cb) (p : Nat) : heldF (a ++ b) p = (heldF a p || heldF b p) := by unfold heldF; rw [List.any_append]
theorem held_lit {i : Nat} (hi : i < 8) {l : List Cb} (h : ∀ x ∈ l, FreeC (i + 1) x) (b : Bool) (p : Nat) : heldF (l.map fun x => lit12 x i b) p = (heldF l p && (p.testBit i == b)) := by
  unfold heldF
  rw [List.any_map, Bool.eq_iff_iff, Bool.and_eq_true, List.any_eq_true, List.any_eq_true]
  constructor
  · rintro ⟨x, hx, hf⟩
    rw [Function.comp_apply, lit12_fits hi (h x hx i (by omega)), Bool.and_eq_true] at hf
    exact ⟨⟨x, hx, hf.1⟩, hf.2⟩
  · rintro ⟨⟨x, hx, hf⟩, hb⟩
    refine ⟨x, hx, ?_⟩
    rw [Function.comp_apply, lit12_fits hi (h x hx i (by omega)), hf, hb]; rfl
theorem lit_right {n i : Nat} (h8 : n ≤ 8) (hi : i < n) {x : Cb} (hx : rightB x.m x.v n = true) (b : Bool) : rightB (lit12 x i b).m (lit12 x i b).v n = true := by
  obtain ⟨h0, h1, h2, h3⟩ := (rightB_iff _ _ _).1 hx
  rw [Int.toNat_natCast] at h2
  refine (rightB_iff _ _ _).2 ⟨h0, h1, fun j hj => ?_, ?_⟩
  · rw [Int.toNat_natCast] at hj
    unfold lit12
    simp only
    rw [BitVec.getLsbD_or, h2 j hj, two_bit (by omega), decide_eq_false (by omega)]; rfl
  · apply BitVec.eq_of_getLsbD_eq
    intro j _
    have hb := congrArg (fun z => z.getLsbD j) h3
    simp only [BitVec.getLsbD_and] at hb
    unfold lit12
    cases b
    · simp only [Bool.false_eq_true, if_false, BitVec.getLsbD_and, drM_bit, BitVec.getLsbD_or, two_bit (show i < 8 by omega)]
      cases hv : x.v.getLsbD j <;> cases hm : x.m.getLsbD j <;> simp_all
    · simp only [if_true, BitVec.getLsbD_and, BitVec.getLsbD_or, two_bit (show i < 8 by omega)]
      cases hv : x.v.getLsbD j <;> cases hm : x.m.getLsbD j <;> simp_all
theorem lit_free {i : Nat} (hi : i < 8) {x : Cb} (hx : FreeC (i + 1) x) (b : Bool) : FreeC i (lit12 x i b) := by
  intro j hj
  unfold lit12
  simp only
  rw [BitVec.getLsbD_or, hx j (by omega), two_bit hi, decide_eq_false (by omega)]; rfl
theorem held_some {l : List Cb} {p : Nat} (h : heldF l p = true) : ∃ (k : Nat) (x : Cb), l[k]? = some x ∧ fits x.m x.v 8 p = true := by
  unfold heldF at h
  obtain ⟨x, hx, hf⟩ := List.any_eq_true.1 h
  obtain ⟨k, hk⟩ := List.mem_iff_getElem?.1 hx
  exact ⟨k, x, hk, hf⟩
theorem held_of {l : List Cb} {p k : Nat} {x : Cb} (h : l[k]? = some x) (hf : fits x.m x.v 8 p = true) : heldF l p = true :=
  List.any_eq_true.2 ⟨x, List.mem_of_getElem? h, hf⟩
theorem fullF_no {n i : Nat} {on may : Nat → Bool} (h : Iso n i on may) {p : Nat} (hp : on p = true) (hf : fullF n may = false) : i < n := by
  rcases Nat.lt_or_ge i n with k | k
  · exact k
  · exfalso
    have e : i = n := by have := h.le; omega
    subst e
    have hpl := h.low p (h.sub p hp)
    have : fullF i may = true := by
      unfold fullF
      rw [List.all_eq_true]
      intro q hq
      rw [← ind_all i may h.imay p q fun j hj => ?_]
      · exact h.sub p hp
      · rw [Nat.testBit_lt_two_pow (Nat.lt_of_lt_of_le hpl (Nat.pow_le_pow_right (by decide) hj)), Nat.testBit_lt_two_pow (Nat.lt_of_lt_of_le (List.mem_range.1 hq) (Nat.pow_le_pow_right (by decide) hj))]
    rw [hf] at this; cases this
/-- One side less what the other may not be. -/
theorem iso_half {n i : Nat} {on may : Nat → Bool} (h : Iso n i on may) (hi : i < n) (b : Bool) : Iso n (i + 1) (fun p => sideF on i b p && !sideF may i (!b) p) (sideF may i b) where
  n8 := h.n8
  le := hi
  ion := (h.ion.side b).op (fun x y => x && !y) (h.imay.side (!b))
  imay := h.imay.side b
  sub := fun p hp => by
    rw [Bool.and_eq_true] at hp
    exact h.sub _ hp.1
  low := fun p hp => sb12_back hi (h.low _ hp)
theorem iso_rest {n i : Nat} {on may : Nat → Bool} (h : Iso n i on may) (hi : i < n) {a b : List Cb}
    (ha : IsC n (i + 1) (fun p => sideF on i false p && !sideF may i true p) (sideF may i false) a)
    (hb : IsC n (i + 1) (fun p => sideF on i true p && !sideF may i false p) (sideF may i true) b) :
    Iso n (i + 1) (fun p => (sideF on i false p && !heldF a p) || (sideF on i true p && !heldF b p)) (fun p => sideF may i false p && sideF may i true p) where
  n8 := h.n8
  le := hi
  ion := ((h.ion.side false).op (fun x y => x && !y) (held_ind ha.free)).op (fun x y => x || y) ((h.ion.side true).op (fun x y => x && !y) (held_ind hb.free))
  imay := (h.imay.side false).op (fun x y => x && y) (h.imay.side true)
  sub := fun p hp => by
    rw [Bool.or_eq_true] at hp
    rw [Bool.and_eq_true]
    rcases hp with hp | hp
    · rw [Bool.and_eq_true, Bool.not_eq_true'] at hp
      refine ⟨h.sub _ hp.1, ?_⟩
      cases hm : sideF may i true p
      · have := ha.holds p (by rw [hp.1, hm]; rfl)
        rw [hp.2] at this; cases this
      · rfl
    · rw [Bool.and_eq_true, Bool.not_eq_true'] at hp
      refine ⟨?_, h.sub _ hp.1⟩
      cases hm : sideF may i false p
      · have := hb.holds p (by rw [hp.1, hm]; rfl)
        rw [hp.2] at this; cases this
      · rfl
  low := fun p hp => by
    rw [Bool.and_eq_true] at hp
    exact sb12_back hi (h.low _ hp.1)
/-- Only cube k holds the point. -/
def Only (l : List Cb) (k p : Nat) : Prop := ∀ (j : Nat) (y : Cb), l[j]? = some y → fits y.m y.v 8 p = true → j = k
theorem only_left {a b : List Cb} {k p : Nat} (h : Only a k p) (hb : heldF b p = false) : Only (a ++ b) k p := by
  intro j y hy hf
  rw [List.getElem?_append] at hy
  split at hy
  · exact h j y hy hf
  · rw [held_of hy hf] at hb; cases hb
theorem only_right {a b : List Cb} {k p : Nat} (h : Only b k p) (ha : heldF a p = false) : Only (a ++ b) (a.length + k) p := by
  intro j y hy hf
  rw [List.getElem?_append] at hy
  split at hy
  · rw [held_of hy hf] at ha; cases ha
  · have := h _ y hy hf
    omega
theorem only_lit {i : Nat} (hi : i < 8) {l : List Cb} (hl : ∀ x ∈ l, FreeC (i + 1) x) {k p q : Nat} {b : Bool} (h : Only l k q) (hq : ∀ x ∈ l, fits x.m x.v 8 p = true → fits x.m x.v 8 q = true) : Only (l.map fun x => lit12 x i b) k p := by
  intro j y hy hf
  rw [List.getElem?_map] at hy
  obtain ⟨x, hx, rfl⟩ := Option.map_eq_some_iff.1 hy
  rw [lit12_fits hi (hl x (List.mem_of_getElem? hx) i (by omega)), Bool.and_eq_true] at hf
  exact h j x hx (hq x (List.mem_of_getElem? hx) hf.1)
theorem held_sb {i : Nat} {l : List Cb} (hl : ∀ x ∈ l, FreeC (i + 1) x) (p : Nat) (b : Bool) : heldF l (sb12 p i b) = heldF l p := held_ind hl i (by omega) p b
theorem fits_free {i : Nat} {x : Cb} (h : FreeC (i + 1) x) (p : Nat) (b : Bool) : fits x.m x.v 8 (sb12 p i b) = fits x.m x.v 8 p := fits_sb (h i (by omega)) p b
theorem bit_sb (p i : Nat) (b : Bool) : (sb12 p i b).testBit i = b := by rw [sb12_bit, if_pos rfl]
set_option maxHeartbeats 1000000 in
theorem iso_step {n i : Nat} {on may : Nat → Bool} (h : Iso n i on may) (hi : i < n) {a b c : List Cb}
    (ha : IsC n (i + 1) (fun p => sideF on i false p && !sideF may i true p) (sideF may i false) a)
    (hb : IsC n (i + 1) (fun p => sideF on i true p && !sideF may i false p) (sideF may i true) b)
    (hc : IsC n (i + 1) (fun p => (sideF on i false p && !heldF a p) || (sideF on i true p && !heldF b p)) (fun p => sideF may i false p && sideF may i true p) c) :
    IsC n i on may ((a.map fun x => lit12 x i false) ++ (b.map fun x => lit12 x i true) ++ c) := by
  have h8 := h.n8
  have hi8 : i < 8 := by omega
  have onlt : ∀ p, on p = true → p < 2 ^ n := fun p hp => h.low p (h.sub p hp)
  have lt_sb : ∀ (p : Nat) (b : Bool), p < 2 ^ n → sb12 p i b < 2 ^ n := fun p b hp => sb12_lt hi hp b
  -- a point of the rest lies on both sides
  have crest : ∀ p, p < 2 ^ n → heldF c p = true → sideF may i false p = true ∧ sideF may i true p = true := fun p hp hh => by
    have := hc.within p hp hh
    rw [Bool.and_eq_true] at this
    exact this
  refine ⟨?_, ?_, ?_, ?_, ?_⟩
  · intro x hx
    rcases List.mem_append.1 hx with hx | hx
    · rcases List.mem_append.1 hx with hx | hx
      · obtain ⟨y, hy, rfl⟩ := List.mem_map.1 hx
        exact lit_right h8 hi (ha.right y hy) false
      · obtain ⟨y, hy, rfl⟩ := List.mem_map.1 hx
        exact lit_right h8 hi (hb.right y hy) true
    · exact hc.right x hx
  · intro x hx
    rcases List.mem_append.1 hx with hx | hx
    · rcases List.mem_append.1 hx with hx | hx
      · obtain ⟨y, hy, rfl⟩ := List.mem_map.1 hx
        exact lit_free hi8 (ha.free y hy) false
      · obtain ⟨y, hy, rfl⟩ := List.mem_map.1 hx
        exact lit_free hi8 (hb.free y hy) true
    · exact fun j hj => hc.free x hx j (by omega)
  · intro p hp
    rw [heldF_append, heldF_append, held_lit hi8 ha.free, held_lit hi8 hb.free]
    cases hbit : p.testBit i
    · have e : sideF on i false p = true := by unfold sideF; rw [sb12_same hbit]; exact hp
      cases hh : heldF a p
      · rw [hc.holds p (by rw [e, hh]; rfl)]; simp
      · simp
    · have e : sideF on i true p = true := by unfold sideF; rw [sb12_same hbit]; exact hp
      cases hh : heldF b p
      · rw [hc.holds p (by rw [e, hh]; simp)]; simp
      · simp
  · intro p hp hh
    rw [heldF_append, heldF_append, held_lit hi8 ha.free, held_lit hi8 hb.free] at hh
    have same : ∀ b, p.testBit i = b → sideF may i b p = true → may p = true := fun b hb hm => by
      unfold sideF at hm
      rwa [sb12_same hb] at hm
    rw [Bool.or_eq_true, Bool.or_eq_true, Bool.and_eq_true, Bool.and_eq_true, beq_iff_eq, beq_iff_eq] at hh
    rcases hh with (hh | hh) | hh
    · exact same false hh.2 (ha.within p hp hh.1)
    · exact same true hh.2 (hb.within p hp hh.1)
    · obtain ⟨h1, h2⟩ := crest p hp hh
      cases hbit : p.testBit i
      · exact same false hbit h1
      · exact same true hbit h2
  · intro k x hx
    rw [List.append_assoc, List.getElem?_append] at hx
    split at hx
    case isTrue hk =>
      rw [List.getElem?_map] at hx
      obtain ⟨y, hy, rfl⟩ := Option.map_eq_some_iff.1 hx
      obtain ⟨p, hp, ho⟩ := ha.none k y hy
      rw [Bool.and_eq_true, Bool.not_eq_true'] at hp
      have hl := onlt _ hp.1
      have hcn : heldF c (sb12 p i false) = false := by
        rw [Bool.eq_false_iff]
        intro hh
        have := (crest _ hl hh).2
        unfold sideF at this
        rw [sb12_twice] at this
        rw [show sideF may i true p = may (sb12 p i true) from rfl] at hp
        rw [hp.2] at this; cases this
      refine ⟨sb12 p i false, hp.1, ?_⟩
      rw [List.append_assoc]
      refine only_left (only_lit hi8 ha.free ho fun z hz hf => ?_) ?_
      · rwa [fits_free (ha.free z hz)] at hf
      · rw [heldF_append, held_lit hi8 hb.free, bit_sb, hcn]; simp
    case isFalse hk =>
      rw [List.length_map] at hx hk
      rw [List.getElem?_append] at hx
      split at hx
      case isTrue hk2 =>
        rw [List.getElem?_map] at hx
        obtain ⟨y, hy, rfl⟩ := Option.map_eq_some_iff.1 hx
        obtain ⟨p, hp, ho⟩ := hb.none _ y hy
        rw [Bool.and_eq_true, Bool.not_eq_true'] at hp
        have hl := onlt _ hp.1
        have hcn : heldF c (sb12 p i true) = false := by
          rw [Bool.eq_false_iff]
          intro hh
          have := (crest _ hl hh).1
          unfold sideF at this
          rw [sb12_twice] at this
          rw [show sideF may i false p = may (sb12 p i false) from rfl] at hp
          rw [hp.2] at this; cases this
        refine ⟨sb12 p i true, hp.1, ?_⟩
        rw [List.append_assoc]
        have hO : Only ((b.map fun x => lit12 x i true) ++ c) (k - a.length) (sb12 p i true) := by
          refine only_left (only_lit hi8 hb.free ho fun z hz hf => ?_) hcn
          rwa [fits_free (hb.free z hz)] at hf
        have := only_right (a := a.map fun x => lit12 x i false) hO (by rw [held_lit hi8 ha.free, bit_sb]; simp)
        rw [List.length_map, show a.length + (k - a.length) = k by omega] at this
        exact this
      case isFalse hk2 =>
        rw [List.length_map] at hx hk2
        obtain ⟨p, hp, ho⟩ := hc.none _ x hx
        have main : ∀ q b', sb12 p i b' = q → on q = true → heldF (a.map fun x => lit12 x i false) q = false → heldF (b.map fun x => lit12 x i true) q = false → ∃ p, on p = true ∧ ∀ (j : Nat) (y : Cb), ((a.map fun x => lit12 x i false) ++ (b.map fun x => lit12 x i true) ++ c)[j]? = some y → fits y.m y.v 8 p = true → j = k := by
          intro q b' hq hon h1 h2
          refine ⟨q, hon, ?_⟩
          have hO : Only c (k - a.length - b.length) q := fun j y hy hf => by
            rw [← hq, fits_free (hc.free y (List.mem_of_getElem? hy))] at hf
            exact ho j y hy hf
          have := only_right (a := (a.map fun x => lit12 x i false) ++ (b.map fun x => lit12 x i true)) hO (by rw [heldF_append, h1, h2]; rfl)
          rw [List.length_append, List.length_map, List.length_map, show a.length + b.length + (k - a.length - b.length) = k by omega] at this
          exact this
        rw [Bool.or_eq_true, Bool.and_eq_true, Bool.and_eq_true, Bool.not_eq_true', Bool.not_eq_true'] at hp
        rcases hp with hp | hp
        · refine main (sb12 p i false) false rfl hp.1 ?_ ?_
          · rw [held_lit hi8 ha.free, held_sb ha.free, hp.2]; rfl
          · rw [held_lit hi8 hb.free, bit_sb]; simp
        · refine main (sb12 p i true) true rfl hp.1 ?_ ?_
          · rw [held_lit hi8 ha.free, bit_sb]; simp
          · rw [held_lit hi8 hb.free, held_sb hb.free, hp.2]; rfl
theorem right_zero (n : Nat) (h : n ≤ 8) : rightB 0 0 n = true := (rightB_iff _ _ _).2 ⟨by omega, by omega, fun i _ => by simp, by decide⟩
theorem fits_zero (p : Nat) : fits 0 0 8 p = true := (fits_iff _ _ _ _).2 fun i _ hm => by simp at hm
/-- The document's cover is a cover. -/
theorem iso_is (n : Nat) : ∀ (f : Nat) (on may : Nat → Bool) (i : Nat), n < f + i → Iso n i on may → IsC n i on may (isoF n f on may i)
  | 0, on, may, i, hf, h => absurd h.le (by omega)
  | f + 1, on, may, i, hf, h => by
    have honl : ∀ p, on p = true → p < 256 := fun p hp => Nat.lt_of_lt_of_le (h.low p (h.sub p hp)) (Nat.pow_le_pow_right (n := 2) (by decide) h.n8)
    unfold isoF
    by_cases he : emptyF on = true
    · rw [if_pos he]
      have hno := (emptyF_iff honl).1 he
      exact ⟨fun x hx => absurd hx List.not_mem_nil, fun x hx => absurd hx List.not_mem_nil, fun p hp => (by rw [hno p] at hp; cases hp), fun p _ hh => (by unfold heldF at hh; rw [List.any_nil] at hh; cases hh), fun k x hx => (by rw [List.getElem?_nil] at hx; cases hx)⟩
    · rw [if_neg he]
      obtain ⟨p0, hp0⟩ : ∃ p, on p = true := Classical.byContradiction fun hn => he ((emptyF_iff honl).2 fun p => by
        rw [Bool.eq_false_iff]
        exact fun hp => hn ⟨p, hp⟩)
      by_cases hu : fullF n may = true
      · rw [if_pos hu]
        refine ⟨fun x hx => ?_, fun x hx => ?_, fun p _ => ?_, fun p hp _ => ?_, fun k x hx => ⟨p0, hp0, fun j y hy _ => ?_⟩⟩
        · rw [List.mem_singleton.1 hx]; exact right_zero n h.n8
        · rw [List.mem_singleton.1 hx]; intro j _; simp
        · unfold heldF; rw [List.any_cons, fits_zero]; rfl
        · unfold fullF at hu
          rw [List.all_eq_true] at hu
          exact hu p (List.mem_range.2 hp)
        · have h1 := (List.getElem?_eq_some_iff.1 hx).1
          have h2 := (List.getElem?_eq_some_iff.1 hy).1
          rw [List.length_singleton] at h1 h2
          omega
      · rw [if_neg hu]
        have hi := fullF_no h hp0 (Bool.eq_false_iff.2 hu)
        have ha := iso_is n f _ _ (i + 1) (by omega) (iso_half h hi false)
        have hb := iso_is n f _ _ (i + 1) (by omega) (iso_half h hi true)
        have hc := iso_is n f _ _ (i + 1) (by omega) (iso_rest h hi ha hb)
        exact iso_step h hi ha hb hc
end Go.Proofs.Ytnddepijbbchiaa
