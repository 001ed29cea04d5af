/- Points and the bits of the levels, by an order of the inputs, plain. -/
import Derived.Test.YtkkdfpmjmommcaaSiz06
namespace Go.Proofs.Ytkkdfpmjmommcaa

/-- A power put to a number that lacks its bit. -/
theorem add_bit : ∀ (i x : Nat), x.testBit i = false → ∀ q, (2 ^ i + x).testBit q = (decide (q = i) || x.testBit q)
  | 0, x, h, q => by
    rw [Nat.testBit_zero] at h
    have hx : x % 2 = 0 := by
      have := Nat.mod_two_eq_zero_or_one x
      rcases this with e | e
      · exact e
      · rw [e] at h; simp at h
    cases q with
    | zero => rw [Nat.testBit_zero]; simp; omega
    | succ q =>
      rw [Nat.testBit_succ, Nat.testBit_succ, show (2 ^ 0 + x) / 2 = x / 2 by omega]
      simp
  | i + 1, x, h, q => by
    rw [Nat.testBit_succ] at h
    have ih := add_bit i (x / 2) h
    have e : (2 ^ (i + 1) + x) / 2 = 2 ^ i + x / 2 := by rw [Nat.pow_succ]; omega
    cases q with
    | zero =>
      rw [Nat.testBit_zero, Nat.testBit_zero]
      have : (2 ^ (i + 1) + x) % 2 = x % 2 := by rw [Nat.pow_succ]; omega
      rw [this]; simp
    | succ q =>
      rw [Nat.testBit_succ, e, ih q, Nat.testBit_succ]
      congr 1
      rw [Bool.eq_iff_iff]; simp
/-- The point at which the level k + l (that of the l-th of the inputs) has the bit c (k + l). -/
def ptOf (c : Nat → Bool) : List Nat → Nat → Nat
  | [], _ => 0
  | i :: r, k => (if c k then 2 ^ i else 0) + ptOf c r (k + 1)
theorem ptOf_out {c : Nat → Bool} : ∀ (l : List Nat) (k q : Nat), q ∉ l → (l.Nodup) → (ptOf c l k).testBit q = false
  | [], k, q, _, _ => Nat.zero_testBit q
  | i :: r, k, q, h, hd => by
    obtain ⟨h1, h2⟩ := List.nodup_cons.1 hd
    have ih := ptOf_out (c := c) r (k + 1) q (fun e => h (List.mem_cons_of_mem _ e)) h2
    have ih' := ptOf_out (c := c) r (k + 1) i h1 h2
    unfold ptOf
    split
    · rw [add_bit _ _ ih', ih]
      have : q ≠ i := fun e => h (by rw [e]; simp)
      simp [this]
    · rw [Nat.zero_add]; exact ih
theorem ptOf_bit {c : Nat → Bool} : ∀ (l : List Nat) (k j q : Nat), l.Nodup → l[j]? = some q → (ptOf c l k).testBit q = c (k + j)
  | [], k, j, q, _, h => by simp at h
  | i :: r, k, 0, q, hd, h => by
    obtain ⟨h1, h2⟩ := List.nodup_cons.1 hd
    have e : i = q := by simpa using h
    subst e
    have ih' := ptOf_out (c := c) r (k + 1) i h1 h2
    unfold ptOf
    cases hc : c k
    · simp only [Bool.false_eq_true, if_false, Nat.zero_add]
      exact ih'
    · simp only [if_true]
      rw [add_bit _ _ ih']
      simp
  | i :: r, k, j + 1, q, hd, h => by
    obtain ⟨h1, h2⟩ := List.nodup_cons.1 hd
    have hq : r[j]? = some q := by simpa using h
    have ih := ptOf_bit (c := c) r (k + 1) j q h2 hq
    have ih' := ptOf_out (c := c) r (k + 1) i h1 h2
    have hne : q ≠ i := fun e => h1 (e ▸ List.mem_of_getElem? hq)
    have e : k + 1 + j = k + (j + 1) := by omega
    unfold ptOf
    split
    · rw [add_bit _ _ ih', ih, e]
      simp [hne]
    · rw [Nat.zero_add, ih, e]
/-- An order of n inputs: each from 0 to n - 1 once. -/
structure OrdOk (o : List Nat) : Prop where
  nodup : o.Nodup
  lt : ∀ i ∈ o, i < o.length
theorem nodup_len : ∀ (a b : List Nat), a.Nodup → (∀ x ∈ a, x ∈ b) → a.length ≤ b.length
  | [], b, _, _ => by simp
  | x :: a, b, hd, h => by
    obtain ⟨h1, h2⟩ := List.nodup_cons.1 hd
    have hx := h x (by simp)
    have ih := nodup_len a (b.erase x) h2 (fun y hy => (List.mem_erase_of_ne (fun e : y = x => h1 (e ▸ hy))).2 (h y (List.mem_cons_of_mem _ hy)))
    rw [List.length_erase_of_mem hx] at ih
    have := List.length_pos_of_mem hx
    simp only [List.length_cons]
    omega
theorem OrdOk.mem {o : List Nat} (h : OrdOk o) {i : Nat} (hi : i < o.length) : i ∈ o := by
  by_cases hm : i ∈ o
  · exact hm
  · have := nodup_len o ((List.range o.length).erase i) h.nodup (fun x hx => (List.mem_erase_of_ne (fun e : x = i => hm (e ▸ hx))).2 (List.mem_range.2 (h.lt x hx)))
    rw [List.length_erase_of_mem (List.mem_range.2 hi)] at this
    simp only [List.length_range] at this
    omega
theorem OrdOk.place {o : List Nat} (h : OrdOk o) {i : Nat} (hi : i < o.length) : ∃ l : Nat, l < o.length ∧ o[l]? = some i := by
  obtain ⟨l, hl, e⟩ := List.mem_iff_getElem.1 (h.mem hi)
  exact ⟨l, hl, by rw [List.getElem?_eq_getElem hl, e]⟩
theorem ptOf_lt {o : List Nat} (h : OrdOk o) (c : Nat → Bool) : ptOf c o 0 < 2 ^ o.length :=
  Nat.lt_pow_two_of_testBit _ fun i hi => ptOf_out o 0 i (fun hm => by have := h.lt i hm; omega) h.nodup
/-- The bits of a point. -/
def bitsOf (o : List Nat) (p : Nat) : Nat → Bool := fun l => p.testBit (o.getD l 0)
theorem ptOf_bits {o : List Nat} (h : OrdOk o) {p : Nat} (hp : p < 2 ^ o.length) : ptOf (bitsOf o p) o 0 = p := by
  apply Nat.eq_of_testBit_eq
  intro i
  by_cases hi : i < o.length
  · obtain ⟨l, hl, e⟩ := h.place hi
    rw [ptOf_bit o 0 l i h.nodup e, Nat.zero_add]
    unfold bitsOf
    rw [List.getD_eq_getElem?_getD, e]; rfl
  · rw [ptOf_out o 0 i (fun hm => hi (h.lt i hm)) h.nodup]
    exact (Nat.testBit_lt_two_pow (Nat.lt_of_lt_of_le hp (Nat.pow_le_pow_right (by decide) (by omega)))).symm
theorem bits_ptOf {o : List Nat} (h : OrdOk o) (c : Nat → Bool) {l : Nat} (hl : l < o.length) : bitsOf o (ptOf c o 0) l = c l := by
  unfold bitsOf
  rw [List.getD_eq_getElem?_getD, List.getElem?_eq_getElem hl]
  have := ptOf_bit (c := c) o 0 l o[l] h.nodup (List.getElem?_eq_getElem hl)
  rw [Nat.zero_add] at this
  exact this
/-- What a set says of the bits of the levels. -/
def setF (o : List Nat) (X : BitVec 256) (c : Nat → Bool) : Bool := X.getLsbD (ptOf c o 0)
/-- Sets of points of the inputs are told apart so. -/
theorem setF_inj {o : List Nat} (h : OrdOk o) {X Y : BitVec 256} (hX : ∀ p, 2 ^ o.length ≤ p → X.getLsbD p = false) (hY : ∀ p, 2 ^ o.length ≤ p → Y.getLsbD p = false) (he : ∀ c, setF o X c = setF o Y c) : X = Y := by
  apply BitVec.eq_of_getLsbD_eq
  intro p _
  by_cases hp : p < 2 ^ o.length
  · have := he (bitsOf o p)
    unfold setF at this
    rw [ptOf_bits h hp] at this
    exact this
  · rw [hX p (by omega), hY p (by omega)]
/-- It hangs on the bits of the levels alone. -/
theorem setF_agree {o : List Nat} {X : BitVec 256} {c d : Nat → Bool} (hcd : ∀ l, l < o.length → c l = d l) : setF o X c = setF o X d := by
  have key : ∀ (l : List Nat) (k : Nat), (∀ q, q < k + l.length → c q = d q) → ptOf c l k = ptOf d l k := by
    intro l
    induction l with
    | nil => intro k _; rfl
    | cons i r ih =>
      intro k hq
      unfold ptOf
      rw [hq k (by simp), ih (k + 1) (fun q hq' => hq q (by simp; omega))]
  unfold setF
  rw [key o 0 (by simpa using hcd)]
end Go.Proofs.Ytkkdfpmjmommcaa
