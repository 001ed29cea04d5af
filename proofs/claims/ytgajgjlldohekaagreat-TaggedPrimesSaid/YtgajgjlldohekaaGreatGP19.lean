/- What is done with families, plain: by halves, and as the document says it of rows of members. -/
import Derived.Test.YtgajgjlldohekaaGreatGP18
namespace Go.Proofs.YtgajgjlldohekaaGreat

/-- Is there one below 2 ^ D? -/
def exF (D : Nat) (P : Nat → Bool) : Bool := (List.range (2 ^ D)).any P
theorem exF_iff {D : Nat} {P : Nat → Bool} : exF D P = true ↔ ∃ a, a < 2 ^ D ∧ P a = true := by
  unfold exF
  rw [List.any_eq_true]
  constructor
  · rintro ⟨a, h1, h2⟩; exact ⟨a, List.mem_range.1 h1, h2⟩
  · rintro ⟨a, h1, h2⟩; exact ⟨a, List.mem_range.2 h1, h2⟩
theorem exF_not {D : Nat} {P : Nat → Bool} : exF D P = false ↔ ∀ a, a < 2 ^ D → P a = false := by
  constructor
  · intro h a ha
    cases hp : P a
    · rfl
    · rw [exF_iff.2 ⟨a, ha, hp⟩] at h; cases h
  · intro h
    cases he : exF D P
    · rfl
    · obtain ⟨a, ha, hp⟩ := exF_iff.1 he
      rw [h a ha] at hp; cases hp
theorem or_div (a b : Nat) : (a ||| b) / 2 = a / 2 ||| b / 2 := Nat.or_div_two
theorem or_mod (a b : Nat) : (a ||| b) % 2 = 1 ↔ a % 2 = 1 ∨ b % 2 = 1 := Nat.or_mod_two_eq_one
/-- The bits of both, by halves. -/
theorem or_eq_even {a b n : Nat} : a ||| b = 2 * n ↔ a % 2 = 0 ∧ b % 2 = 0 ∧ a / 2 ||| b / 2 = n := by
  have h1 := or_div a b
  have h2 := or_mod a b
  constructor
  · intro h
    rw [h] at h1 h2
    refine ⟨?_, ?_, by omega⟩ <;> omega
  · rintro ⟨ha, hb, h⟩
    have : ¬ (a ||| b) % 2 = 1 := by rw [h2]; omega
    omega
theorem or_eq_odd {a b n : Nat} : a ||| b = 2 * n + 1 ↔ (a % 2 = 1 ∨ b % 2 = 1) ∧ a / 2 ||| b / 2 = n := by
  have h1 := or_div a b
  have h2 := or_mod a b
  constructor
  · intro h
    rw [h] at h1 h2
    exact ⟨h2.1 (by omega), by omega⟩
  · rintro ⟨hab, h⟩
    have := h2.2 hab
    omega
/-- All items of both, of each member of each. -/
def joinF (D : Nat) (F G : Nat → Bool) : Nat → Bool := fun n => exF D fun a => F a && exF D fun b => G b && decide (a ||| b = n)
theorem joinF_iff {D : Nat} {F G : Nat → Bool} {n : Nat} : joinF D F G n = true ↔ ∃ a b, a < 2 ^ D ∧ b < 2 ^ D ∧ F a = true ∧ G b = true ∧ a ||| b = n := by
  unfold joinF
  rw [exF_iff]
  constructor
  · rintro ⟨a, ha, h⟩
    rw [Bool.and_eq_true, exF_iff] at h
    obtain ⟨hf, b, hb, h⟩ := h
    rw [Bool.and_eq_true] at h
    exact ⟨a, b, ha, hb, hf, h.1, of_decide_eq_true h.2⟩
  · rintro ⟨a, b, ha, hb, hf, hg, h⟩
    refine ⟨a, ha, ?_⟩
    rw [Bool.and_eq_true, exF_iff]
    refine ⟨hf, b, hb, ?_⟩
    rw [Bool.and_eq_true]
    exact ⟨hg, decide_eq_true h⟩
theorem half0_at {F : Nat → Bool} {a : Nat} (h : a % 2 = 0) : half0 F (a / 2) = F a := by unfold half0; rw [show 2 * (a / 2) = a by omega]
theorem half1_at {F : Nat → Bool} {a : Nat} (h : a % 2 = 1) : half1 F (a / 2) = F a := by unfold half1; rw [show 2 * (a / 2) + 1 = a by omega]
theorem lt_half {a D : Nat} (h : a < 2 ^ (D + 1)) : a / 2 < 2 ^ D := by rw [Nat.pow_succ] at h; omega
theorem lt_twice {a D : Nat} (h : a < 2 ^ D) : 2 * a < 2 ^ (D + 1) := by rw [Nat.pow_succ]; omega
theorem lt_twice1 {a D : Nat} (h : a < 2 ^ D) : 2 * a + 1 < 2 ^ (D + 1) := by rw [Nat.pow_succ]; omega
theorem joinF_0 (D : Nat) (F G : Nat → Bool) : half0 (joinF (D + 1) F G) = joinF D (half0 F) (half0 G) := by
  funext n
  rw [Bool.eq_iff_iff]
  show joinF (D + 1) F G (2 * n) = true ↔ _
  rw [joinF_iff, joinF_iff]
  constructor
  · rintro ⟨a, b, ha, hb, hf, hg, h⟩
    obtain ⟨a0, b0, h⟩ := or_eq_even.1 h
    exact ⟨a / 2, b / 2, lt_half ha, lt_half hb, (half0_at a0).trans hf, (half0_at b0).trans hg, h⟩
  · rintro ⟨a, b, ha, hb, hf, hg, h⟩
    exact ⟨2 * a, 2 * b, lt_twice ha, lt_twice hb, hf, hg, or_eq_even.2 ⟨by omega, by omega, by rw [show 2 * a / 2 = a by omega, show 2 * b / 2 = b by omega]; exact h⟩⟩
theorem joinF_1 (D : Nat) (F G : Nat → Bool) : half1 (joinF (D + 1) F G) = fun n => joinF D (half1 F) (half1 G) n || joinF D (half1 F) (half0 G) n || joinF D (half0 F) (half1 G) n := by
  funext n
  rw [Bool.eq_iff_iff, Bool.or_eq_true, Bool.or_eq_true]
  show joinF (D + 1) F G (2 * n + 1) = true ↔ _
  rw [joinF_iff, joinF_iff, joinF_iff, joinF_iff]
  constructor
  · rintro ⟨a, b, ha, hb, hf, hg, h⟩
    obtain ⟨hab, h⟩ := or_eq_odd.1 h
    by_cases a1 : a % 2 = 1
    · by_cases b1 : b % 2 = 1
      · exact .inl (.inl ⟨a / 2, b / 2, lt_half ha, lt_half hb, (half1_at a1).trans hf, (half1_at b1).trans hg, h⟩)
      · exact .inl (.inr ⟨a / 2, b / 2, lt_half ha, lt_half hb, (half1_at a1).trans hf, (half0_at (by omega)).trans hg, h⟩)
    · exact .inr ⟨a / 2, b / 2, lt_half ha, lt_half hb, (half0_at (by omega)).trans hf, (half1_at (by omega)).trans hg, h⟩
  · rintro ((⟨a, b, ha, hb, hf, hg, h⟩ | ⟨a, b, ha, hb, hf, hg, h⟩) | ⟨a, b, ha, hb, hf, hg, h⟩)
    · exact ⟨2 * a + 1, 2 * b + 1, lt_twice1 ha, lt_twice1 hb, hf, hg, or_eq_odd.2 ⟨.inl (by omega), by rw [show (2 * a + 1) / 2 = a by omega, show (2 * b + 1) / 2 = b by omega]; exact h⟩⟩
    · exact ⟨2 * a + 1, 2 * b, lt_twice1 ha, lt_twice hb, hf, hg, or_eq_odd.2 ⟨.inl (by omega), by rw [show (2 * a + 1) / 2 = a by omega, show 2 * b / 2 = b by omega]; exact h⟩⟩
    · exact ⟨2 * a, 2 * b + 1, lt_twice ha, lt_twice1 hb, hf, hg, or_eq_odd.2 ⟨.inr (by omega), by rw [show 2 * a / 2 = a by omega, show (2 * b + 1) / 2 = b by omega]; exact h⟩⟩
theorem joinF_nil0 (D : Nat) (G : Nat → Bool) : joinF D (fun _ => false) G = fun _ => false := by
  funext n
  rw [Bool.eq_false_iff]
  intro h
  obtain ⟨a, b, -, -, hf, -⟩ := joinF_iff.1 h
  cases hf
theorem joinF_nil1 (D : Nat) (F : Nat → Bool) : joinF D F (fun _ => false) = fun _ => false := by
  funext n
  rw [Bool.eq_false_iff]
  intro h
  obtain ⟨a, b, -, -, -, hg, -⟩ := joinF_iff.1 h
  cases hg
theorem joinF_comm (D : Nat) (F G : Nat → Bool) : joinF D F G = joinF D G F := by
  funext n
  rw [Bool.eq_iff_iff, joinF_iff, joinF_iff]
  constructor
  · rintro ⟨a, b, ha, hb, hf, hg, h⟩; exact ⟨b, a, hb, ha, hg, hf, by rw [Nat.or_comm]; exact h⟩
  · rintro ⟨a, b, ha, hb, hf, hg, h⟩; exact ⟨b, a, hb, ha, hg, hf, by rw [Nat.or_comm]; exact h⟩
/-- The members that hold none of another family. -/
def freeF (D : Nat) (F G : Nat → Bool) : Nat → Bool := fun n => F n && !exF D fun m => G m && decide (m ||| n = n)
theorem freeF_iff {D : Nat} {F G : Nat → Bool} {n : Nat} : freeF D F G n = true ↔ F n = true ∧ ∀ m, m < 2 ^ D → G m = true → m ||| n ≠ n := by
  unfold freeF
  rw [Bool.and_eq_true, Bool.not_eq_true', exF_not]
  constructor
  · rintro ⟨h1, h2⟩
    refine ⟨h1, fun m hm hg e => ?_⟩
    have := h2 m hm
    rw [hg, decide_eq_true e] at this
    cases this
  · rintro ⟨h1, h2⟩
    refine ⟨h1, fun m hm => ?_⟩
    cases hg : G m
    · rfl
    · rw [decide_eq_false (h2 m hm hg)]; rfl
theorem freeF_0 (D : Nat) (F G : Nat → Bool) : half0 (freeF (D + 1) F G) = freeF D (half0 F) (half0 G) := by
  funext n
  rw [Bool.eq_iff_iff]
  show freeF (D + 1) F G (2 * n) = true ↔ _
  rw [freeF_iff, freeF_iff]
  constructor
  · rintro ⟨h1, h2⟩
    refine ⟨h1, fun m hm hg e => h2 (2 * m) (lt_twice hm) hg (or_eq_even.2 ⟨by omega, by omega, ?_⟩)⟩
    rw [show 2 * m / 2 = m by omega, show 2 * n / 2 = n by omega]; exact e
  · rintro ⟨h1, h2⟩
    refine ⟨h1, fun m hm hg e => ?_⟩
    obtain ⟨m0, -, e⟩ := or_eq_even.1 e
    rw [show 2 * n / 2 = n by omega] at e
    exact h2 (m / 2) (lt_half hm) ((half0_at m0).trans hg) e
theorem freeF_1 (D : Nat) (F G : Nat → Bool) : half1 (freeF (D + 1) F G) = freeF D (freeF D (half1 F) (half0 G)) (half1 G) := by
  funext n
  rw [Bool.eq_iff_iff]
  show freeF (D + 1) F G (2 * n + 1) = true ↔ _
  rw [freeF_iff, freeF_iff, freeF_iff]
  constructor
  · rintro ⟨h1, h2⟩
    refine ⟨⟨h1, fun m hm hg e => h2 (2 * m) (lt_twice hm) hg (or_eq_odd.2 ⟨.inr (by omega), ?_⟩)⟩, fun m hm hg e => h2 (2 * m + 1) (lt_twice1 hm) hg (or_eq_odd.2 ⟨.inr (by omega), ?_⟩)⟩
    · rw [show 2 * m / 2 = m by omega, show (2 * n + 1) / 2 = n by omega]; exact e
    · rw [show (2 * m + 1) / 2 = m by omega, show (2 * n + 1) / 2 = n by omega]; exact e
  · rintro ⟨⟨h1, h2⟩, h3⟩
    refine ⟨h1, fun m hm hg e => ?_⟩
    obtain ⟨-, e⟩ := or_eq_odd.1 e
    rw [show (2 * n + 1) / 2 = n by omega] at e
    by_cases m1 : m % 2 = 1
    · exact h3 (m / 2) (lt_half hm) ((half1_at m1).trans hg) e
    · exact h2 (m / 2) (lt_half hm) ((half0_at (by omega)).trans hg) e
/-- The members that hold no other one. -/
def leastF (D : Nat) (F : Nat → Bool) : Nat → Bool := fun n => F n && !exF D fun m => F m && (!decide (m = n) && decide (m ||| n = n))
theorem leastF_iff {D : Nat} {F : Nat → Bool} {n : Nat} : leastF D F n = true ↔ F n = true ∧ ∀ m, m < 2 ^ D → F m = true → m ≠ n → m ||| n ≠ n := by
  unfold leastF
  rw [Bool.and_eq_true, Bool.not_eq_true', exF_not]
  constructor
  · rintro ⟨h1, h2⟩
    refine ⟨h1, fun m hm hg hne e => ?_⟩
    have := h2 m hm
    rw [hg, decide_eq_false hne, decide_eq_true e] at this
    cases this
  · rintro ⟨h1, h2⟩
    refine ⟨h1, fun m hm => ?_⟩
    cases hg : F m
    · rfl
    · by_cases hne : m = n
      · rw [decide_eq_true hne]; rfl
      · rw [decide_eq_false (h2 m hm hg hne)]; simp
theorem leastF_0 (D : Nat) (F : Nat → Bool) : half0 (leastF (D + 1) F) = leastF D (half0 F) := by
  funext n
  rw [Bool.eq_iff_iff]
  show leastF (D + 1) F (2 * n) = true ↔ _
  rw [leastF_iff, leastF_iff]
  constructor
  · rintro ⟨h1, h2⟩
    refine ⟨h1, fun m hm hg hne e => h2 (2 * m) (lt_twice hm) hg (by omega) (or_eq_even.2 ⟨by omega, by omega, ?_⟩)⟩
    rw [show 2 * m / 2 = m by omega, show 2 * n / 2 = n by omega]; exact e
  · rintro ⟨h1, h2⟩
    refine ⟨h1, fun m hm hg hne e => ?_⟩
    obtain ⟨m0, -, e⟩ := or_eq_even.1 e
    rw [show 2 * n / 2 = n by omega] at e
    exact h2 (m / 2) (lt_half hm) ((half0_at m0).trans hg) (by omega) e
theorem leastF_1 (D : Nat) (F : Nat → Bool) : half1 (leastF (D + 1) F) = freeF D (leastF D (half1 F)) (half0 F) := by
  funext n
  rw [Bool.eq_iff_iff]
  show leastF (D + 1) F (2 * n + 1) = true ↔ _
  rw [leastF_iff, freeF_iff, leastF_iff]
  constructor
  · rintro ⟨h1, h2⟩
    refine ⟨⟨h1, fun m hm hg hne e => h2 (2 * m + 1) (lt_twice1 hm) hg (by omega) (or_eq_odd.2 ⟨.inr (by omega), ?_⟩)⟩, fun m hm hg e => h2 (2 * m) (lt_twice hm) hg (by omega) (or_eq_odd.2 ⟨.inr (by omega), ?_⟩)⟩
    · rw [show (2 * m + 1) / 2 = m by omega, show (2 * n + 1) / 2 = n by omega]; exact e
    · rw [show 2 * m / 2 = m by omega, show (2 * n + 1) / 2 = n by omega]; exact e
  · rintro ⟨⟨h1, h2⟩, h3⟩
    refine ⟨h1, fun m hm hg hne e => ?_⟩
    obtain ⟨-, e⟩ := or_eq_odd.1 e
    rw [show (2 * n + 1) / 2 = n by omega] at e
    by_cases m1 : m % 2 = 1
    · exact h2 (m / 2) (lt_half hm) ((half1_at m1).trans hg) (by omega) e
    · exact h3 (m / 2) (lt_half hm) ((half0_at (by omega)).trans hg) e
/-- The members that have an item, without it; and those that don't. -/
def withF (i : Nat) (F : Nat → Bool) : Nat → Bool := fun n => !n.testBit i && F (n + 2 ^ i)
def lackF (i : Nat) (F : Nat → Bool) : Nat → Bool := fun n => !n.testBit i && F n
theorem bit_even (n i : Nat) : (2 * n).testBit (i + 1) = n.testBit i := by rw [Nat.testBit_succ, show 2 * n / 2 = n by omega]
theorem bit_odd (n i : Nat) : (2 * n + 1).testBit (i + 1) = n.testBit i := by rw [Nat.testBit_succ, show (2 * n + 1) / 2 = n by omega]
theorem withF_s0 (i : Nat) (F : Nat → Bool) : half0 (withF (i + 1) F) = withF i (half0 F) := by
  funext n
  unfold half0 withF
  rw [bit_even, show 2 * n + 2 ^ (i + 1) = 2 * (n + 2 ^ i) by rw [Nat.pow_succ]; omega]
theorem withF_s1 (i : Nat) (F : Nat → Bool) : half1 (withF (i + 1) F) = withF i (half1 F) := by
  funext n
  unfold half1 withF
  rw [bit_odd, show 2 * n + 1 + 2 ^ (i + 1) = 2 * (n + 2 ^ i) + 1 by rw [Nat.pow_succ]; omega]
theorem lackF_s0 (i : Nat) (F : Nat → Bool) : half0 (lackF (i + 1) F) = lackF i (half0 F) := by
  funext n
  unfold half0 lackF
  rw [bit_even]
theorem lackF_s1 (i : Nat) (F : Nat → Bool) : half1 (lackF (i + 1) F) = lackF i (half1 F) := by
  funext n
  unfold half1 lackF
  rw [bit_odd]
/-- How many members a join has at most. -/
theorem cF_join : ∀ (D : Nat) (F G : Nat → Bool), cF D (joinF D F G) ≤ cF D F * cF D G
  | 0, F, G => by
    rw [cF, cF, cF]
    cases h : joinF 0 F G 0
    · simp
    · obtain ⟨a, b, ha, hb, hf, hg, -⟩ := joinF_iff.1 h
      have a0 : a = 0 := by rw [Nat.pow_zero] at ha; omega
      have b0 : b = 0 := by rw [Nat.pow_zero] at hb; omega
      subst a0; subst b0
      rw [hf, hg]
      simp
  | D + 1, F, G => by
    have e1 : cF (D + 1) (joinF (D + 1) F G) = cF D (half0 (joinF (D + 1) F G)) + cF D (half1 (joinF (D + 1) F G)) := rfl
    rw [e1, joinF_0, joinF_1]
    have h00 := cF_join D (half0 F) (half0 G)
    have h11 := cF_join D (half1 F) (half1 G)
    have h10 := cF_join D (half1 F) (half0 G)
    have h01 := cF_join D (half0 F) (half1 G)
    have o1 := cF_or D (fun n => joinF D (half1 F) (half1 G) n || joinF D (half1 F) (half0 G) n) (joinF D (half0 F) (half1 G))
    have o2 := cF_or D (joinF D (half1 F) (half1 G)) (joinF D (half1 F) (half0 G))
    have eF : cF (D + 1) F = cF D (half0 F) + cF D (half1 F) := rfl
    have eG : cF (D + 1) G = cF D (half0 G) + cF D (half1 G) := rfl
    rw [eF, eG, Nat.add_mul, Nat.mul_add, Nat.mul_add]
    omega

theorem bit_sub {x i : Nat} (h : x.testBit i = true) : (x - 2 ^ i).testBit i = false ∧ x - 2 ^ i + 2 ^ i = x := by
  have hle := bit_le h
  have e : x - 2 ^ i + 2 ^ i = x := by omega
  refine ⟨?_, e⟩
  have h2 := Nat.testBit_two_pow_add_eq (x - 2 ^ i) i
  rw [Nat.add_comm, e, h] at h2
  cases hb : (x - 2 ^ i).testBit i
  · rfl
  · rw [hb] at h2; cases h2
theorem bit_add {y i : Nat} (h : y.testBit i = false) : (y + 2 ^ i).testBit i = true := by
  have h2 := Nat.testBit_two_pow_add_eq y i
  rw [Nat.add_comm, h] at h2
  exact h2
end Go.Proofs.YtgajgjlldohekaaGreat
