/- What is done with families, plain: by halves, and as the document says it of rows of members. Families in memory: what stays while some arenas and maps are written; a diagram; level, halves, uses. -/
import Derived.Test.YtehpccanjlaokaaGreatGQ17
import Derived.Test.YtehpccanjlaokaaGreatGQ13
namespace Go.Proofs.YtehpccanjlaokaaGreat

/-- Is there one below 2 ^ D? -/
def exF (D : Nat) (P : Nat → Bool) : Bool := (List.range (2 ^ D)).any P
theorem exF_iff {D : Nat} {P : Nat → Bool} : exF D P = true ↔ ∃ a, a < 2 ^ D ∧ P a = true := by
  unfold exF
  rw [List.any_eq_true]
  constructor
  · rintro ⟨a, h1, h2⟩; exact ⟨a, List.mem_range.1 h1, h2⟩
  · rintro ⟨a, h1, h2⟩; exact ⟨a, List.mem_range.2 h1, h2⟩
theorem exF_not {D : Nat} {P : Nat → Bool} : exF D P = false ↔ ∀ a, a < 2 ^ D → P a = false := by
  constructor
  · intro h a ha
    cases hp : P a
    · rfl
    · rw [exF_iff.2 ⟨a, ha, hp⟩] at h; cases h
  · intro h
    cases he : exF D P
    · rfl
    · obtain ⟨a, ha, hp⟩ := exF_iff.1 he
      rw [h a ha] at hp; cases hp
theorem or_div (a b : Nat) : (a ||| b) / 2 = a / 2 ||| b / 2 := Nat.or_div_two
theorem or_mod (a b : Nat) : (a ||| b) % 2 = 1 ↔ a % 2 = 1 ∨ b % 2 = 1 := Nat.or_mod_two_eq_one
/-- The bits of both, by halves. -/
theorem or_eq_even {a b n : Nat} : a ||| b = 2 * n ↔ a % 2 = 0 ∧ b % 2 = 0 ∧ a / 2 ||| b / 2 = n := by
  have h1 := or_div a b
  have h2 := or_mod a b
  constructor
  · intro h
    rw [h] at h1 h2
    refine ⟨?_, ?_, by omega⟩ <;> omega
  · rintro ⟨ha, hb, h⟩
    have : ¬ (a ||| b) % 2 = 1 := by rw [h2]; omega
    omega
theorem or_eq_odd {a b n : Nat} : a ||| b = 2 * n + 1 ↔ (a % 2 = 1 ∨ b % 2 = 1) ∧ a / 2 ||| b / 2 = n := by
  have h1 := or_div a b
  have h2 := or_mod a b
  constructor
  · intro h
    rw [h] at h1 h2
    exact ⟨h2.1 (by omega), by omega⟩
  · rintro ⟨hab, h⟩
    have := h2.2 hab
    omega
/-- All items of both, of each member of each. -/
def joinF (D : Nat) (F G : Nat → Bool) : Nat → Bool := fun n => exF D fun a => F a && exF D fun b => G b && decide (a ||| b = n)
theorem joinF_iff {D : Nat} {F G : Nat → Bool} {n : Nat} : joinF D F G n = true ↔ ∃ a b, a < 2 ^ D ∧ b < 2 ^ D ∧ F a = true ∧ G b = true ∧ a ||| b = n := by
  unfold joinF
  rw [exF_iff]
  constructor
  · rintro ⟨a, ha, h⟩
    rw [Bool.and_eq_true, exF_iff] at h
    obtain ⟨hf, b, hb, h⟩ := h
    rw [Bool.and_eq_true] at h
    exact ⟨a, b, ha, hb, hf, h.1, of_decide_eq_true h.2⟩
  · rintro ⟨a, b, ha, hb, hf, hg, h⟩
    refine ⟨a, ha, ?_⟩
    rw [Bool.and_eq_true, exF_iff]
    refine ⟨hf, b, hb, ?_⟩
    rw [Bool.and_eq_true]
    exact ⟨hg, decide_eq_true h⟩
theorem half0_at {F : Nat → Bool} {a : Nat} (h : a % 2 = 0) : half0 F (a / 2) = F a := by unfold half0; rw [show 2 * (a / 2) = a by omega]
theorem half1_at {F : Nat → Bool} {a : Nat} (h : a % 2 = 1) : half1 F (a / 2) = F a := by unfold half1; rw [show 2 * (a / 2) + 1 = a by omega]
theorem lt_half {a D : Nat} (h : a < 2 ^ (D + 1)) : a / 2 < 2 ^ D := by rw [Nat.pow_succ] at h; omega
theorem lt_twice {a D : Nat} (h : a < 2 ^ D) : 2 * a < 2 ^ (D + 1) := by rw [Nat.pow_succ]; omega
theorem lt_twice1 {a D : Nat} (h : a < 2 ^ D) : 2 * a + 1 < 2 ^ (D + 1) := by rw [Nat.pow_succ]; omega
theorem joinF_0 (D : Nat) (F G : Nat → Bool) : half0 (joinF (D + 1) F G) = joinF D (half0 F) (half0 G) := by
  funext n
  rw [Bool.eq_iff_iff]
  show joinF (D + 1) F G (2 * n) = true ↔ _
  rw [joinF_iff, joinF_iff]
  constructor
  · rintro ⟨a, b, ha, hb, hf, hg, h⟩
    obtain ⟨a0, b0, h⟩ := or_eq_even.1 h
    exact ⟨a / 2, b / 2, lt_half ha, lt_half hb, (half0_at a0).trans hf, (half0_at b0).trans hg, h⟩
  · rintro ⟨a, b, ha, hb, hf, hg, h⟩
    exact ⟨2 * a, 2 * b, lt_twice ha, lt_twice hb, hf, hg, or_eq_even.2 ⟨by omega, by omega, by rw [show 2 * a / 2 = a by omega, show 2 * b / 2 = b by omega]; exact h⟩⟩
theorem joinF_1 (D : Nat) (F G : Nat → Bool) : half1 (joinF (D + 1) F G) = fun n => joinF D (half1 F) (half1 G) n || joinF D (half1 F) (half0 G) n || joinF D (half0 F) (half1 G) n := by
  funext n
  rw [Bool.eq_iff_iff, Bool.or_eq_true, Bool.or_eq_true]
  show joinF (D + 1) F G (2 * n + 1) = true ↔ _
  rw [joinF_iff, joinF_iff, joinF_iff, joinF_iff]
  constructor
  · rintro ⟨a, b, ha, hb, hf, hg, h⟩
    obtain ⟨hab, h⟩ := or_eq_odd.1 h
    by_cases a1 : a % 2 = 1
    · by_cases b1 : b % 2 = 1
      · exact .inl (.inl ⟨a / 2, b / 2, lt_half ha, lt_half hb, (half1_at a1).trans hf, (half1_at b1).trans hg, h⟩)
      · exact .inl (.inr ⟨a / 2, b / 2, lt_half ha, lt_half hb, (half1_at a1).trans hf, (half0_at (by omega)).trans hg, h⟩)
    · exact .inr ⟨a / 2, b / 2, lt_half ha, lt_half hb, (half0_at (by omega)).trans hf, (half1_at (by omega)).trans hg, h⟩
  · rintro ((⟨a, b, ha, hb, hf, hg, h⟩ | ⟨a, b, ha, hb, hf, hg, h⟩) | ⟨a, b, ha, hb, hf, hg, h⟩)
    · exact ⟨2 * a + 1, 2 * b + 1, lt_twice1 ha, lt_twice1 hb, hf, hg, or_eq_odd.2 ⟨.inl (by omega), by rw [show (2 * a + 1) / 2 = a by omega, show (2 * b + 1) / 2 = b by omega]; exact h⟩⟩
    · exact ⟨2 * a + 1, 2 * b, lt_twice1 ha, lt_twice hb, hf, hg, or_eq_odd.2 ⟨.inl (by omega), by rw [show (2 * a + 1) / 2 = a by omega, show 2 * b / 2 = b by omega]; exact h⟩⟩
    · exact ⟨2 * a, 2 * b + 1, lt_twice ha, lt_twice1 hb, hf, hg, or_eq_odd.2 ⟨.inr (by omega), by rw [show 2 * a / 2 = a by omega, show (2 * b + 1) / 2 = b by omega]; exact h⟩⟩
theorem joinF_nil0 (D : Nat) (G : Nat → Bool) : joinF D (fun _ => false) G = fun _ => false := by
  funext n
  rw [Bool.eq_false_iff]
  intro h
  obtain ⟨a, b, -, -, hf, -⟩ := joinF_iff.1 h
  cases hf
theorem joinF_nil1 (D : Nat) (F : Nat → Bool) : joinF D F (fun _ => false) = fun _ => false := by
  funext n
  rw [Bool.eq_false_iff]
  intro h
  obtain ⟨a, b, -, -, -, hg, -⟩ := joinF_iff.1 h
  cases hg
theorem joinF_comm (D : Nat) (F G : Nat → Bool) : joinF D F G = joinF D G F := by
  funext n
  rw [Bool.eq_iff_iff, joinF_iff, joinF_iff]
  constructor
  · rintro ⟨a, b, ha, hb, hf, hg, h⟩; exact ⟨b, a, hb, ha, hg, hf, by rw [Nat.or_comm]; exact h⟩
  · rintro ⟨a, b, ha, hb, hf, hg, h⟩; exact ⟨b, a, hb, ha, hg, hf, by rw [Nat.or_comm]; exact h⟩
/-- The members that hold none of another family. -/
def freeF (D : Nat) (F G : Nat → Bool) : Nat → Bool := fun n => F n && !exF D fun m => G m && decide (m ||| n = n)
theorem freeF_iff {D : Nat} {F G : Nat → Bool} {n : Nat} : freeF D F G n = true ↔ F n = true ∧ ∀ m, m < 2 ^ D → G m = true → m ||| n ≠ n := by
  unfold freeF
  rw [Bool.and_eq_true, Bool.not_eq_true', exF_not]
  constructor
  · rintro ⟨h1, h2⟩
    refine ⟨h1, fun m hm hg e => ?_⟩
    have := h2 m hm
    rw [hg, decide_eq_true e] at this
    cases this
  · rintro ⟨h1, h2⟩
    refine ⟨h1, fun m hm => ?_⟩
    cases hg : G m
    · rfl
    · rw [decide_eq_false (h2 m hm hg)]; rfl
theorem freeF_0 (D : Nat) (F G : Nat → Bool) : half0 (freeF (D + 1) F G) = freeF D (half0 F) (half0 G) := by
  funext n
  rw [Bool.eq_iff_iff]
  show freeF (D + 1) F G (2 * n) = true ↔ _
  rw [freeF_iff, freeF_iff]
  constructor
  · rintro ⟨h1, h2⟩
    refine ⟨h1, fun m hm hg e => h2 (2 * m) (lt_twice hm) hg (or_eq_even.2 ⟨by omega, by omega, ?_⟩)⟩
    rw [show 2 * m / 2 = m by omega, show 2 * n / 2 = n by omega]; exact e
  · rintro ⟨h1, h2⟩
    refine ⟨h1, fun m hm hg e => ?_⟩
    obtain ⟨m0, -, e⟩ := or_eq_even.1 e
    rw [show 2 * n / 2 = n by omega] at e
    exact h2 (m / 2) (lt_half hm) ((half0_at m0).trans hg) e
theorem freeF_1 (D : Nat) (F G : Nat → Bool) : half1 (freeF (D + 1) F G) = freeF D (freeF D (half1 F) (half0 G)) (half1 G) := by
  funext n
  rw [Bool.eq_iff_iff]
  show freeF (D + 1) F G (2 * n + 1) = true ↔ _
  rw [freeF_iff, freeF_iff, freeF_iff]
  constructor
  · rintro ⟨h1, h2⟩
    refine ⟨⟨h1, fun m hm hg e => h2 (2 * m) (lt_twice hm) hg (or_eq_odd.2 ⟨.inr (by omega), ?_⟩)⟩, fun m hm hg e => h2 (2 * m + 1) (lt_twice1 hm) hg (or_eq_odd.2 ⟨.inr (by omega), ?_⟩)⟩
    · rw [show 2 * m / 2 = m by omega, show (2 * n + 1) / 2 = n by omega]; exact e
    · rw [show (2 * m + 1) / 2 = m by omega, show (2 * n + 1) / 2 = n by omega]; exact e
  · rintro ⟨⟨h1, h2⟩, h3⟩
    refine ⟨h1, fun m hm hg e => ?_⟩
    obtain ⟨-, e⟩ := or_eq_odd.1 e
    rw [show (2 * n + 1) / 2 = n by omega] at e
    by_cases m1 : m % 2 = 1
    · exact h3 (m / 2) (lt_half hm) ((half1_at m1).trans hg) e
    · exact h2 (m / 2) (lt_half hm) ((half0_at (by omega)).trans hg) e
/-- The members that hold no other one. -/
def leastF (D : Nat) (F : Nat → Bool) : Nat → Bool := fun n => F n && !exF D fun m => F m && (!decide (m = n) && decide (m ||| n = n))
theorem leastF_iff {D : Nat} {F : Nat → Bool} {n : Nat} : leastF D F n = true ↔ F n = true ∧ ∀ m, m < 2 ^ D → F m = true → m ≠ n → m ||| n ≠ n := by
  unfold leastF
  rw [Bool.and_eq_true, Bool.not_eq_true', exF_not]
  constructor
  · rintro ⟨h1, h2⟩
    refine ⟨h1, fun m hm hg hne e => ?_⟩
    have := h2 m hm
    rw [hg, decide_eq_false hne, decide_eq_true e] at this
    cases this
  · rintro ⟨h1, h2⟩
    refine ⟨h1, fun m hm => ?_⟩
    cases hg : F m
    · rfl
    · by_cases hne : m = n
      · rw [decide_eq_true hne]; rfl
      · rw [decide_eq_false (h2 m hm hg hne)]; simp
theorem leastF_0 (D : Nat) (F : Nat → Bool) : half0 (leastF (D + 1) F) = leastF D (half0 F) := by
  funext n
  rw [Bool.eq_iff_iff]
  show leastF (D + 1) F (2 * n) = true ↔ _
  rw [leastF_iff, leastF_iff]
  constructor
  · rintro ⟨h1, h2⟩
    refine ⟨h1, fun m hm hg hne e => h2 (2 * m) (lt_twice hm) hg (by omega) (or_eq_even.2 ⟨by omega, by omega, ?_⟩)⟩
    rw [show 2 * m / 2 = m by omega, show 2 * n / 2 = n by omega]; exact e
  · rintro ⟨h1, h2⟩
    refine ⟨h1, fun m hm hg hne e => ?_⟩
    obtain ⟨m0, -, e⟩ := or_eq_even.1 e
    rw [show 2 * n / 2 = n by omega] at e
    exact h2 (m / 2) (lt_half hm) ((half0_at m0).trans hg) (by omega) e
theorem leastF_1 (D : Nat) (F : Nat → Bool) : half1 (leastF (D + 1) F) = freeF D (leastF D (half1 F)) (half0 F) := by
  funext n
  rw [Bool.eq_iff_iff]
  show leastF (D + 1) F (2 * n + 1) = true ↔ _
  rw [leastF_iff, freeF_iff, leastF_iff]
  constructor
  · rintro ⟨h1, h2⟩
    refine ⟨⟨h1, fun m hm hg hne e => h2 (2 * m + 1) (lt_twice1 hm) hg (by omega) (or_eq_odd.2 ⟨.inr (by omega), ?_⟩)⟩, fun m hm hg e => h2 (2 * m) (lt_twice hm) hg (by omega) (or_eq_odd.2 ⟨.inr (by omega), ?_⟩)⟩
    · rw [show (2 * m + 1) / 2 = m by omega, show (2 * n + 1) / 2 = n by omega]; exact e
    · rw [show 2 * m / 2 = m by omega, show (2 * n + 1) / 2 = n by omega]; exact e
  · rintro ⟨⟨h1, h2⟩, h3⟩
    refine ⟨h1, fun m hm hg hne e => ?_⟩
    obtain ⟨-, e⟩ := or_eq_odd.1 e
    rw [show (2 * n + 1) / 2 = n by omega] at e
    by_cases m1 : m % 2 = 1
    · exact h2 (m / 2) (lt_half hm) ((half1_at m1).trans hg) (by omega) e
    · exact h3 (m / 2) (lt_half hm) ((half0_at (by omega)).trans hg) e
/-- The members that have an item, without it; and those that don't. -/
def withF (i : Nat) (F : Nat → Bool) : Nat → Bool := fun n => !n.testBit i && F (n + 2 ^ i)
def lackF (i : Nat) (F : Nat → Bool) : Nat → Bool := fun n => !n.testBit i && F n
theorem bit_even (n i : Nat) : (2 * n).testBit (i + 1) = n.testBit i := by rw [Nat.testBit_succ, show 2 * n / 2 = n by omega]
theorem bit_odd (n i : Nat) : (2 * n + 1).testBit (i + 1) = n.testBit i := by rw [Nat.testBit_succ, show (2 * n + 1) / 2 = n by omega]
theorem withF_s0 (i : Nat) (F : Nat → Bool) : half0 (withF (i + 1) F) = withF i (half0 F) := by
  funext n
  unfold half0 withF
  rw [bit_even, show 2 * n + 2 ^ (i + 1) = 2 * (n + 2 ^ i) by rw [Nat.pow_succ]; omega]
theorem withF_s1 (i : Nat) (F : Nat → Bool) : half1 (withF (i + 1) F) = withF i (half1 F) := by
  funext n
  unfold half1 withF
  rw [bit_odd, show 2 * n + 1 + 2 ^ (i + 1) = 2 * (n + 2 ^ i) + 1 by rw [Nat.pow_succ]; omega]
theorem lackF_s0 (i : Nat) (F : Nat → Bool) : half0 (lackF (i + 1) F) = lackF i (half0 F) := by
  funext n
  unfold half0 lackF
  rw [bit_even]
theorem lackF_s1 (i : Nat) (F : Nat → Bool) : half1 (lackF (i + 1) F) = lackF i (half1 F) := by
  funext n
  unfold half1 lackF
  rw [bit_odd]
/-- How many members a join has at most. -/
theorem cF_join : ∀ (D : Nat) (F G : Nat → Bool), cF D (joinF D F G) ≤ cF D F * cF D G
  | 0, F, G => by
    rw [cF, cF, cF]
    cases h : joinF 0 F G 0
    · simp
    · obtain ⟨a, b, ha, hb, hf, hg, -⟩ := joinF_iff.1 h
      have a0 : a = 0 := by rw [Nat.pow_zero] at ha; omega
      have b0 : b = 0 := by rw [Nat.pow_zero] at hb; omega
      subst a0; subst b0
      rw [hf, hg]
      simp
  | D + 1, F, G => by
    have e1 : cF (D + 1) (joinF (D + 1) F G) = cF D (half0 (joinF (D + 1) F G)) + cF D (half1 (joinF (D + 1) F G)) := rfl
    rw [e1, joinF_0, joinF_1]
    have h00 := cF_join D (half0 F) (half0 G)
    have h11 := cF_join D (half1 F) (half1 G)
    have h10 := cF_join D (half1 F) (half0 G)
    have h01 := cF_join D (half0 F) (half1 G)
    have o1 := cF_or D (fun n => joinF D (half1 F) (half1 G) n || joinF D (half1 F) (half0 G) n) (joinF D (half0 F) (half1 G))
    have o2 := cF_or D (joinF D (half1 F) (half1 G)) (joinF D (half1 F) (half0 G))
    have eF : cF (D + 1) F = cF D (half0 F) + cF D (half1 F) := rfl
    have eG : cF (D + 1) G = cF D (half0 G) + cF D (half1 G) := rfl
    rw [eF, eG, Nat.add_mul, Nat.mul_add, Nat.mul_add]
    omega

theorem bit_sub {x i : Nat} (h : x.testBit i = true) : (x - 2 ^ i).testBit i = false ∧ x - 2 ^ i + 2 ^ i = x := by
  have hle := bit_le h
  have e : x - 2 ^ i + 2 ^ i = x := by omega
  refine ⟨?_, e⟩
  have h2 := Nat.testBit_two_pow_add_eq (x - 2 ^ i) i
  rw [Nat.add_comm, e, h] at h2
  cases hb : (x - 2 ^ i).testBit i
  · rfl
  · rw [hb] at h2; cases h2
theorem bit_add {y i : Nat} (h : y.testBit i = false) : (y + 2 ^ i).testBit i = true := by
  have h2 := Nat.testBit_two_pow_add_eq y i
  rw [Nat.add_comm, h] at h2
  exact h2
end Go.Proofs.YtehpccanjlaokaaGreat
namespace Go.Proofs.YtehpccanjlaokaaGreat
open Go.RowKit Go.Joins

/-- w' has what w has, but for arenas' own blocks, the cells of C, the maps of M; and all of N. -/
structure Kz (C M N : Nat → Prop) (w w' : World) : Prop where
  os : w'.os = w.os
  tape : w'.tape = w.tape
  output : w'.output = w.output
  size : w.heap.size ≤ w'.heap.size
  cells : ∀ (k : Nat) (A : Array Value) (T : TypeId) (z : Nat × Nat), w.heap[k]? = some (.cells A T z) → T ≠ 83 → T ≠ 170 → ¬ C k → w'.heap[k]? = some (.cells A T z)
  maps : ∀ (k : Nat) es cl, w.heap[k]? = some (.map es cl) → ¬ M k → w'.heap[k]? = some (.map es cl)
  prot : ∀ k, N k → k < w.heap.size → w'.heap[k]? = w.heap[k]?
theorem nowz1 {w : World} {b : Nat} {T : TypeId} {C : Array Value} {x0 : Value} (h : w.heap[b]? = some (.cells C T (0, 0))) (hC : C = #[x0]) :
    w.cell? ⟨b, 0, none⟩ = some x0 ∧ (∀ j : Nat, w.frozen? ⟨b, j, none⟩ = false) := by
  subst hC
  exact ⟨by rw [cell_of_block h]; rfl, unfrozen_of_block h⟩
theorem boxz1 {w : World} {b : Nat} {T : TypeId} {C : Array Value} {x0 : Value} (h : w.heap[b]? = some (.cells C T (0, 0))) (hC : C = #[x0]) :
    (∀ x : After w, x.1.cell? ⟨b, 0, none⟩ = some x0) ∧ (∀ (x : After w) (j : Nat), x.1.frozen? ⟨b, j, none⟩ = false) := by
  subst hC
  exact ⟨fun x => (nowz1 (After.same x h) rfl).1, fun x => (nowz1 (After.same x h) rfl).2⟩
abbrev no8 : Nat → Prop := fun _ => False
theorem Kz.refl (C M N : Nat → Prop) (w : World) : Kz C M N w w := ⟨rfl, rfl, rfl, Nat.le_refl _, fun _ _ _ _ h _ _ _ => h, fun _ _ _ h _ => h, fun _ _ _ => rfl⟩
theorem Kz.trans {C M N : Nat → Prop} {a b c : World} (h : Kz C M N a b) (k : Kz C M N b c) : Kz C M N a c :=
  ⟨k.os.trans h.os, k.tape.trans h.tape, k.output.trans h.output, Nat.le_trans h.size k.size, fun i A T z hi h1 h2 hC => k.cells i A T z (h.cells i A T z hi h1 h2 hC) h1 h2 hC, fun i es cl hi hn => k.maps i es cl (h.maps i es cl hi hn) hn, fun i hN hi => (k.prot i hN (Nat.lt_of_lt_of_le hi h.size)).trans (h.prot i hN hi)⟩
theorem Kz.of_below {C M N : Nat → Prop} {w w' : World} (h : Below w.heap.size w w') : Kz C M N w w' :=
  ⟨h.os, h.tape, h.output, h.size, fun _ _ _ _ hi _ _ _ => keep_blk h hi, fun _ _ _ hi _ => keep_blk h hi, fun k _ hk => h.block k hk⟩
theorem Kz.more {C M N : Nat → Prop} {a w w' : World} (h : Kz C M N a w) (k : Below w.heap.size w w') : Kz C M N a w' := h.trans (Kz.of_below k)
theorem Kz.mono {C M N C' M' N' : Nat → Prop} {w w' : World} (h : Kz C M N w w') (hC : ∀ k, C k → C' k) (hM : ∀ k, M k → M' k) (hN : ∀ k, N' k → N k) : Kz C' M' N' w w' :=
  ⟨h.os, h.tape, h.output, h.size, fun k A T z hk h1 h2 hn => h.cells k A T z hk h1 h2 fun c => hn (hC k c), fun k es cl hk hn => h.maps k es cl hk fun m => hn (hM k m), fun k hk => h.prot k (hN k hk)⟩
/-- What is new to the world may be written. -/
theorem Kz.fresh {C M N C' M' : Nat → Prop} {w w' : World} (h : Kz C M N w w') (hC : ∀ k, C k → C' k ∨ w.heap.size ≤ k) (hM : ∀ k, M k → M' k ∨ w.heap.size ≤ k) : Kz C' M' N w w' :=
  ⟨h.os, h.tape, h.output, h.size, fun k A T z hk h1 h2 hn => h.cells k A T z hk h1 h2 fun c => by rcases hC k c with a | a; exact hn a; have := size_of_block hk; omega, fun k es cl hk hn => h.maps k es cl hk fun m => by rcases hM k m with a | a; exact hn a; have := size_of_block hk; omega, h.prot⟩
theorem Kz.below {C M : Nat → Prop} {B : Nat} {w w' : World} (h : Kz C M (· < B) w w') (hB : B ≤ w.heap.size) : Below B w w' :=
  ⟨h.os, h.tape, h.output, h.size, fun k hk => h.prot k hk (Nat.lt_of_lt_of_le hk hB)⟩
theorem Kz.of_off {C N : Nat → Prop} {w w' : World} {B ab bm : Nat} {v : Value} {room full : Nat} {S : St} (h : ArAt w B ab bm v room full S) (hN : ∀ k, N k → k < w.heap.size ∧ ¬ Fp ab bm v k) (ho : Off (Fp ab bm v) w w') : Kz C (· = bm) N w w' :=
  ⟨ho.os, ho.tape, ho.output, ho.size, fun _ _ _ _ hi h1 h2 _ => h.keep ho hi h1 h2, fun k _ _ hi hn => (ho.block k (size_of_block hi) (h.not_fp_map hi hn)).trans hi, fun k hk hl => ho.block k hl (hN k hk).2⟩
/-- An arena whose blocks are as they were. -/
theorem ArAt.same {w w' : World} {B ab bm : Nat} {v : Value} {room full : Nat} {S : St} (h : ArAt w B ab bm v room full S) (hk : ∀ k, Fp ab bm v k → k < w.heap.size → w'.heap[k]? = w.heap[k]?) : ArAt w' B ab bm v room full S :=
  ⟨h.base, (hk ab (.inl rfl) h.lt.2.1).trans h.head, own_keep h.rows (fun g hv _ hl => hk g (.inr (.inr hv)) hl), h.ids.keep (hk bm (.inr (.inl rfl)) h.lt.2.2)⟩
theorem ArAt.fp_lt {w : World} {B ab bm : Nat} {v : Value} {room full : Nat} {S : St} (h : ArAt w B ab bm v room full S) (k : Nat) (hk : Fp ab bm v k) : k < w.heap.size := by
  rcases hk with rfl | rfl | hk
  · exact h.lt.2.1
  · exact h.lt.2.2
  · exact (h.rows.lt k hk).2
/-- The ids have no gaps. -/
def Gap (S : St) : Prop := ∀ (i : Nat) (n : Nd), S[i]? = some (some n) → ∀ j, j < i → ∃ m, S[j]? = some (some m)
theorem Gap.nil : Gap [] := fun i n h => by simp at h
theorem Gap.made {S : St} (h : Gap S) (room : Nat) (n : Nd) : Gap (mkS room S n).1 := by
  unfold mkS
  split
  · exact h
  · split
    · exact h
    · split
      · exact h
      · intro i m hi j hj
        simp only at hi ⊢
        by_cases e : i = freeI S
        · subst e
          obtain ⟨m', hm'⟩ := freeI_before hj
          exact ⟨m', (putS_other (by omega) (freeI_le S)).trans hm'⟩
        · rw [putS_other e (freeI_le S)] at hi
          obtain ⟨m', hm'⟩ := h i m hi j hj
          by_cases e2 : j = freeI S
          · exact absurd hm' (by rw [e2]; exact free_not m')
          · exact ⟨m', (putS_other e2 (freeI_le S)).trans hm'⟩
theorem Gap.iff : ∀ {S : St}, Gap S → ∀ j, (∃ n, S[j]? = some (some n)) ↔ j < cnt S
  | [], _, j => by simp [cnt]
  | none :: S, h, j => by
    have hno : ∀ (i : Nat) (n : Nd), (none :: S)[i]? ≠ some (some n) := fun i n hi => by
      cases i with
      | zero => simp at hi
      | succ i =>
        obtain ⟨m, hm⟩ := h (i + 1) n hi 0 (by omega)
        simp at hm
    have hc : cnt (none :: S) = 0 := by
      unfold cnt
      rw [List.countP_eq_zero]
      intro o ho hs
      obtain ⟨i, hi, e⟩ := List.mem_iff_getElem.1 ho
      obtain ⟨n, rfl⟩ := Option.isSome_iff_exists.1 hs
      exact hno i n (by rw [List.getElem?_eq_getElem hi, e])
    rw [hc]
    exact ⟨fun ⟨n, hn⟩ => absurd hn (hno j n), fun h => by omega⟩
  | some m :: S, h, j => by
    have hS : Gap S := fun i n hi j hj => by
      have := h (i + 1) n (by simpa using hi) (j + 1) (by omega)
      simpa using this
    have ih := Gap.iff hS
    have hc : cnt (some m :: S) = cnt S + 1 := by unfold cnt; simp
    rw [hc]
    cases j with
    | zero => exact ⟨fun _ => by omega, fun _ => ⟨m, rfl⟩⟩
    | succ j =>
      have := ih j
      simp only [List.getElem?_cons_succ]
      rw [this]
      omega
/-- A diagram in memory, with all that holds of it; what is kept from it: N. -/
structure ZdAt (w : World) (N : Nat → Prop) (zb ab bm : Nat) (v : Value) (room full : Nat) (S : St) : Prop where
  head : w.heap[zb]? = some (.cells #[.pointer (some ⟨ab, 0, none⟩)] 47 (0, 0))
  ar : ArAt w 0 ab bm v room full S
  ok : ArOk room full S
  zst : ZSt S
  gap : Gap S
  off : ∀ k, N k → k < w.heap.size ∧ ¬ Fp ab bm v k
theorem Tryz.neZddA : (47 : TypeId) ≠ 83 := by decide
theorem Tryz.neZddS : (47 : TypeId) ≠ 170 := by decide
theorem ZdAt.max {w : World} {N : Nat → Prop} {zb ab bm : Nat} {v : Value} {room full : Nat} {S : St} (h : ZdAt w N zb ab bm v room full S) : S.length ≤ 20000 := by have := h.ok.len; have := h.ok.max; omega
theorem ZdAt.below {w w' : World} {N : Nat → Prop} {zb ab bm : Nat} {v : Value} {room full : Nat} {S : St} (h : ZdAt w N zb ab bm v room full S) (hb : Below w.heap.size w w') : ZdAt w' N zb ab bm v room full S :=
  ⟨keep_blk hb h.head, h.ar.below hb, h.ok, h.zst, h.gap, fun k hk => ⟨Nat.lt_of_lt_of_le (h.off k hk).1 hb.size, (h.off k hk).2⟩⟩
theorem ZdAt.fewer {w : World} {N N' : Nat → Prop} {zb ab bm : Nat} {v : Value} {room full : Nat} {S : St} (h : ZdAt w N zb ab bm v room full S) (hN : ∀ k, N' k → N k) : ZdAt w N' zb ab bm v room full S :=
  ⟨h.head, h.ar, h.ok, h.zst, h.gap, fun k hk => h.off k (hN k hk)⟩
/-- Its own blocks are among those that are kept. -/
theorem ZdAt.same {C M N' : Nat → Prop} {w w' : World} {N : Nat → Prop} {zb ab bm : Nat} {v : Value} {room full : Nat} {S : St} (h : ZdAt w N zb ab bm v room full S) (k : Kz C M N' w w') (hC : ¬ C zb) (hN : ∀ k, Fp ab bm v k → N' k) : ZdAt w' N zb ab bm v room full S :=
  ⟨k.cells _ _ _ _ h.head Tryz.neZddA Tryz.neZddS hC, h.ar.same (fun i hi hl => k.prot i (hN i hi) hl), h.ok, h.zst, h.gap, fun i hi => ⟨Nat.lt_of_lt_of_le (h.off i hi).1 k.size, (h.off i hi).2⟩⟩
theorem used8 {S : St} {id : Int} (h : 0 ≤ lvl S id) : usedB S id = true := decide_eq_true h
/-- The lowest item of a family; of an end: 24. -/
theorem zlevel_any {w : World} {N : Nat → Prop} {zb ab bm : Nat} {v : Value} {room full : Nat} {S : St} (h : ZdAt w N zb ab bm v room full S) (id : Int) (h0 : 0 ≤ lvl S id) :
    Calls Tryz.prog 150 #[.pointer (some ⟨zb, 0, none⟩), .int .i64 id] w fun e w' => e = .returned (.int .i64 (lvl S id)) ∧ Below w.heap.size w w' := by
  have HN := node_any h.ar h.max id
  obtain ⟨c0, cf⟩ := nowz1 h.head rfl
  cases hn : ndAt S id with
  | some m =>
    rw [hn] at HN
    unfold ndT at HN
    have hR : Hid (lvl S id = m.1) := Lib.hid (lvl_node hn)
    clear hn h0
    go_enter Tryz.func150, Tryz.ntmps150
    go_wp2_with fail
    refine HN.mono ?_
    rintro e w1 ⟨rfl, hb1⟩
    go_wp2
    go_ret
    exact ⟨by rw [hR.out]; rfl, hb1⟩
  | none =>
    rw [hn] at HN
    unfold ndT at HN
    have hR : Hid (lvl S id = 24) := Lib.hid (by
      by_cases he : id = 0 ∨ id = 1
      · exact lvl_end he
      · rw [lvl_not he hn] at h0; omega)
    clear hn h0
    go_enter Tryz.func150, Tryz.ntmps150
    go_wp2_with fail
    refine HN.mono ?_
    rintro e w1 ⟨rfl, hb1⟩
    go_wp2
    go_ret
    exact ⟨by rw [hR.out]; rfl, hb1⟩
/-- The halves of an id by an item. -/
def hv (S : St) (id i : Int) : Int × Int := match ndAt S id with
  | some m => if m.1 = i then (m.2.1, m.2.2) else (id, 0)
  | none => (id, 0)
theorem zhalves_any {w : World} {N : Nat → Prop} {zb ab bm : Nat} {v : Value} {room full : Nat} {S : St} (h : ZdAt w N zb ab bm v room full S) (id i : Int) :
    Calls Tryz.prog 151 #[.pointer (some ⟨zb, 0, none⟩), .int .i64 id, .int .i64 i] w fun e w' => e = .returned (.tuple #[.int .i64 (hv S id i).1, .int .i64 (hv S id i).2]) ∧ Below w.heap.size w w' := by
  have HN := node_any h.ar h.max id
  obtain ⟨c0, cf⟩ := nowz1 h.head rfl
  cases hn : ndAt S id with
  | some m =>
    rw [hn] at HN
    unfold ndT at HN
    by_cases hm : m.1 = i
    · have hmb : (m.1 == i) = true := by simp [hm]
      have hR : Hid (hv S id i = (m.2.1, m.2.2)) := Lib.hid (by unfold hv; rw [hn]; exact if_pos hm)
      clear hn hm
      go_enter Tryz.func151, Tryz.ntmps151
      go_wp2_with fail
      refine HN.mono ?_
      rintro e w1 ⟨rfl, hb1⟩
      go_wp2
      go_ret2
      exact ⟨by rw [hR.out]; rfl, hb1⟩
    · have hmb : (m.1 == i) = false := by simpa using hm
      have hR : Hid (hv S id i = (id, 0)) := Lib.hid (by unfold hv; rw [hn]; exact if_neg hm)
      clear hn hm
      go_enter Tryz.func151, Tryz.ntmps151
      go_wp2_with fail
      refine HN.mono ?_
      rintro e w1 ⟨rfl, hb1⟩
      go_wp2
      go_ret2
      exact ⟨by rw [hR.out]; rfl, hb1⟩
  | none =>
    rw [hn] at HN
    unfold ndT at HN
    have hR : Hid (hv S id i = (id, 0)) := Lib.hid (by unfold hv; rw [hn])
    clear hn
    go_enter Tryz.func151, Tryz.ntmps151
    go_wp2_with fail
    refine HN.mono ?_
    rintro e w1 ⟨rfl, hb1⟩
    go_wp2
    go_ret2
    exact ⟨by rw [hR.out]; rfl, hb1⟩
theorem zuses_any {w : World} {N : Nat → Prop} {zb ab bm : Nat} {v : Value} {room full : Nat} {S : St} (h : ZdAt w N zb ab bm v room full S) (ib cp : Nat) (ids : List Int) (hl : ids.length ≤ 3) (hi : ∀ j x, ids[j]? = some x → w.cell? ⟨ib, j, none⟩ = some (.int .i64 x)) :
    Calls Tryz.prog 33 #[.pointer (some ⟨zb, 0, none⟩), .slice (some ⟨ib, 0, none⟩) ids.length cp] w fun e w' => e = .returned (.bool (ids.all (usedB S))) ∧ Below w.heap.size w w' := by
  have hV := h.zst.vst
  have hT : Hid (∀ k, k = ids.length → (ids.take k).all (usedB S) = true → ids.all (usedB S) = true) := Lib.hid (fun k hk hh => by rw [hk, List.take_length] at hh; exact hh)
  go_enter Tryz.func33, Tryz.ntmps33
  go_wp2
  go_loopw [15] (fun t wr => ∃ k : Nat, k ≤ ids.length ∧ t = .int .i64 k ∧ Hid ((ids.take k).all (usedB S) = true) ∧ Below w.heap.size w wr) (fun t _ => ids.length - (intOf t).toNat)
  case atStart => exact ⟨0, by omega, rfl, Lib.hid (by simp), Below.refl _ _⟩
  case round =>
    obtain ⟨k, hk, rfl, hall, hb⟩ := hrel
    have hr := h.below hb
    obtain ⟨c0, cf⟩ := nowz1 hr.head rfl
    by_cases hlt : k < ids.length
    · obtain ⟨x, hx⟩ : ∃ x, ids[k]? = some x := ⟨_, List.getElem?_eq_getElem hlt⟩
      have q := After.cell ⟨wr, hb⟩ (hi k x hx)
      dsimp only at q
      have HN := node_any hr.ar hr.max x
      have hsucc : Hid (∀ u, usedB S x = u → (ids.take (k + 1)).all (usedB S) = u) := Lib.hid (fun u hu => by rw [List.take_add_one, hx, List.all_append, hall.out]; simp [hu])
      have hbad : Hid (usedB S x = false → ids.all (usedB S) = false) := Lib.hid (fun hu => by
        rw [List.all_eq_false]
        exact ⟨x, List.mem_of_getElem? hx, by rw [hu]; decide⟩)
      clear hx hi
      rcases used_cases hV x with ⟨m, hn, hu, h0, h1⟩ | ⟨hn, hu⟩
      · rw [hn] at HN
        unfold ndT at HN
        clear hn
        go_wp2_with fail
        refine HN.mono ?_
        rintro e w1 ⟨rfl, hb1⟩
        go_wp2
        go_roundw
        case rel => exact ⟨k + 1, by omega, by go_num, Lib.hid (hsucc.out true hu), hb.trans (hb1.mono hb.size)⟩
        case measure => simp [intOf]; omega
      · rw [hn] at HN
        unfold ndT at HN
        clear hn
        by_cases h0 : x = 0
        · have hu' : usedB S x = true := by rw [hu, h0]; decide
          have b0 : (x != 0) = false := by rw [h0]; rfl
          clear h0 hu
          go_wp2_with fail
          refine HN.mono ?_
          rintro e w1 ⟨rfl, hb1⟩
          go_wp2
          go_roundw
          case rel => exact ⟨k + 1, by omega, by go_num, Lib.hid (hsucc.out true hu'), hb.trans (hb1.mono hb.size)⟩
          case measure => simp [intOf]; omega
        · have b0 : (x != 0) = true := by simpa using h0
          by_cases h1 : x = 1
          · have hu' : usedB S x = true := by rw [hu, h1]; decide
            have b1 : (x != 1) = false := by rw [h1]; rfl
            clear h0 h1 hu
            go_wp2_with fail
            refine HN.mono ?_
            rintro e w1 ⟨rfl, hb1⟩
            go_wp2
            go_roundw
            case rel => exact ⟨k + 1, by omega, by go_num, Lib.hid (hsucc.out true hu'), hb.trans (hb1.mono hb.size)⟩
            case measure => simp [intOf]; omega
          · have hu' : usedB S x = false := by rw [hu]; simp [h0, h1]
            have b1 : (x != 1) = true := by simpa using h1
            clear h0 h1 hu
            go_wp2_with fail
            refine HN.mono ?_
            rintro e w1 ⟨rfl, hb1⟩
            go_wp2
            go_ret
            exact ⟨by rw [hbad.out hu']; rfl, hb.trans (hb1.mono hb.size)⟩
    · have hd := Lib.hid (hT.out k (by omega) hall.out)
      go_wp2
      go_ret
      exact ⟨by rw [hd.out]; rfl, hb⟩
end Go.Proofs.YtehpccanjlaokaaGreat
