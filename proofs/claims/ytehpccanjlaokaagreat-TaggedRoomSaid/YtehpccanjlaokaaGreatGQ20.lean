/- The families of a set's primes at each input, plain: what is made of both halves; how many members they have, and how many nodes they need. What a cube grows to, plain; the document's own Grow of layer 9. -/
import Derived.Test.YtehpccanjlaokaaGreatGQ17
import Derived.Test.YtehpccanjlaokaaGreatGQ19
import Derived.Test.YtehpccanjlaokaaGreatGQ08
namespace Go.Proofs.YtehpccanjlaokaaGreat

/-- The members of the primes of S from input i on, n inputs: no point of S has a bit of those before. -/
def FI (n i : Nat) (S : BitVec 256) (x : Nat) : Bool := decide (x % 4 ^ i = 0) && FP (n - i) (fun p => S.getLsbD (p * 2 ^ i)) (x / 4 ^ i)
theorem FI_zero (n : Nat) (S : BitVec 256) : FI n 0 S = FP n fun p => S.getLsbD p := by
  funext x
  unfold FI
  rw [Nat.pow_zero, Nat.mod_one, Nat.div_one, decide_eq_true rfl, Bool.true_and, Nat.sub_zero]
  congr 1
  funext p
  rw [Nat.mul_one]
theorem FI_end (n : Nat) (S : BitVec 256) (x : Nat) : FI n n S x = (decide (x = 0) && S.getLsbD 0) := by
  unfold FI
  rw [Nat.sub_self, FP, Nat.zero_mul, ← Bool.and_assoc, Bool.eq_iff_iff]
  simp only [Bool.and_eq_true, decide_eq_true_eq]
  have hq : 0 < 4 ^ n := Nat.pow_pos (by decide)
  constructor
  · rintro ⟨⟨h1, h2⟩, h3⟩
    refine ⟨?_, h3⟩
    have := Nat.div_add_mod x (4 ^ n)
    rw [h1, h2, Nat.mul_zero] at this
    exact this.symm
  · rintro ⟨rfl, h3⟩
    exact ⟨⟨Nat.zero_mod _, Nat.zero_div _⟩, h3⟩
theorem bothS_none : bothS (fun _ => false) = fun _ => false := rfl
theorem FP_none : ∀ (k : Nat) (x : Nat), FP k (fun _ => false) x = false
  | 0, x => by rw [FP]; simp
  | k + 1, x => by
    have h0 : half0 (fun _ => false) = fun _ => false := rfl
    have h1 : half1 (fun _ => false) = fun _ => false := rfl
    rw [FP, bothS_none, h0, h1]
    simp only [FP_none k, Bool.false_and]
    split
    · rfl
    · split
      · rfl
      · split <;> rfl
theorem FI_none (n i : Nat) : FI n i 0 = fun _ => false := by
  funext x
  unfold FI
  have : (fun p => (0 : BitVec 256).getLsbD (p * 2 ^ i)) = fun _ => false := by funext p; simp
  rw [this, FP_none, Bool.and_false]
/-- The points with a literal 1 of input i, without its bit. -/
def loB (S : BitVec 256) (i : Nat) : BitVec 256 := bvOf fun p => !p.testBit i && S.getLsbD (p + 2 ^ i)
/-- No point has a bit of the inputs before i. -/
def LowI (n i : Nat) (S : BitVec 256) : Prop := ∀ p, S.getLsbD p = true → p < 2 ^ n ∧ p % 2 ^ i = 0
theorem bit_mul (p i : Nat) : (p * 2 ^ (i + 1)).testBit i = false := by
  rw [Nat.testBit_eq_decide_div_mod_eq, Nat.pow_succ, ← Nat.mul_assoc, Nat.mul_right_comm, Nat.mul_div_cancel _ (Nat.two_pow_pos i)]
  simp
theorem half_bit {S : BitVec 256} {i p : Nat} (hi : i < 8) (b : Bool) (hp : p < 256) : (halfB S i b).getLsbD p = (S.getLsbD p && (p.testBit i == b)) := by
  have h := half_flags S i b hi
  rw [← h, bvOf_bit, gk_all _ _ _ _ hp]
  simp [hp]
theorem half_bit0 {S : BitVec 256} {i : Nat} (hi : i < 8) (q : Nat) : (halfB S i false).getLsbD (q * 2 ^ (i + 1)) = S.getLsbD (q * 2 ^ (i + 1)) := by
  by_cases hp : q * 2 ^ (i + 1) < 256
  · rw [half_bit hi _ hp, bit_mul]; simp
  · rw [BitVec.getLsbD_of_ge _ _ (by omega), BitVec.getLsbD_of_ge _ _ (by omega)]
theorem lo_bit {S : BitVec 256} {i : Nat} (q : Nat) : (loB S i).getLsbD (q * 2 ^ (i + 1)) = S.getLsbD (q * 2 ^ (i + 1) + 2 ^ i) := by
  unfold loB
  rw [bvOf_bit, bit_mul]
  have hle : q * 2 ^ (i + 1) ≤ q * 2 ^ (i + 1) + 2 ^ i := Nat.le_add_right _ _
  by_cases hp : q * 2 ^ (i + 1) < 256
  · simp [hp]
  · rw [BitVec.getLsbD_of_ge _ (q * 2 ^ (i + 1) + 2 ^ i) (Nat.le_trans (by omega) hle)]
    simp [hp]
theorem low_zero {n i : Nat} {S : BitVec 256} (hn : n ≤ 8) (hi : i < n) (h : LowI n i S) : LowI n (i + 1) (halfB S i false) := fun p hp => by
  have hlt : p < 256 := by
    rcases Nat.lt_or_ge p 256 with k | k
    · exact k
    · rw [BitVec.getLsbD_of_ge _ p k] at hp; cases hp
  rw [half_bit (by omega) _ hlt, Bool.and_eq_true] at hp
  obtain ⟨h1, h2⟩ := h p hp.1
  refine ⟨h1, ?_⟩
  have hb : p.testBit i = false := by simpa using hp.2
  rw [Nat.testBit_eq_decide_div_mod_eq] at hb
  have hb := of_decide_eq_false hb
  rw [Nat.pow_succ, Nat.mod_mul, h2, show p / 2 ^ i % 2 = 0 by omega, Nat.mul_zero]
theorem low_one {n i : Nat} {S : BitVec 256} (h : LowI n i S) : LowI n (i + 1) (loB S i) := fun p hp => by
  unfold loB at hp
  rw [bvOf_bit, Bool.and_eq_true, Bool.and_eq_true] at hp
  obtain ⟨-, hb, hs⟩ := hp
  obtain ⟨h1, h2⟩ := h _ hs
  refine ⟨by omega, ?_⟩
  have hb : p.testBit i = false := by simpa using hb
  rw [Nat.testBit_eq_decide_div_mod_eq] at hb
  have hb := of_decide_eq_false hb
  rw [Nat.add_mod_right] at h2
  rw [Nat.pow_succ, Nat.mod_mul, h2, show p / 2 ^ i % 2 = 0 by omega, Nat.mul_zero]
theorem lowI_and {n i : Nat} {S T : BitVec 256} (h : LowI n i S) : LowI n i (S &&& T) := fun p hp => by
  rw [BitVec.getLsbD_and, Bool.and_eq_true] at hp
  exact h p hp.1
/-- A family with one more item in each member. -/
def itemF (t : Nat) (F : Nat → Bool) : Nat → Bool := fun x => decide (2 ^ t ≤ x) && F (x - 2 ^ t)
theorem join_add {F : Nat → Bool} {t : Nat} (ht : t < 24) (hF : ∀ x, F x = true → x < 2 ^ 24 ∧ x % 2 ^ (t + 1) = 0) : joinF 24 F (rowF [2 ^ t]) = itemF t F := by
  have hor : ∀ a, a % 2 ^ (t + 1) = 0 → a ||| 2 ^ t = a + 2 ^ t := fun a ha => by
    have e : a = 2 ^ (t + 1) * (a / 2 ^ (t + 1)) := by have := Nat.div_add_mod a (2 ^ (t + 1)); omega
    rw [e, ← Nat.two_pow_add_eq_or_of_lt (by rw [Nat.pow_succ]; have := Nat.two_pow_pos t; omega)]
  funext x
  rw [Bool.eq_iff_iff, joinF_iff]
  unfold itemF rowF
  rw [Bool.and_eq_true, decide_eq_true_iff]
  constructor
  · rintro ⟨a, b, -, -, hf, hb, h⟩
    have hb := of_decide_eq_true hb
    rw [List.mem_singleton] at hb
    subst hb
    rw [hor a (hF a hf).2] at h
    exact ⟨by omega, by rw [← h, Nat.add_sub_cancel]; exact hf⟩
  · rintro ⟨h1, h2⟩
    obtain ⟨h3, h4⟩ := hF _ h2
    refine ⟨x - 2 ^ t, 2 ^ t, h3, Nat.pow_lt_pow_right (by decide) ht, h2, decide_eq_true (List.mem_singleton.2 rfl), ?_⟩
    rw [hor _ h4]
    omega
theorem op2_less (F G : Nat → Bool) : op2F 2 F G = fun x => F x && !G x := by funext x; unfold op2F op2; rw [if_neg (by omega), if_neg (by omega)]
theorem op2_or (F G : Nat → Bool) : op2F 0 F G = fun x => F x || G x := by funext x; unfold op2F op2; rw [if_pos rfl]
theorem four_two (i : Nat) : 4 ^ i = 2 ^ (2 * i) := by rw [Nat.pow_mul]
/-- What is prime in one half alone, and what is prime in what both have. -/
theorem FI_step {n i : Nat} {S : BitVec 256} (h8 : n ≤ 8) (hi : i < n) :
    op2F 0 (itemF (2 * i + 1) (op2F 2 (FI n (i + 1) (loB S i)) (FI n (i + 1) (halfB S i false &&& loB S i)))) (op2F 0 (itemF (2 * i) (op2F 2 (FI n (i + 1) (halfB S i false)) (FI n (i + 1) (halfB S i false &&& loB S i)))) (FI n (i + 1) (halfB S i false &&& loB S i))) = FI n i S := by
  obtain ⟨k, rfl⟩ : ∃ k, n = i + (k + 1) := ⟨n - i - 1, by omega⟩
  have hk : i + (k + 1) - (i + 1) = k := by omega
  have hk1 : i + (k + 1) - i = k + 1 := by omega
  have e0 : (fun p => (halfB S i false).getLsbD (p * 2 ^ (i + 1))) = half0 fun p => S.getLsbD (p * 2 ^ i) := by
    funext p
    unfold half0
    rw [half_bit0 (by omega), Nat.pow_succ]
    congr 1
    rw [Nat.mul_comm (2 ^ i), ← Nat.mul_assoc, Nat.mul_comm p]
  have e1 : (fun p => (loB S i).getLsbD (p * 2 ^ (i + 1))) = half1 fun p => S.getLsbD (p * 2 ^ i) := by
    funext p
    unfold half1
    rw [lo_bit, Nat.pow_succ]
    congr 1
    rw [Nat.add_mul, Nat.one_mul, Nat.mul_comm (2 ^ i), ← Nat.mul_assoc, Nat.mul_comm p]
  have e2 : (fun p => (halfB S i false &&& loB S i).getLsbD (p * 2 ^ (i + 1))) = bothS fun p => S.getLsbD (p * 2 ^ i) := by
    funext p
    unfold bothS
    rw [← e0, ← e1, BitVec.getLsbD_and]
  have hQ : 0 < 4 ^ i := Nat.pow_pos (by decide)
  -- each family at a number told by its digits
  have hat : ∀ (T : BitVec 256) (y r : Nat), r < 4 ^ i → FI (i + (k + 1)) (i + 1) T (4 ^ i * y + r) = (decide (r = 0) && decide (y % 4 = 0) && FP k (fun p => T.getLsbD (p * 2 ^ (i + 1))) (y / 4)) := fun T y r hr => by
    unfold FI
    have m1 : (4 ^ i * y + r) % 4 ^ i = r := by rw [Nat.mul_add_mod, Nat.mod_eq_of_lt hr]
    have d1 : (4 ^ i * y + r) / 4 ^ i = y := by rw [Nat.mul_add_div hQ, Nat.div_eq_of_lt hr, Nat.add_zero]
    rw [Nat.pow_succ, Nat.mod_mul, ← Nat.div_div_eq_div_mul, m1, d1, hk, Bool.eq_iff_iff]
    simp only [Bool.and_eq_true, decide_eq_true_eq]
    constructor
    · rintro ⟨h1, h2⟩
      have hr0 : r = 0 := by omega
      have hm : 4 ^ i * (y % 4) = 0 := by omega
      rcases Nat.mul_eq_zero.1 hm with h | h
      · omega
      · exact ⟨⟨hr0, h⟩, h2⟩
    · rintro ⟨⟨h1, h2⟩, h3⟩
      exact ⟨by rw [h1, h2, Nat.mul_zero], h3⟩
  have hat' : ∀ (T : BitVec 256) (y r d : Nat), r < 4 ^ i → d ≤ y → FI (i + (k + 1)) (i + 1) T (4 ^ i * y + r - 4 ^ i * d) = (decide (r = 0) && decide ((y - d) % 4 = 0) && FP k (fun p => T.getLsbD (p * 2 ^ (i + 1))) ((y - d) / 4)) := fun T y r d hr hd => by
    rw [← hat T (y - d) r hr]
    congr 1
    rw [Nat.mul_sub]
    have := Nat.mul_le_mul_left (4 ^ i) hd
    omega
  funext x
  have hx := Nat.div_add_mod x (4 ^ i)
  have hr := Nat.mod_lt x hQ
  rw [op2_or, op2_or, op2_less, op2_less]
  unfold itemF
  dsimp only
  rw [show 2 ^ (2 * i) = 4 ^ i * 1 by rw [four_two, Nat.mul_one], show 2 ^ (2 * i + 1) = 4 ^ i * 2 by rw [four_two, Nat.pow_succ]]
  have hF : FI (i + (k + 1)) i S x = (decide (x % 4 ^ i = 0) && FP (k + 1) (fun p => S.getLsbD (p * 2 ^ i)) (x / 4 ^ i)) := by unfold FI; rw [hk1]
  rw [hF]
  generalize x / 4 ^ i = y at *
  generalize x % 4 ^ i = r at *
  subst hx
  have hle : ∀ d : Nat, decide (4 ^ i * d ≤ 4 ^ i * y + r) = decide (d ≤ y) := fun d => by
    rw [Bool.eq_iff_iff, decide_eq_true_iff, decide_eq_true_iff]
    constructor
    · intro h
      refine Classical.byContradiction fun hd => ?_
      have := Nat.mul_le_mul_left (4 ^ i) (show y + 1 ≤ d by omega)
      rw [Nat.mul_add, Nat.mul_one] at this
      omega
    · intro h
      have := Nat.mul_le_mul_left (4 ^ i) h
      omega
  rw [hle, hle, FP]
  have g : ∀ (d : Nat) (T U : BitVec 256), (decide (d ≤ y) && (FI (i + (k + 1)) (i + 1) T (4 ^ i * y + r - 4 ^ i * d) && !FI (i + (k + 1)) (i + 1) U (4 ^ i * y + r - 4 ^ i * d))) = (decide (d ≤ y) && (decide (r = 0) && decide ((y - d) % 4 = 0) && (FP k (fun p => T.getLsbD (p * 2 ^ (i + 1))) ((y - d) / 4) && !FP k (fun p => U.getLsbD (p * 2 ^ (i + 1))) ((y - d) / 4)))) := fun d T U => by
    by_cases hd : d ≤ y
    · rw [hat' T y r d hr hd, hat' U y r d hr hd]
      cases decide (r = 0) <;> cases decide ((y - d) % 4 = 0) <;> simp
    · rw [decide_eq_false hd]; rfl
  rw [g 2, g 1, hat _ y r hr, e0, e1, e2]
  generalize (fun p => S.getLsbD (p * 2 ^ i)) = s
  by_cases hr0 : r = 0
  · rw [decide_eq_true hr0]
    simp only [Bool.true_and]
    rcases (by omega : y % 4 = 0 ∨ y % 4 = 1 ∨ y % 4 = 2 ∨ y % 4 = 3) with h | h | h | h
    · rw [if_pos h, decide_eq_true h]
      have a1 : (decide (2 ≤ y) && (decide ((y - 2) % 4 = 0) && (FP k (half1 s) ((y - 2) / 4) && !FP k (bothS s) ((y - 2) / 4)))) = false := by
        by_cases hd : 2 ≤ y
        · rw [decide_eq_false (show ¬ (y - 2) % 4 = 0 by omega)]; simp
        · rw [decide_eq_false hd]; rfl
      have a2 : (decide (1 ≤ y) && (decide ((y - 1) % 4 = 0) && (FP k (half0 s) ((y - 1) / 4) && !FP k (bothS s) ((y - 1) / 4)))) = false := by
        by_cases hd : 1 ≤ y
        · rw [decide_eq_false (show ¬ (y - 1) % 4 = 0 by omega)]; simp
        · rw [decide_eq_false hd]; rfl
      rw [a1, a2]; simp
    · rw [if_neg (by omega), if_pos h, decide_eq_false (show ¬ y % 4 = 0 by omega), decide_eq_true (show 1 ≤ y by omega), decide_eq_true (show (y - 1) % 4 = 0 by omega), show (y - 1) / 4 = y / 4 by omega]
      have a1 : (decide (2 ≤ y) && (decide ((y - 2) % 4 = 0) && (FP k (half1 s) ((y - 2) / 4) && !FP k (bothS s) ((y - 2) / 4)))) = false := by
        by_cases hd : 2 ≤ y
        · rw [decide_eq_false (show ¬ (y - 2) % 4 = 0 by omega)]; simp
        · rw [decide_eq_false hd]; rfl
      rw [a1]; simp
    · rw [if_neg (by omega), if_neg (by omega), if_pos h, decide_eq_false (show ¬ y % 4 = 0 by omega), decide_eq_true (show 2 ≤ y by omega), decide_eq_true (show (y - 2) % 4 = 0 by omega), show (y - 2) / 4 = y / 4 by omega, decide_eq_false (show ¬ (y - 1) % 4 = 0 by omega)]
      simp
    · rw [if_neg (by omega), if_neg (by omega), if_neg (by omega), decide_eq_false (show ¬ y % 4 = 0 by omega), decide_eq_false (show ¬ (y - 1) % 4 = 0 by omega), decide_eq_false (show ¬ (y - 2) % 4 = 0 by omega)]
      simp
  · rw [decide_eq_false hr0]; simp

/-! ### How many members, and how many nodes -/
/-- Rows of literals of k inputs, as numbers. -/
def UL : Nat → Nat → Bool
  | 0, x => decide (x = 0)
  | k + 1, x => !decide (x % 4 = 3) && UL k (x / 4)
theorem FP_UL : ∀ (k : Nat) (s : Nat → Bool) (x : Nat), FP k s x = true → UL k x = true
  | 0, s, x, h => by rw [FP, Bool.and_eq_true] at h; exact h.1
  | k + 1, s, x, h => by
    rw [UL, Bool.and_eq_true, Bool.not_eq_true', decide_eq_false_iff_not]
    rw [FP] at h
    split at h
    · exact ⟨by omega, FP_UL k _ _ h⟩
    · split at h
      · rw [Bool.and_eq_true] at h; exact ⟨by omega, FP_UL k _ _ h.1⟩
      · split at h
        · rw [Bool.and_eq_true] at h; exact ⟨by omega, FP_UL k _ _ h.1⟩
        · cases h
theorem UL_lt : ∀ (k x : Nat), UL k x = true → x < 4 ^ k
  | 0, x, h => by rw [UL] at h; have := of_decide_eq_true h; omega
  | k + 1, x, h => by
    rw [UL, Bool.and_eq_true] at h
    have := UL_lt k _ h.2
    rw [Nat.pow_succ]
    omega
theorem tS_false (D : Nat) : tS D (fun _ => false) = 0 := by
  have h := tS_le D (fun _ => false)
  rw [cF_false] at h
  omega
theorem tS_zero : ∀ (D : Nat), tS D (fun x => decide (x = 0)) = 0
  | 0 => rfl
  | D + 1 => by
    have h0 : half0 (fun x => decide (x = 0)) = fun x => decide (x = 0) := by funext n; unfold half0; rw [Bool.eq_iff_iff, decide_eq_true_iff, decide_eq_true_iff]; omega
    have h1 : half1 (fun x => decide (x = 0)) = fun _ => false := by funext n; unfold half1; exact decide_eq_false (by omega)
    rw [tS_lift h0 h1]
    exact tS_zero D
theorem UL_00 (k : Nat) : half0 (half0 (UL (k + 1))) = UL k := by
  funext n
  show UL (k + 1) (2 * (2 * n)) = UL k n
  rw [UL, show 2 * (2 * n) / 4 = n by omega, decide_eq_false (show ¬ 2 * (2 * n) % 4 = 3 by omega)]
  rfl
theorem UL_01 (k : Nat) : half1 (half0 (UL (k + 1))) = UL k := by
  funext n
  show UL (k + 1) (2 * (2 * n + 1)) = UL k n
  rw [UL, show 2 * (2 * n + 1) / 4 = n by omega, decide_eq_false (show ¬ 2 * (2 * n + 1) % 4 = 3 by omega)]
  rfl
theorem UL_10 (k : Nat) : half0 (half1 (UL (k + 1))) = UL k := by
  funext n
  show UL (k + 1) (2 * (2 * n) + 1) = UL k n
  rw [UL, show (2 * (2 * n) + 1) / 4 = n by omega, decide_eq_false (show ¬ (2 * (2 * n) + 1) % 4 = 3 by omega)]
  rfl
theorem UL_11 (k : Nat) : half1 (half1 (UL (k + 1))) = fun _ => false := by
  funext n
  show UL (k + 1) (2 * (2 * n + 1) + 1) = false
  rw [UL, decide_eq_true (show (2 * (2 * n + 1) + 1) % 4 = 3 by omega)]
  rfl
theorem tS_UL : ∀ (k d : Nat), tS (d + 2 * k) (UL k) + 1 ≤ 3 ^ k
  | 0, d => by
    have : UL 0 = fun x => decide (x = 0) := by funext x; rw [UL]
    rw [this, tS_zero]
    decide
  | k + 1, d => by
    have ih := tS_UL k d
    rw [show d + 2 * (k + 1) = d + 2 * k + 1 + 1 by omega, tS, tS, tS, UL_00, UL_01, UL_10, UL_11, tS_false, cF_false, Nat.pow_succ]
    omega
/-- A family of the items from t on. -/
def upF (t : Nat) (F : Nat → Bool) : Nat → Bool := fun x => decide (x % 2 ^ t = 0) && F (x / 2 ^ t)
theorem upF_half (t : Nat) (F : Nat → Bool) : half0 (upF (t + 1) F) = upF t F ∧ half1 (upF (t + 1) F) = fun _ => false := by
  constructor
  · funext n
    unfold half0 upF
    rw [Nat.pow_succ, Nat.mul_comm (2 ^ t) 2, Nat.mul_mod_mul_left, Nat.mul_div_mul_left _ _ (by decide), Bool.eq_iff_iff]
    simp only [Bool.and_eq_true, decide_eq_true_eq]
    constructor
    · rintro ⟨a, b⟩; exact ⟨by omega, b⟩
    · rintro ⟨a, b⟩; exact ⟨by omega, b⟩
  · funext n
    unfold half1 upF
    rw [Nat.pow_succ, Nat.mul_comm (2 ^ t) 2, Nat.mod_mul, decide_eq_false (by omega)]
    rfl
theorem tS_up (D : Nat) (F : Nat → Bool) : ∀ t, tS (D + t) (upF t F) = tS D F
  | 0 => by
    congr 1
    funext x
    unfold upF
    rw [Nat.pow_zero, Nat.mod_one, Nat.div_one]
    rfl
  | t + 1 => by
    obtain ⟨h0, h1⟩ := upF_half t F
    rw [show D + (t + 1) = D + t + 1 by omega, tS_lift h0 h1]
    exact tS_up D F t
theorem cF_up (D : Nat) (F : Nat → Bool) : ∀ t, cF (D + t) (upF t F) = cF D F
  | 0 => by
    congr 1
    funext x
    unfold upF
    rw [Nat.pow_zero, Nat.mod_one, Nat.div_one]
    rfl
  | t + 1 => by
    obtain ⟨h0, h1⟩ := upF_half t F
    rw [show D + (t + 1) = D + t + 1 by omega, cF, h0, h1, cF_false, cF_up D F t]
    rfl
def UI (n i : Nat) : Nat → Bool := upF (2 * i) (UL (n - i))
theorem FI_up (n i : Nat) (S : BitVec 256) : FI n i S = upF (2 * i) (FP (n - i) fun p => S.getLsbD (p * 2 ^ i)) := by
  funext x
  unfold FI upF
  rw [four_two]
theorem FI_UI {n i : Nat} {S : BitVec 256} {x : Nat} (h : FI n i S x = true) : UI n i x = true := by
  rw [FI_up] at h
  unfold UI
  unfold upF at h ⊢
  rw [Bool.and_eq_true] at h ⊢
  exact ⟨h.1, FP_UL _ _ _ h.2⟩
theorem tS_UI {n i : Nat} (hn : n ≤ 8) (hi : i ≤ n) : tS 24 (UI n i) + 1 ≤ 3 ^ (n - i) := by
  have h := tS_UL (n - i) (24 - 2 * n)
  have e := tS_up (24 - 2 * i) (UL (n - i)) (2 * i)
  rw [show 24 - 2 * i + 2 * i = 24 by omega] at e
  rw [show 24 - 2 * n + 2 * (n - i) = 24 - 2 * i by omega] at h
  unfold UI
  rw [e]
  exact h
theorem UI_step {n i x : Nat} (hi : i < n) (h : UI n (i + 1) x = true) : UI n i x = true ∧ UI n i (x + 2 ^ (2 * i)) = true ∧ UI n i (x + 2 ^ (2 * i + 1)) = true := by
  unfold UI upF at h ⊢
  obtain ⟨k, hk⟩ : ∃ k, n - i = k + 1 := ⟨n - i - 1, by omega⟩
  rw [show n - (i + 1) = k by omega, Bool.and_eq_true, decide_eq_true_iff] at h
  obtain ⟨h1, h2⟩ := h
  have hQ := Nat.two_pow_pos (2 * i)
  rw [show 2 * (i + 1) = 2 * i + 2 by omega, Nat.pow_add] at h1 h2
  rw [hk, show 2 ^ (2 * i + 1) = 2 ^ (2 * i) * 2 by rw [Nat.pow_succ]]
  generalize 2 ^ (2 * i) = Q at *
  have hx : x = Q * (4 * (x / (Q * 2 ^ 2))) := by
    have h3 := Nat.div_add_mod x (Q * 2 ^ 2)
    rw [h1, Nat.add_zero] at h3
    rw [← Nat.mul_assoc]
    exact h3.symm
  generalize x / (Q * 2 ^ 2) = z at *
  subst hx
  have hd : ∀ d, d < 4 → d ≠ 3 → (decide ((Q * (4 * z) + Q * d) % Q = 0) && UL (k + 1) ((Q * (4 * z) + Q * d) / Q)) = true := fun d hd h3 => by
    rw [← Nat.mul_add, Nat.mul_mod_right, Nat.mul_div_cancel_left _ hQ, decide_eq_true rfl, UL, show (4 * z + d) / 4 = z by omega, h2, decide_eq_false (by omega)]
    rfl
  have d0 := hd 0 (by omega) (by omega)
  have d1 := hd 1 (by omega) (by omega)
  have d2 := hd 2 (by omega) (by omega)
  rw [Nat.mul_zero, Nat.add_zero] at d0
  rw [Nat.mul_one] at d1
  exact ⟨d0, d1, d2⟩
theorem UI_low {n i x : Nat} (hn : n ≤ 8) (hi : i ≤ n) (h : UI n i x = true) : x < 2 ^ 24 ∧ x % 2 ^ (2 * i) = 0 := by
  unfold UI upF at h
  rw [Bool.and_eq_true, decide_eq_true_iff] at h
  obtain ⟨h1, h2⟩ := h
  refine ⟨?_, h1⟩
  have h3 := UL_lt _ _ h2
  rw [four_two] at h3
  have h4 : 2 ^ (2 * (n - i)) * 2 ^ (2 * i) ≤ 2 ^ 24 := by rw [← Nat.pow_add]; exact Nat.pow_le_pow_right (by decide) (by omega)
  have h5 := (Nat.div_lt_iff_lt_mul (Nat.two_pow_pos (2 * i))).1 h3
  omega
/-- How many primes a set of k inputs has at most. -/
def aP : Nat → Nat
  | 0 => 1
  | 1 => 1
  | 2 => 2
  | k + 3 => 3 * aP (k + 2)
theorem FP_00 (k : Nat) (s : Nat → Bool) : half0 (half0 (FP (k + 1) s)) = FP k (bothS s) := by
  funext n
  show FP (k + 1) s (2 * (2 * n)) = _
  rw [FP, if_pos (by omega), show 2 * (2 * n) / 4 = n by omega]
theorem FP_01 (k : Nat) (s : Nat → Bool) : half1 (half0 (FP (k + 1) s)) = fun x => FP k (half1 s) x && !FP k (bothS s) x := by
  funext n
  show FP (k + 1) s (2 * (2 * n + 1)) = _
  rw [FP, if_neg (by omega), if_neg (by omega), if_pos (by omega), show 2 * (2 * n + 1) / 4 = n by omega]
theorem FP_10 (k : Nat) (s : Nat → Bool) : half0 (half1 (FP (k + 1) s)) = fun x => FP k (half0 s) x && !FP k (bothS s) x := by
  funext n
  show FP (k + 1) s (2 * (2 * n) + 1) = _
  rw [FP, if_neg (by omega), if_pos (by omega), show (2 * (2 * n) + 1) / 4 = n by omega]
theorem FP_11 (k : Nat) (s : Nat → Bool) : half1 (half1 (FP (k + 1) s)) = fun _ => false := by
  funext n
  show FP (k + 1) s (2 * (2 * n + 1) + 1) = _
  rw [FP, if_neg (by omega), if_neg (by omega), if_neg (by omega)]
theorem cF_sub (D : Nat) (F G : Nat → Bool) : cF D (fun x => F x && !G x) ≤ cF D F := cF_le D fun n h => by rw [Bool.and_eq_true] at h; exact h.1
theorem cF_point (b : Bool) : ∀ D, cF D (fun x => decide (x = 0) && b) = if b then 1 else 0
  | 0 => by rw [cF]; cases b <;> rfl
  | D + 1 => by
    have h0 : half0 (fun x => decide (x = 0) && b) = fun x => decide (x = 0) && b := by
      funext n
      show (decide (2 * n = 0) && b) = (decide (n = 0) && b)
      rw [show decide (2 * n = 0) = decide (n = 0) by rw [Bool.eq_iff_iff, decide_eq_true_iff, decide_eq_true_iff]; omega]
    have h1 : half1 (fun x => decide (x = 0) && b) = fun _ => false := by
      funext n
      show (decide (2 * n + 1 = 0) && b) = false
      rw [decide_eq_false (by omega)]; rfl
    rw [cF, h0, h1, cF_false, cF_point b D]
    rfl
theorem FP_at0 (s : Nat → Bool) : FP 0 s = fun x => decide (x = 0) && s 0 := by funext x; rw [FP]
theorem less_point (a b : Bool) : (fun x => (decide (x = 0) && a) && !(decide (x = 0) && b)) = fun x => decide (x = 0) && (a && !b) := by
  funext x
  cases decide (x = 0) <;> cases a <;> cases b <;> rfl
theorem cF_quarter (D : Nat) (F : Nat → Bool) : cF (D + 2) F = cF D (half0 (half0 F)) + cF D (half1 (half0 F)) + (cF D (half0 (half1 F)) + cF D (half1 (half1 F))) := rfl
theorem half_less (F G : Nat → Bool) : half0 (fun x => F x && !G x) = (fun x => half0 F x && !half0 G x) ∧ half1 (fun x => F x && !G x) = (fun x => half1 F x && !half1 G x) := ⟨rfl, rfl⟩
theorem cF_lesspt (D : Nat) (a b : Bool) : cF D (fun x => (decide (x = 0) && a) && !(decide (x = 0) && b)) = if a && !b then 1 else 0 := by rw [less_point, cF_point]
theorem cF_lesspt2 (D : Nat) (a b c d : Bool) : cF D (fun x => ((decide (x = 0) && a) && !(decide (x = 0) && b)) && !((decide (x = 0) && c) && !(decide (x = 0) && d))) = if (a && !b) && !(c && !d) then 1 else 0 := by
  rw [← cF_point ((a && !b) && !(c && !d)) D]
  congr 1
  funext x
  cases decide (x = 0) <;> cases a <;> cases b <;> cases c <;> cases d <;> rfl
/-- What one input's primes lack of another one's. -/
theorem FP_less1 (D : Nat) (s t : Nat → Bool) : cF (D + 2) (fun x => FP 1 s x && !FP 1 t x) = (if bothS s 0 && !bothS t 0 then 1 else 0) + (if (half1 s 0 && !bothS s 0) && !(half1 t 0 && !bothS t 0) then 1 else 0) + ((if (half0 s 0 && !bothS s 0) && !(half0 t 0 && !bothS t 0) then 1 else 0) + 0) := by
  rw [cF_quarter, (half_less _ _).1, (half_less _ _).1, (half_less _ _).2, (half_less _ _).2, (half_less _ _).1, (half_less _ _).2]
  rw [FP_00, FP_00, FP_01, FP_01, FP_10, FP_10, FP_11, FP_11]
  simp only [FP_at0]
  rw [cF_lesspt, cF_lesspt2, cF_lesspt2]
  congr 1
  congr 1
  exact cF_false D
theorem FP_one1 (D : Nat) (s : Nat → Bool) : cF (D + 2) (FP 1 s) = (if bothS s 0 then 1 else 0) + (if half1 s 0 && !bothS s 0 then 1 else 0) + ((if half0 s 0 && !bothS s 0 then 1 else 0) + 0) := by
  rw [cF_quarter, FP_00, FP_01, FP_10, FP_11, cF_false]
  simp only [FP_at0]
  rw [cF_point, cF_lesspt, cF_lesspt]
theorem few1_all : ∀ a b : Bool, (if a && b then 1 else 0) + (if b && !(a && b) then 1 else 0) + ((if a && !(a && b) then 1 else 0) + 0) ≤ 1 := by decide
theorem FP_few1 (D : Nat) (s : Nat → Bool) : cF (D + 2) (FP 1 s) ≤ 1 := by
  rw [FP_one1]
  exact few1_all (s 0) (s 1)
theorem few2_all : ∀ a b c d : Bool, (let s0 := a; let s1 := b; let s2 := c; let s3 := d;
    let B0 := s0 && s1; let B1 := s2 && s3;
    ((if B0 && B1 then 1 else 0) + (if B1 && !(B0 && B1) then 1 else 0) + ((if B0 && !(B0 && B1) then 1 else 0) + 0)) +
    ((if (s1 && s3) && !(B0 && B1) then 1 else 0) + (if (s3 && !(s1 && s3)) && !(B1 && !(B0 && B1)) then 1 else 0) + ((if (s1 && !(s1 && s3)) && !(B0 && !(B0 && B1)) then 1 else 0) + 0)) +
    (((if (s0 && s2) && !(B0 && B1) then 1 else 0) + (if (s2 && !(s0 && s2)) && !(B1 && !(B0 && B1)) then 1 else 0) + ((if (s0 && !(s0 && s2)) && !(B0 && !(B0 && B1)) then 1 else 0) + 0)) + 0) ≤ 2) := by decide
theorem FP_few2 (D : Nat) (s : Nat → Bool) : cF (D + 4) (FP 2 s) ≤ 2 := by
  rw [show D + 4 = D + 2 + 2 by omega, cF_quarter, FP_00, FP_01, FP_10, FP_11, cF_false, FP_less1, FP_less1, FP_one1]
  exact few2_all (s 0) (s 1) (s 2) (s 3)
theorem FP_few : ∀ (k D : Nat) (s : Nat → Bool), cF (D + 2 * k) (FP k s) ≤ aP k
  | 0, D, s => by
    rw [FP_at0, cF_point]
    cases s 0 <;> decide
  | 1, D, s => FP_few1 D s
  | 2, D, s => FP_few2 D s
  | k + 3, D, s => by
    have ih := fun t => FP_few (k + 2) D t
    have l := fun t u => cF_sub (D + 2 * (k + 2)) (FP (k + 2) t) (FP (k + 2) u)
    rw [show D + 2 * (k + 3) = D + 2 * (k + 2) + 2 by omega, cF_quarter, FP_00, FP_01, FP_10, FP_11, cF_false, aP]
    have h1 := ih (bothS s)
    have h2 := Nat.le_trans (l (half1 s) (bothS s)) (ih _)
    have h3 := Nat.le_trans (l (half0 s) (bothS s)) (ih _)
    omega
theorem FI_few {n i : Nat} (hn : n ≤ 8) (hi : i ≤ n) (S : BitVec 256) : cF 24 (FI n i S) ≤ aP (n - i) := by
  have h := FP_few (n - i) (24 - 2 * n) (fun p => S.getLsbD (p * 2 ^ i))
  have e := cF_up (24 - 2 * i) (FP (n - i) fun p => S.getLsbD (p * 2 ^ i)) (2 * i)
  rw [show 24 - 2 * i + 2 * i = 24 by omega] at e
  rw [show 24 - 2 * n + 2 * (n - i) = 24 - 2 * i by omega] at h
  rw [FI_up, e]
  exact h
end Go.Proofs.YtehpccanjlaokaaGreat
namespace Go.Proofs.YtehpccanjlaokaaGreat
open Go.RowKit Go.Joins

theorem inC_down {S : BitVec 256} {n : Int} {m v m' v' : BitVec 8} (h : inB S n m v = true) (hh : holdsB m v m' v' = true) (hr : rightB m' v' n = true) : inB S n m' v' = true := by
  obtain ⟨h0, h8, -, -⟩ := (rightB_iff m' v' n).1 hr
  obtain ⟨k, rfl⟩ : ∃ k : Nat, n = k := ⟨n.toNat, by omega⟩
  rw [inB_iff] at *
  exact ⟨hr, fun p hp hf => h.2 p hp (fits_holds hh hf)⟩
theorem in_right {S : BitVec 256} {n : Int} {m v : BitVec 8} (h : inB S n m v = true) : rightB m v n = true := by
  unfold inB at h; rw [Bool.and_eq_true] at h; exact h.1
end Go.Proofs.YtehpccanjlaokaaGreat
