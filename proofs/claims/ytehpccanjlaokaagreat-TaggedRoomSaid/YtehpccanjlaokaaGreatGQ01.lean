/- Plain mathematics on sets of 256 points, told as numbers of 256 bits, and on the words that hold them; no program is spoken of. -/
import Derived.WalkKit
namespace Go.Proofs.YtehpccanjlaokaaGreat
open Go.RowKit

/-- A word as the program holds it. -/
def wv (x : BitVec 64) : Value := .int .u64 (x.toNat : Int)
/-- Word k of a set. -/
def wd (S : BitVec 256) (k : Nat) : BitVec 64 := S.extractLsb' (64 * k) 64
/-- A set as the program holds it. -/
def sv (S : BitVec 256) : Value := .agg #[wv (wd S 0), wv (wd S 1), wv (wd S 2), wv (wd S 3)]

theorem wd_bit (S : BitVec 256) (k j : Nat) : (wd S k).getLsbD j = (decide (j < 64) && S.getLsbD (64 * k + j)) := by
  unfold wd; rw [BitVec.getLsbD_extractLsb']
theorem wd_or (S T : BitVec 256) (k : Nat) : wd (S ||| T) k = wd S k ||| wd T k := by unfold wd; rw [BitVec.extractLsb'_or]
theorem wd_and (S T : BitVec 256) (k : Nat) : wd (S &&& T) k = wd S k &&& wd T k := by unfold wd; rw [BitVec.extractLsb'_and]
theorem wd_less (S T : BitVec 256) (k : Nat) (hk : k < 4) : wd (S &&& ~~~T) k = wd S k &&& ~~~(wd T k) := by
  apply BitVec.eq_of_getLsbD_eq
  intro j hj
  rw [BitVec.getLsbD_and, BitVec.getLsbD_not, wd_bit, wd_bit, wd_bit, BitVec.getLsbD_and, BitVec.getLsbD_not]
  have h : 64 * k + j < 256 := by omega
  simp [hj, h]
theorem bv_ext {S T : BitVec 256} (h0 : wd S 0 = wd T 0) (h1 : wd S 1 = wd T 1) (h2 : wd S 2 = wd T 2) (h3 : wd S 3 = wd T 3) : S = T := by
  apply BitVec.eq_of_getLsbD_eq
  intro p hp
  have key : ∀ k, wd S k = wd T k → ∀ j, j < 64 → S.getLsbD (64 * k + j) = T.getLsbD (64 * k + j) := by
    intro k e j hj
    have h := congrArg (fun x => x.getLsbD j) e
    simp only [wd_bit, hj, decide_true, Bool.true_and] at h
    exact h
  have hq : p = 64 * (p / 64) + p % 64 := by omega
  have hk : p / 64 = 0 ∨ p / 64 = 1 ∨ p / 64 = 2 ∨ p / 64 = 3 := by omega
  have hm : p % 64 < 64 := by omega
  rw [hq]
  rcases hk with e | e | e | e <;> rw [e]
  · exact key 0 h0 _ hm
  · exact key 1 h1 _ hm
  · exact key 2 h2 _ hm
  · exact key 3 h3 _ hm

/-- Four words make a set. -/
theorem of_words (x0 x1 x2 x3 : BitVec 64) : ∃ S : BitVec 256, wd S 0 = x0 ∧ wd S 1 = x1 ∧ wd S 2 = x2 ∧ wd S 3 = x3 := by
  refine ⟨(x3 ++ x2 ++ x1 ++ x0 : BitVec (64 + 64 + 64 + 64)), ?_, ?_, ?_, ?_⟩ <;>
    (apply BitVec.eq_of_getLsbD_eq; intro j hj; rw [wd_bit]; simp only [hj, decide_true, Bool.true_and, BitVec.getLsbD_append])
  · simp [hj]
  · have a : ¬ (64 * 1 + j < 64) := by omega
    have b : 64 * 1 + j - 64 < 64 := by omega
    have c : 64 * 1 + j - 64 = j := by omega
    simp only [a, b, if_true, if_false]
    rw [c]
  · have a : ¬ (64 * 2 + j < 64) := by omega
    have b : ¬ (64 * 2 + j - 64 < 64) := by omega
    have c : 64 * 2 + j - 64 - 64 < 64 := by omega
    have e : 64 * 2 + j - 64 - 64 = j := by omega
    simp only [a, b, c, if_true, if_false]
    rw [e]
  · have a : ¬ (64 * 3 + j < 64) := by omega
    have b : ¬ (64 * 3 + j - 64 < 64) := by omega
    have c : ¬ (64 * 3 + j - 64 - 64 < 64) := by omega
    have e : 64 * 3 + j - 64 - 64 - 64 = j := by omega
    simp only [a, b, c, if_false]
    rw [e]

theorem wrap_u64_id (n : Int) (h0 : 0 ≤ n) (h1 : n < 18446744073709551616) : IntKind.u64.wrap n = n := by rw [IntKind.wrap_u64]; omega
theorem ofInt_self (a : BitVec 64) : BitVec.ofInt 64 (a.toNat : Int) = a := by
  apply BitVec.eq_of_toNat_eq
  rw [BitVec.ofInt_natCast, BitVec.toNat_ofNat]
  exact Nat.mod_eq_of_lt a.isLt
theorem bits_u64_bv (op : BinOp) (a b : BitVec 64) : bits op .u64 (a.toNat : Int) (b.toNat : Int) =
    ((match op with | .and => a &&& b | .or => a ||| b | .xor => a ^^^ b | _ => a &&& ~~~b).toNat : Int) := by
  have ea : BitVec.ofInt 64 (a.toNat : Int) = a := ofInt_self a
  have eb : BitVec.ofInt 64 (b.toNat : Int) = b := ofInt_self b
  show IntKind.u64.wrap ((match op with | .and => BitVec.ofInt 64 (a.toNat : Int) &&& BitVec.ofInt 64 (b.toNat : Int) | .or => BitVec.ofInt 64 (a.toNat : Int) ||| BitVec.ofInt 64 (b.toNat : Int) | .xor => BitVec.ofInt 64 (a.toNat : Int) ^^^ BitVec.ofInt 64 (b.toNat : Int) | _ => BitVec.ofInt 64 (a.toNat : Int) &&& ~~~BitVec.ofInt 64 (b.toNat : Int)).toNat : Int) = _
  rw [ea, eb]
  exact wrap_u64_id _ (by omega) (by have := (match op with | .and => a &&& b | .or => a ||| b | .xor => a ^^^ b | _ => a &&& ~~~b).isLt; omega)
theorem bits_or_bv (a b : BitVec 64) : bits .or .u64 (a.toNat : Int) (b.toNat : Int) = ((a ||| b).toNat : Int) := bits_u64_bv .or a b
theorem bits_and_bv (a b : BitVec 64) : bits .and .u64 (a.toNat : Int) (b.toNat : Int) = ((a &&& b).toNat : Int) := bits_u64_bv .and a b
theorem bits_less_bv (a b : BitVec 64) : bits .andNot .u64 (a.toNat : Int) (b.toNat : Int) = ((a &&& ~~~b).toNat : Int) := bits_u64_bv .andNot a b
/-- The set whose points are those p with g p. -/
def wsum (g : Nat → Bool) : Nat → Nat
  | 0 => 0
  | k + 1 => wsum g k + (if g k then 2 ^ k else 0)
theorem wsum_lt (g : Nat → Bool) (k : Nat) : wsum g k < 2 ^ k := by
  induction k with
  | zero => simp [wsum]
  | succ k ih => rw [wsum, Nat.pow_succ]; split <;> omega
theorem one_bit (j : Nat) (h : j ≠ 0) : Nat.testBit 1 j = false := by
  cases j with
  | zero => exact absurd rfl h
  | succ n => simp [Nat.testBit_succ]
theorem wsum_bit (g : Nat → Bool) (k j : Nat) : (wsum g k).testBit j = (decide (j < k) && g j) := by
  induction k with
  | zero => simp [wsum]
  | succ k ih =>
    have hlt := wsum_lt g k
    rw [wsum]
    by_cases hg : g k
    · rw [if_pos hg]
      have e : wsum g k + 2 ^ k = 2 ^ k * 1 + wsum g k := by omega
      rw [e, Nat.testBit_two_pow_mul_add _ hlt]
      by_cases hj : j < k
      · rw [if_pos hj, ih]
        have : j < k + 1 := by omega
        simp [hj, this]
      · rw [if_neg hj]
        by_cases hjk : j = k
        · subst hjk; simp [hg]
        · have a : ¬ (j < k + 1) := by omega
          have b : Nat.testBit 1 (j - k) = false := one_bit _ (by omega)
          simp [a, b]
    · rw [if_neg hg, Nat.add_zero, ih]
      by_cases hj : j < k
      · have : j < k + 1 := by omega
        simp [hj, this]
      · by_cases hjk : j = k
        · subst hjk; simp [hg]
        · have a : ¬ (j < k + 1) := by omega
          simp [hj, a]
def bvOf (g : Nat → Bool) : BitVec 256 := BitVec.ofNat 256 (wsum g 256)
theorem bvOf_bit (g : Nat → Bool) (p : Nat) : (bvOf g).getLsbD p = (decide (p < 256) && g p) := by
  unfold bvOf
  rw [BitVec.getLsbD_ofNat, wsum_bit]
  by_cases h : p < 256 <;> simp [h]
theorem bvOf_eq (S : BitVec 256) (g : Nat → Bool) (h : ∀ p, p < 256 → g p = S.getLsbD p) : bvOf g = S := by
  apply BitVec.eq_of_getLsbD_eq
  intro p hp
  rw [bvOf_bit, h p hp]; simp [hp]
theorem wd_bvOf (g : Nat → Bool) (i : Nat) (hi : i < 4) : ((wd (bvOf g) i).toNat : Int) = ((wsum (fun j => g (64 * i + j)) 64 : Nat) : Int) := by
  have hlt : wsum (fun j => g (64 * i + j)) 64 < 2 ^ 64 := wsum_lt _ _
  have e : wd (bvOf g) i = BitVec.ofNat 64 (wsum (fun j => g (64 * i + j)) 64) := by
    apply BitVec.eq_of_getLsbD_eq
    intro j hj
    rw [wd_bit, bvOf_bit, BitVec.getLsbD_ofNat, wsum_bit]
    have : 64 * i + j < 256 := by omega
    simp [hj, this]
  rw [e, BitVec.toNat_ofNat, Nat.mod_eq_of_lt hlt]

/-- The points of a set, rising. -/
def pts (S : BitVec 256) : List Nat := (List.range 256).filter (fun p => S.getLsbD p)
/- THE COUNT BY STEPS: bytes first. -/
def cat : List Nat → Nat
  | [] => 0
  | b :: l => b + 256 * cat l
def mk (c : Nat) : Nat → Nat
  | 0 => 0
  | n + 1 => c + 256 * mk c n
theorem and_split (X ml mh : Nat) (h : ml < 256) : X &&& (ml + 256 * mh) = ((X % 256) &&& ml) + 256 * ((X / 256) &&& mh) := by
  have a : (X &&& (ml + 256 * mh)) % 256 = (X % 256) &&& ml := by
    have := @Nat.and_mod_two_pow X (ml + 256 * mh) 8
    have e : (ml + 256 * mh) % 2 ^ 8 = ml := by omega
    rw [e] at this
    exact this
  have b : (X &&& (ml + 256 * mh)) / 256 = (X / 256) &&& mh := by
    have := @Nat.and_div_two_pow X (ml + 256 * mh) 8
    have e : (ml + 256 * mh) / 2 ^ 8 = mh := by omega
    rw [e] at this
    exact this
  rw [← a, ← b]; omega
def f1 (b : Nat) : Nat := ((b / 2) &&& 85) + (b &&& 85)
def f2 (b : Nat) : Nat := ((b / 4) &&& 51) + (b &&& 51)
def f3 (b : Nat) : Nat := b / 16 + b % 16
theorem d1 : ∀ b : Fin 256, ∀ h : Fin 2, ((b.val / 2 + 128 * h.val) &&& 85) = (b.val / 2) &&& 85 := by decide +kernel
theorem d2 : ∀ b : Fin 256, ∀ h : Fin 4, ((b.val / 4 + 64 * h.val) &&& 51) = (b.val / 4) &&& 51 := by decide +kernel
theorem d3 : ∀ b : Fin 256, ∀ h : Fin 5, b.val % 16 ≤ 4 → b.val / 16 ≤ 4 → ((b.val / 16 + 16 * h.val + b.val) &&& 15) = b.val / 16 + b.val % 16 := by decide +kernel
theorem d4 : ∀ b : Fin 256, f1 b.val < 256 ∧ f2 (f1 b.val) < 256 ∧ f2 (f1 b.val) % 16 ≤ 4 ∧ f2 (f1 b.val) / 16 ≤ 4 ∧ f3 (f2 (f1 b.val)) ≤ 8 ∧
    f3 (f2 (f1 b.val)) = (List.range 8).countP (fun j => b.val.testBit j) := by decide +kernel
theorem F1 (bs : List Nat) (h : ∀ b ∈ bs, b < 256) : ((cat bs / 2) &&& mk 85 bs.length) + (cat bs &&& mk 85 bs.length) = cat (bs.map f1) := by
  induction bs with
  | nil => simp [cat, mk]
  | cons b l ih =>
    have hb : b < 256 := h b (by simp)
    have ih := ih (fun x hx => h x (by simp [hx]))
    simp only [cat, List.length_cons, mk, List.map_cons]
    rw [and_split _ _ _ (by decide), and_split _ _ _ (by decide)]
    have e1 : (b + 256 * cat l) / 2 % 256 = b / 2 + 128 * (cat l % 2) := by omega
    have e2 : (b + 256 * cat l) / 2 / 256 = cat l / 2 := by omega
    have e3 : (b + 256 * cat l) % 256 = b := by omega
    have e4 : (b + 256 * cat l) / 256 = cat l := by omega
    rw [e1, e2, e3, e4]
    have := d1 ⟨b, hb⟩ ⟨cat l % 2, by omega⟩
    simp only at this
    rw [this, ← ih]
    unfold f1
    omega
theorem st {b r m : Nat} (h : b < 256) (k : r < m) : b + 256 * r < 256 * m := by omega
/-- What the library's count comes to, step by step. -/
def q1 (x : Int) : Int := IntKind.u64.wrap (bits .and .u64 (x / 2) 6148914691236517205 + bits .and .u64 x 6148914691236517205)
def q2 (x : Int) : Int := IntKind.u64.wrap (bits .and .u64 (x / 4) 3689348814741910323 + bits .and .u64 x 3689348814741910323)
def q3 (x : Int) : Int := bits .and .u64 (IntKind.u64.wrap (x / 16 + x)) 1085102592571150095
def q4 (x : Int) : Int := IntKind.u64.wrap (x + x / 256)
def q5 (x : Int) : Int := IntKind.u64.wrap (x + x / 65536)
def q6 (x : Int) : Int := IntKind.u64.wrap (x + x / 4294967296)
end Go.Proofs.YtehpccanjlaokaaGreat
