/- Plain mathematics on sets of 256 points, told as numbers of 256 bits, and on the words that hold them; no program is spoken of. -/
import Derived.WalkKit
namespace Go.Proofs.Ytjjpobpcpgcbaaa
open Go.RowKit

/-- A word as the program holds it. -/
def wv (x : BitVec 64) : Value := .int .u64 (x.toNat : Int)
/-- Word k of a set. -/
def wd (S : BitVec 256) (k : Nat) : BitVec 64 := S.extractLsb' (64 * k) 64
/-- A set as the program holds it. -/
def sv (S : BitVec 256) : Value := .agg #[wv (wd S 0), wv (wd S 1), wv (wd S 2), wv (wd S 3)]

theorem wd_bit (S : BitVec 256) (k j : Nat) : (wd S k).getLsbD j = (decide (j < 64) && S.getLsbD (64 * k + j)) := by
  unfold wd; rw [BitVec.getLsbD_extractLsb']
theorem wd_or (S T : BitVec 256) (k : Nat) : wd (S ||| T) k = wd S k ||| wd T k := by unfold wd; rw [BitVec.extractLsb'_or]
theorem wd_and (S T : BitVec 256) (k : Nat) : wd (S &&& T) k = wd S k &&& wd T k := by unfold wd; rw [BitVec.extractLsb'_and]
theorem wd_less (S T : BitVec 256) (k : Nat) (hk : k < 4) : wd (S &&& ~~~T) k = wd S k &&& ~~~(wd T k) := by
  apply BitVec.eq_of_getLsbD_eq
  intro j hj
  rw [BitVec.getLsbD_and, BitVec.getLsbD_not, wd_bit, wd_bit, wd_bit, BitVec.getLsbD_and, BitVec.getLsbD_not]
  have h : 64 * k + j < 256 := by omega
  simp [hj, h]
theorem bv_ext {S T : BitVec 256} (h0 : wd S 0 = wd T 0) (h1 : wd S 1 = wd T 1) (h2 : wd S 2 = wd T 2) (h3 : wd S 3 = wd T 3) : S = T := by
  apply BitVec.eq_of_getLsbD_eq
  intro p hp
  have key : ∀ k, wd S k = wd T k → ∀ j, j < 64 → S.getLsbD (64 * k + j) = T.getLsbD (64 * k + j) := by
    intro k e j hj
    have h := congrArg (fun x => x.getLsbD j) e
    simp only [wd_bit, hj, decide_true, Bool.true_and] at h
    exact h
  have hq : p = 64 * (p / 64) + p % 64 := by omega
  have hk : p / 64 = 0 ∨ p / 64 = 1 ∨ p / 64 = 2 ∨ p / 64 = 3 := by omega
  have hm : p % 64 < 64 := by omega
  rw [hq]
  rcases hk with e | e | e | e <;> rw [e]
  · exact key 0 h0 _ hm
  · exact key 1 h1 _ hm
  · exact key 2 h2 _ hm
  · exact key 3 h3 _ hm

theorem wv_inj {a b : BitVec 64} (h : wv a = wv b) : a = b := by
  unfold wv at h
  injection h with _ h
  exact BitVec.eq_of_toNat_eq (by exact_mod_cast h)
theorem sv_inj {S T : BitVec 256} (h : sv S = sv T) : S = T := by
  unfold sv at h
  injection h with h
  have h' := congrArg Array.toList h
  simp only [List.cons.injEq, and_true] at h'
  exact bv_ext (wv_inj h'.1) (wv_inj h'.2.1) (wv_inj h'.2.2.1) (wv_inj h'.2.2.2)

/-- Four words make a set. -/
theorem of_words (x0 x1 x2 x3 : BitVec 64) : ∃ S : BitVec 256, wd S 0 = x0 ∧ wd S 1 = x1 ∧ wd S 2 = x2 ∧ wd S 3 = x3 := by
  refine ⟨(x3 ++ x2 ++ x1 ++ x0 : BitVec (64 + 64 + 64 + 64)), ?_, ?_, ?_, ?_⟩ <;>
    (apply BitVec.eq_of_getLsbD_eq; intro j hj; rw [wd_bit]; simp only [hj, decide_true, Bool.true_and, BitVec.getLsbD_append])
  · simp [hj]
  · have a : ¬ (64 * 1 + j < 64) := by omega
    have b : 64 * 1 + j - 64 < 64 := by omega
    have c : 64 * 1 + j - 64 = j := by omega
    simp only [a, b, if_true, if_false]
    rw [c]
  · have a : ¬ (64 * 2 + j < 64) := by omega
    have b : ¬ (64 * 2 + j - 64 < 64) := by omega
    have c : 64 * 2 + j - 64 - 64 < 64 := by omega
    have e : 64 * 2 + j - 64 - 64 = j := by omega
    simp only [a, b, c, if_true, if_false]
    rw [e]
  · have a : ¬ (64 * 3 + j < 64) := by omega
    have b : ¬ (64 * 3 + j - 64 < 64) := by omega
    have c : ¬ (64 * 3 + j - 64 - 64 < 64) := by omega
    have e : 64 * 3 + j - 64 - 64 - 64 = j := by omega
    simp only [a, b, c, if_false]
    rw [e]

theorem wrap_u64_id (n : Int) (h0 : 0 ≤ n) (h1 : n < 18446744073709551616) : IntKind.u64.wrap n = n := by rw [IntKind.wrap_u64]; omega
theorem ofInt_self (a : BitVec 64) : BitVec.ofInt 64 (a.toNat : Int) = a := by
  apply BitVec.eq_of_toNat_eq
  rw [BitVec.ofInt_natCast, BitVec.toNat_ofNat]
  exact Nat.mod_eq_of_lt a.isLt
theorem bits_u64_bv (op : BinOp) (a b : BitVec 64) : bits op .u64 (a.toNat : Int) (b.toNat : Int) =
    ((match op with | .and => a &&& b | .or => a ||| b | .xor => a ^^^ b | _ => a &&& ~~~b).toNat : Int) := by
  have ea : BitVec.ofInt 64 (a.toNat : Int) = a := ofInt_self a
  have eb : BitVec.ofInt 64 (b.toNat : Int) = b := ofInt_self b
  show IntKind.u64.wrap ((match op with | .and => BitVec.ofInt 64 (a.toNat : Int) &&& BitVec.ofInt 64 (b.toNat : Int) | .or => BitVec.ofInt 64 (a.toNat : Int) ||| BitVec.ofInt 64 (b.toNat : Int) | .xor => BitVec.ofInt 64 (a.toNat : Int) ^^^ BitVec.ofInt 64 (b.toNat : Int) | _ => BitVec.ofInt 64 (a.toNat : Int) &&& ~~~BitVec.ofInt 64 (b.toNat : Int)).toNat : Int) = _
  rw [ea, eb]
  exact wrap_u64_id _ (by omega) (by have := (match op with | .and => a &&& b | .or => a ||| b | .xor => a ^^^ b | _ => a &&& ~~~b).isLt; omega)
theorem bits_or_bv (a b : BitVec 64) : bits .or .u64 (a.toNat : Int) (b.toNat : Int) = ((a ||| b).toNat : Int) := bits_u64_bv .or a b
theorem bits_and_bv (a b : BitVec 64) : bits .and .u64 (a.toNat : Int) (b.toNat : Int) = ((a &&& b).toNat : Int) := bits_u64_bv .and a b
theorem bits_less_bv (a b : BitVec 64) : bits .andNot .u64 (a.toNat : Int) (b.toNat : Int) = ((a &&& ~~~b).toNat : Int) := bits_u64_bv .andNot a b
theorem bits_and_nat (a b : Nat) (ha : a < 18446744073709551616) (hb : b < 18446744073709551616) : bits .and .u64 (a : Int) (b : Int) = ((a &&& b : Nat) : Int) :=
  (bits_nat .u64 64 (by decide) (fun n h0 h1 => wrap_u64_id n h0 h1) a b ha hb).1

/-- The set whose points are those p with g p. -/
def wsum (g : Nat → Bool) : Nat → Nat
  | 0 => 0
  | k + 1 => wsum g k + (if g k then 2 ^ k else 0)
theorem wsum_lt (g : Nat → Bool) (k : Nat) : wsum g k < 2 ^ k := by
  induction k with
  | zero => simp [wsum]
  | succ k ih => rw [wsum, Nat.pow_succ]; split <;> omega
theorem one_bit (j : Nat) (h : j ≠ 0) : Nat.testBit 1 j = false := by
  cases j with
  | zero => exact absurd rfl h
  | succ n => simp [Nat.testBit_succ]
theorem wsum_bit (g : Nat → Bool) (k j : Nat) : (wsum g k).testBit j = (decide (j < k) && g j) := by
  induction k with
  | zero => simp [wsum]
  | succ k ih =>
    have hlt := wsum_lt g k
    rw [wsum]
    by_cases hg : g k
    · rw [if_pos hg]
      have e : wsum g k + 2 ^ k = 2 ^ k * 1 + wsum g k := by omega
      rw [e, Nat.testBit_two_pow_mul_add _ hlt]
      by_cases hj : j < k
      · rw [if_pos hj, ih]
        have : j < k + 1 := by omega
        simp [hj, this]
      · rw [if_neg hj]
        by_cases hjk : j = k
        · subst hjk; simp [hg]
        · have a : ¬ (j < k + 1) := by omega
          have b : Nat.testBit 1 (j - k) = false := one_bit _ (by omega)
          simp [a, b]
    · rw [if_neg hg, Nat.add_zero, ih]
      by_cases hj : j < k
      · have : j < k + 1 := by omega
        simp [hj, this]
      · by_cases hjk : j = k
        · subst hjk; simp [hg]
        · have a : ¬ (j < k + 1) := by omega
          simp [hj, a]
def bvOf (g : Nat → Bool) : BitVec 256 := BitVec.ofNat 256 (wsum g 256)
theorem bvOf_bit (g : Nat → Bool) (p : Nat) : (bvOf g).getLsbD p = (decide (p < 256) && g p) := by
  unfold bvOf
  rw [BitVec.getLsbD_ofNat, wsum_bit]
  by_cases h : p < 256 <;> simp [h]
theorem bvOf_eq (S : BitVec 256) (g : Nat → Bool) (h : ∀ p, p < 256 → g p = S.getLsbD p) : bvOf g = S := by
  apply BitVec.eq_of_getLsbD_eq
  intro p hp
  rw [bvOf_bit, h p hp]; simp [hp]
theorem wd_bvOf (g : Nat → Bool) (i : Nat) (hi : i < 4) : ((wd (bvOf g) i).toNat : Int) = ((wsum (fun j => g (64 * i + j)) 64 : Nat) : Int) := by
  have hlt : wsum (fun j => g (64 * i + j)) 64 < 2 ^ 64 := wsum_lt _ _
  have e : wd (bvOf g) i = BitVec.ofNat 64 (wsum (fun j => g (64 * i + j)) 64) := by
    apply BitVec.eq_of_getLsbD_eq
    intro j hj
    rw [wd_bit, bvOf_bit, BitVec.getLsbD_ofNat, wsum_bit]
    have : 64 * i + j < 256 := by omega
    simp [hj, this]
  rw [e, BitVec.toNat_ofNat, Nat.mod_eq_of_lt hlt]

/- COUNTING. -/
/-- The number of points of a word. -/
def pop64 (x : Nat) : Nat := (List.range 64).countP (fun j => x.testBit j)
/-- The number of points of a set. -/
def pop (S : BitVec 256) : Nat := (List.range 256).countP (fun p => S.getLsbD p)
/-- The points of a set, rising. -/
def pts (S : BitVec 256) : List Nat := (List.range 256).filter (fun p => S.getLsbD p)
theorem pop_eq (S : BitVec 256) : pop S = (pts S).length := List.countP_eq_length_filter
theorem pop_words (S : BitVec 256) : pop S = pop64 (wd S 0).toNat + pop64 (wd S 1).toNat + pop64 (wd S 2).toNat + pop64 (wd S 3).toNat := by
  have key : ∀ k, pop64 (wd S k).toNat = (List.range' (64 * k) 64).countP (fun p => S.getLsbD p) := by
    intro k
    have e : List.range' (64 * k) 64 = (List.range 64).map (fun j => 64 * k + j) := by
      rw [List.range_eq_range', List.map_add_range']; simp
    rw [e, List.countP_map]
    unfold pop64
    apply List.countP_congr
    intro j hj
    have hj' : j < 64 := by simpa using hj
    have h := wd_bit S k j
    simp only [BitVec.getLsbD] at h
    rw [h]
    simp [hj', BitVec.getLsbD]
  have r : List.range 256 = List.range' (64 * 0) 64 ++ List.range' (64 * 1) 64 ++ List.range' (64 * 2) 64 ++ List.range' (64 * 3) 64 := by decide +kernel
  rw [key, key, key, key]
  unfold pop
  rw [r, List.countP_append, List.countP_append, List.countP_append]

theorem pop_or_and (S T : BitVec 256) : pop (S ||| T) + pop (S &&& T) = pop S + pop T := by
  unfold pop
  induction List.range 256 with
  | nil => rfl
  | cons p l ih =>
    simp only [List.countP_cons, BitVec.getLsbD_or, BitVec.getLsbD_and] at ih ⊢
    cases S.getLsbD p <;> cases T.getLsbD p <;> simp <;> omega
theorem pop_le (S : BitVec 256) : pop S ≤ 256 := by
  unfold pop
  have := List.countP_le_length (p := fun p => S.getLsbD p) (l := List.range 256)
  simpa using this

/- THE COUNT BY STEPS: bytes first. -/
def cat : List Nat → Nat
  | [] => 0
  | b :: l => b + 256 * cat l
def mk (c : Nat) : Nat → Nat
  | 0 => 0
  | n + 1 => c + 256 * mk c n
theorem and_split (X ml mh : Nat) (h : ml < 256) : X &&& (ml + 256 * mh) = ((X % 256) &&& ml) + 256 * ((X / 256) &&& mh) := by
  have a : (X &&& (ml + 256 * mh)) % 256 = (X % 256) &&& ml := by
    have := @Nat.and_mod_two_pow X (ml + 256 * mh) 8
    have e : (ml + 256 * mh) % 2 ^ 8 = ml := by omega
    rw [e] at this
    exact this
  have b : (X &&& (ml + 256 * mh)) / 256 = (X / 256) &&& mh := by
    have := @Nat.and_div_two_pow X (ml + 256 * mh) 8
    have e : (ml + 256 * mh) / 2 ^ 8 = mh := by omega
    rw [e] at this
    exact this
  rw [← a, ← b]; omega
def f1 (b : Nat) : Nat := ((b / 2) &&& 85) + (b &&& 85)
def f2 (b : Nat) : Nat := ((b / 4) &&& 51) + (b &&& 51)
def f3 (b : Nat) : Nat := b / 16 + b % 16
def small (b : Nat) : Prop := b % 16 ≤ 4 ∧ b / 16 ≤ 4
theorem d1 : ∀ b : Fin 256, ∀ h : Fin 2, ((b.val / 2 + 128 * h.val) &&& 85) = (b.val / 2) &&& 85 := by decide +kernel
theorem d2 : ∀ b : Fin 256, ∀ h : Fin 4, ((b.val / 4 + 64 * h.val) &&& 51) = (b.val / 4) &&& 51 := by decide +kernel
theorem d3 : ∀ b : Fin 256, ∀ h : Fin 5, b.val % 16 ≤ 4 → b.val / 16 ≤ 4 → ((b.val / 16 + 16 * h.val + b.val) &&& 15) = b.val / 16 + b.val % 16 := by decide +kernel
theorem d4 : ∀ b : Fin 256, f1 b.val < 256 ∧ f2 (f1 b.val) < 256 ∧ f2 (f1 b.val) % 16 ≤ 4 ∧ f2 (f1 b.val) / 16 ≤ 4 ∧ f3 (f2 (f1 b.val)) ≤ 8 ∧
    f3 (f2 (f1 b.val)) = (List.range 8).countP (fun j => b.val.testBit j) := by decide +kernel
theorem F1 (bs : List Nat) (h : ∀ b ∈ bs, b < 256) : ((cat bs / 2) &&& mk 85 bs.length) + (cat bs &&& mk 85 bs.length) = cat (bs.map f1) := by
  induction bs with
  | nil => simp [cat, mk]
  | cons b l ih =>
    have hb : b < 256 := h b (by simp)
    have ih := ih (fun x hx => h x (by simp [hx]))
    simp only [cat, List.length_cons, mk, List.map_cons]
    rw [and_split _ _ _ (by decide), and_split _ _ _ (by decide)]
    have e1 : (b + 256 * cat l) / 2 % 256 = b / 2 + 128 * (cat l % 2) := by omega
    have e2 : (b + 256 * cat l) / 2 / 256 = cat l / 2 := by omega
    have e3 : (b + 256 * cat l) % 256 = b := by omega
    have e4 : (b + 256 * cat l) / 256 = cat l := by omega
    rw [e1, e2, e3, e4]
    have := d1 ⟨b, hb⟩ ⟨cat l % 2, by omega⟩
    simp only at this
    rw [this, ← ih]
    unfold f1
    omega
theorem F2 (bs : List Nat) (h : ∀ b ∈ bs, b < 256) : ((cat bs / 4) &&& mk 51 bs.length) + (cat bs &&& mk 51 bs.length) = cat (bs.map f2) := by
  induction bs with
  | nil => simp [cat, mk]
  | cons b l ih =>
    have hb : b < 256 := h b (by simp)
    have ih := ih (fun x hx => h x (by simp [hx]))
    simp only [cat, List.length_cons, mk, List.map_cons]
    rw [and_split _ _ _ (by decide), and_split _ _ _ (by decide)]
    have e1 : (b + 256 * cat l) / 4 % 256 = b / 4 + 64 * (cat l % 4) := by omega
    have e2 : (b + 256 * cat l) / 4 / 256 = cat l / 4 := by omega
    have e3 : (b + 256 * cat l) % 256 = b := by omega
    have e4 : (b + 256 * cat l) / 256 = cat l := by omega
    rw [e1, e2, e3, e4]
    have := d2 ⟨b, hb⟩ ⟨cat l % 4, by omega⟩
    simp only at this
    rw [this, ← ih]
    unfold f2
    omega
theorem cat_low (l : List Nat) (h : ∀ b ∈ l, b < 256 ∧ small b) : cat l % 16 ≤ 4 := by
  cases l with
  | nil => simp [cat]
  | cons b l =>
    have := (h b (by simp)).2.1
    simp only [cat]; omega
theorem F3 (bs : List Nat) (h : ∀ b ∈ bs, b < 256 ∧ small b) : (cat bs / 16 + cat bs) &&& mk 15 bs.length = cat (bs.map f3) := by
  induction bs with
  | nil => simp [cat, mk]
  | cons b l ih =>
    obtain ⟨hb, hs1, hs2⟩ := h b (by simp)
    have hl := cat_low l (fun x hx => h x (by simp [hx]))
    have ih := ih (fun x hx => h x (by simp [hx]))
    simp only [cat, List.length_cons, mk, List.map_cons]
    rw [and_split _ _ _ (by decide)]
    have e1 : ((b + 256 * cat l) / 16 + (b + 256 * cat l)) % 256 = b / 16 + 16 * (cat l % 16) + b := by omega
    have e2 : ((b + 256 * cat l) / 16 + (b + 256 * cat l)) / 256 = cat l / 16 + cat l := by omega
    rw [e1, e2]
    have := d3 ⟨b, hb⟩ ⟨cat l % 16, by omega⟩ hs1 hs2
    simp only at this
    rw [this, ih]
    rfl
theorem pop64_bytes (b0 b1 b2 b3 b4 b5 b6 b7 : Nat) (h0 : b0 < 256) (h1 : b1 < 256) (h2 : b2 < 256) (h3 : b3 < 256) (h4 : b4 < 256) (h5 : b5 < 256) (h6 : b6 < 256) (h7 : b7 < 256) :
    pop64 (cat [b0, b1, b2, b3, b4, b5, b6, b7]) = ([b0, b1, b2, b3, b4, b5, b6, b7].map (fun b => (List.range 8).countP (fun j => b.testBit j))).sum := by
  have key : ∀ (n b h : Nat), b < 256 → (List.range (8 + n)).countP (fun j => (b + 256 * h).testBit j) = (List.range 8).countP (fun j => b.testBit j) + (List.range n).countP (fun j => h.testBit j) := by
    intro n b h hb
    rw [List.range_add, List.countP_append, List.countP_map]
    congr 1
    · apply List.countP_congr
      intro j hj
      have hj' : j < 8 := by simpa using hj
      have e : b + 256 * h = 2 ^ 8 * h + b := by omega
      rw [e, Nat.testBit_two_pow_mul_add _ hb, if_pos hj']
    · apply List.countP_congr
      intro j _
      have e : b + 256 * h = 2 ^ 8 * h + b := by omega
      have hn : ¬ (8 + j < 8) := by omega
      simp only [Function.comp_apply]
      rw [e, Nat.testBit_two_pow_mul_add _ hb, if_neg hn]
      simp
  unfold pop64 cat
  rw [key 56 b0 _ h0]
  unfold cat
  rw [key 48 b1 _ h1]
  unfold cat
  rw [key 40 b2 _ h2]
  unfold cat
  rw [key 32 b3 _ h3]
  unfold cat
  rw [key 24 b4 _ h4]
  unfold cat
  rw [key 16 b5 _ h5]
  unfold cat
  rw [key 8 b6 _ h6]
  unfold cat
  rw [key 0 b7 _ h7]
  simp only [List.map_cons, List.map_nil, List.sum_cons, List.sum_nil, List.range_zero, List.countP_nil]
theorem st {b r m : Nat} (h : b < 256) (k : r < m) : b + 256 * r < 256 * m := by omega
theorem cat8_lt (c0 c1 c2 c3 c4 c5 c6 c7 : Nat) (h0 : c0 < 256) (h1 : c1 < 256) (h2 : c2 < 256) (h3 : c3 < 256) (h4 : c4 < 256) (h5 : c5 < 256) (h6 : c6 < 256) (h7 : c7 < 256) :
    cat [c0, c1, c2, c3, c4, c5, c6, c7] < 18446744073709551616 :=
  Nat.lt_of_lt_of_le (st h0 (st h1 (st h2 (st h3 (st h4 (st h5 (st h6 (st h7 (Nat.zero_lt_one))))))))) (by decide)
theorem cat8_lt' (c0 c1 c2 c3 c4 c5 c6 c7 : Nat) (h0 : c0 < 256) (h1 : c1 < 256) (h2 : c2 < 256) (h3 : c3 < 256) (h4 : c4 < 256) (h5 : c5 < 256) (h6 : c6 < 256) (h7 : c7 < 128) :
    cat [c0, c1, c2, c3, c4, c5, c6, c7] < 9223372036854775808 :=
  Nat.lt_of_lt_of_le (st h0 (st h1 (st h2 (st h3 (st h4 (st h5 (st h6 (m := 128) (by simp only [cat]; omega)))))))) (by decide)
theorem div1 (x r : Nat) (h : x < 256) : (x + 256 * r) / 256 = r := by omega
theorem div2 (x y r : Nat) (h : x < 256) (k : y < 256) : (x + 256 * (y + 256 * r)) / 65536 = r := by omega
theorem div4 (x y z u r : Nat) (h : x < 256) (k : y < 256) (l : z < 256) (m : u < 256) : (x + 256 * (y + 256 * (z + 256 * (u + 256 * r)))) / 4294967296 = r := by omega
theorem mod7 (x r : Nat) (h : x < 128) : (x + 256 * r) % 128 = x := by omega
theorem add7 (x y r s : Nat) : (x + 256 * r) + (y + 256 * s) = (x + y) + 256 * (r + s) := by omega
theorem sum8 (c0 c1 c2 c3 c4 c5 c6 c7 : Nat) (h0 : c0 ≤ 8) (h1 : c1 ≤ 8) (h2 : c2 ≤ 8) (h3 : c3 ≤ 8) (h4 : c4 ≤ 8) (h5 : c5 ≤ 8) (h6 : c6 ≤ 8) (h7 : c7 ≤ 8)
    (y a b c : Nat) (hy : y = cat [c0, c1, c2, c3, c4, c5, c6, c7]) (ha : a = y + y / 256) (hb : b = a + a / 65536) (hc : c = b + b / 4294967296) :
    c < 9223372036854775808 ∧ a < 18446744073709551616 ∧ b < 18446744073709551616 ∧ c % 128 = c0 + c1 + c2 + c3 + c4 + c5 + c6 + c7 := by
  have e1 : y / 256 = cat [c1, c2, c3, c4, c5, c6, c7] := by rw [hy]; exact div1 _ _ (by omega)
  have ha' : a = cat [c0 + c1, c1 + c2, c2 + c3, c3 + c4, c4 + c5, c5 + c6, c6 + c7, c7] := by
    rw [ha, e1, hy]; simp only [cat, add7, Nat.mul_zero, Nat.add_zero]; omega
  have e2 : a / 65536 = cat [c2 + c3, c3 + c4, c4 + c5, c5 + c6, c6 + c7, c7] := by rw [ha']; exact div2 _ _ _ (by omega) (by omega)
  have hb' : b = cat [c0 + c1 + (c2 + c3), c1 + c2 + (c3 + c4), c2 + c3 + (c4 + c5), c3 + c4 + (c5 + c6), c4 + c5 + (c6 + c7), c5 + c6 + c7, c6 + c7, c7] := by
    rw [hb, e2, ha']; simp only [cat, add7, Nat.mul_zero, Nat.add_zero]; omega
  have e3 : b / 4294967296 = cat [c4 + c5 + (c6 + c7), c5 + c6 + c7, c6 + c7, c7] := by rw [hb']; exact div4 _ _ _ _ _ (by omega) (by omega) (by omega) (by omega)
  have hc' : c = cat [c0 + c1 + (c2 + c3) + (c4 + c5 + (c6 + c7)), c1 + c2 + (c3 + c4) + (c5 + c6 + c7), c2 + c3 + (c4 + c5) + (c6 + c7), c3 + c4 + (c5 + c6) + c7, c4 + c5 + (c6 + c7), c5 + c6 + c7, c6 + c7, c7] := by
    rw [hc, e3, hb']; simp only [cat, add7, Nat.mul_zero, Nat.add_zero]; omega
  clear ha hb hc e1 e2 e3
  refine ⟨?_, ?_, ?_, ?_⟩
  · rw [hc']; exact cat8_lt' _ _ _ _ _ _ _ _ (by omega) (by omega) (by omega) (by omega) (by omega) (by omega) (by omega) (by omega)
  · rw [ha']; exact cat8_lt _ _ _ _ _ _ _ _ (by omega) (by omega) (by omega) (by omega) (by omega) (by omega) (by omega) (by omega)
  · rw [hb']; exact cat8_lt _ _ _ _ _ _ _ _ (by omega) (by omega) (by omega) (by omega) (by omega) (by omega) (by omega) (by omega)
  · rw [hc']; exact (mod7 _ _ (by omega)).trans (by omega)

/-- What the library's count comes to, step by step. -/
def q1 (x : Int) : Int := IntKind.u64.wrap (bits .and .u64 (x / 2) 6148914691236517205 + bits .and .u64 x 6148914691236517205)
def q2 (x : Int) : Int := IntKind.u64.wrap (bits .and .u64 (x / 4) 3689348814741910323 + bits .and .u64 x 3689348814741910323)
def q3 (x : Int) : Int := bits .and .u64 (IntKind.u64.wrap (x / 16 + x)) 1085102592571150095
def q4 (x : Int) : Int := IntKind.u64.wrap (x + x / 256)
def q5 (x : Int) : Int := IntKind.u64.wrap (x + x / 65536)
def q6 (x : Int) : Int := IntKind.u64.wrap (x + x / 4294967296)
theorem pop64_steps (x : Nat) (hx : x < 18446744073709551616) : q6 (q5 (q4 (q3 (q2 (q1 (x : Int)))))) < 9223372036854775808 ∧ 0 ≤ q6 (q5 (q4 (q3 (q2 (q1 (x : Int)))))) ∧ q6 (q5 (q4 (q3 (q2 (q1 (x : Int)))))) % 128 = (pop64 x : Int) := by
  have cast : ∀ a b : Nat, ((a : Int) / (b : Int)) = ((a / b : Nat) : Int) := fun a b => (Int.natCast_ediv a b).symm
  obtain ⟨b0, b1, b2, b3, b4, b5, b6, b7, h0, h1, h2, h3, h4, h5, h6, h7, hx'⟩ : ∃ b0 b1 b2 b3 b4 b5 b6 b7 : Nat, b0 < 256 ∧ b1 < 256 ∧ b2 < 256 ∧ b3 < 256 ∧ b4 < 256 ∧ b5 < 256 ∧ b6 < 256 ∧ b7 < 256 ∧ x = cat [b0, b1, b2, b3, b4, b5, b6, b7] :=
    ⟨x % 256, x / 256 % 256, x / 65536 % 256, x / 16777216 % 256, x / 4294967296 % 256, x / 1099511627776 % 256, x / 281474976710656 % 256, x / 72057594037927936, by omega, by omega, by omega, by omega, by omega, by omega, by omega, by omega, by simp only [cat]; omega⟩
  have hP := pop64_bytes b0 b1 b2 b3 b4 b5 b6 b7 h0 h1 h2 h3 h4 h5 h6 h7
  have D0 := d4 ⟨b0, h0⟩
  have D1 := d4 ⟨b1, h1⟩
  have D2 := d4 ⟨b2, h2⟩
  have D3 := d4 ⟨b3, h3⟩
  have D4 := d4 ⟨b4, h4⟩
  have D5 := d4 ⟨b5, h5⟩
  have D6 := d4 ⟨b6, h6⟩
  have D7 := d4 ⟨b7, h7⟩
  simp only at D0 D1 D2 D3 D4 D5 D6 D7
  have G1 := F1 [b0, b1, b2, b3, b4, b5, b6, b7] (by simp only [List.mem_cons, List.not_mem_nil, or_false, forall_eq_or_imp, forall_eq]; exact ⟨h0, h1, h2, h3, h4, h5, h6, h7⟩)
  have G2 := F2 [f1 b0, f1 b1, f1 b2, f1 b3, f1 b4, f1 b5, f1 b6, f1 b7] (by simp only [List.mem_cons, List.not_mem_nil, or_false, forall_eq_or_imp, forall_eq]; exact ⟨D0.1, D1.1, D2.1, D3.1, D4.1, D5.1, D6.1, D7.1⟩)
  have G3 := F3 [f2 (f1 b0), f2 (f1 b1), f2 (f1 b2), f2 (f1 b3), f2 (f1 b4), f2 (f1 b5), f2 (f1 b6), f2 (f1 b7)] (by simp only [List.mem_cons, List.not_mem_nil, or_false, forall_eq_or_imp, forall_eq]; exact ⟨⟨D0.2.1, D0.2.2.1, D0.2.2.2.1⟩, ⟨D1.2.1, D1.2.2.1, D1.2.2.2.1⟩, ⟨D2.2.1, D2.2.2.1, D2.2.2.2.1⟩, ⟨D3.2.1, D3.2.2.1, D3.2.2.2.1⟩, ⟨D4.2.1, D4.2.2.1, D4.2.2.2.1⟩, ⟨D5.2.1, D5.2.2.1, D5.2.2.2.1⟩, ⟨D6.2.1, D6.2.2.1, D6.2.2.2.1⟩, ⟨D7.2.1, D7.2.2.1, D7.2.2.2.1⟩⟩)
  have m1 : mk 85 8 = 6148914691236517205 := by decide
  have m2 : mk 51 8 = 3689348814741910323 := by decide
  have m3 : mk 15 8 = 1085102592571150095 := by decide
  simp only [List.map_cons, List.map_nil, List.length_cons, List.length_nil, Nat.zero_add, Nat.reduceAdd, m1, m2, m3, ← hx'] at G1 G2 G3
  have L1 : cat [f1 b0, f1 b1, f1 b2, f1 b3, f1 b4, f1 b5, f1 b6, f1 b7] < 18446744073709551616 := cat8_lt _ _ _ _ _ _ _ _ D0.1 D1.1 D2.1 D3.1 D4.1 D5.1 D6.1 D7.1
  have L2 : cat [f2 (f1 b0), f2 (f1 b1), f2 (f1 b2), f2 (f1 b3), f2 (f1 b4), f2 (f1 b5), f2 (f1 b6), f2 (f1 b7)] < 9223372036854775808 := cat8_lt' _ _ _ _ _ _ _ _ D0.2.1 D1.2.1 D2.2.1 D3.2.1 D4.2.1 D5.2.1 D6.2.1 (by have := D7.2.2.1; have := D7.2.2.2.1; omega)
  have Z := sum8 _ _ _ _ _ _ _ _ D0.2.2.2.2.1 D1.2.2.2.2.1 D2.2.2.2.2.1 D3.2.2.2.2.1 D4.2.2.2.2.1 D5.2.2.2.2.1 D6.2.2.2.2.1 D7.2.2.2.2.1 _ _ _ _ rfl rfl rfl rfl
  have P : pop64 x = f3 (f2 (f1 b0)) + f3 (f2 (f1 b1)) + f3 (f2 (f1 b2)) + f3 (f2 (f1 b3)) + f3 (f2 (f1 b4)) + f3 (f2 (f1 b5)) + f3 (f2 (f1 b6)) + f3 (f2 (f1 b7)) := by
    rw [hx', hP, D0.2.2.2.2.2, D1.2.2.2.2.2, D2.2.2.2.2.2, D3.2.2.2.2.2, D4.2.2.2.2.2, D5.2.2.2.2.2, D6.2.2.2.2.2, D7.2.2.2.2.2]
    simp only [List.map_cons, List.map_nil, List.sum_cons, List.sum_nil, Nat.add_zero, Nat.add_assoc]
  clear D0 D1 D2 D3 D4 D5 D6 D7 h0 h1 h2 h3 h4 h5 h6 h7 hP
  have E1 : q1 (x : Int) = (cat [f1 b0, f1 b1, f1 b2, f1 b3, f1 b4, f1 b5, f1 b6, f1 b7] : Int) := by
    unfold q1
    rw [show ((x : Int) / 2) = ((x / 2 : Nat) : Int) from cast x 2, show (6148914691236517205 : Int) = ((6148914691236517205 : Nat) : Int) from rfl, bits_and_nat _ _ (by omega) (by decide), bits_and_nat _ _ hx (by decide), ← Int.natCast_add, G1]
    exact wrap_u64_id _ (by omega) (by omega)
  have E2 : q2 (q1 (x : Int)) = (cat [f2 (f1 b0), f2 (f1 b1), f2 (f1 b2), f2 (f1 b3), f2 (f1 b4), f2 (f1 b5), f2 (f1 b6), f2 (f1 b7)] : Int) := by
    rw [E1]
    generalize cat [f1 b0, f1 b1, f1 b2, f1 b3, f1 b4, f1 b5, f1 b6, f1 b7] = y at *
    unfold q2
    rw [show ((y : Int) / 4) = ((y / 4 : Nat) : Int) from cast y 4, show (3689348814741910323 : Int) = ((3689348814741910323 : Nat) : Int) from rfl, bits_and_nat _ _ (by omega) (by decide), bits_and_nat _ _ L1 (by decide), ← Int.natCast_add, G2]
    exact wrap_u64_id _ (by omega) (by omega)
  have E3 : q3 (q2 (q1 (x : Int))) = (cat [f3 (f2 (f1 b0)), f3 (f2 (f1 b1)), f3 (f2 (f1 b2)), f3 (f2 (f1 b3)), f3 (f2 (f1 b4)), f3 (f2 (f1 b5)), f3 (f2 (f1 b6)), f3 (f2 (f1 b7))] : Int) := by
    rw [E2]
    generalize cat [f2 (f1 b0), f2 (f1 b1), f2 (f1 b2), f2 (f1 b3), f2 (f1 b4), f2 (f1 b5), f2 (f1 b6), f2 (f1 b7)] = y at *
    unfold q3
    rw [show ((y : Int) / 16) = ((y / 16 : Nat) : Int) from cast y 16, ← Int.natCast_add, wrap_u64_id _ (by omega) (by omega), show (1085102592571150095 : Int) = ((1085102592571150095 : Nat) : Int) from rfl, bits_and_nat _ _ (by omega) (by decide), G3]
  rw [E3, P]
  generalize cat [f3 (f2 (f1 b0)), f3 (f2 (f1 b1)), f3 (f2 (f1 b2)), f3 (f2 (f1 b3)), f3 (f2 (f1 b4)), f3 (f2 (f1 b5)), f3 (f2 (f1 b6)), f3 (f2 (f1 b7))] = y at *
  obtain ⟨z1, z2, z3, z4⟩ := Z
  have S4 : q4 (y : Int) = ((y + y / 256 : Nat) : Int) := by
    unfold q4
    rw [show ((y : Int) / 256) = ((y / 256 : Nat) : Int) from cast y 256, ← Int.natCast_add]
    exact wrap_u64_id _ (by omega) (by omega)
  rw [S4]
  generalize y + y / 256 = a at *
  have S5 : q5 (a : Int) = ((a + a / 65536 : Nat) : Int) := by
    unfold q5
    rw [show ((a : Int) / 65536) = ((a / 65536 : Nat) : Int) from cast a 65536, ← Int.natCast_add]
    exact wrap_u64_id _ (by omega) (by omega)
  rw [S5]
  generalize a + a / 65536 = b at *
  have S6 : q6 (b : Int) = ((b + b / 4294967296 : Nat) : Int) := by
    unfold q6
    rw [show ((b : Int) / 4294967296) = ((b / 4294967296 : Nat) : Int) from cast b 4294967296, ← Int.natCast_add]
    exact wrap_u64_id _ (by omega) (by omega)
  rw [S6]
  generalize b + b / 4294967296 = c at *
  refine ⟨by omega, by omega, ?_⟩
  rw [← z4]
  omega

end Go.Proofs.Ytjjpobpcpgcbaaa
