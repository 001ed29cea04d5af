/- Plain mathematics on sets of 256 points, told as numbers of 256 bits, and on the words that hold them; no program is spoken of. What each function of the package set answers, for every input: its words are those of the set that the document names; nothing that was there before a call turns. What Has, With and List of the package set answer, for every input. A region that draws its order, whose operations read and whose callees make memory of their own but hand back one value whatever that memory is: one walk in the order of the text serves every order. A region that draws its order: ahead of its last operations, which stand in the order of the text, all read, or call what makes memory of its own but hands back one value. One walk in the order of the text serves every order: the head in any world that has grown from the one ahead of it, the end in each of these. Plain mathematics on cubes, told as two numbers of 8 bits: their literals, their points, their texts; no program is spoken of. -/
import Derived.Test.YtckmjampgeojbaaGreatDoorRows
import Derived.WalkKit
import Derived.WalkSpells
import Derived.WalkLawsBesides
import Derived.Deep.QuietTactic
import Derived.BigQuiet
import Derived.Deep.RegionWith
import Derived.Lib.Hide
import Derived.Lib.SmallJoins
import Derived.Outline
import Derived.StillTail
namespace Go.Proofs.YtckmjampgeojbaaGreatDoor
open Go.RowKit

/-- A word as the program holds it. -/
def wv (x : BitVec 64) : Value := .int .u64 (x.toNat : Int)
/-- Word k of a set. -/
def wd (S : BitVec 256) (k : Nat) : BitVec 64 := S.extractLsb' (64 * k) 64
/-- A set as the program holds it. -/
def sv (S : BitVec 256) : Value := .agg #[wv (wd S 0), wv (wd S 1), wv (wd S 2), wv (wd S 3)]

theorem wd_bit (S : BitVec 256) (k j : Nat) : (wd S k).getLsbD j = (decide (j < 64) && S.getLsbD (64 * k + j)) := by
  unfold wd; rw [BitVec.getLsbD_extractLsb']
theorem wd_or (S T : BitVec 256) (k : Nat) : wd (S ||| T) k = wd S k ||| wd T k := by unfold wd; rw [BitVec.extractLsb'_or]
theorem wd_and (S T : BitVec 256) (k : Nat) : wd (S &&& T) k = wd S k &&& wd T k := by unfold wd; rw [BitVec.extractLsb'_and]
theorem wd_less (S T : BitVec 256) (k : Nat) (hk : k < 4) : wd (S &&& ~~~T) k = wd S k &&& ~~~(wd T k) := by
  apply BitVec.eq_of_getLsbD_eq
  intro j hj
  rw [BitVec.getLsbD_and, BitVec.getLsbD_not, wd_bit, wd_bit, wd_bit, BitVec.getLsbD_and, BitVec.getLsbD_not]
  have h : 64 * k + j < 256 := by omega
  simp [hj, h]
theorem bv_ext {S T : BitVec 256} (h0 : wd S 0 = wd T 0) (h1 : wd S 1 = wd T 1) (h2 : wd S 2 = wd T 2) (h3 : wd S 3 = wd T 3) : S = T := by
  apply BitVec.eq_of_getLsbD_eq
  intro p hp
  have key : ∀ k, wd S k = wd T k → ∀ j, j < 64 → S.getLsbD (64 * k + j) = T.getLsbD (64 * k + j) := by
    intro k e j hj
    have h := congrArg (fun x => x.getLsbD j) e
    simp only [wd_bit, hj, decide_true, Bool.true_and] at h
    exact h
  have hq : p = 64 * (p / 64) + p % 64 := by omega
  have hk : p / 64 = 0 ∨ p / 64 = 1 ∨ p / 64 = 2 ∨ p / 64 = 3 := by omega
  have hm : p % 64 < 64 := by omega
  rw [hq]
  rcases hk with e | e | e | e <;> rw [e]
  · exact key 0 h0 _ hm
  · exact key 1 h1 _ hm
  · exact key 2 h2 _ hm
  · exact key 3 h3 _ hm

theorem wv_inj {a b : BitVec 64} (h : wv a = wv b) : a = b := by
  unfold wv at h
  injection h with _ h
  exact BitVec.eq_of_toNat_eq (by exact_mod_cast h)
theorem sv_inj {S T : BitVec 256} (h : sv S = sv T) : S = T := by
  unfold sv at h
  injection h with h
  have h' := congrArg Array.toList h
  simp only [List.cons.injEq, and_true] at h'
  exact bv_ext (wv_inj h'.1) (wv_inj h'.2.1) (wv_inj h'.2.2.1) (wv_inj h'.2.2.2)

/-- Four words make a set. -/
theorem of_words (x0 x1 x2 x3 : BitVec 64) : ∃ S : BitVec 256, wd S 0 = x0 ∧ wd S 1 = x1 ∧ wd S 2 = x2 ∧ wd S 3 = x3 := by
  refine ⟨(x3 ++ x2 ++ x1 ++ x0 : BitVec (64 + 64 + 64 + 64)), ?_, ?_, ?_, ?_⟩ <;>
    (apply BitVec.eq_of_getLsbD_eq; intro j hj; rw [wd_bit]; simp only [hj, decide_true, Bool.true_and, BitVec.getLsbD_append])
  · simp [hj]
  · have a : ¬ (64 * 1 + j < 64) := by omega
    have b : 64 * 1 + j - 64 < 64 := by omega
    have c : 64 * 1 + j - 64 = j := by omega
    simp only [a, b, if_true, if_false]
    rw [c]
  · have a : ¬ (64 * 2 + j < 64) := by omega
    have b : ¬ (64 * 2 + j - 64 < 64) := by omega
    have c : 64 * 2 + j - 64 - 64 < 64 := by omega
    have e : 64 * 2 + j - 64 - 64 = j := by omega
    simp only [a, b, c, if_true, if_false]
    rw [e]
  · have a : ¬ (64 * 3 + j < 64) := by omega
    have b : ¬ (64 * 3 + j - 64 < 64) := by omega
    have c : ¬ (64 * 3 + j - 64 - 64 < 64) := by omega
    have e : 64 * 3 + j - 64 - 64 - 64 = j := by omega
    simp only [a, b, c, if_false]
    rw [e]

theorem wrap_u64_id (n : Int) (h0 : 0 ≤ n) (h1 : n < 18446744073709551616) : IntKind.u64.wrap n = n := by rw [IntKind.wrap_u64]; omega
theorem ofInt_self (a : BitVec 64) : BitVec.ofInt 64 (a.toNat : Int) = a := by
  apply BitVec.eq_of_toNat_eq
  rw [BitVec.ofInt_natCast, BitVec.toNat_ofNat]
  exact Nat.mod_eq_of_lt a.isLt
theorem bits_u64_bv (op : BinOp) (a b : BitVec 64) : bits op .u64 (a.toNat : Int) (b.toNat : Int) =
    ((match op with | .and => a &&& b | .or => a ||| b | .xor => a ^^^ b | _ => a &&& ~~~b).toNat : Int) := by
  have ea : BitVec.ofInt 64 (a.toNat : Int) = a := ofInt_self a
  have eb : BitVec.ofInt 64 (b.toNat : Int) = b := ofInt_self b
  show IntKind.u64.wrap ((match op with | .and => BitVec.ofInt 64 (a.toNat : Int) &&& BitVec.ofInt 64 (b.toNat : Int) | .or => BitVec.ofInt 64 (a.toNat : Int) ||| BitVec.ofInt 64 (b.toNat : Int) | .xor => BitVec.ofInt 64 (a.toNat : Int) ^^^ BitVec.ofInt 64 (b.toNat : Int) | _ => BitVec.ofInt 64 (a.toNat : Int) &&& ~~~BitVec.ofInt 64 (b.toNat : Int)).toNat : Int) = _
  rw [ea, eb]
  exact wrap_u64_id _ (by omega) (by have := (match op with | .and => a &&& b | .or => a ||| b | .xor => a ^^^ b | _ => a &&& ~~~b).isLt; omega)
theorem bits_or_bv (a b : BitVec 64) : bits .or .u64 (a.toNat : Int) (b.toNat : Int) = ((a ||| b).toNat : Int) := bits_u64_bv .or a b
theorem bits_and_bv (a b : BitVec 64) : bits .and .u64 (a.toNat : Int) (b.toNat : Int) = ((a &&& b).toNat : Int) := bits_u64_bv .and a b
theorem bits_less_bv (a b : BitVec 64) : bits .andNot .u64 (a.toNat : Int) (b.toNat : Int) = ((a &&& ~~~b).toNat : Int) := bits_u64_bv .andNot a b
theorem bits_and_nat (a b : Nat) (ha : a < 18446744073709551616) (hb : b < 18446744073709551616) : bits .and .u64 (a : Int) (b : Int) = ((a &&& b : Nat) : Int) :=
  (bits_nat .u64 64 (by decide) (fun n h0 h1 => wrap_u64_id n h0 h1) a b ha hb).1

/-- The set whose points are those p with g p. -/
def wsum (g : Nat → Bool) : Nat → Nat
  | 0 => 0
  | k + 1 => wsum g k + (if g k then 2 ^ k else 0)
theorem wsum_lt (g : Nat → Bool) (k : Nat) : wsum g k < 2 ^ k := by
  induction k with
  | zero => simp [wsum]
  | succ k ih => rw [wsum, Nat.pow_succ]; split <;> omega
theorem one_bit (j : Nat) (h : j ≠ 0) : Nat.testBit 1 j = false := by
  cases j with
  | zero => exact absurd rfl h
  | succ n => simp [Nat.testBit_succ]
theorem wsum_bit (g : Nat → Bool) (k j : Nat) : (wsum g k).testBit j = (decide (j < k) && g j) := by
  induction k with
  | zero => simp [wsum]
  | succ k ih =>
    have hlt := wsum_lt g k
    rw [wsum]
    by_cases hg : g k
    · rw [if_pos hg]
      have e : wsum g k + 2 ^ k = 2 ^ k * 1 + wsum g k := by omega
      rw [e, Nat.testBit_two_pow_mul_add _ hlt]
      by_cases hj : j < k
      · rw [if_pos hj, ih]
        have : j < k + 1 := by omega
        simp [hj, this]
      · rw [if_neg hj]
        by_cases hjk : j = k
        · subst hjk; simp [hg]
        · have a : ¬ (j < k + 1) := by omega
          have b : Nat.testBit 1 (j - k) = false := one_bit _ (by omega)
          simp [a, b]
    · rw [if_neg hg, Nat.add_zero, ih]
      by_cases hj : j < k
      · have : j < k + 1 := by omega
        simp [hj, this]
      · by_cases hjk : j = k
        · subst hjk; simp [hg]
        · have a : ¬ (j < k + 1) := by omega
          simp [hj, a]
def bvOf (g : Nat → Bool) : BitVec 256 := BitVec.ofNat 256 (wsum g 256)
theorem bvOf_bit (g : Nat → Bool) (p : Nat) : (bvOf g).getLsbD p = (decide (p < 256) && g p) := by
  unfold bvOf
  rw [BitVec.getLsbD_ofNat, wsum_bit]
  by_cases h : p < 256 <;> simp [h]
theorem bvOf_eq (S : BitVec 256) (g : Nat → Bool) (h : ∀ p, p < 256 → g p = S.getLsbD p) : bvOf g = S := by
  apply BitVec.eq_of_getLsbD_eq
  intro p hp
  rw [bvOf_bit, h p hp]; simp [hp]
theorem wd_bvOf (g : Nat → Bool) (i : Nat) (hi : i < 4) : ((wd (bvOf g) i).toNat : Int) = ((wsum (fun j => g (64 * i + j)) 64 : Nat) : Int) := by
  have hlt : wsum (fun j => g (64 * i + j)) 64 < 2 ^ 64 := wsum_lt _ _
  have e : wd (bvOf g) i = BitVec.ofNat 64 (wsum (fun j => g (64 * i + j)) 64) := by
    apply BitVec.eq_of_getLsbD_eq
    intro j hj
    rw [wd_bit, bvOf_bit, BitVec.getLsbD_ofNat, wsum_bit]
    have : 64 * i + j < 256 := by omega
    simp [hj, this]
  rw [e, BitVec.toNat_ofNat, Nat.mod_eq_of_lt hlt]

/- COUNTING. -/
/-- The number of points of a word. -/
def pop64 (x : Nat) : Nat := (List.range 64).countP (fun j => x.testBit j)
/-- The number of points of a set. -/
def pop (S : BitVec 256) : Nat := (List.range 256).countP (fun p => S.getLsbD p)
/-- The points of a set, rising. -/
def pts (S : BitVec 256) : List Nat := (List.range 256).filter (fun p => S.getLsbD p)
theorem pop_eq (S : BitVec 256) : pop S = (pts S).length := List.countP_eq_length_filter
theorem pop_words (S : BitVec 256) : pop S = pop64 (wd S 0).toNat + pop64 (wd S 1).toNat + pop64 (wd S 2).toNat + pop64 (wd S 3).toNat := by
  have key : ∀ k, pop64 (wd S k).toNat = (List.range' (64 * k) 64).countP (fun p => S.getLsbD p) := by
    intro k
    have e : List.range' (64 * k) 64 = (List.range 64).map (fun j => 64 * k + j) := by
      rw [List.range_eq_range', List.map_add_range']; simp
    rw [e, List.countP_map]
    unfold pop64
    apply List.countP_congr
    intro j hj
    have hj' : j < 64 := by simpa using hj
    have h := wd_bit S k j
    simp only [BitVec.getLsbD] at h
    rw [h]
    simp [hj', BitVec.getLsbD]
  have r : List.range 256 = List.range' (64 * 0) 64 ++ List.range' (64 * 1) 64 ++ List.range' (64 * 2) 64 ++ List.range' (64 * 3) 64 := by decide +kernel
  rw [key, key, key, key]
  unfold pop
  rw [r, List.countP_append, List.countP_append, List.countP_append]

theorem pop_or_and (S T : BitVec 256) : pop (S ||| T) + pop (S &&& T) = pop S + pop T := by
  unfold pop
  induction List.range 256 with
  | nil => rfl
  | cons p l ih =>
    simp only [List.countP_cons, BitVec.getLsbD_or, BitVec.getLsbD_and] at ih ⊢
    cases S.getLsbD p <;> cases T.getLsbD p <;> simp <;> omega
theorem pop_le (S : BitVec 256) : pop S ≤ 256 := by
  unfold pop
  have := List.countP_le_length (p := fun p => S.getLsbD p) (l := List.range 256)
  simpa using this

/- THE COUNT BY STEPS: bytes first. -/
def cat : List Nat → Nat
  | [] => 0
  | b :: l => b + 256 * cat l
def mk (c : Nat) : Nat → Nat
  | 0 => 0
  | n + 1 => c + 256 * mk c n
theorem and_split (X ml mh : Nat) (h : ml < 256) : X &&& (ml + 256 * mh) = ((X % 256) &&& ml) + 256 * ((X / 256) &&& mh) := by
  have a : (X &&& (ml + 256 * mh)) % 256 = (X % 256) &&& ml := by
    have := @Nat.and_mod_two_pow X (ml + 256 * mh) 8
    have e : (ml + 256 * mh) % 2 ^ 8 = ml := by omega
    rw [e] at this
    exact this
  have b : (X &&& (ml + 256 * mh)) / 256 = (X / 256) &&& mh := by
    have := @Nat.and_div_two_pow X (ml + 256 * mh) 8
    have e : (ml + 256 * mh) / 2 ^ 8 = mh := by omega
    rw [e] at this
    exact this
  rw [← a, ← b]; omega
def f1 (b : Nat) : Nat := ((b / 2) &&& 85) + (b &&& 85)
def f2 (b : Nat) : Nat := ((b / 4) &&& 51) + (b &&& 51)
def f3 (b : Nat) : Nat := b / 16 + b % 16
def small (b : Nat) : Prop := b % 16 ≤ 4 ∧ b / 16 ≤ 4
theorem d1 : ∀ b : Fin 256, ∀ h : Fin 2, ((b.val / 2 + 128 * h.val) &&& 85) = (b.val / 2) &&& 85 := by decide +kernel
theorem d2 : ∀ b : Fin 256, ∀ h : Fin 4, ((b.val / 4 + 64 * h.val) &&& 51) = (b.val / 4) &&& 51 := by decide +kernel
theorem d3 : ∀ b : Fin 256, ∀ h : Fin 5, b.val % 16 ≤ 4 → b.val / 16 ≤ 4 → ((b.val / 16 + 16 * h.val + b.val) &&& 15) = b.val / 16 + b.val % 16 := by decide +kernel
theorem d4 : ∀ b : Fin 256, f1 b.val < 256 ∧ f2 (f1 b.val) < 256 ∧ f2 (f1 b.val) % 16 ≤ 4 ∧ f2 (f1 b.val) / 16 ≤ 4 ∧ f3 (f2 (f1 b.val)) ≤ 8 ∧
    f3 (f2 (f1 b.val)) = (List.range 8).countP (fun j => b.val.testBit j) := by decide +kernel
theorem F1 (bs : List Nat) (h : ∀ b ∈ bs, b < 256) : ((cat bs / 2) &&& mk 85 bs.length) + (cat bs &&& mk 85 bs.length) = cat (bs.map f1) := by
  induction bs with
  | nil => simp [cat, mk]
  | cons b l ih =>
    have hb : b < 256 := h b (by simp)
    have ih := ih (fun x hx => h x (by simp [hx]))
    simp only [cat, List.length_cons, mk, List.map_cons]
    rw [and_split _ _ _ (by decide), and_split _ _ _ (by decide)]
    have e1 : (b + 256 * cat l) / 2 % 256 = b / 2 + 128 * (cat l % 2) := by omega
    have e2 : (b + 256 * cat l) / 2 / 256 = cat l / 2 := by omega
    have e3 : (b + 256 * cat l) % 256 = b := by omega
    have e4 : (b + 256 * cat l) / 256 = cat l := by omega
    rw [e1, e2, e3, e4]
    have := d1 ⟨b, hb⟩ ⟨cat l % 2, by omega⟩
    simp only at this
    rw [this, ← ih]
    unfold f1
    omega
theorem F2 (bs : List Nat) (h : ∀ b ∈ bs, b < 256) : ((cat bs / 4) &&& mk 51 bs.length) + (cat bs &&& mk 51 bs.length) = cat (bs.map f2) := by
  induction bs with
  | nil => simp [cat, mk]
  | cons b l ih =>
    have hb : b < 256 := h b (by simp)
    have ih := ih (fun x hx => h x (by simp [hx]))
    simp only [cat, List.length_cons, mk, List.map_cons]
    rw [and_split _ _ _ (by decide), and_split _ _ _ (by decide)]
    have e1 : (b + 256 * cat l) / 4 % 256 = b / 4 + 64 * (cat l % 4) := by omega
    have e2 : (b + 256 * cat l) / 4 / 256 = cat l / 4 := by omega
    have e3 : (b + 256 * cat l) % 256 = b := by omega
    have e4 : (b + 256 * cat l) / 256 = cat l := by omega
    rw [e1, e2, e3, e4]
    have := d2 ⟨b, hb⟩ ⟨cat l % 4, by omega⟩
    simp only at this
    rw [this, ← ih]
    unfold f2
    omega
theorem cat_low (l : List Nat) (h : ∀ b ∈ l, b < 256 ∧ small b) : cat l % 16 ≤ 4 := by
  cases l with
  | nil => simp [cat]
  | cons b l =>
    have := (h b (by simp)).2.1
    simp only [cat]; omega
theorem F3 (bs : List Nat) (h : ∀ b ∈ bs, b < 256 ∧ small b) : (cat bs / 16 + cat bs) &&& mk 15 bs.length = cat (bs.map f3) := by
  induction bs with
  | nil => simp [cat, mk]
  | cons b l ih =>
    obtain ⟨hb, hs1, hs2⟩ := h b (by simp)
    have hl := cat_low l (fun x hx => h x (by simp [hx]))
    have ih := ih (fun x hx => h x (by simp [hx]))
    simp only [cat, List.length_cons, mk, List.map_cons]
    rw [and_split _ _ _ (by decide)]
    have e1 : ((b + 256 * cat l) / 16 + (b + 256 * cat l)) % 256 = b / 16 + 16 * (cat l % 16) + b := by omega
    have e2 : ((b + 256 * cat l) / 16 + (b + 256 * cat l)) / 256 = cat l / 16 + cat l := by omega
    rw [e1, e2]
    have := d3 ⟨b, hb⟩ ⟨cat l % 16, by omega⟩ hs1 hs2
    simp only at this
    rw [this, ih]
    rfl
theorem pop64_bytes (b0 b1 b2 b3 b4 b5 b6 b7 : Nat) (h0 : b0 < 256) (h1 : b1 < 256) (h2 : b2 < 256) (h3 : b3 < 256) (h4 : b4 < 256) (h5 : b5 < 256) (h6 : b6 < 256) (h7 : b7 < 256) :
    pop64 (cat [b0, b1, b2, b3, b4, b5, b6, b7]) = ([b0, b1, b2, b3, b4, b5, b6, b7].map (fun b => (List.range 8).countP (fun j => b.testBit j))).sum := by
  have key : ∀ (n b h : Nat), b < 256 → (List.range (8 + n)).countP (fun j => (b + 256 * h).testBit j) = (List.range 8).countP (fun j => b.testBit j) + (List.range n).countP (fun j => h.testBit j) := by
    intro n b h hb
    rw [List.range_add, List.countP_append, List.countP_map]
    congr 1
    · apply List.countP_congr
      intro j hj
      have hj' : j < 8 := by simpa using hj
      have e : b + 256 * h = 2 ^ 8 * h + b := by omega
      rw [e, Nat.testBit_two_pow_mul_add _ hb, if_pos hj']
    · apply List.countP_congr
      intro j _
      have e : b + 256 * h = 2 ^ 8 * h + b := by omega
      have hn : ¬ (8 + j < 8) := by omega
      simp only [Function.comp_apply]
      rw [e, Nat.testBit_two_pow_mul_add _ hb, if_neg hn]
      simp
  unfold pop64 cat
  rw [key 56 b0 _ h0]
  unfold cat
  rw [key 48 b1 _ h1]
  unfold cat
  rw [key 40 b2 _ h2]
  unfold cat
  rw [key 32 b3 _ h3]
  unfold cat
  rw [key 24 b4 _ h4]
  unfold cat
  rw [key 16 b5 _ h5]
  unfold cat
  rw [key 8 b6 _ h6]
  unfold cat
  rw [key 0 b7 _ h7]
  simp only [List.map_cons, List.map_nil, List.sum_cons, List.sum_nil, List.range_zero, List.countP_nil]
theorem st {b r m : Nat} (h : b < 256) (k : r < m) : b + 256 * r < 256 * m := by omega
theorem cat8_lt (c0 c1 c2 c3 c4 c5 c6 c7 : Nat) (h0 : c0 < 256) (h1 : c1 < 256) (h2 : c2 < 256) (h3 : c3 < 256) (h4 : c4 < 256) (h5 : c5 < 256) (h6 : c6 < 256) (h7 : c7 < 256) :
    cat [c0, c1, c2, c3, c4, c5, c6, c7] < 18446744073709551616 :=
  Nat.lt_of_lt_of_le (st h0 (st h1 (st h2 (st h3 (st h4 (st h5 (st h6 (st h7 (Nat.zero_lt_one))))))))) (by decide)
theorem cat8_lt' (c0 c1 c2 c3 c4 c5 c6 c7 : Nat) (h0 : c0 < 256) (h1 : c1 < 256) (h2 : c2 < 256) (h3 : c3 < 256) (h4 : c4 < 256) (h5 : c5 < 256) (h6 : c6 < 256) (h7 : c7 < 128) :
    cat [c0, c1, c2, c3, c4, c5, c6, c7] < 9223372036854775808 :=
  Nat.lt_of_lt_of_le (st h0 (st h1 (st h2 (st h3 (st h4 (st h5 (st h6 (m := 128) (by simp only [cat]; omega)))))))) (by decide)
theorem div1 (x r : Nat) (h : x < 256) : (x + 256 * r) / 256 = r := by omega
theorem div2 (x y r : Nat) (h : x < 256) (k : y < 256) : (x + 256 * (y + 256 * r)) / 65536 = r := by omega
theorem div4 (x y z u r : Nat) (h : x < 256) (k : y < 256) (l : z < 256) (m : u < 256) : (x + 256 * (y + 256 * (z + 256 * (u + 256 * r)))) / 4294967296 = r := by omega
theorem mod7 (x r : Nat) (h : x < 128) : (x + 256 * r) % 128 = x := by omega
theorem add7 (x y r s : Nat) : (x + 256 * r) + (y + 256 * s) = (x + y) + 256 * (r + s) := by omega
theorem sum8 (c0 c1 c2 c3 c4 c5 c6 c7 : Nat) (h0 : c0 ≤ 8) (h1 : c1 ≤ 8) (h2 : c2 ≤ 8) (h3 : c3 ≤ 8) (h4 : c4 ≤ 8) (h5 : c5 ≤ 8) (h6 : c6 ≤ 8) (h7 : c7 ≤ 8)
    (y a b c : Nat) (hy : y = cat [c0, c1, c2, c3, c4, c5, c6, c7]) (ha : a = y + y / 256) (hb : b = a + a / 65536) (hc : c = b + b / 4294967296) :
    c < 9223372036854775808 ∧ a < 18446744073709551616 ∧ b < 18446744073709551616 ∧ c % 128 = c0 + c1 + c2 + c3 + c4 + c5 + c6 + c7 := by
  have e1 : y / 256 = cat [c1, c2, c3, c4, c5, c6, c7] := by rw [hy]; exact div1 _ _ (by omega)
  have ha' : a = cat [c0 + c1, c1 + c2, c2 + c3, c3 + c4, c4 + c5, c5 + c6, c6 + c7, c7] := by
    rw [ha, e1, hy]; simp only [cat, add7, Nat.mul_zero, Nat.add_zero]; omega
  have e2 : a / 65536 = cat [c2 + c3, c3 + c4, c4 + c5, c5 + c6, c6 + c7, c7] := by rw [ha']; exact div2 _ _ _ (by omega) (by omega)
  have hb' : b = cat [c0 + c1 + (c2 + c3), c1 + c2 + (c3 + c4), c2 + c3 + (c4 + c5), c3 + c4 + (c5 + c6), c4 + c5 + (c6 + c7), c5 + c6 + c7, c6 + c7, c7] := by
    rw [hb, e2, ha']; simp only [cat, add7, Nat.mul_zero, Nat.add_zero]; omega
  have e3 : b / 4294967296 = cat [c4 + c5 + (c6 + c7), c5 + c6 + c7, c6 + c7, c7] := by rw [hb']; exact div4 _ _ _ _ _ (by omega) (by omega) (by omega) (by omega)
  have hc' : c = cat [c0 + c1 + (c2 + c3) + (c4 + c5 + (c6 + c7)), c1 + c2 + (c3 + c4) + (c5 + c6 + c7), c2 + c3 + (c4 + c5) + (c6 + c7), c3 + c4 + (c5 + c6) + c7, c4 + c5 + (c6 + c7), c5 + c6 + c7, c6 + c7, c7] := by
    rw [hc, e3, hb']; simp only [cat, add7, Nat.mul_zero, Nat.add_zero]; omega
  clear ha hb hc e1 e2 e3
  refine ⟨?_, ?_, ?_, ?_⟩
  · rw [hc']; exact cat8_lt' _ _ _ _ _ _ _ _ (by omega) (by omega) (by omega) (by omega) (by omega) (by omega) (by omega) (by omega)
  · rw [ha']; exact cat8_lt _ _ _ _ _ _ _ _ (by omega) (by omega) (by omega) (by omega) (by omega) (by omega) (by omega) (by omega)
  · rw [hb']; exact cat8_lt _ _ _ _ _ _ _ _ (by omega) (by omega) (by omega) (by omega) (by omega) (by omega) (by omega) (by omega)
  · rw [hc']; exact (mod7 _ _ (by omega)).trans (by omega)

/-- What the library's count comes to, step by step. -/
def q1 (x : Int) : Int := IntKind.u64.wrap (bits .and .u64 (x / 2) 6148914691236517205 + bits .and .u64 x 6148914691236517205)
def q2 (x : Int) : Int := IntKind.u64.wrap (bits .and .u64 (x / 4) 3689348814741910323 + bits .and .u64 x 3689348814741910323)
def q3 (x : Int) : Int := bits .and .u64 (IntKind.u64.wrap (x / 16 + x)) 1085102592571150095
def q4 (x : Int) : Int := IntKind.u64.wrap (x + x / 256)
def q5 (x : Int) : Int := IntKind.u64.wrap (x + x / 65536)
def q6 (x : Int) : Int := IntKind.u64.wrap (x + x / 4294967296)
theorem pop64_steps (x : Nat) (hx : x < 18446744073709551616) : q6 (q5 (q4 (q3 (q2 (q1 (x : Int)))))) < 9223372036854775808 ∧ 0 ≤ q6 (q5 (q4 (q3 (q2 (q1 (x : Int)))))) ∧ q6 (q5 (q4 (q3 (q2 (q1 (x : Int)))))) % 128 = (pop64 x : Int) := by
  have cast : ∀ a b : Nat, ((a : Int) / (b : Int)) = ((a / b : Nat) : Int) := fun a b => (Int.natCast_ediv a b).symm
  obtain ⟨b0, b1, b2, b3, b4, b5, b6, b7, h0, h1, h2, h3, h4, h5, h6, h7, hx'⟩ : ∃ b0 b1 b2 b3 b4 b5 b6 b7 : Nat, b0 < 256 ∧ b1 < 256 ∧ b2 < 256 ∧ b3 < 256 ∧ b4 < 256 ∧ b5 < 256 ∧ b6 < 256 ∧ b7 < 256 ∧ x = cat [b0, b1, b2, b3, b4, b5, b6, b7] :=
    ⟨x % 256, x / 256 % 256, x / 65536 % 256, x / 16777216 % 256, x / 4294967296 % 256, x / 1099511627776 % 256, x / 281474976710656 % 256, x / 72057594037927936, by omega, by omega, by omega, by omega, by omega, by omega, by omega, by omega, by simp only [cat]; omega⟩
  have hP := pop64_bytes b0 b1 b2 b3 b4 b5 b6 b7 h0 h1 h2 h3 h4 h5 h6 h7
  have D0 := d4 ⟨b0, h0⟩
  have D1 := d4 ⟨b1, h1⟩
  have D2 := d4 ⟨b2, h2⟩
  have D3 := d4 ⟨b3, h3⟩
  have D4 := d4 ⟨b4, h4⟩
  have D5 := d4 ⟨b5, h5⟩
  have D6 := d4 ⟨b6, h6⟩
  have D7 := d4 ⟨b7, h7⟩
  simp only at D0 D1 D2 D3 D4 D5 D6 D7
  have G1 := F1 [b0, b1, b2, b3, b4, b5, b6, b7] (by simp only [List.mem_cons, List.not_mem_nil, or_false, forall_eq_or_imp, forall_eq]; exact ⟨h0, h1, h2, h3, h4, h5, h6, h7⟩)
  have G2 := F2 [f1 b0, f1 b1, f1 b2, f1 b3, f1 b4, f1 b5, f1 b6, f1 b7] (by simp only [List.mem_cons, List.not_mem_nil, or_false, forall_eq_or_imp, forall_eq]; exact ⟨D0.1, D1.1, D2.1, D3.1, D4.1, D5.1, D6.1, D7.1⟩)
  have G3 := F3 [f2 (f1 b0), f2 (f1 b1), f2 (f1 b2), f2 (f1 b3), f2 (f1 b4), f2 (f1 b5), f2 (f1 b6), f2 (f1 b7)] (by simp only [List.mem_cons, List.not_mem_nil, or_false, forall_eq_or_imp, forall_eq]; exact ⟨⟨D0.2.1, D0.2.2.1, D0.2.2.2.1⟩, ⟨D1.2.1, D1.2.2.1, D1.2.2.2.1⟩, ⟨D2.2.1, D2.2.2.1, D2.2.2.2.1⟩, ⟨D3.2.1, D3.2.2.1, D3.2.2.2.1⟩, ⟨D4.2.1, D4.2.2.1, D4.2.2.2.1⟩, ⟨D5.2.1, D5.2.2.1, D5.2.2.2.1⟩, ⟨D6.2.1, D6.2.2.1, D6.2.2.2.1⟩, ⟨D7.2.1, D7.2.2.1, D7.2.2.2.1⟩⟩)
  have m1 : mk 85 8 = 6148914691236517205 := by decide
  have m2 : mk 51 8 = 3689348814741910323 := by decide
  have m3 : mk 15 8 = 1085102592571150095 := by decide
  simp only [List.map_cons, List.map_nil, List.length_cons, List.length_nil, Nat.zero_add, Nat.reduceAdd, m1, m2, m3, ← hx'] at G1 G2 G3
  have L1 : cat [f1 b0, f1 b1, f1 b2, f1 b3, f1 b4, f1 b5, f1 b6, f1 b7] < 18446744073709551616 := cat8_lt _ _ _ _ _ _ _ _ D0.1 D1.1 D2.1 D3.1 D4.1 D5.1 D6.1 D7.1
  have L2 : cat [f2 (f1 b0), f2 (f1 b1), f2 (f1 b2), f2 (f1 b3), f2 (f1 b4), f2 (f1 b5), f2 (f1 b6), f2 (f1 b7)] < 9223372036854775808 := cat8_lt' _ _ _ _ _ _ _ _ D0.2.1 D1.2.1 D2.2.1 D3.2.1 D4.2.1 D5.2.1 D6.2.1 (by have := D7.2.2.1; have := D7.2.2.2.1; omega)
  have Z := sum8 _ _ _ _ _ _ _ _ D0.2.2.2.2.1 D1.2.2.2.2.1 D2.2.2.2.2.1 D3.2.2.2.2.1 D4.2.2.2.2.1 D5.2.2.2.2.1 D6.2.2.2.2.1 D7.2.2.2.2.1 _ _ _ _ rfl rfl rfl rfl
  have P : pop64 x = f3 (f2 (f1 b0)) + f3 (f2 (f1 b1)) + f3 (f2 (f1 b2)) + f3 (f2 (f1 b3)) + f3 (f2 (f1 b4)) + f3 (f2 (f1 b5)) + f3 (f2 (f1 b6)) + f3 (f2 (f1 b7)) := by
    rw [hx', hP, D0.2.2.2.2.2, D1.2.2.2.2.2, D2.2.2.2.2.2, D3.2.2.2.2.2, D4.2.2.2.2.2, D5.2.2.2.2.2, D6.2.2.2.2.2, D7.2.2.2.2.2]
    simp only [List.map_cons, List.map_nil, List.sum_cons, List.sum_nil, Nat.add_zero, Nat.add_assoc]
  clear D0 D1 D2 D3 D4 D5 D6 D7 h0 h1 h2 h3 h4 h5 h6 h7 hP
  have E1 : q1 (x : Int) = (cat [f1 b0, f1 b1, f1 b2, f1 b3, f1 b4, f1 b5, f1 b6, f1 b7] : Int) := by
    unfold q1
    rw [show ((x : Int) / 2) = ((x / 2 : Nat) : Int) from cast x 2, show (6148914691236517205 : Int) = ((6148914691236517205 : Nat) : Int) from rfl, bits_and_nat _ _ (by omega) (by decide), bits_and_nat _ _ hx (by decide), ← Int.natCast_add, G1]
    exact wrap_u64_id _ (by omega) (by omega)
  have E2 : q2 (q1 (x : Int)) = (cat [f2 (f1 b0), f2 (f1 b1), f2 (f1 b2), f2 (f1 b3), f2 (f1 b4), f2 (f1 b5), f2 (f1 b6), f2 (f1 b7)] : Int) := by
    rw [E1]
    generalize cat [f1 b0, f1 b1, f1 b2, f1 b3, f1 b4, f1 b5, f1 b6, f1 b7] = y at *
    unfold q2
    rw [show ((y : Int) / 4) = ((y / 4 : Nat) : Int) from cast y 4, show (3689348814741910323 : Int) = ((3689348814741910323 : Nat) : Int) from rfl, bits_and_nat _ _ (by omega) (by decide), bits_and_nat _ _ L1 (by decide), ← Int.natCast_add, G2]
    exact wrap_u64_id _ (by omega) (by omega)
  have E3 : q3 (q2 (q1 (x : Int))) = (cat [f3 (f2 (f1 b0)), f3 (f2 (f1 b1)), f3 (f2 (f1 b2)), f3 (f2 (f1 b3)), f3 (f2 (f1 b4)), f3 (f2 (f1 b5)), f3 (f2 (f1 b6)), f3 (f2 (f1 b7))] : Int) := by
    rw [E2]
    generalize cat [f2 (f1 b0), f2 (f1 b1), f2 (f1 b2), f2 (f1 b3), f2 (f1 b4), f2 (f1 b5), f2 (f1 b6), f2 (f1 b7)] = y at *
    unfold q3
    rw [show ((y : Int) / 16) = ((y / 16 : Nat) : Int) from cast y 16, ← Int.natCast_add, wrap_u64_id _ (by omega) (by omega), show (1085102592571150095 : Int) = ((1085102592571150095 : Nat) : Int) from rfl, bits_and_nat _ _ (by omega) (by decide), G3]
  rw [E3, P]
  generalize cat [f3 (f2 (f1 b0)), f3 (f2 (f1 b1)), f3 (f2 (f1 b2)), f3 (f2 (f1 b3)), f3 (f2 (f1 b4)), f3 (f2 (f1 b5)), f3 (f2 (f1 b6)), f3 (f2 (f1 b7))] = y at *
  obtain ⟨z1, z2, z3, z4⟩ := Z
  have S4 : q4 (y : Int) = ((y + y / 256 : Nat) : Int) := by
    unfold q4
    rw [show ((y : Int) / 256) = ((y / 256 : Nat) : Int) from cast y 256, ← Int.natCast_add]
    exact wrap_u64_id _ (by omega) (by omega)
  rw [S4]
  generalize y + y / 256 = a at *
  have S5 : q5 (a : Int) = ((a + a / 65536 : Nat) : Int) := by
    unfold q5
    rw [show ((a : Int) / 65536) = ((a / 65536 : Nat) : Int) from cast a 65536, ← Int.natCast_add]
    exact wrap_u64_id _ (by omega) (by omega)
  rw [S5]
  generalize a + a / 65536 = b at *
  have S6 : q6 (b : Int) = ((b + b / 4294967296 : Nat) : Int) := by
    unfold q6
    rw [show ((b : Int) / 4294967296) = ((b / 4294967296 : Nat) : Int) from cast b 4294967296, ← Int.natCast_add]
    exact wrap_u64_id _ (by omega) (by omega)
  rw [S6]
  generalize b + b / 4294967296 = c at *
  refine ⟨by omega, by omega, ?_⟩
  rw [← z4]
  omega

end Go.Proofs.YtckmjampgeojbaaGreatDoor
namespace Go.Proofs.YtckmjampgeojbaaGreatDoor
open Go.RowKit Go.Joins

/-- The words of a set, as cells. -/
def sa (S : BitVec 256) : Array Value := #[wv (wd S 0), wv (wd S 1), wv (wd S 2), wv (wd S 3)]
theorem sa_get (S : BitVec 256) (k : Nat) (hk : k < 4) : (sa S)[k]? = some (wv (wd S k)) := by
  match k, hk with
  | 0, _ => rfl
  | 1, _ => rfl
  | 2, _ => rfl
  | 3, _ => rfl

def stq (f : Nat → BitVec 64) (k j : Nat) : Value := if j < k then wv (f j) else .int .u64 0
def st4 (f : Nat → BitVec 64) (k : Nat) : Array Value := #[stq f k 0, stq f k 1, stq f k 2, stq f k 3]
theorem st4_get (f : Nat → BitVec 64) (k : Nat) (hk : k < 4) : (st4 f k)[k]? = some (.int .u64 0) := by
  match k, hk with
  | 0, _ => simp [st4, stq]
  | 1, _ => simp [st4, stq]
  | 2, _ => simp [st4, stq]
  | 3, _ => simp [st4, stq]
theorem st4_set (f : Nat → BitVec 64) (k : Nat) (hk : k < 4) : (st4 f k).setIfInBounds k (wv (f k)) = st4 f (k + 1) := by
  match k, hk with
  | 0, _ => simp [st4, stq]
  | 1, _ => simp [st4, stq]
  | 2, _ => simp [st4, stq]
  | 3, _ => simp [st4, stq]
theorem size_of_block {w : World} {b : Nat} {o : Obj} (h : w.heap[b]? = some o) : b < w.heap.size := by
  rcases Nat.lt_or_ge b w.heap.size with k | k
  · exact k
  · rw [Array.getElem?_eq_none k] at h; cases h

set_option maxHeartbeats 400000 in
theorem words_any (K : Nat) (caps : Array Value) (f : Nat → BitVec 64) (w : World)
    (hcf : ∀ (args : Array Value) (w1 : World), (Sem.run Tryz.prog (callFunc K args) w1) = .ok (.enter K args) w1)
    (hcl : ∀ k : Nat, k < 4 → ∀ w1, Below w.heap.size w w1 → Calls Tryz.prog K (#[Value.int IntKind.i64 (k : Int)] ++ caps) w1 fun e w' => e = .returned (wv (f k)) ∧ Below w1.heap.size w1 w') :
    Calls Tryz.prog 34 #[.func (.func K) #[] caps] w fun e w' => e = .returned (.agg #[wv (f 0), wv (f 1), wv (f 2), wv (f 3)]) ∧ Below w.heap.size w w' := by
  go_enter Tryz.func34, Tryz.ntmps34
  go_wp2
  go_loopw [4, 5] (fun _ i wr => ∃ k : Nat, k ≤ 4 ∧ i = .int .i64 k ∧ wr.heap[w.heap.size + 1]? = some (.cells (st4 f k) 45 (0, 0)) ∧ wr.heap[w.heap.size]? = some (.cells (st4 f 0) 45 (0, 0)) ∧ Below w.heap.size w wr) (fun _ i _ => 4 - (intOf i).toNat)
  case atStart => exact ⟨0, by omega, rfl, heap_alloc2_new _ _ _, heap_alloc2_old _ _ _, below_alloc2 _ _ _⟩
  case round =>
    obtain ⟨k, hk, rfl, hblk, hblk0, hb⟩ := hrel
    by_cases hlt : k < 4
    · go_wp2_with fail
      refine (hcl k hlt wr hb).mono ?_
      rintro e w1 ⟨rfl, hb1⟩
      have hsz : w.heap.size + 1 < wr.heap.size := size_of_block hblk
      have hB1 : w1.heap[w.heap.size + 1]? = some (.cells (st4 f k) 45 (0, 0)) := by rw [hb1.block _ hsz]; exact hblk
      have hB0 : w1.heap[w.heap.size]? = some (.cells (st4 f 0) 45 (0, 0)) := by rw [hb1.block _ (by omega)]; exact hblk0
      have hc : w1.cell? ⟨w.heap.size + 1, k, none⟩ = some (.int .u64 0) := by rw [cell_of_block hB1, st4_get f k hlt]
      have hf : w1.frozen? ⟨w.heap.size + 1, k, none⟩ = false := unfrozen_of_block hB1 k
      have hb2 : Below w.heap.size w w1 := hb.trans (hb1.mono (by omega))
      clear hcl hcf hb hb1 hblk hblk0
      unfold wv
      go_wp2
      go_roundw
      case rel => exact ⟨k + 1, by omega, by go_num, by rw [block_setCell hB1, ← st4_set f k hlt]; rfl, by rw [Below.heap_setCell _ _ _ _ (by simp)]; exact hB0, hb2.setCell (by simp) _⟩
      case measure => simp [intOf]; omega
    · have e : k = 4 := by omega
      subst e
      clear hcl hcf
      have hc0 : wr.cell? ⟨w.heap.size + 1, 0, none⟩ = some (wv (f 0)) := by rw [cell_of_block hblk]; rfl
      have hc1 : wr.cell? ⟨w.heap.size + 1, 1, none⟩ = some (wv (f 1)) := by rw [cell_of_block hblk]; rfl
      have hc2 : wr.cell? ⟨w.heap.size + 1, 2, none⟩ = some (wv (f 2)) := by rw [cell_of_block hblk]; rfl
      have hc3 : wr.cell? ⟨w.heap.size + 1, 3, none⟩ = some (wv (f 3)) := by rw [cell_of_block hblk]; rfl
      have hd : ∀ j, j < 4 → wr.cell? ⟨w.heap.size, j, none⟩ = some (.int .u64 0) := by
        intro j hj
        rw [cell_of_block hblk0]
        match j, hj with
        | 0, _ => rfl
        | 1, _ => rfl
        | 2, _ => rfl
        | 3, _ => rfl
      have hd0 := hd 0 (by omega)
      have hd1 := hd 1 (by omega)
      have hd2 := hd 2 (by omega)
      have hd3 := hd 3 (by omega)
      have hf : ∀ j, wr.frozen? ⟨w.heap.size, j, none⟩ = false := unfrozen_of_block hblk0
      unfold wv at *
      go_wp2
      exact bodyPost_ret (v := .agg #[.int .u64 (f 0).toNat, .int .u64 (f 1).toNat, .int .u64 (f 2).toNat, .int .u64 (f 3).toNat]) (by simp [results, Tryz.results34, go_sem, hd0, hd1, hd2, hd3]) rfl
        ⟨rfl, (((hb.setCell (by simp) _).setCell (by simp) _).setCell (by simp) _).setCell (by simp) _⟩

/-- The closures of Or, And and Less: two words that are read, one that is made. -/
theorem or1_any (k : Nat) (hk : k < 4) (w : World) (ba bb : Nat) (x y : BitVec 64) (hx : w.cell? ⟨ba, k, none⟩ = some (wv x)) (hy : w.cell? ⟨bb, k, none⟩ = some (wv y)) :
    Calls Tryz.prog 71 #[.int .i64 k, .pointer (some ⟨ba, 0, none⟩), .pointer (some ⟨bb, 0, none⟩)] w fun e w' => e = .returned (wv (x ||| y)) ∧ Below w.heap.size w w' := by
  unfold wv at *
  go_enter Tryz.func71, Tryz.ntmps71
  go_wp2
  go_quiet (fail)
  go_wp2
  go_ret
  exact ⟨by rw [bits_or_bv]; rfl, below_draws _ _ _⟩
theorem and1_any (k : Nat) (hk : k < 4) (w : World) (ba bb : Nat) (x y : BitVec 64) (hx : w.cell? ⟨ba, k, none⟩ = some (wv x)) (hy : w.cell? ⟨bb, k, none⟩ = some (wv y)) :
    Calls Tryz.prog 83 #[.int .i64 k, .pointer (some ⟨ba, 0, none⟩), .pointer (some ⟨bb, 0, none⟩)] w fun e w' => e = .returned (wv (x &&& y)) ∧ Below w.heap.size w w' := by
  unfold wv at *
  go_enter Tryz.func83, Tryz.ntmps83
  go_wp2
  go_quiet (fail)
  go_wp2
  go_ret
  exact ⟨by rw [bits_and_bv]; rfl, below_draws _ _ _⟩
theorem less1_any (k : Nat) (hk : k < 4) (w : World) (ba bb : Nat) (x y : BitVec 64) (hx : w.cell? ⟨ba, k, none⟩ = some (wv x)) (hy : w.cell? ⟨bb, k, none⟩ = some (wv y)) :
    Calls Tryz.prog 64 #[.int .i64 k, .pointer (some ⟨ba, 0, none⟩), .pointer (some ⟨bb, 0, none⟩)] w fun e w' => e = .returned (wv (x &&& ~~~y)) ∧ Below w.heap.size w w' := by
  unfold wv at *
  go_enter Tryz.func64, Tryz.ntmps64
  go_wp2
  go_quiet (fail)
  go_wp2
  go_ret
  exact ⟨by rw [bits_less_bv]; rfl, below_draws _ _ _⟩

/-- Two boxed sets and a result's place. -/
def wr3 (S T : BitVec 256) (w : World) : World := ((w.alloc (.cells (sa S) 45)).alloc (.cells (sa T) 45)).alloc (.cells #[Value.int IntKind.u64 0, Value.int IntKind.u64 0, Value.int IntKind.u64 0, Value.int IntKind.u64 0] 45)
theorem wr3_size (S T : BitVec 256) (w : World) : (wr3 S T w).heap.size = w.heap.size + 3 := by simp [wr3]
theorem wr3_a (S T : BitVec 256) (w : World) : (wr3 S T w).heap[w.heap.size]? = some (.cells (sa S) 45 (0, 0)) := by
  unfold wr3
  rw [Below.heap_alloc _ _ _ (by simp; omega), heap_alloc2_old]
theorem wr3_b (S T : BitVec 256) (w : World) : (wr3 S T w).heap[w.heap.size + 1]? = some (.cells (sa T) 45 (0, 0)) := by
  unfold wr3
  rw [Below.heap_alloc _ _ _ (by simp), heap_alloc2_new]
theorem wr3_r (S T : BitVec 256) (w : World) : (wr3 S T w).heap[w.heap.size + 2]? = some (.cells #[Value.int IntKind.u64 0, Value.int IntKind.u64 0, Value.int IntKind.u64 0, Value.int IntKind.u64 0] 45 (0, 0)) := by
  unfold wr3
  have e : w.heap.size + 2 = ((w.alloc (.cells (sa S) 45)).alloc (.cells (sa T) 45)).heap.size := by simp
  rw [e, heap_alloc_new]
theorem wr3_below (S T : BitVec 256) (w : World) : Below w.heap.size w (wr3 S T w) := below_alloc3 _ _ _ _

/-- A result's four cells, ready to be written. -/
theorem res4 {w : World} {b : Nat} {C : Array Value} {T : TypeId} (h : w.heap[b]? = some (.cells C T (0, 0))) (hC : C = #[Value.int IntKind.u64 0, Value.int IntKind.u64 0, Value.int IntKind.u64 0, Value.int IntKind.u64 0]) :
    w.cell? ⟨b, 0, none⟩ = some (.int .u64 0) ∧ w.cell? ⟨b, 1, none⟩ = some (.int .u64 0) ∧ w.cell? ⟨b, 2, none⟩ = some (.int .u64 0) ∧ w.cell? ⟨b, 3, none⟩ = some (.int .u64 0) ∧ (∀ j, w.frozen? ⟨b, j, none⟩ = false) := by
  subst hC
  refine ⟨?_, ?_, ?_, ?_, unfrozen_of_block h⟩ <;> rw [cell_of_block h] <;> rfl

theorem le2 (w : World) : w.heap.size ≤ w.heap.size + 2 := by omega
set_option maxHeartbeats 400000 in
theorem or_any (S T : BitVec 256) (w : World) :
    Calls Tryz.prog 41 #[sv S, sv T] w fun e w' => e = .returned (sv (S ||| T)) ∧ Below w.heap.size w w' := by
  have hmf : ∀ (fn : Fn) (first cap : Array Value) (w : World), (Instr.makeFunc fn first cap).run Tryz.prog w = .ok (.func fn first cap) w := fun _ _ _ _ => rfl
  have H := words_any 71 #[.pointer (some ⟨w.heap.size, 0, none⟩), .pointer (some ⟨w.heap.size + 1, 0, none⟩)] (fun k => wd (S ||| T) k) (wr3 S T w) (fun _ _ => by kernel_rfl)
    (fun k hk w1 hb => by
      show Calls _ _ _ _ (fun e w' => e = .returned (wv (wd (S ||| T) k)) ∧ Below w1.heap.size w1 w')
      rw [wd_or]
      exact or1_any k hk w1 _ _ _ _ (by rw [hb.cell (by rw [wr3_size]; simp), cell_of_block (wr3_a S T w), sa_get S k hk]) (by rw [hb.cell (by rw [wr3_size]; simp), cell_of_block (wr3_b S T w), sa_get T k hk]))
  unfold sv
  go_enter Tryz.func41, Tryz.ntmps41
  go_wp2_with fail
  refine H.mono ?_
  rintro e w1 ⟨rfl, hb⟩
  clear H
  obtain ⟨q0, q1, q2, q3, qf⟩ := res4 (w := w1) (b := w.heap.size + 2) ((hb.block _ (by rw [wr3_size]; omega)).trans (wr3_r S T w)) rfl
  unfold wv
  go_wp2
  exact bodyPost_ret (v := .agg #[.int .u64 (wd (S ||| T) 0).toNat, .int .u64 (wd (S ||| T) 1).toNat, .int .u64 (wd (S ||| T) 2).toNat, .int .u64 (wd (S ||| T) 3).toNat]) (by simp [results, Tryz.results41, go_sem, q0, q1, q2, q3]) rfl
    ⟨rfl, (((((wr3_below S T w).trans (hb.mono (by rw [wr3_size]; omega))).setCell (le2 w) _).setCell (le2 w) _).setCell (le2 w) _).setCell (le2 w) _⟩

set_option maxHeartbeats 400000 in
theorem and_any (S T : BitVec 256) (w : World) :
    Calls Tryz.prog 60 #[sv S, sv T] w fun e w' => e = .returned (sv (S &&& T)) ∧ Below w.heap.size w w' := by
  have hmf : ∀ (fn : Fn) (first cap : Array Value) (w : World), (Instr.makeFunc fn first cap).run Tryz.prog w = .ok (.func fn first cap) w := fun _ _ _ _ => rfl
  have H := words_any 83 #[.pointer (some ⟨w.heap.size, 0, none⟩), .pointer (some ⟨w.heap.size + 1, 0, none⟩)] (fun k => wd (S &&& T) k) (wr3 S T w) (fun _ _ => by kernel_rfl)
    (fun k hk w1 hb => by
      show Calls _ _ _ _ (fun e w' => e = .returned (wv (wd (S &&& T) k)) ∧ Below w1.heap.size w1 w')
      rw [wd_and]
      exact and1_any k hk w1 _ _ _ _ (by rw [hb.cell (by rw [wr3_size]; simp), cell_of_block (wr3_a S T w), sa_get S k hk]) (by rw [hb.cell (by rw [wr3_size]; simp), cell_of_block (wr3_b S T w), sa_get T k hk]))
  unfold sv
  go_enter Tryz.func60, Tryz.ntmps60
  go_wp2_with fail
  refine H.mono ?_
  rintro e w1 ⟨rfl, hb⟩
  clear H
  obtain ⟨q0, q1, q2, q3, qf⟩ := res4 (w := w1) (b := w.heap.size + 2) ((hb.block _ (by rw [wr3_size]; omega)).trans (wr3_r S T w)) rfl
  unfold wv
  go_wp2
  exact bodyPost_ret (v := .agg #[.int .u64 (wd (S &&& T) 0).toNat, .int .u64 (wd (S &&& T) 1).toNat, .int .u64 (wd (S &&& T) 2).toNat, .int .u64 (wd (S &&& T) 3).toNat]) (by simp [results, Tryz.results60, go_sem, q0, q1, q2, q3]) rfl
    ⟨rfl, (((((wr3_below S T w).trans (hb.mono (by rw [wr3_size]; omega))).setCell (le2 w) _).setCell (le2 w) _).setCell (le2 w) _).setCell (le2 w) _⟩

set_option maxHeartbeats 400000 in
theorem less_any (S T : BitVec 256) (w : World) :
    Calls Tryz.prog 36 #[sv S, sv T] w fun e w' => e = .returned (sv (S &&& ~~~T)) ∧ Below w.heap.size w w' := by
  have hmf : ∀ (fn : Fn) (first cap : Array Value) (w : World), (Instr.makeFunc fn first cap).run Tryz.prog w = .ok (.func fn first cap) w := fun _ _ _ _ => rfl
  have H := words_any 64 #[.pointer (some ⟨w.heap.size, 0, none⟩), .pointer (some ⟨w.heap.size + 1, 0, none⟩)] (fun k => wd (S &&& ~~~T) k) (wr3 S T w) (fun _ _ => by kernel_rfl)
    (fun k hk w1 hb => by
      show Calls _ _ _ _ (fun e w' => e = .returned (wv (wd (S &&& ~~~T) k)) ∧ Below w1.heap.size w1 w')
      rw [wd_less S T k hk]
      exact less1_any k hk w1 _ _ _ _ (by rw [hb.cell (by rw [wr3_size]; simp), cell_of_block (wr3_a S T w), sa_get S k hk]) (by rw [hb.cell (by rw [wr3_size]; simp), cell_of_block (wr3_b S T w), sa_get T k hk]))
  unfold sv
  go_enter Tryz.func36, Tryz.ntmps36
  go_wp2_with fail
  refine H.mono ?_
  rintro e w1 ⟨rfl, hb⟩
  clear H
  obtain ⟨q0, q1, q2, q3, qf⟩ := res4 (w := w1) (b := w.heap.size + 2) ((hb.block _ (by rw [wr3_size]; omega)).trans (wr3_r S T w)) rfl
  unfold wv
  go_wp2
  exact bodyPost_ret (v := .agg #[.int .u64 (wd (S &&& ~~~T) 0).toNat, .int .u64 (wd (S &&& ~~~T) 1).toNat, .int .u64 (wd (S &&& ~~~T) 2).toNat, .int .u64 (wd (S &&& ~~~T) 3).toNat]) (by simp [results, Tryz.results36, go_sem, q0, q1, q2, q3]) rfl
    ⟨rfl, (((((wr3_below S T w).trans (hb.mono (by rw [wr3_size]; omega))).setCell (le2 w) _).setCell (le2 w) _).setCell (le2 w) _).setCell (le2 w) _⟩


/-- '==' of two sets, word by word. -/
def eq4B (a0 a1 a2 a3 b0 b1 b2 b3 : Int) : Bool := a0 == b0 && a1 == b1 && a2 == b2 && a3 == b3
theorem Tryz.infoU64 : (Tryz.prog.info? 43).map (fun i => (i.zero, i.size, i.bytes)) = some (some (.int .u64 0), 1, 8) := by kernel_rfl
theorem Tryz.cellsU64 : Tryz.prog.cellsOf 43 = 1 := by kernel_rfl
theorem eq4 (a0 a1 a2 a3 b0 b1 b2 b3 : Int) (w : World) : (Op.equalIn 10000 45 (.agg #[.int .u64 a0, .int .u64 a1, .int .u64 a2, .int .u64 a3]) (.agg #[.int .u64 b0, .int .u64 b1, .int .u64 b2, .int .u64 b3])).run Tryz.prog w = .ok (eq4B a0 a1 a2 a3 b0 b1 b2 b3) w := by
  obtain ⟨i0, hi, hz0, hz1, hz2⟩ := info_parts Tryz.infoU64
  rw [run_equalIn_array w 9999 _ _ Tryz.underlying45 hi, Tryz.cellsU64]
  have r4 : List.range 4 = [0, 1, 2, 3] := by decide
  rw [r4]
  simp [Op.eqItems, go_sem]
  unfold eq4B
  by_cases e0 : a0 = b0 <;> by_cases e1 : a1 = b1 <;> by_cases e2 : a2 = b2 <;> by_cases e3 : a3 = b3 <;> simp [e0, e1, e2, e3]
theorem eq4_refl (a0 a1 a2 a3 : Int) (w : World) : (Op.equalIn 10000 45 (.agg #[.int .u64 a0, .int .u64 a1, .int .u64 a2, .int .u64 a3]) (.agg #[.int .u64 a0, .int .u64 a1, .int .u64 a2, .int .u64 a3])).run Tryz.prog w = .ok true w := by
  rw [eq4]; simp [eq4B]
theorem eq4_set (S T : BitVec 256) (w : World) : (Op.equalIn 10000 45 (.agg #[.int .u64 (wd S 0).toNat, .int .u64 (wd S 1).toNat, .int .u64 (wd S 2).toNat, .int .u64 (wd S 3).toNat]) (.agg #[.int .u64 (wd T 0).toNat, .int .u64 (wd T 1).toNat, .int .u64 (wd T 2).toNat, .int .u64 (wd T 3).toNat])).run Tryz.prog w = .ok (decide (S = T)) w := by
  rw [eq4]
  by_cases h : S = T
  · subst h; simp [eq4B]
  · have hn : eq4B (wd S 0).toNat (wd S 1).toNat (wd S 2).toNat (wd S 3).toNat (wd T 0).toNat (wd T 1).toNat (wd T 2).toNat (wd T 3).toNat = false := by
      apply Bool.eq_false_iff.2
      intro e
      unfold eq4B at e
      simp only [Bool.and_eq_true, beq_iff_eq, Int.natCast_inj] at e
      exact h (bv_ext (BitVec.eq_of_toNat_eq e.1.1.1) (BitVec.eq_of_toNat_eq e.1.1.2) (BitVec.eq_of_toNat_eq e.1.2) (BitVec.eq_of_toNat_eq e.2))
    rw [hn]; simp [h]
theorem eq4_zero (S : BitVec 256) (w : World) : (Op.equalIn 10000 45 (.agg #[.int .u64 (wd S 0).toNat, .int .u64 (wd S 1).toNat, .int .u64 (wd S 2).toNat, .int .u64 (wd S 3).toNat]) (.agg #[.int .u64 0, .int .u64 0, .int .u64 0, .int .u64 0])).run Tryz.prog w = .ok (decide (S = 0)) w :=
  eq4_set S 0 w

set_option maxHeartbeats 400000 in
theorem within_any (S T : BitVec 256) (w : World) :
    Calls Tryz.prog 18 #[sv S, sv T] w fun e w' => e = .returned (.bool (decide (S &&& ~~~T = 0))) ∧ Below w.heap.size w w' := by
  have E := eq4_zero (S &&& ~~~T)
  unfold sv
  go_enter Tryz.func18, Tryz.ntmps18
  go_wp2_with fail
  refine (less_any S T _).mono ?_
  rintro e w1 ⟨rfl, hb⟩
  unfold sv wv
  go_wp2
  go_ret
  exact ⟨rfl, (below_alloc2 _ _ _).trans (hb.mono (by simp; omega))⟩

/-- The word in which those points are on whose bit i is 1. -/
def stripe (i : Nat) : BitVec 64 := BitVec.ofNat 64 (wsum (fun j => j.testBit i) 64)
set_option maxHeartbeats 400000 in
theorem striped_any (i : Nat) (hi : i < 6) (w : World) :
    Calls Tryz.prog 93 #[.int .i64 i] w fun e w' => e = .returned (wv (stripe i)) ∧ w = w' := by
  have h : i = 0 ∨ i = 1 ∨ i = 2 ∨ i = 3 ∨ i = 4 ∨ i = 5 := by omega
  rcases h with rfl | rfl | rfl | rfl | rfl | rfl
  all_goals
    go_enter Tryz.func93, Tryz.ntmps93
    go_wp2
    refine wp_loop_rounds 6 ?_
    repeat (rw [rounds_succ]; go_wp2)
    go_ret
    exact ⟨by kernel_rfl, rfl⟩

/-- All points whose bit i is 1. -/
def onesB (i : Nat) : BitVec 256 := bvOf (fun p => p.testBit i)
theorem onesB_low (i k : Nat) (hi : i < 6) (hk : k < 4) : wd (onesB i) k = stripe i := by
  have h : ∀ i : Fin 6, ∀ k : Fin 4, wd (onesB i.val) k.val = stripe i.val := by decide +kernel
  exact h ⟨i, hi⟩ ⟨k, hk⟩
theorem onesB_high (i k : Nat) (hi : i < 8) (h6 : 6 ≤ i) (hk : k < 4) : wd (onesB i) k = if k / 2 ^ (i - 6) % 2 = 1 then 18446744073709551615#64 else 0#64 := by
  have h : ∀ i : Fin 8, 6 ≤ i.val → ∀ k : Fin 4, wd (onesB i.val) k.val = if k.val / 2 ^ (i.val - 6) % 2 = 1 then 18446744073709551615#64 else 0#64 := by decide +kernel
  exact h ⟨i, hi⟩ h6 ⟨k, hk⟩

theorem ones1_any (k : Nat) (w : World) (b : Nat) (x : BitVec 64) (hx : w.cell? ⟨b, 0, none⟩ = some (wv x)) :
    Calls Tryz.prog 94 #[.int .i64 k, .pointer (some ⟨b, 0, none⟩)] w fun e w' => e = .returned (wv x) ∧ Below w.heap.size w w' := by
  unfold wv at *
  go_enter Tryz.func94, Tryz.ntmps94
  go_wp2
  go_ret
  exact ⟨rfl, Below.refl _ _⟩
set_option maxHeartbeats 400000 in
theorem ones2_any (k i : Nat) (hk : k < 4) (hi : i < 8) (h6 : 6 ≤ i) (w : World) (b : Nat) (hx : w.cell? ⟨b, 0, none⟩ = some (.int .i64 i)) :
    Calls Tryz.prog 95 #[.int .i64 k, .pointer (some ⟨b, 0, none⟩)] w fun e w' => e = .returned (wv (if k / 2 ^ (i - 6) % 2 = 1 then 18446744073709551615#64 else 0#64)) ∧ Below w.heap.size w w' := by
  have hI : i = 6 ∨ i = 7 := by omega
  have hK : k = 0 ∨ k = 1 ∨ k = 2 ∨ k = 3 := by omega
  rcases hI with rfl | rfl <;> rcases hK with rfl | rfl | rfl | rfl
  all_goals
    go_enter Tryz.func95, Tryz.ntmps95
    go_wp2
    go_ret
    exact ⟨by kernel_rfl, Below.refl _ _⟩


/-- The points of n inputs. -/
def allB (n : Nat) : BitVec 256 := bvOf (fun p => decide (p < 2 ^ n))
set_option maxHeartbeats 1000000 in
theorem all1_any (n k : Nat) (hn : n ≤ 8) (hk : k < 4) (w : World) (b : Nat) (hx : w.cell? ⟨b, 0, none⟩ = some (.int .i64 n)) :
    Calls Tryz.prog 35 #[.int .i64 k, .pointer (some ⟨b, 0, none⟩)] w fun e w' => e = .returned (wv (wd (allB n) k)) ∧ Below w.heap.size w w' := by
  have hN : n = 0 ∨ n = 1 ∨ n = 2 ∨ n = 3 ∨ n = 4 ∨ n = 5 ∨ n = 6 ∨ n = 7 ∨ n = 8 := by omega
  have hK : k = 0 ∨ k = 1 ∨ k = 2 ∨ k = 3 := by omega
  rcases hN with rfl | rfl | rfl | rfl | rfl | rfl | rfl | rfl | rfl <;> rcases hK with rfl | rfl | rfl | rfl
  all_goals
    go_enter Tryz.func35, Tryz.ntmps35
    go_wp2
    go_ret
    exact ⟨by kernel_rfl, Below.refl _ _⟩
set_option maxHeartbeats 400000 in
theorem all_no (n : Int) (h : n < 0 ∨ 8 < n) (w : World) :
    Calls Tryz.prog 17 #[.int .i64 n] w fun e w' => e = .returned (.tuple #[sv 0, .int .i64 1]) ∧ Below w.heap.size w w' := by
  by_cases h0 : n < 0
  · clear h
    go_enter Tryz.func17, Tryz.ntmps17
    go_wp2
    exact bodyPost_ret (v := .tuple #[.agg #[.int .u64 0, .int .u64 0, .int .u64 0, .int .u64 0], .int .i64 1]) (by simp [results, Tryz.results17, go_sem]) rfl ⟨rfl, below_alloc2 _ _ _⟩
  · have h1 : 8 < n := by omega
    clear h
    go_enter Tryz.func17, Tryz.ntmps17
    go_wp2
    exact bodyPost_ret (v := .tuple #[.agg #[.int .u64 0, .int .u64 0, .int .u64 0, .int .u64 0], .int .i64 1]) (by simp [results, Tryz.results17, go_sem]) rfl ⟨rfl, below_alloc2 _ _ _⟩

/-- A boxed number and a result's place. -/
def wr2 (n : Int) (w : World) : World := (w.alloc (.cells #[Value.int IntKind.i64 n] 3)).alloc (.cells #[Value.int IntKind.u64 0, Value.int IntKind.u64 0, Value.int IntKind.u64 0, Value.int IntKind.u64 0] 45)
theorem wr2_size (n : Int) (w : World) : (wr2 n w).heap.size = w.heap.size + 2 := by simp [wr2]
theorem wr2_a (n : Int) (w : World) : (wr2 n w).heap[w.heap.size]? = some (.cells #[Value.int IntKind.i64 n] 3 (0, 0)) := by unfold wr2; rw [heap_alloc2_old]
theorem wr2_r (n : Int) (w : World) : (wr2 n w).heap[w.heap.size + 1]? = some (.cells #[Value.int IntKind.u64 0, Value.int IntKind.u64 0, Value.int IntKind.u64 0, Value.int IntKind.u64 0] 45 (0, 0)) := by unfold wr2; rw [heap_alloc2_new]
theorem wr2_below (n : Int) (w : World) : Below w.heap.size w (wr2 n w) := below_alloc2 _ _ _
theorem le1 (w : World) : w.heap.size ≤ w.heap.size + 1 := by omega

set_option maxHeartbeats 400000 in
theorem all_any (n : Nat) (h : n ≤ 8) (w : World) :
    Calls Tryz.prog 17 #[.int .i64 n] w fun e w' => e = .returned (.tuple #[sv (allB n), .int .i64 0]) ∧ Below w.heap.size w w' := by
  have hmf : ∀ (fn : Fn) (first cap : Array Value) (w : World), (Instr.makeFunc fn first cap).run Tryz.prog w = .ok (.func fn first cap) w := fun _ _ _ _ => rfl
  have H := words_any 35 #[.pointer (some ⟨w.heap.size, 0, none⟩)] (fun k => wd (allB n) k) (wr2 n w) (fun _ _ => by kernel_rfl)
    (fun k hk w1 hb => all1_any n k h hk w1 _ (by rw [hb.cell (by rw [wr2_size]; simp), cell_of_block (wr2_a n w)]; rfl))
  go_enter Tryz.func17, Tryz.ntmps17
  go_wp2_with fail
  refine H.mono ?_
  rintro e w1 ⟨rfl, hb⟩
  clear H
  obtain ⟨q0, q1, q2, q3, qf⟩ := res4 (w := w1) (b := w.heap.size + 1) ((hb.block _ (by rw [wr2_size]; omega)).trans (wr2_r n w)) rfl
  unfold wv
  go_wp2
  exact bodyPost_ret (v := .tuple #[.agg #[.int .u64 (wd (allB n) 0).toNat, .int .u64 (wd (allB n) 1).toNat, .int .u64 (wd (allB n) 2).toNat, .int .u64 (wd (allB n) 3).toNat], .int .i64 0]) (by simp [results, Tryz.results17, go_sem, q0, q1, q2, q3]) rfl
    ⟨rfl, (((((wr2_below n w).trans (hb.mono (by rw [wr2_size]; omega))).setCell (le1 w) _).setCell (le1 w) _).setCell (le1 w) _).setCell (le1 w) _⟩

set_option maxHeartbeats 400000 in
theorem ones_any (i : Nat) (h : i < 8) (w : World) :
    Calls Tryz.prog 86 #[.int .i64 i] w fun e w' => e = .returned (sv (onesB i)) ∧ Below w.heap.size w w' := by
  have hmf : ∀ (fn : Fn) (first cap : Array Value) (w : World), (Instr.makeFunc fn first cap).run Tryz.prog w = .ok (.func fn first cap) w := fun _ _ _ _ => rfl
  by_cases h6 : i < 6
  · have H := words_any 94 #[.pointer (some ⟨w.heap.size + 2, 0, none⟩)] (fun k => wd (onesB i) k) ((wr2 i w).alloc (.cells #[wv (stripe i)] 43)) (fun _ _ => by kernel_rfl)
      (fun k hk w1 hb => by
        show Calls _ _ _ _ (fun e w' => e = .returned (wv (wd (onesB i) k)) ∧ Below w1.heap.size w1 w')
        rw [onesB_low i k h6 hk]
        exact ones1_any k w1 _ _ (by rw [hb.cell (by simp [wr2]), show w.heap.size + 2 = (wr2 i w).heap.size by simp [wr2], World.cell?_alloc_at _ _ _ _ rfl]; rfl))
    go_enter Tryz.func86, Tryz.ntmps86
    go_wp2_with fail
    refine (striped_any i h6 _).mono ?_
    rintro e w' ⟨rfl, rfl⟩
    unfold wv at H ⊢
    go_wp2_with fail
    refine H.mono ?_
    rintro e w1 ⟨rfl, hb⟩
    clear H
    have hbl : Below w.heap.size w w1 := ((wr2_below i w).alloc (by rw [wr2_size]; omega) _).trans (hb.mono (by simp [wr2]; omega))
    obtain ⟨q0, q1, q2, q3, qf⟩ := res4 (w := w1) (b := w.heap.size + 1) ((hb.block _ (by simp [wr2])).trans ((Below.heap_alloc _ _ _ (by rw [wr2_size]; omega)).trans (wr2_r i w))) rfl
    clear hb
    go_wp2
    exact bodyPost_ret (v := .agg #[.int .u64 (wd (onesB i) 0).toNat, .int .u64 (wd (onesB i) 1).toNat, .int .u64 (wd (onesB i) 2).toNat, .int .u64 (wd (onesB i) 3).toNat]) (by simp [results, Tryz.results86, go_sem, q0, q1, q2, q3]) rfl
      ⟨rfl, (((hbl.setCell (le1 w) _).setCell (le1 w) _).setCell (le1 w) _).setCell (le1 w) _⟩
  · have H := words_any 95 #[.pointer (some ⟨w.heap.size, 0, none⟩)] (fun k => wd (onesB i) k) (wr2 i w) (fun _ _ => by kernel_rfl)
      (fun k hk w1 hb => by
        show Calls _ _ _ _ (fun e w' => e = .returned (wv (wd (onesB i) k)) ∧ Below w1.heap.size w1 w')
        rw [onesB_high i k h (by omega) hk]
        exact ones2_any k i hk h (by omega) w1 _ (by rw [hb.cell (by rw [wr2_size]; simp), cell_of_block (wr2_a i w)]; rfl))
    go_enter Tryz.func86, Tryz.ntmps86
    go_wp2_with fail
    refine H.mono ?_
    rintro e w1 ⟨rfl, hb⟩
    clear H
    obtain ⟨q0, q1, q2, q3, qf⟩ := res4 (w := w1) (b := w.heap.size + 1) ((hb.block _ (by rw [wr2_size]; omega)).trans (wr2_r i w)) rfl
    unfold wv
    go_wp2
    exact bodyPost_ret (v := .agg #[.int .u64 (wd (onesB i) 0).toNat, .int .u64 (wd (onesB i) 1).toNat, .int .u64 (wd (onesB i) 2).toNat, .int .u64 (wd (onesB i) 3).toNat]) (by simp [results, Tryz.results86, go_sem, q0, q1, q2, q3]) rfl
      ⟨rfl, (((((wr2_below i w).trans (hb.mono (by rw [wr2_size]; omega))).setCell (le1 w) _).setCell (le1 w) _).setCell (le1 w) _).setCell (le1 w) _⟩

theorem and127 (c : Int) (h0 : 0 ≤ c) (h1 : c < 9223372036854775808) : bits .and .i64 (wrap64 c) 127 = c % 128 := by
  have e : wrap64 c = c := by unfold wrap64; omega
  rw [e]
  exact bits_mask .i64 63 (by decide) (fun n h0 h1 => by rw [IntKind.wrap_i64]; omega) 7 (by decide) c h0 (by omega)
set_option maxHeartbeats 400000 in
theorem ret_int {k : IntKind} {a b : Int} (h : a = b) : Ending.returned (.int k a) = .returned (.int k b) := by rw [h]
theorem ret_bool {a b : Bool} (h : a = b) : Ending.returned (.bool a) = .returned (.bool b) := by rw [h]
theorem pop64_le (x : Nat) : pop64 x ≤ 64 := by
  unfold pop64
  have := List.countP_le_length (p := fun j => x.testBit j) (l := List.range 64)
  simpa using this
theorem bcell {w w1 : World} {B : Nat} (hb : Below B w w1) : (∀ b o, b < B → w1.cell? ⟨b, o, none⟩ = w.cell? ⟨b, o, none⟩) ∧ (∀ b o, b < B → w1.frozen? ⟨b, o, none⟩ = w.frozen? ⟨b, o, none⟩) :=
  ⟨fun b o h => hb.cell (p := ⟨b, o, none⟩) h, fun b o h => hb.frozen (p := ⟨b, o, none⟩) h⟩

/-- The half of a set. -/
def halfB (S : BitVec 256) (i : Int) (one : Bool) : BitVec 256 := if 0 ≤ i ∧ i < 8 then (if one then S &&& onesB i.toNat else S &&& ~~~(onesB i.toNat)) else 0
set_option maxHeartbeats 400000 in
theorem half_no (S : BitVec 256) (i : Int) (one : Bool) (h : i < 0 ∨ 8 ≤ i) (w : World) :
    Calls Tryz.prog 70 #[sv S, .int .i64 i, .bool one] w fun e w' => e = .returned (sv 0) ∧ Below w.heap.size w w' := by
  unfold sv wv
  by_cases h0 : i < 0
  · clear h
    go_enter Tryz.func70, Tryz.ntmps70
    go_wp2
    exact bodyPost_ret (v := .agg #[.int .u64 0, .int .u64 0, .int .u64 0, .int .u64 0]) (by simp [results, Tryz.results70, go_sem]) rfl ⟨rfl, below_alloc2 _ _ _⟩
  · have h1 : 8 ≤ i := by omega
    clear h
    go_enter Tryz.func70, Tryz.ntmps70
    go_wp2
    exact bodyPost_ret (v := .agg #[.int .u64 0, .int .u64 0, .int .u64 0, .int .u64 0]) (by simp [results, Tryz.results70, go_sem]) rfl ⟨rfl, below_alloc2 _ _ _⟩
set_option maxHeartbeats 800000 in
theorem half_one (S : BitVec 256) (i : Nat) (h : i < 8) (w : World) :
    Calls Tryz.prog 70 #[sv S, .int .i64 i, .bool true] w fun e w' => e = .returned (sv (S &&& onesB i)) ∧ Below w.heap.size w w' := by
  unfold sv wv
  go_enter Tryz.func70, Tryz.ntmps70
  go_wp2_with fail
  go_region_with (first
    | (go_at_call 86; refine (ones_any i h _).mono ?_; rintro e w1 ⟨rfl, hb1⟩; have hz1 : w.heap.size + 2 ≤ w1.heap.size := (by have := hb1.size; simp at this; omega); obtain ⟨hc1, hf1⟩ := bcell hb1; unfold sv wv)
    | (go_at_call 60; refine (and_any S (onesB i) _).mono ?_; rintro e w2 ⟨rfl, hb2⟩; obtain ⟨q0, q1, q2, q3, qf⟩ := res4 (w := w2) (b := w.heap.size + 1) ((hb2.block _ (by show _ < w1.heap.size; omega)).trans ((hb1.block _ (by simp)).trans (heap_alloc2_new _ _ _))) rfl; unfold sv wv))
  all_goals
    clear hc1 hf1
    go_wp2
    have hB : Below w.heap.size w w2 := by first | exact ((below_alloc2 w _ _).trans (hb1.mono (by simp; omega))).trans (hb2.mono (by show _ ≤ w1.heap.size; omega)) | exact ((below_alloc2 w _ _).drew.trans (hb1.mono (by simp; omega))).trans (hb2.mono (by show _ ≤ w1.heap.size; omega))
    exact bodyPost_ret (v := .agg #[.int .u64 (wd (S &&& onesB i) 0).toNat, .int .u64 (wd (S &&& onesB i) 1).toNat, .int .u64 (wd (S &&& onesB i) 2).toNat, .int .u64 (wd (S &&& onesB i) 3).toNat]) (by simp [results, Tryz.results70, go_sem, q0, q1, q2, q3]) rfl
      ⟨rfl, (((hB.setCell (le1 w) _).setCell (le1 w) _).setCell (le1 w) _).setCell (le1 w) _⟩

set_option maxHeartbeats 800000 in
theorem half_zero (S : BitVec 256) (i : Nat) (h : i < 8) (w : World) :
    Calls Tryz.prog 70 #[sv S, .int .i64 i, .bool false] w fun e w' => e = .returned (sv (S &&& ~~~(onesB i))) ∧ Below w.heap.size w w' := by
  unfold sv wv
  go_enter Tryz.func70, Tryz.ntmps70
  go_wp2_with fail
  go_region_with (first
    | (go_at_call 86; refine (ones_any i h _).mono ?_; rintro e w1 ⟨rfl, hb1⟩; have hz1 : w.heap.size + 2 ≤ w1.heap.size := (by have := hb1.size; simp at this; omega); obtain ⟨hc1, hf1⟩ := bcell hb1; unfold sv wv)
    | (go_at_call 36; refine (less_any S (onesB i) _).mono ?_; rintro e w2 ⟨rfl, hb2⟩; obtain ⟨q0, q1, q2, q3, qf⟩ := res4 (w := w2) (b := w.heap.size + 1) ((hb2.block _ (by show _ < w1.heap.size; omega)).trans ((hb1.block _ (by simp)).trans (heap_alloc2_new _ _ _))) rfl; unfold sv wv))
  all_goals
    clear hc1 hf1
    go_wp2
    have hB : Below w.heap.size w w2 := by first | exact ((below_alloc2 w _ _).trans (hb1.mono (by simp; omega))).trans (hb2.mono (by show _ ≤ w1.heap.size; omega)) | exact ((below_alloc2 w _ _).drew.trans (hb1.mono (by simp; omega))).trans (hb2.mono (by show _ ≤ w1.heap.size; omega))
    exact bodyPost_ret (v := .agg #[.int .u64 (wd (S &&& ~~~(onesB i)) 0).toNat, .int .u64 (wd (S &&& ~~~(onesB i)) 1).toNat, .int .u64 (wd (S &&& ~~~(onesB i)) 2).toNat, .int .u64 (wd (S &&& ~~~(onesB i)) 3).toNat]) (by simp [results, Tryz.results70, go_sem, q0, q1, q2, q3]) rfl
      ⟨rfl, (((hB.setCell (le1 w) _).setCell (le1 w) _).setCell (le1 w) _).setCell (le1 w) _⟩

end Go.Proofs.YtckmjampgeojbaaGreatDoor
namespace Go.Proofs.YtckmjampgeojbaaGreatDoor
open Go.RowKit Go.Joins

/-- Is point p in a set? -/
def hasB (S : BitVec 256) (p : Int) : Bool := decide (0 ≤ p) && S.getLsbD p.toNat
theorem wd_test (S : BitVec 256) (p : Nat) : (((wd S (p / 64)).toNat : Int) / 2 ^ (p % 64)) % 2 = if S.getLsbD p then 1 else 0 := by
  have hb := wd_bit S (p / 64) (p % 64)
  have e : 64 * (p / 64) + p % 64 = p := by omega
  rw [e] at hb
  have hm : p % 64 < 64 := by omega
  simp only [hm, decide_true, Bool.true_and, BitVec.getLsbD, Nat.testBit_eq_decide_div_mod_eq] at hb
  have hd : (((wd S (p / 64)).toNat : Int) / 2 ^ (p % 64)) = (((wd S (p / 64)).toNat / 2 ^ (p % 64) : Nat) : Int) := by
    rw [Int.natCast_ediv]; simp
  rw [hd]
  simp only [BitVec.getLsbD, Nat.testBit_eq_decide_div_mod_eq]
  rw [← hb]
  by_cases h1 : (wd S (p / 64)).toNat / 2 ^ (p % 64) % 2 = 1
  · simp [h1]; omega
  · simp [h1]; omega
theorem wd_twoPow (p k : Nat) (hp : p < 256) : wd (BitVec.twoPow 256 p) k = if k = p / 64 then BitVec.twoPow 64 (p % 64) else 0 := by
  apply BitVec.eq_of_getLsbD_eq
  intro j hj
  rw [wd_bit, BitVec.getLsbD_twoPow]
  simp only [hj, decide_true, Bool.true_and, hp]
  by_cases e : k = p / 64
  · rw [if_pos e, BitVec.getLsbD_twoPow]
    have hm : p % 64 < 64 := by omega
    simp only [hm, decide_true, Bool.true_and]
    have : (p = 64 * k + j) ↔ (p % 64 = j) := by omega
    simp only [this]
  · rw [if_neg e]
    have : ¬ (p = 64 * k + j) := by omega
    simp [this]
theorem with_word (S : BitVec 256) (p : Nat) (hp : p < 256) : bits .or .u64 ((wd S (p / 64)).toNat : Int) (IntKind.u64.wrap (2 ^ (p % 64))) = ((wd (S ||| BitVec.twoPow 256 p) (p / 64)).toNat : Int) := by
  have hm : p % 64 < 64 := by omega
  have e : IntKind.u64.wrap (2 ^ (p % 64)) = ((BitVec.twoPow 64 (p % 64)).toNat : Int) := by
    have hl : 2 ^ (p % 64) < 2 ^ 64 := Nat.pow_lt_pow_right (by decide) hm
    rw [BitVec.toNat_twoPow_of_lt hm]
    have h2 : ((2 ^ (p % 64) : Nat) : Int) = 2 ^ (p % 64) := by simp
    rw [h2]
    exact wrap_u64_id _ (by rw [← h2]; exact Int.natCast_nonneg _) (by rw [← h2]; generalize 2 ^ (p % 64) = q at *; omega)
  rw [e, bits_or_bv, wd_or, wd_twoPow p _ hp, if_pos rfl]
theorem with_cells (S : BitVec 256) (p : Nat) (hp : p < 256) :
    [Value.int IntKind.u64 ↑(wd S 0).toNat, Value.int IntKind.u64 ↑(wd S 1).toNat, Value.int IntKind.u64 ↑(wd S 2).toNat, Value.int IntKind.u64 ↑(wd S 3).toNat].set (p / 64)
      (Value.int IntKind.u64 (bits BinOp.or IntKind.u64 (↑(wd S (p / 64)).toNat) (IntKind.u64.wrap (2 ^ (p % 64))))) =
    [Value.int IntKind.u64 ↑(wd (S ||| BitVec.twoPow 256 p) 0).toNat, Value.int IntKind.u64 ↑(wd (S ||| BitVec.twoPow 256 p) 1).toNat, Value.int IntKind.u64 ↑(wd (S ||| BitVec.twoPow 256 p) 2).toNat, Value.int IntKind.u64 ↑(wd (S ||| BitVec.twoPow 256 p) 3).toNat] := by
  rw [with_word S p hp]
  have same : ∀ k, k ≠ p / 64 → wd (S ||| BitVec.twoPow 256 p) k = wd S k := by
    intro k hne
    rw [wd_or, wd_twoPow p k hp, if_neg hne]
    exact BitVec.or_zero
  have hk : p / 64 = 0 ∨ p / 64 = 1 ∨ p / 64 = 2 ∨ p / 64 = 3 := by omega
  rcases hk with e | e | e | e <;> rw [e] at same ⊢ <;>
    simp [same]
theorem grown_of_below {w w1 : World} (h : Below w.heap.size w w1) : w.grownBy w1 none := ⟨h.os, h.tape, h.output, h.size, fun k hk _ => h.block k hk⟩
/-- What the call owns stays owned while a callee makes what it likes beside. -/
theorem owns_below {w w1 : World} {base size n : Nat} {e : TypeId} {v : Value} {xs : List Value} (h : w.ownsRow base e size v n xs) (hb : Below w.heap.size w w1) : w1.ownsRow base e size v n xs := by
  refine h.kept (grown_of_below hb) ?_
  rcases hv : v.ownBlock with _ | k
  · exact .inl rfl
  · exact .inr (by simp)
theorem grown_low {w w1 w2 : World} {base size n : Nat} {e : TypeId} {v : Value} {xs : List Value} (hown : w.ownsRow base e size v n xs) (hg : w1.grownBy w2 v.ownBlock) (b : Nat) (h : b < base) (hs : b < w1.heap.size) : w2.heap[b]? = w1.heap[b]? :=
  hg.block _ hs (fun e => by have := (hown.lt b e.symm).1; omega)
theorem grown_below {w w1 w2 a : World} {base size n B : Nat} {e : TypeId} {v : Value} {xs : List Value} (hown : w.ownsRow base e size v n xs) (hg : w1.grownBy w2 v.ownBlock) (hB : Below B a w1) (hle : B ≤ base) (hs : B ≤ w1.heap.size) : Below B a w2 :=
  hB.grown hg hs (fun k e => by have := (hown.lt k e).1; omega)
def ptsK (S : BitVec 256) (k : Nat) : List Nat := (List.range k).filter (fun p => S.getLsbD p)
def intsV (l : List Nat) : List Value := l.map (fun p : Nat => Value.int .i64 (p : Int))
theorem ptsK_succ (S : BitVec 256) (k : Nat) : ptsK S (k + 1) = if S.getLsbD k then ptsK S k ++ [k] else ptsK S k := by
  unfold ptsK
  rw [List.range_succ, List.filter_append]
  by_cases h : S.getLsbD k <;> simp [h]
theorem ptsK_len (S : BitVec 256) (k : Nat) : (ptsK S k).length ≤ k := by
  unfold ptsK
  exact Nat.le_trans (List.length_filter_le _ _) (by simp)
theorem Tryz.infoInt : (Tryz.prog.info? 3).map (fun i => (i.zero, i.size, i.bytes)) = some (some (.int .i64 0), 1, 8) := by kernel_rfl
theorem Tryz.infoBool : (Tryz.prog.info? 4).map (fun i => (i.zero, i.size, i.bytes)) = some (some (.bool false), 1, 1) := by kernel_rfl

end Go.Proofs.YtckmjampgeojbaaGreatDoor
namespace Go.Proofs.YtckmjampgeojbaaGreatDoor
open Go.RowKit Go.Joins

/-- A world in which all that was there in w is as it was. -/
def After (w : World) : Type := { W : World // Below w.heap.size w W }
def After.here (w : World) : After w := ⟨w, Below.refl _ _⟩
instance (w : World) : Nonempty (After w) := ⟨After.here w⟩
theorem After.cell {w : World} (x : After w) {b o : Nat} {v : Value} (h : w.cell? ⟨b, o, none⟩ = some v) : x.1.cell? ⟨b, o, none⟩ = some v := by
  rw [x.2.cell (p := ⟨b, o, none⟩) (block_lt_of_cell h)]; exact h
theorem wp_region_after {P : Program} {id : Nat} {Q : Exit → Act → World → Prop} {a : Act} {w : World} {l : List Oper} (hm : P.follows .mixedOrders = true) (hB : Region.lexB .any l.toArray = true)
    (h : wpQuiet P l.toArray (fun W => ∃ x : After w, W = x.1) (fun a' => ∀ x : After w, Q .normal a' x.1) l a) : (Code.region id l.toArray true).wp P Q a w := by
  refine wp_region_quiet (C := fun W => ∃ x : After w, W = x.1) hm hB ⟨⟨_, (Below.refl _ _).drew⟩, rfl⟩ ?_
  have e : (fun a' : Act => ∀ w', (∃ x : After w, w' = x.1) → Q .normal a' w') = fun a' => ∀ x : After w, Q .normal a' x.1 := by
    funext a'
    apply propext
    exact ⟨fun H x => H _ ⟨x, rfl⟩, fun H w' ⟨x, hx⟩ => by rw [hx]; exact H x⟩
  rw [e]
  simpa using h
/-- A callee's contract, met in such a world. -/
theorem Calls.after_of {P : Program} {f : FuncId} {args : Array Value} {w : World} {x : After w} {v : Value}
    (h : Calls P f args x.1 fun e w' => e = .returned v ∧ Below x.1.heap.size x.1 w') : Calls P f args x.1 fun e w'' => e = .returned v ∧ ∃ y : After w, w'' = y.1 :=
  h.mono fun _ w' ⟨he, hb⟩ => ⟨he, ⟨w', x.2.trans (hb.mono x.2.size)⟩, rfl⟩
theorem Calls.after_same {P : Program} {f : FuncId} {args : Array Value} {w : World} {x : After w} {v : Value}
    (h : Calls P f args x.1 fun e w' => e = .returned v ∧ x.1 = w') : Calls P f args x.1 fun e w'' => e = .returned v ∧ ∃ y : After w, w'' = y.1 :=
  h.mono fun _ _ ⟨he, hb⟩ => ⟨he, x, hb.symm⟩
theorem carry4 {w w1 : World} {b : Nat} {x0 x1 x2 x3 : Value} (hb : Below w.heap.size w w1) (d0 : w.cell? ⟨b, 0, none⟩ = some x0) (d1 : w.cell? ⟨b, 1, none⟩ = some x1) (d2 : w.cell? ⟨b, 2, none⟩ = some x2) (d3 : w.cell? ⟨b, 3, none⟩ = some x3) :
    w1.cell? ⟨b, 0, none⟩ = some x0 ∧ w1.cell? ⟨b, 1, none⟩ = some x1 ∧ w1.cell? ⟨b, 2, none⟩ = some x2 ∧ w1.cell? ⟨b, 3, none⟩ = some x3 :=
  ⟨After.cell ⟨w1, hb⟩ d0, After.cell ⟨w1, hb⟩ d1, After.cell ⟨w1, hb⟩ d2, After.cell ⟨w1, hb⟩ d3⟩
theorem grown_set {w wr : World} {b j : Nat} {u : Value} (h : w.grownBy wr (some b)) : w.grownBy (wr.setCell ⟨b, j, none⟩ u) (some b) :=
  ⟨h.os, h.tape, h.output, by simpa [World.setCell] using h.size, fun k hk hne => (Below.heap_setCell _ _ _ _ (by intro e; exact hne (by rw [e]))).trans (h.block k hk hne)⟩
theorem grown_at {w wr : World} {b g : Nat} (h : w.grownBy wr (some b)) (hg : g < w.heap.size) (hne : g ≠ b) : wr.heap[g]? = w.heap[g]? :=
  h.block g hg (by intro e; injection e with e; exact hne e)
theorem below_of_grown {w wr a : World} {b B : Nat} (h : w.grownBy wr (some b)) (hB : Below B a w) (hb : B ≤ b) (hs : B ≤ w.heap.size) : Below B a wr :=
  hB.grown h hs (fun k e => by injection e with e; omega)
/-- A set's four cells, out of its block. -/
theorem cells_sa {w : World} {b : Nat} {T : TypeId} {C : Array Value} {x0 x1 x2 x3 : Value} (h : w.heap[b]? = some (.cells C T (0, 0))) (hC : C = #[x0, x1, x2, x3]) :
    w.cell? ⟨b, 0, none⟩ = some x0 ∧ w.cell? ⟨b, 1, none⟩ = some x1 ∧ w.cell? ⟨b, 2, none⟩ = some x2 ∧ w.cell? ⟨b, 3, none⟩ = some x3 := by
  subst hC
  refine ⟨?_, ?_, ?_, ?_⟩ <;> rw [cell_of_block h] <;> rfl
/-- 256 flags, as cells. -/
def boolsV (g : Nat → Bool) : List Value := (List.range 256).map (fun p => Value.bool (g p))
theorem boolsV_get (g : Nat → Bool) (p : Nat) (h : p < 256) : (boolsV g)[p]? = some (.bool (g p)) := by unfold boolsV; simp [h]
theorem boolsV_set (g g' : Nat → Bool) (q : Nat) (u : Bool) (hq : g' q = u) (hne : ∀ p, p ≠ q → g' p = g p) : (boolsV g).set q (.bool u) = boolsV g' := by
  apply List.ext_getElem?
  intro p
  rw [List.getElem?_set]
  by_cases hp : p < 256
  · rw [boolsV_get g' p hp]
    by_cases e : q = p
    · subst e
      rw [if_pos rfl, hq]
      have : q < (boolsV g).length := by simp [boolsV, hp]
      simp [this]
    · rw [if_neg e, boolsV_get g p hp, hne p (Ne.symm e)]
  · have h1 : (boolsV g')[p]? = none := by simp [boolsV]; omega
    have h2 : (boolsV g)[p]? = none := by simp [boolsV]; omega
    have h3 : ¬ p < (boolsV g).length := by simp [boolsV]; omega
    rw [h1]
    by_cases e : q = p
    · subst e; simp [h3]
    · rw [if_neg e, h2]
theorem boolsV_made : (madeCells #[Value.bool false] 256).toList = boolsV (fun _ => false) := by
  rw [toList_madeCells_one]
  apply List.ext_getElem?
  intro p
  rw [List.getElem?_replicate]
  by_cases hp : p < 256
  · rw [if_pos hp, boolsV_get _ p hp]
  · have h1 : (boolsV (fun _ => false))[p]? = none := by simp [boolsV]; omega
    rw [if_neg hp, h1]
end Go.Proofs.YtckmjampgeojbaaGreatDoor
namespace Go.Proofs.YtckmjampgeojbaaGreatDoor
open Go.RowKit Go.Joins

section
variable {P : Program} {ops : Array Oper} {md : Region.Mode} {C : World → Prop}
/-- k of the first n operations, in whatever order they come up; then L. -/
def HeadQ (P : Program) (md : Region.Mode) (ops : Array Oper) (C : World → Prop) (n : Nat) (L : Array Bool → Act → Prop) : Nat → Array Bool → Act → Prop
  | 0 => L
  | k + 1 => fun done a => Region.ready md ops done ≠ [] ∧ ∀ j, j ∈ Region.ready md ops done → j < n ∧ qOp P ops C j (HeadQ P md ops C n L k (done.setIfInBounds j true)) a

theorem HeadQ.any {n m : Nat} {L : Array Bool → Act → Prop} {Q : Exit → Act → World → Prop} (hL : ∀ done a w, C w → L done a → wpAny P md ops Q m done a w) (k : Nat) :
    ∀ (done : Array Bool) (a : Act) (w : World), C w → HeadQ P md ops C n L k done a → wpAny P md ops Q (k + m) done a w := by
  induction k with
  | zero => intro done a w hw h; simpa using hL done a w hw h
  | succ k ih =>
    rintro done a w hw ⟨hne, hall⟩
    have e : k + 1 + m = (k + m) + 1 := by omega
    rw [e]
    refine ⟨fun hn => (hne hn).elim, fun j hj => ?_⟩
    exact wpOp_of_qOp hw (ih _) (hall j hj).2

/-- What has not come up yet, and does not wait for operation j, has nothing to do with it. -/
def FreeAt (md : Region.Mode) (ops : Array Oper) (done : Array Bool) (j : Nat) (o : Oper) : Prop :=
  ∀ t ot, ops[t]? = some ot → t ≠ j → done.getD t true = false → (∀ x ∈ ot.after, Region.binds md x = true → x.on ≠ j) → o.apart ops ot = true
theorem FreeAt.later {done : Array Bool} {j t : Nat} {o : Oper} (h : FreeAt md ops done j o) (ht : done.getD t true = false) : FreeAt md ops (done.setIfInBounds t true) j o := by
  intro u ou hu hne hun hno
  refine h u ou hu hne ?_ hno
  by_cases e : t = u
  · rw [← e]; exact ht
  · rwa [getD_set_ne true e] at hun
theorem HeadQ.take {n j : Nat} {o : Oper} {v : Value} {L : Array Bool → Act → Prop} (ho : ops[j]? = some o) (hns : Region.noSelect ops = true)
    (hsink : Region.sinkB md ops n = true) (hchain : Region.chainB md ops n = true) (hn : n < ops.size) (hj : j < n)
    (hL : ∀ done a, L done a → ∀ t, t ∈ Region.ready md ops done → n ≤ t) (k : Nat) :
    ∀ (done : Array Bool) (a : Act), HeadInv md ops n done → FreeAt md ops done j o → j ∈ Region.ready md ops done → YieldsIn P ops C o v a →
      HeadQ P md ops C n L k (done.setIfInBounds j true) (a.put o.dst v) → HeadQ P md ops C n L (k + 1) done a := by
  have sel := Region.noSelect_spec hns
  induction k with
  | zero =>
    intro done a inv _ hr hy H
    have hun := (mem_ready.1 hr).1
    refine ⟨List.ne_nil_of_mem hr, fun t ht => ?_⟩
    have htn : t < n := Nat.lt_of_not_le fun h => tail_waits hsink hchain hn inv (n - j) j rfl hj hun t h ht
    by_cases e : t = j
    · rw [e]; exact ⟨hj, hy.qOp ho H⟩
    · have := hL _ _ H t (ready_mono ht e)
      omega
  | succ k ih =>
    intro done a inv hf hr hy H
    have hun := (mem_ready.1 hr).1
    refine ⟨List.ne_nil_of_mem hr, fun t ht => ?_⟩
    have htn : t < n := Nat.lt_of_not_le fun h => tail_waits hsink hchain hn inv (n - j) j rfl hj hun t h ht
    by_cases e : t = j
    · rw [e]; exact ⟨hj, hy.qOp ho H⟩
    obtain ⟨htu, ot, hot, hwaits⟩ := mem_ready.1 ht
    have nowait : ∀ x, x ∈ ot.after → Region.binds md x = true → x.on ≠ j := by
      intro x hx hb he
      have h1 := hwaits x hx hb
      rw [he, getD_both hun] at h1
      exact Bool.noConfusion h1
    have h2 := qOp_put hot (hf t ot hot e htu nowait) (fun cs b => sel j o cs b ho) (fun cs b => sel t ot cs b hot) hy ((H.2 t (ready_mono ht e)).2)
    refine ⟨htn, qOp_mono ?_ h2⟩
    rintro a' ⟨hy', h3⟩
    refine ih (done.setIfInBounds t true) a' (inv.set ht htn) (hf.later htu) (ready_mono hr (Ne.symm e)) hy' ?_
    · rw [Array.setIfInBounds_comm _ _ e]; exact h3
/-- The head in the order of the text. -/
theorem HeadQ.walk {n g : Nat} {R : Act → Prop} (hns : Region.noSelect ops = true) (hsink : Region.sinkB md ops n = true) (hchain : Region.chainB md ops n = true) (hn : n < ops.size) (l : List Oper) :
    ∀ (j : Nat) (done : Array Bool) (a : Act), (∀ t, t < l.length → l[t]? = ops[j + t]?) → j + l.length = n → HeadInv md ops n done → Region.lexHead md ops g l.length j done = true →
      wpQuiet P ops C R l a → HeadQ P md ops C n (fun done' a' => Region.seqB md ops g n done' = true ∧ R a') l.length done a := by
  induction l with
  | nil =>
    intro j done a _ hj _ hB h
    have e : j = n := by simpa using hj
    subst e
    exact ⟨by simpa [Region.lexHead] using hB, h⟩
  | cons o l ih =>
    intro j done a hl hj inv hB h
    have ho : ops[j]? = some o := by have := hl 0 (by simp); simpa using this.symm
    simp only [List.length_cons] at hj
    simp only [List.length_cons, Region.lexHead, Bool.and_eq_true, List.contains_iff_mem] at hB
    have hq : qOp P ops C j (wpQuiet P ops C R l) a := by unfold qOp; rw [ho]; exact h
    obtain ⟨v, hy, hK⟩ := yieldsIn_of_qOp ho hq
    have hjn : j < n := by omega
    refine HeadQ.take ho hns hsink hchain hn hjn (fun _ _ hL => seqB_ready hL.1) l.length done a inv (Region.free_spec ho hB.1.2) hB.1.1 hy ?_
    refine ih (j + 1) _ _ (fun t ht => ?_) (by omega) (inv.set hB.1.1 hjn) hB.2 hK
    have := hl (t + 1) (by simp; omega)
    rw [show j + (t + 1) = j + 1 + t by omega] at this
    simpa using this
theorem wp_region_tail {id : Nat} {Q : Exit → Act → World → Prop} {a : Act} {w : World} {l : List Oper} (n : Nat) (hm : P.follows .mixedOrders = true) (hB : Region.lexTailB .any l.toArray n = true) (hC : C w.drew)
    (h : wpQuiet P l.toArray C (fun a' => ∀ w', C w' → wpList P l.toArray Q (l.drop n) a' w') (l.take n) a) : (Code.region id l.toArray true).wp P Q a w := by
  simp only [Region.lexTailB, Bool.and_eq_true, decide_eq_true_eq] at hB
  obtain ⟨⟨⟨⟨hns, hn⟩, hsink⟩, hchain⟩, hlex⟩ := hB
  have hn' : n < l.length := by simpa using hn
  have htl : (l.take n).length = n := by rw [List.length_take]; omega
  have hg : (l.drop n).length = l.toArray.size - n := by simp
  have start : HeadInv .any l.toArray n (Array.replicate l.toArray.size false) :=
    ⟨by simp, fun t _ _ ht => Bool.noConfusion ((getD_replicate_false _ t).symm.trans ht), fun t _ ht => getD_in (by simpa using ht) (getD_replicate_false _ t)⟩
  have H := HeadQ.walk (P := P) (C := C) (R := fun a' => ∀ w', C w' → wpList P l.toArray Q (l.drop n) a' w') hns hsink hchain hn (l.take n) 0 (Array.replicate l.toArray.size false) a
    (fun t ht => by rw [htl] at ht; simp [ht]) (by rw [htl]; omega) start (by rw [htl]; exact hlex) h
  have H2 := HeadQ.any (Q := Q) (m := l.toArray.size - n) (fun done a' w' hw' hL => by
    have := wpAny_of_seq (P := P) (ops := l.toArray) (md := .any) (Q' := Q) (l.drop n) n done a' w' (fun t => by simp) (by rw [hg]; exact hL.1) (hL.2 w' hw')
    rwa [hg] at this) _ _ a w.drew hC H
  rw [htl, show n + (l.toArray.size - n) = l.toArray.size by omega] at H2
  exact wp_region_any hm H2
end
theorem wp_region_after_tail {P : Program} {id : Nat} {Q : Exit → Act → World → Prop} {a : Act} {w : World} {l : List Oper} (n : Nat) (hm : P.follows .mixedOrders = true) (hB : Region.lexTailB .any l.toArray n = true)
    (h : wpQuiet P l.toArray (fun W => ∃ x : After w, W = x.1) (fun a' => ∀ x : After w, wpList P l.toArray Q (l.drop n) a' x.1) (l.take n) a) : (Code.region id l.toArray true).wp P Q a w := by
  refine wp_region_tail (C := fun W => ∃ x : After w, W = x.1) n hm hB ⟨⟨_, (Below.refl _ _).drew⟩, rfl⟩ ?_
  have e : (fun a' : Act => ∀ w', (∃ x : After w, w' = x.1) → wpList P l.toArray Q (l.drop n) a' w') = fun a' => ∀ x : After w, wpList P l.toArray Q (l.drop n) a' x.1 := by
    funext a'
    exact propext ⟨fun H x => H _ ⟨x, rfl⟩, fun H w' ⟨x, hx⟩ => by rw [hx]; exact H x⟩
  rw [e]
  exact h
theorem After.frozen {w : World} (x : After w) {b o : Nat} {u : Bool} (hb : b < w.heap.size) (h : w.frozen? ⟨b, o, none⟩ = u) : x.1.frozen? ⟨b, o, none⟩ = u := by
  rw [x.2.frozen (p := ⟨b, o, none⟩) hb]; exact h
/-- A box of two cells, in every world that has grown from here. -/
theorem box2 {w : World} {b : Nat} {T : TypeId} {C : Array Value} {x0 x1 : Value} (h : w.heap[b]? = some (.cells C T (0, 0))) (hC : C = #[x0, x1]) :
    (∀ x : After w, x.1.cell? ⟨b, 0, none⟩ = some x0) ∧ (∀ x : After w, x.1.cell? ⟨b, 1, none⟩ = some x1) ∧ (∀ (x : After w) (j : Nat), x.1.frozen? ⟨b, j, none⟩ = false) := by
  subst hC
  have hz := size_of_block h
  exact ⟨fun x => After.cell x (by rw [cell_of_block h]; rfl), fun x => After.cell x (by rw [cell_of_block h]; rfl), fun x j => After.frozen x hz (unfrozen_of_block h j)⟩
theorem box4 {w : World} {b : Nat} {T : TypeId} {C : Array Value} {x0 x1 x2 x3 : Value} (h : w.heap[b]? = some (.cells C T (0, 0))) (hC : C = #[x0, x1, x2, x3]) :
    (∀ x : After w, x.1.cell? ⟨b, 0, none⟩ = some x0) ∧ (∀ x : After w, x.1.cell? ⟨b, 1, none⟩ = some x1) ∧ (∀ x : After w, x.1.cell? ⟨b, 2, none⟩ = some x2) ∧ (∀ x : After w, x.1.cell? ⟨b, 3, none⟩ = some x3) ∧
    (∀ (x : After w) (j : Nat), x.1.frozen? ⟨b, j, none⟩ = false) := by
  subst hC
  have hz := size_of_block h
  exact ⟨fun x => After.cell x (by rw [cell_of_block h]; rfl), fun x => After.cell x (by rw [cell_of_block h]; rfl), fun x => After.cell x (by rw [cell_of_block h]; rfl), fun x => After.cell x (by rw [cell_of_block h]; rfl), fun x j => After.frozen x hz (unfrozen_of_block h j)⟩
theorem keep_blk {w w1 : World} {b : Nat} {o : Obj} (hb : Below w.heap.size w w1) (h : w.heap[b]? = some o) : w1.heap[b]? = some o := by
  rw [hb.block _ (size_of_block h)]; exact h
/-- The same, here and now. -/
theorem now2 {w : World} {b : Nat} {T : TypeId} {C : Array Value} {x0 x1 : Value} (h : w.heap[b]? = some (.cells C T (0, 0))) (hC : C = #[x0, x1]) :
    w.cell? ⟨b, 0, none⟩ = some x0 ∧ w.cell? ⟨b, 1, none⟩ = some x1 ∧ (∀ j : Nat, w.frozen? ⟨b, j, none⟩ = false) := by
  subst hC
  exact ⟨by rw [cell_of_block h]; rfl, by rw [cell_of_block h]; rfl, unfrozen_of_block h⟩
theorem now4 {w : World} {b : Nat} {T : TypeId} {C : Array Value} {x0 x1 x2 x3 : Value} (h : w.heap[b]? = some (.cells C T (0, 0))) (hC : C = #[x0, x1, x2, x3]) :
    w.cell? ⟨b, 0, none⟩ = some x0 ∧ w.cell? ⟨b, 1, none⟩ = some x1 ∧ w.cell? ⟨b, 2, none⟩ = some x2 ∧ w.cell? ⟨b, 3, none⟩ = some x3 ∧ (∀ j : Nat, w.frozen? ⟨b, j, none⟩ = false) := by
  subst hC
  exact ⟨by rw [cell_of_block h]; rfl, by rw [cell_of_block h]; rfl, by rw [cell_of_block h]; rfl, by rw [cell_of_block h]; rfl, unfrozen_of_block h⟩
theorem keep_set {w : World} {a : Addr} {b : Nat} {o : Obj} {u : Value} (hne : b ≠ a.block) (h : w.heap[b]? = some o) : (w.setCell a u).heap[b]? = some o := by
  rw [Below.heap_setCell _ _ _ _ hne]; exact h
theorem keep_set4 {w : World} {c b : Nat} {o : Obj} {x0 x1 x2 x3 : Value} (hne : b ≠ c) (h : w.heap[b]? = some o) :
    ((((w.setCell ⟨c, 0, none⟩ x0).setCell ⟨c, 1, none⟩ x1).setCell ⟨c, 2, none⟩ x2).setCell ⟨c, 3, none⟩ x3).heap[b]? = some o :=
  keep_set hne (keep_set hne (keep_set hne (keep_set hne h)))
theorem put4 {w : World} {b : Nat} {T : TypeId} {x0 x1 x2 x3 y0 y1 y2 y3 : Value} (h : w.heap[b]? = some (.cells #[y0, y1, y2, y3] T (0, 0))) :
    ((((w.setCell ⟨b, 0, none⟩ x0).setCell ⟨b, 1, none⟩ x1).setCell ⟨b, 2, none⟩ x2).setCell ⟨b, 3, none⟩ x3).heap[b]? = some (.cells #[x0, x1, x2, x3] T (0, 0)) := by
  rw [block_setCell (block_setCell (block_setCell (block_setCell h x0) x1) x2) x3]
  rfl
theorem below4 {w a : World} {B b : Nat} {x0 x1 x2 x3 : Value} (hb : B ≤ b) (h : Below B a w) :
    Below B a ((((w.setCell ⟨b, 0, none⟩ x0).setCell ⟨b, 1, none⟩ x1).setCell ⟨b, 2, none⟩ x2).setCell ⟨b, 3, none⟩ x3) :=
  (((h.setCell hb _).setCell hb _).setCell hb _).setCell hb _
theorem keep_set2 {w : World} {c b : Nat} {o : Obj} {x0 x1 : Value} (hne : b ≠ c) (h : w.heap[b]? = some o) : ((w.setCell ⟨c, 0, none⟩ x0).setCell ⟨c, 1, none⟩ x1).heap[b]? = some o :=
  keep_set hne (keep_set hne h)
theorem put2 {w : World} {b : Nat} {T : TypeId} {x0 x1 y0 y1 : Value} (h : w.heap[b]? = some (.cells #[y0, y1] T (0, 0))) :
    ((w.setCell ⟨b, 0, none⟩ x0).setCell ⟨b, 1, none⟩ x1).heap[b]? = some (.cells #[x0, x1] T (0, 0)) := by
  rw [block_setCell (block_setCell h x0) x1]
  rfl
theorem below2 {w a : World} {B b : Nat} {x0 x1 : Value} (hb : B ≤ b) (h : Below B a w) : Below B a ((w.setCell ⟨b, 0, none⟩ x0).setCell ⟨b, 1, none⟩ x1) :=
  (h.setCell hb _).setCell hb _
/-- A box of two cells, behind whatever is laid next. -/
theorem al2 {w : World} {b : Nat} {T : TypeId} {C : Array Value} {x0 x1 : Value} (h : w.heap[b]? = some (.cells C T (0, 0))) (hC : C = #[x0, x1]) :
    (∀ o, (w.alloc o).cell? ⟨b, 0, none⟩ = some x0) ∧ (∀ o, (w.alloc o).cell? ⟨b, 1, none⟩ = some x1) ∧ (∀ o (j : Nat), (w.alloc o).frozen? ⟨b, j, none⟩ = false) :=
  ⟨fun _ => (now2 ((Below.heap_alloc _ _ _ (size_of_block h)).trans h) hC).1, fun _ => (now2 ((Below.heap_alloc _ _ _ (size_of_block h)).trans h) hC).2.1, fun _ => (now2 ((Below.heap_alloc _ _ _ (size_of_block h)).trans h) hC).2.2⟩
theorem al4 {w : World} {b : Nat} {T : TypeId} {C : Array Value} {x0 x1 x2 x3 : Value} (h : w.heap[b]? = some (.cells C T (0, 0))) (hC : C = #[x0, x1, x2, x3]) :
    (∀ o, (w.alloc o).cell? ⟨b, 0, none⟩ = some x0) ∧ (∀ o, (w.alloc o).cell? ⟨b, 1, none⟩ = some x1) ∧ (∀ o, (w.alloc o).cell? ⟨b, 2, none⟩ = some x2) ∧ (∀ o, (w.alloc o).cell? ⟨b, 3, none⟩ = some x3) :=
  ⟨fun _ => (now4 ((Below.heap_alloc _ _ _ (size_of_block h)).trans h) hC).1, fun _ => (now4 ((Below.heap_alloc _ _ _ (size_of_block h)).trans h) hC).2.1,
    fun _ => (now4 ((Below.heap_alloc _ _ _ (size_of_block h)).trans h) hC).2.2.1, fun _ => (now4 ((Below.heap_alloc _ _ _ (size_of_block h)).trans h) hC).2.2.2.1⟩
theorem keep_alloc {w : World} {b : Nat} {o x : Obj} (h : w.heap[b]? = some o) : (w.alloc x).heap[b]? = some o :=
  (Below.heap_alloc _ _ _ (size_of_block h)).trans h
theorem After.same {w : World} {b : Nat} {o : Obj} (x : After w) (h : w.heap[b]? = some o) : x.1.heap[b]? = some o := by
  rw [x.2.block _ (size_of_block h)]; exact h
theorem heap_alloc3_a (w : World) (o1 o2 o3 : Obj) : (((w.alloc o1).alloc o2).alloc o3).heap[w.heap.size]? = some o1 := by
  rw [Below.heap_alloc _ _ _ (by simp; omega), heap_alloc2_old]
theorem heap_alloc3_b (w : World) (o1 o2 o3 : Obj) : (((w.alloc o1).alloc o2).alloc o3).heap[w.heap.size + 1]? = some o2 := by
  rw [Below.heap_alloc _ _ _ (by simp), heap_alloc2_new]
theorem heap_alloc3_c (w : World) (o1 o2 o3 : Obj) : (((w.alloc o1).alloc o2).alloc o3).heap[w.heap.size + 2]? = some o3 := by
  have e : w.heap.size + 2 = ((w.alloc o1).alloc o2).heap.size := by simp
  rw [e, heap_alloc_new]
end Go.Proofs.YtckmjampgeojbaaGreatDoor
namespace Go.Proofs.YtckmjampgeojbaaGreatDoor
open Go.RowKit

/-- A byte as the program holds it. -/
def bvv (x : BitVec 8) : Value := .int .u8 (x.toNat : Int)
/-- A cube as the program holds it. -/
def cv (m v : BitVec 8) : Value := .agg #[bvv m, bvv v]

/-- The literal of input i: 0, 1, or 2 for none. -/
def lit (m v : BitVec 8) (i : Nat) : Nat := if m.getLsbD i then (if v.getLsbD i then 1 else 0) else 2
theorem lit_le (m v : BitVec 8) (i : Nat) : lit m v i ≤ 2 := by unfold lit; split <;> (try split) <;> omega

/-- The cube of literals, those of the first k inputs. -/
def mB (g : Nat → Nat) (k : Nat) : BitVec 8 := BitVec.ofNat 8 (wsum (fun i => decide (g i < 2)) k)
def vB (g : Nat → Nat) (k : Nat) : BitVec 8 := BitVec.ofNat 8 (wsum (fun i => decide (g i = 1)) k)
theorem mB_bit (g : Nat → Nat) (k i : Nat) : (mB g k).getLsbD i = (decide (i < 8) && (decide (i < k) && decide (g i < 2))) := by
  unfold mB; rw [BitVec.getLsbD_ofNat, wsum_bit]
theorem vB_bit (g : Nat → Nat) (k i : Nat) : (vB g k).getLsbD i = (decide (i < 8) && (decide (i < k) && decide (g i = 1))) := by
  unfold vB; rw [BitVec.getLsbD_ofNat, wsum_bit]
theorem mB_nat (g : Nat → Nat) (k : Nat) (h : k ≤ 8) : (mB g k).toNat = wsum (fun i => decide (g i < 2)) k := by
  unfold mB; rw [BitVec.toNat_ofNat]
  exact Nat.mod_eq_of_lt (Nat.lt_of_lt_of_le (wsum_lt _ _) (Nat.pow_le_pow_right (n := 2) (by decide) h))
theorem vB_nat (g : Nat → Nat) (k : Nat) (h : k ≤ 8) : (vB g k).toNat = wsum (fun i => decide (g i = 1)) k := by
  unfold vB; rw [BitVec.toNat_ofNat]
  exact Nat.mod_eq_of_lt (Nat.lt_of_lt_of_le (wsum_lt _ _) (Nat.pow_le_pow_right (n := 2) (by decide) h))
theorem mB_lit (m v : BitVec 8) : mB (lit m v) 8 = m := by
  apply BitVec.eq_of_getLsbD_eq
  intro i hi
  rw [mB_bit]
  unfold lit
  cases m.getLsbD i <;> cases v.getLsbD i <;> simp [hi]
theorem vB_lit (m v : BitVec 8) : vB (lit m v) 8 = v &&& m := by
  apply BitVec.eq_of_getLsbD_eq
  intro i hi
  rw [vB_bit, BitVec.getLsbD_and]
  unfold lit
  cases m.getLsbD i <;> cases v.getLsbD i <;> simp [hi]
theorem cv_inj {m v m' v' : BitVec 8} (h : cv m v = cv m' v') : m = m' ∧ v = v' := by
  unfold cv bvv at h
  injection h with h
  have h' := congrArg Array.toList h
  simp only [List.cons.injEq, and_true, Value.int.injEq, true_and] at h'
  exact ⟨BitVec.eq_of_toNat_eq (by exact_mod_cast h'.1), BitVec.eq_of_toNat_eq (by exact_mod_cast h'.2)⟩

theorem shr_zero (m : BitVec 8) (n : Nat) : m.toNat / 2 ^ n = 0 ↔ ∀ i, n ≤ i → m.getLsbD i = false := by
  constructor
  · intro h i hi
    have hlt : m.toNat < 2 ^ n := (Nat.div_eq_zero_iff_lt (Nat.two_pow_pos n)).1 h
    simp only [BitVec.getLsbD]
    exact Nat.testBit_lt_two_pow (Nat.lt_of_lt_of_le hlt (Nat.pow_le_pow_right (by decide) hi))
  · intro h
    rw [Nat.div_eq_zero_iff_lt (Nat.two_pow_pos n)]
    exact Nat.lt_pow_two_of_testBit _ fun i hi => h i hi
/-- Is a cube right, of n inputs? -/
def rightB (m v : BitVec 8) (n : Int) : Bool := decide (0 ≤ n ∧ n ≤ 8 ∧ m.toNat / 2 ^ n.toNat = 0 ∧ v &&& m = v)
theorem rightB_iff (m v : BitVec 8) (n : Int) : rightB m v n = true ↔ 0 ≤ n ∧ n ≤ 8 ∧ (∀ i, n.toNat ≤ i → m.getLsbD i = false) ∧ v &&& m = v := by
  unfold rightB; rw [decide_eq_true_iff, shr_zero]

/- POINTS. -/
/-- Has a point the literals of the first k inputs? -/
def fits (m v : BitVec 8) : Nat → Nat → Bool
  | 0, _ => true
  | k + 1, p => fits m v k p && (!m.getLsbD k || p.testBit k == v.getLsbD k)
theorem fits_iff (m v : BitVec 8) (k p : Nat) : fits m v k p = true ↔ ∀ i, i < k → m.getLsbD i = true → p.testBit i = v.getLsbD i := by
  induction k with
  | zero => simp [fits]
  | succ k ih =>
    rw [fits, Bool.and_eq_true, ih]
    constructor
    · rintro ⟨h1, h2⟩ i hi hm
      by_cases e : i = k
      · subst e; simpa [hm] using h2
      · exact h1 i (by omega) hm
    · intro h
      refine ⟨fun i hi hm => h i (by omega) hm, ?_⟩
      cases hm : m.getLsbD k
      · rfl
      · simpa using h k (by omega) hm
/-- The points of n inputs that have the literals of the first k. -/
def cpts (m v : BitVec 8) (n k : Nat) : BitVec 256 := bvOf fun p => decide (p < 2 ^ n) && fits m v k p
theorem cpts_bit (m v : BitVec 8) (n k p : Nat) (hn : n ≤ 8) : (cpts m v n k).getLsbD p = (decide (p < 2 ^ n) && fits m v k p) := by
  unfold cpts
  rw [bvOf_bit]
  have : 2 ^ n ≤ 256 := Nat.pow_le_pow_right (n := 2) (by decide) hn
  by_cases h : p < 2 ^ n
  · have : p < 256 := by omega
    simp [h, this]
  · simp [h]

/-- How many of the first k inputs have a literal. -/
def szK (m : BitVec 8) (k : Nat) : Nat := (List.range k).countP fun i => m.getLsbD i
theorem szK_succ (m : BitVec 8) (k : Nat) : szK m (k + 1) = szK m k + if m.getLsbD k then 1 else 0 := by
  unfold szK; rw [List.range_succ, List.countP_append]; simp [List.countP_cons]
theorem szK_le (m : BitVec 8) (k : Nat) : szK m k ≤ k := by
  unfold szK
  have := List.countP_le_length (p := fun i => m.getLsbD i) (l := List.range k)
  simpa using this
theorem szK_right (m : BitVec 8) (n k : Nat) (h : ∀ i, n ≤ i → m.getLsbD i = false) (hk : n ≤ k) : szK m k = szK m n := by
  induction k with
  | zero => have : n = 0 := by omega
            subst this; rfl
  | succ k ih =>
    by_cases e : n = k + 1
    · subst e; rfl
    · rw [szK_succ, ih (by omega), h k (by omega)]; rfl
theorem fits_high (m v : BitVec 8) (k p q : Nat) (hq : q < 2 ^ k) (j : Nat) (hj : j ≤ k) : fits m v j (2 ^ k * p + q) = fits m v j q := by
  rw [Bool.eq_iff_iff, fits_iff, fits_iff]
  have key : ∀ i, i < j → (2 ^ k * p + q).testBit i = q.testBit i := fun i hi => by
    rw [Nat.testBit_two_pow_mul_add _ hq, if_pos (by omega)]
  constructor
  · intro h i hi hm; rw [← key i hi]; exact h i hi hm
  · intro h i hi hm; rw [key i hi]; exact h i hi hm
theorem fits_count (m v : BitVec 8) (k : Nat) : (List.range (2 ^ k)).countP (fun p => fits m v k p) = 2 ^ (k - szK m k) := by
  induction k with
  | zero => simp [fits, szK]
  | succ k ih =>
    have hs : 2 ^ (k + 1) = 2 ^ k + 2 ^ k := by rw [Nat.pow_succ]; omega
    rw [hs, List.range_add, List.countP_append, List.countP_map]
    have lo : ∀ p, p ∈ List.range (2 ^ k) → p.testBit k = false := fun p hp => Nat.testBit_lt_two_pow (by simpa using hp)
    have hi : ∀ p, p ∈ List.range (2 ^ k) → (2 ^ k + p).testBit k = true := fun p hp => by
      have hp' : p < 2 ^ k := by simpa using hp
      have e : 2 ^ k + p = 2 ^ k * 1 + p := by omega
      rw [e, Nat.testBit_two_pow_mul_add _ hp', if_neg (by omega)]; simp
    have fh : ∀ p, p ∈ List.range (2 ^ k) → fits m v k (2 ^ k + p) = fits m v k p := fun p hp => by
      have hp' : p < 2 ^ k := by simpa using hp
      have := fits_high m v k 1 p hp' k (Nat.le_refl _)
      rwa [Nat.mul_one] at this
    have c1 : (List.range (2 ^ k)).countP (fun p => fits m v (k + 1) p) = if m.getLsbD k && v.getLsbD k then 0 else 2 ^ (k - szK m k) := by
      by_cases hc : m.getLsbD k && v.getLsbD k
      · rw [if_pos hc, List.countP_eq_zero]
        intro p hp
        simp only [Bool.and_eq_true] at hc
        simp [fits, lo p hp, hc.1, hc.2]
      · rw [if_neg hc, ← ih]
        apply List.countP_congr
        intro p hp
        rw [fits, lo p hp]
        cases hm : m.getLsbD k <;> cases hv : v.getLsbD k <;> simp_all
    have c2 : (List.range (2 ^ k)).countP ((fun p => fits m v (k + 1) p) ∘ fun p => 2 ^ k + p) = if m.getLsbD k && !v.getLsbD k then 0 else 2 ^ (k - szK m k) := by
      by_cases hc : m.getLsbD k && !v.getLsbD k
      · rw [if_pos hc, List.countP_eq_zero]
        intro p hp
        simp only [Bool.and_eq_true, Bool.not_eq_true'] at hc
        simp [fits, hi p hp, hc.1, hc.2]
      · rw [if_neg hc, ← ih]
        apply List.countP_congr
        intro p hp
        simp only [Function.comp_apply]
        rw [fits, hi p hp, fh p hp]
        cases hm : m.getLsbD k <;> cases hv : v.getLsbD k <;> simp_all
    rw [c1, c2, szK_succ]
    have hle := szK_le m k
    have h2 : k + 1 - szK m k = k - szK m k + 1 := by omega
    cases hm : m.getLsbD k <;> cases hv : v.getLsbD k <;> simp [h2, Nat.pow_succ] <;> omega
/-- A cube has as many points as its literals leave. -/
theorem pop_pts (m v : BitVec 8) (n : Nat) (hn : n ≤ 8) : pop (cpts m v n n) = 2 ^ (n - szK m n) := by
  rw [← fits_count m v n]
  have hle : 2 ^ n ≤ 256 := Nat.pow_le_pow_right (n := 2) (by decide) hn
  unfold pop
  have hr : List.range 256 = List.range (2 ^ n) ++ (List.range (256 - 2 ^ n)).map (2 ^ n + ·) := by
    rw [← List.range_add]; congr 1; omega
  rw [hr, List.countP_append, List.countP_map]
  have h0 : (List.range (256 - 2 ^ n)).countP ((fun p => (cpts m v n n).getLsbD p) ∘ fun p => 2 ^ n + p) = 0 := by
    rw [List.countP_eq_zero]
    intro p _
    have h : ¬ 2 ^ n + p < 2 ^ n := by omega
    simp [cpts_bit _ _ _ _ _ hn, h]
  rw [h0, Nat.add_zero]
  apply List.countP_congr
  intro p hp
  have : p < 2 ^ n := by simpa using hp
  simp [cpts_bit _ _ _ _ _ hn, this]

/- WHAT TWO CUBES HAVE TO DO WITH ONE ANOTHER. -/
def clashB (m v m' v' : BitVec 8) : BitVec 8 := m &&& m' &&& (v ^^^ v')
theorem clashB_bit (m v m' v' : BitVec 8) (i : Nat) : (clashB m v m' v').getLsbD i = (m.getLsbD i && m'.getLsbD i && (v.getLsbD i ^^ v'.getLsbD i)) := by
  unfold clashB; rw [BitVec.getLsbD_and, BitVec.getLsbD_and, BitVec.getLsbD_xor]
def joinM (m v m' v' : BitVec 8) : BitVec 8 := m &&& m' &&& ~~~(clashB m v m' v')
theorem joinM_bit (m v m' v' : BitVec 8) (i : Nat) : (joinM m v m' v').getLsbD i = (m.getLsbD i && m'.getLsbD i && !(v.getLsbD i ^^ v'.getLsbD i)) := by
  unfold joinM
  rw [BitVec.getLsbD_and, BitVec.getLsbD_and, BitVec.getLsbD_not, clashB_bit]
  by_cases h : i < 8
  · cases m.getLsbD i <;> cases m'.getLsbD i <;> simp [h]
  · rw [BitVec.getLsbD_of_ge m i (by omega)]; simp
/-- Does the first hold the second? -/
def holdsB (m v m' v' : BitVec 8) : Bool := decide (joinM m v m' v' = m)
theorem holdsB_iff (m v m' v' : BitVec 8) : holdsB m v m' v' = true ↔ ∀ i, m.getLsbD i = true → m'.getLsbD i = true ∧ v.getLsbD i = v'.getLsbD i := by
  unfold holdsB
  rw [decide_eq_true_iff]
  constructor
  · intro h i hm
    have := joinM_bit m v m' v' i
    rw [h, hm] at this
    revert this
    cases m'.getLsbD i <;> cases v.getLsbD i <;> cases v'.getLsbD i <;> simp
  · intro h
    apply BitVec.eq_of_getLsbD_eq
    intro i hi
    rw [joinM_bit]
    cases hm : m.getLsbD i
    · simp
    · obtain ⟨h1, h2⟩ := h i hm
      rw [h1, h2]; simp
/-- A cube's own point. -/
theorem own_fits (m v : BitVec 8) (n : Nat) : fits m v n v.toNat = true := by
  rw [fits_iff]; intro i _ _; rfl
theorem lt_of_right {m v : BitVec 8} {n : Nat} (hm : ∀ i, n ≤ i → m.getLsbD i = false) (hv : v &&& m = v) : v.toNat < 2 ^ n := by
  refine Nat.lt_pow_two_of_testBit _ fun i hi => ?_
  have h := congrArg (fun x => x.getLsbD i) hv
  simp only [BitVec.getLsbD_and, hm i hi, Bool.and_false] at h
  exact h.symm
/-- To hold is that the points are within. -/
theorem holds_within (m v m' v' : BitVec 8) (n : Nat) (hn : n ≤ 8) (hm : ∀ i, n ≤ i → m.getLsbD i = false) (hm' : ∀ i, n ≤ i → m'.getLsbD i = false) (hv' : v' &&& m' = v') :
    decide (cpts m' v' n n &&& ~~~(cpts m v n n) = 0) = holdsB m v m' v' := by
  rw [Bool.eq_iff_iff, decide_eq_true_iff, holdsB_iff]
  have hle : 2 ^ n ≤ 256 := Nat.pow_le_pow_right (n := 2) (by decide) hn
  have sub : (cpts m' v' n n &&& ~~~(cpts m v n n) = 0) ↔ ∀ p, p < 2 ^ n → fits m' v' n p = true → fits m v n p = true := by
    constructor
    · intro h p hp hf
      have h1 := congrArg (fun x => x.getLsbD p) h
      have hp2 : p < 256 := by omega
      simp only [BitVec.getLsbD_and, BitVec.getLsbD_not, cpts_bit _ _ _ _ _ hn, hp, hf, hp2, decide_true, Bool.true_and] at h1
      simpa using h1
    · intro h
      apply BitVec.eq_of_getLsbD_eq
      intro p hp
      simp only [BitVec.getLsbD_and, BitVec.getLsbD_not, cpts_bit _ _ _ _ _ hn, hp, decide_true, Bool.true_and]
      by_cases hp2 : p < 2 ^ n
      · cases hf : fits m' v' n p
        · simp
        · simp [h p hp2 hf]
      · simp [hp2]
  rw [sub]
  constructor
  · intro h i hi
    have hin : i < n := by
      rcases Nat.lt_or_ge i n with k | k
      · exact k
      · rw [hm i k] at hi; cases hi
    have own := h v'.toNat (lt_of_right hm' hv') (own_fits m' v' n)
    rw [fits_iff] at own
    have hvi : v'.getLsbD i = v.getLsbD i := own i hin hi
    refine ⟨?_, hvi.symm⟩
    cases hmi : m'.getLsbD i
    · exfalso
      -- the point with bit i turned
      have hx : (v' ^^^ BitVec.twoPow 8 i).toNat < 2 ^ n := by
        refine Nat.lt_pow_two_of_testBit _ fun j hj => ?_
        show (v' ^^^ BitVec.twoPow 8 i).getLsbD j = false
        rw [BitVec.getLsbD_xor, BitVec.getLsbD_twoPow]
        have e1 : v'.getLsbD j = false := Nat.testBit_lt_two_pow (Nat.lt_of_lt_of_le (lt_of_right hm' hv') (Nat.pow_le_pow_right (by decide) hj))
        have e2 : ¬ i = j := by omega
        simp [e1, e2]
      have hbit : ∀ j, (v' ^^^ BitVec.twoPow 8 i).toNat.testBit j = (v'.getLsbD j ^^ (decide (i < 8) && decide (i = j))) := fun j => by
        show (v' ^^^ BitVec.twoPow 8 i).getLsbD j = _
        rw [BitVec.getLsbD_xor, BitVec.getLsbD_twoPow]
      have hf : fits m' v' n (v' ^^^ BitVec.twoPow 8 i).toNat = true := by
        rw [fits_iff]
        intro j hj hmj
        have e2 : ¬ i = j := by rintro rfl; rw [hmi] at hmj; cases hmj
        rw [hbit]; simp [e2]
      have := (fits_iff m v n _).1 (h _ hx hf) i hin hi
      rw [hbit, hvi] at this
      have h8 : i < 8 := by omega
      simp [h8] at this
    · rfl
  · intro h p hp hf
    rw [fits_iff] at hf ⊢
    intro i hi hm1
    obtain ⟨h1, h2⟩ := h i hm1
    rw [h2]; exact hf i hi h1
/-- Two cubes that want an input differently have no point in common. -/
theorem meet_none (m v m' v' : BitVec 8) (n : Nat) (hn : n ≤ 8) (hm : ∀ i, n ≤ i → m.getLsbD i = false) (h : clashB m v m' v' ≠ 0) : cpts m v n n &&& cpts m' v' n n = 0 := by
  apply BitVec.eq_of_getLsbD_eq
  intro p hp
  rw [BitVec.getLsbD_and, cpts_bit _ _ _ _ _ hn, cpts_bit _ _ _ _ _ hn]
  have hc : ∃ i, (clashB m v m' v').getLsbD i = true := by
    by_cases hx : ∃ i, (clashB m v m' v').getLsbD i = true
    · exact hx
    · exfalso
      apply h
      apply BitVec.eq_of_getLsbD_eq
      intro i _
      cases hi : (clashB m v m' v').getLsbD i
      · simp
      · exact absurd ⟨i, hi⟩ hx
  obtain ⟨i, hi⟩ := hc
  rw [clashB_bit] at hi
  simp only [Bool.and_eq_true] at hi
  obtain ⟨⟨h1, h2⟩, h3⟩ := hi
  have hin : i < n := by
    rcases Nat.lt_or_ge i n with k | k
    · exact k
    · rw [hm i k] at h1; cases h1
  cases hf : fits m v n p
  · simp
  · cases hf' : fits m' v' n p
    · simp
    · exfalso
      have a := (fits_iff m v n p).1 hf i hin h1
      have b := (fits_iff m' v' n p).1 hf' i hin h2
      rw [a] at b; rw [b] at h3; simp at h3
/-- The points of both are those of what both have. -/
theorem meet_some (m v m' v' : BitVec 8) (n : Nat) (hn : n ≤ 8) (h : clashB m v m' v' = 0) : cpts m v n n &&& cpts m' v' n n = cpts (m ||| m') ((v &&& m) ||| (v' &&& m')) n n := by
  apply BitVec.eq_of_getLsbD_eq
  intro p hp
  rw [BitVec.getLsbD_and, cpts_bit _ _ _ _ _ hn, cpts_bit _ _ _ _ _ hn, cpts_bit _ _ _ _ _ hn]
  by_cases hp2 : p < 2 ^ n
  · simp only [hp2, decide_true, Bool.true_and]
    rw [Bool.eq_iff_iff, Bool.and_eq_true, fits_iff, fits_iff, fits_iff]
    constructor
    · rintro ⟨h1, h2⟩ i hi hmm
      rw [BitVec.getLsbD_or, BitVec.getLsbD_and, BitVec.getLsbD_and]
      rw [BitVec.getLsbD_or] at hmm
      have hc := clashB_bit m v m' v' i
      rw [h] at hc
      cases e1 : m.getLsbD i <;> cases e2 : m'.getLsbD i <;> rw [e1, e2] at hmm hc <;> simp at hmm hc
      · rw [h2 i hi e2]; simp
      · rw [h1 i hi e1]; simp
      · rw [h1 i hi e1]; simp [hc]
    · intro hh
      constructor
      · intro i hi e1
        have := hh i hi (by rw [BitVec.getLsbD_or, e1]; rfl)
        rw [this, BitVec.getLsbD_or, BitVec.getLsbD_and, BitVec.getLsbD_and]
        have hc := clashB_bit m v m' v' i
        rw [h, e1] at hc
        cases e2 : m'.getLsbD i <;> rw [e2] at hc <;> simp [e1] at hc ⊢
        simp [hc]
      · intro i hi e2
        have := hh i hi (by rw [BitVec.getLsbD_or, e2]; simp)
        rw [this, BitVec.getLsbD_or, BitVec.getLsbD_and, BitVec.getLsbD_and]
        have hc := clashB_bit m v m' v' i
        rw [h, e2] at hc
        cases e1 : m.getLsbD i <;> rw [e1] at hc <;> simp [e2] at hc ⊢
        simp [hc]
  · simp [hp2]
theorem meet_right {m v m' v' : BitVec 8} {n : Int} (h1 : rightB m v n = true) (h2 : rightB m' v' n = true) : rightB (m ||| m') ((v &&& m) ||| (v' &&& m')) n = true := by
  rw [rightB_iff] at *
  obtain ⟨a0, a1, a2, a3⟩ := h1
  obtain ⟨b0, b1, b2, b3⟩ := h2
  refine ⟨a0, a1, fun i hi => by rw [BitVec.getLsbD_or, a2 i hi, b2 i hi]; rfl, ?_⟩
  apply BitVec.eq_of_getLsbD_eq
  intro i _
  simp only [BitVec.getLsbD_and, BitVec.getLsbD_or]
  cases m.getLsbD i <;> cases m'.getLsbD i <;> cases v.getLsbD i <;> cases v'.getLsbD i <;> rfl
theorem zero_right (n : Int) (h0 : 0 ≤ n) (h1 : n ≤ 8) : rightB 0 0 n = true := by
  rw [rightB_iff]; exact ⟨h0, h1, fun i _ => by simp, by simp⟩
/-- What holds both holds each, and is held by each that holds both. -/
theorem join_left (m v m' v' : BitVec 8) : holdsB (joinM m v m' v') (v &&& joinM m v m' v') m v = true := by
  rw [holdsB_iff]
  intro i hi
  rw [BitVec.getLsbD_and, hi]
  rw [joinM_bit] at hi
  simp only [Bool.and_eq_true] at hi
  exact ⟨hi.1.1, by simp⟩
theorem join_right (m v m' v' : BitVec 8) : holdsB (joinM m v m' v') (v &&& joinM m v m' v') m' v' = true := by
  rw [holdsB_iff]
  intro i hi
  rw [BitVec.getLsbD_and, hi]
  rw [joinM_bit] at hi
  simp only [Bool.and_eq_true] at hi
  refine ⟨hi.1.2, ?_⟩
  have := hi.2
  cases h1 : v.getLsbD i <;> cases h2 : v'.getLsbD i <;> rw [h1, h2] at this <;> simp at this ⊢
theorem join_least (m v m' v' c d : BitVec 8) (h1 : holdsB c d m v = true) (h2 : holdsB c d m' v' = true) : holdsB c d (joinM m v m' v') (v &&& joinM m v m' v') = true := by
  rw [holdsB_iff] at *
  intro i hi
  obtain ⟨a1, a2⟩ := h1 i hi
  obtain ⟨b1, b2⟩ := h2 i hi
  have hj : (joinM m v m' v').getLsbD i = true := by rw [joinM_bit, a1, b1, ← a2, ← b2]; simp
  exact ⟨hj, by rw [BitVec.getLsbD_and, hj, a2]; simp⟩
end Go.Proofs.YtckmjampgeojbaaGreatDoor
