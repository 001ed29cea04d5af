/- What Has, With and List of the package set answer, for every input. -/
import Derived.Test.YtkkdfpmjmommcaaSet
namespace Go.Proofs.Ytkkdfpmjmommcaa
open Go.RowKit Go.Joins

/-- Is point p in a set? -/
def hasB (S : BitVec 256) (p : Int) : Bool := decide (0 ≤ p) && S.getLsbD p.toNat
theorem wd_test (S : BitVec 256) (p : Nat) : (((wd S (p / 64)).toNat : Int) / 2 ^ (p % 64)) % 2 = if S.getLsbD p then 1 else 0 := by
  have hb := wd_bit S (p / 64) (p % 64)
  have e : 64 * (p / 64) + p % 64 = p := by omega
  rw [e] at hb
  have hm : p % 64 < 64 := by omega
  simp only [hm, decide_true, Bool.true_and, BitVec.getLsbD, Nat.testBit_eq_decide_div_mod_eq] at hb
  have hd : (((wd S (p / 64)).toNat : Int) / 2 ^ (p % 64)) = (((wd S (p / 64)).toNat / 2 ^ (p % 64) : Nat) : Int) := by
    rw [Int.natCast_ediv]; simp
  rw [hd]
  simp only [BitVec.getLsbD, Nat.testBit_eq_decide_div_mod_eq]
  rw [← hb]
  by_cases h1 : (wd S (p / 64)).toNat / 2 ^ (p % 64) % 2 = 1
  · simp [h1]; omega
  · simp [h1]; omega
theorem wd_twoPow (p k : Nat) (hp : p < 256) : wd (BitVec.twoPow 256 p) k = if k = p / 64 then BitVec.twoPow 64 (p % 64) else 0 := by
  apply BitVec.eq_of_getLsbD_eq
  intro j hj
  rw [wd_bit, BitVec.getLsbD_twoPow]
  simp only [hj, decide_true, Bool.true_and, hp]
  by_cases e : k = p / 64
  · rw [if_pos e, BitVec.getLsbD_twoPow]
    have hm : p % 64 < 64 := by omega
    simp only [hm, decide_true, Bool.true_and]
    have : (p = 64 * k + j) ↔ (p % 64 = j) := by omega
    simp only [this]
  · rw [if_neg e]
    have : ¬ (p = 64 * k + j) := by omega
    simp [this]
theorem with_word (S : BitVec 256) (p : Nat) (hp : p < 256) : bits .or .u64 ((wd S (p / 64)).toNat : Int) (IntKind.u64.wrap (2 ^ (p % 64))) = ((wd (S ||| BitVec.twoPow 256 p) (p / 64)).toNat : Int) := by
  have hm : p % 64 < 64 := by omega
  have e : IntKind.u64.wrap (2 ^ (p % 64)) = ((BitVec.twoPow 64 (p % 64)).toNat : Int) := by
    have hl : 2 ^ (p % 64) < 2 ^ 64 := Nat.pow_lt_pow_right (by decide) hm
    rw [BitVec.toNat_twoPow_of_lt hm]
    have h2 : ((2 ^ (p % 64) : Nat) : Int) = 2 ^ (p % 64) := by simp
    rw [h2]
    exact wrap_u64_id _ (by rw [← h2]; exact Int.natCast_nonneg _) (by rw [← h2]; generalize 2 ^ (p % 64) = q at *; omega)
  rw [e, bits_or_bv, wd_or, wd_twoPow p _ hp, if_pos rfl]
theorem with_cells (S : BitVec 256) (p : Nat) (hp : p < 256) :
    [Value.int IntKind.u64 ↑(wd S 0).toNat, Value.int IntKind.u64 ↑(wd S 1).toNat, Value.int IntKind.u64 ↑(wd S 2).toNat, Value.int IntKind.u64 ↑(wd S 3).toNat].set (p / 64)
      (Value.int IntKind.u64 (bits BinOp.or IntKind.u64 (↑(wd S (p / 64)).toNat) (IntKind.u64.wrap (2 ^ (p % 64))))) =
    [Value.int IntKind.u64 ↑(wd (S ||| BitVec.twoPow 256 p) 0).toNat, Value.int IntKind.u64 ↑(wd (S ||| BitVec.twoPow 256 p) 1).toNat, Value.int IntKind.u64 ↑(wd (S ||| BitVec.twoPow 256 p) 2).toNat, Value.int IntKind.u64 ↑(wd (S ||| BitVec.twoPow 256 p) 3).toNat] := by
  rw [with_word S p hp]
  have same : ∀ k, k ≠ p / 64 → wd (S ||| BitVec.twoPow 256 p) k = wd S k := by
    intro k hne
    rw [wd_or, wd_twoPow p k hp, if_neg hne]
    exact BitVec.or_zero
  have hk : p / 64 = 0 ∨ p / 64 = 1 ∨ p / 64 = 2 ∨ p / 64 = 3 := by omega
  rcases hk with e | e | e | e <;> rw [e] at same ⊢ <;>
    simp [same]
theorem grown_low {w w1 w2 : World} {base size n : Nat} {e : TypeId} {v : Value} {xs : List Value} (hown : w.ownsRow base e size v n xs) (hg : w1.grownBy w2 v.ownBlock) (b : Nat) (h : b < base) (hs : b < w1.heap.size) : w2.heap[b]? = w1.heap[b]? :=
  hg.block _ hs (fun e => by have := (hown.lt b e.symm).1; omega)
theorem grown_below {w w1 w2 a : World} {base size n B : Nat} {e : TypeId} {v : Value} {xs : List Value} (hown : w.ownsRow base e size v n xs) (hg : w1.grownBy w2 v.ownBlock) (hB : Below B a w1) (hle : B ≤ base) (hs : B ≤ w1.heap.size) : Below B a w2 :=
  hB.grown hg hs (fun k e => by have := (hown.lt k e).1; omega)
def ptsK (S : BitVec 256) (k : Nat) : List Nat := (List.range k).filter (fun p => S.getLsbD p)
def intsV (l : List Nat) : List Value := l.map (fun p : Nat => Value.int .i64 (p : Int))
theorem ptsK_succ (S : BitVec 256) (k : Nat) : ptsK S (k + 1) = if S.getLsbD k then ptsK S k ++ [k] else ptsK S k := by
  unfold ptsK
  rw [List.range_succ, List.filter_append]
  by_cases h : S.getLsbD k <;> simp [h]
theorem ptsK_len (S : BitVec 256) (k : Nat) : (ptsK S k).length ≤ k := by
  unfold ptsK
  exact Nat.le_trans (List.length_filter_le _ _) (by simp)
theorem Try.infoInt : (Try.prog.info? 3).map (fun i => (i.zero, i.size, i.bytes)) = some (some (.int .i64 0), 1, 8) := by kernel_rfl
theorem Try.infoBool : (Try.prog.info? 4).map (fun i => (i.zero, i.size, i.bytes)) = some (some (.bool false), 1, 1) := by kernel_rfl

end Go.Proofs.Ytkkdfpmjmommcaa
