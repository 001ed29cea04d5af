/- The statement SetPoints, walked: its pieces. -/
import Derived.Test.YtkkdfpmjmommcaaLaw01b
namespace Go.Proofs.Ytkkdfpmjmommcaa
open Go.RowKit Go.Joins

theorem blk_below {w w1 : World} {b : Nat} {o : Obj} (hb : Below w.heap.size w w1) (h : w.heap[b]? = some o) : w1.heap[b]? = some o := by
  rw [hb.block _ (size_of_block h)]; exact h
theorem blk_alloc {w : World} {b : Nat} {o x : Obj} (h : w.heap[b]? = some o) : (w.alloc x).heap[b]? = some o := by
  rw [Below.heap_alloc _ _ _ (size_of_block h)]; exact h
theorem blk_set {w : World} {a : Addr} {b : Nat} {o : Obj} {u : Value} (hne : b ≠ a.block) (h : w.heap[b]? = some o) : (w.setCell a u).heap[b]? = some o := by
  rw [Below.heap_setCell _ _ _ _ hne]; exact h

/-- The flags of a set with one more. -/
def addF (S : BitVec 256) (p : Int) (q : Nat) : Bool := S.getLsbD q || (decide (0 ≤ p) && decide (q = p.toNat))
def addB (S : BitVec 256) (p : Int) : BitVec 256 := if 0 ≤ p ∧ p < 256 then S ||| BitVec.twoPow 256 p.toNat else S
theorem addB_bit (S : BitVec 256) (p : Int) : bvOf (addF S p) = addB S p := by
  refine bvOf_eq _ _ fun q hq => ?_
  unfold addF addB
  by_cases h : 0 ≤ p ∧ p < 256
  · rw [if_pos h, BitVec.getLsbD_or, BitVec.getLsbD_twoPow]
    have h1 : p.toNat < 256 := by omega
    have h2 : decide (q = p.toNat) = decide (p.toNat = q) := by simp [eq_comm]
    simp [h.1, h1, h2]
  · rw [if_neg h]
    have : ¬ (0 ≤ p ∧ q = p.toNat) := by omega
    by_cases h0 : 0 ≤ p
    · have h3 : ¬ q = p.toNat := by omega
      simp [h3]
    · simp [h0]
end Go.Proofs.Ytkkdfpmjmommcaa
