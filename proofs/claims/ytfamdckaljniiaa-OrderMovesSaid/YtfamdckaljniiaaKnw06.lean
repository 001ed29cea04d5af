/- A diagram to start with; the document's example. -/
import Derived.Test.YtfamdckaljniiaaOps06
import Derived.Test.YtfamdckaljniiaaRsz06
namespace Go.Proofs.Ytfamdckaljniiaa
open Go.RowKit Go.Joins

/-- With enough room no error is told. -/
theorem Out.enough {n k : Nat} {l : Int} {room : Nat} {S T : St} {F : (Nat → Bool) → Bool} {id e : Int} (h : Out n k l room S F T id e) (hr : cnt S + 2 ^ k ≤ room) : e = 0 ∧ 0 ≤ lvl T id ∧ ∀ c, says T c id = F c := by
  rcases h.res with ⟨h1, h2, -, h4⟩ | ⟨-, -, h3⟩
  · exact ⟨h1, h2, h4⟩
  · have := h.few; omega
theorem allB_bit6 (n p : Nat) (hn : n ≤ 8) : (allB n).getLsbD p = decide (p < 2 ^ n) := by
  unfold allB
  rw [bvOf_bit]
  by_cases h : p < 2 ^ n
  · have := two_eight hn
    have h2 : p < 256 := by omega
    simp [h, h2]
  · simp [h]
theorem fit_low {X : BitVec 256} {n : Nat} (hn : n ≤ 8) (h : X &&& ~~~(allB n) = 0) (p : Nat) (hp : 2 ^ n ≤ p) : X.getLsbD p = false := by
  by_cases h2 : p < 256
  · have := (less_zero X (allB n)).1 h p h2
    rw [allB_bit6 n p hn, decide_eq_false (by omega)] at this
    simpa using this
  · exact BitVec.getLsbD_of_ge _ _ (by omega)
theorem low_fit {X : BitVec 256} {n : Nat} (hn : n ≤ 8) (h : ∀ p, 2 ^ n ≤ p → X.getLsbD p = false) : X &&& ~~~(allB n) = 0 := by
  refine (less_zero X (allB n)).2 fun p _ => ?_
  rw [allB_bit6 n p hn]
  by_cases hlt : p < 2 ^ n
  · simp [hlt]
  · rw [h p (by omega)]; rfl
/-- An id that is used and says now this, now that, is a node's. -/
theorem node_of_says {S : St} {id : Int} (h0 : 0 ≤ lvl S id) {c d : Nat → Bool} (hc : says S c id = true) (hd : says S d id = false) : 1 < id := by
  rcases lvl_kind h0 with he | ⟨j, m, rfl, -, -⟩
  · rcases he with rfl | rfl
    · rw [says_zero] at hc; cases hc
    · rw [says_one] at hd; cases hd
  · omega
/-- An id that says yes always is 1. -/
theorem one_of_says {S : St} (hR : RSt S) {id : Int} (h0 : 0 ≤ lvl S id) (h : ∀ c, says S c id = true) : id = 1 :=
  (says_eq hR h0 (by rw [lvl_end (.inr rfl)]; decide)).1 fun c => by rw [h c, says_one]
def x10 : BitVec 256 := 10#256
theorem x10_v : sv x10 = .agg #[.int .u64 10, .int .u64 0, .int .u64 0, .int .u64 0] := by kernel_rfl
theorem x10_fit : x10 &&& ~~~(allB 2) = 0 := by kernel_rfl
theorem ord01 : OrdOk [0, 1] := ⟨by decide, by decide⟩
theorem x10_size : sizeB (setF [0, 1] x10) 2 2 = 1 := by kernel_rfl
def c10 : Nat → Bool := fun _ => true
def c00 : Nat → Bool := fun _ => false
theorem x10_yes : setF [0, 1] x10 c10 = true := by kernel_rfl
theorem x10_no : setF [0, 1] x10 c00 = false := by kernel_rfl
/-- The start of each statement. -/
def StartDone (w : World) (o : List Nat) (e : Ending) (w' : World) : Prop :=
  ∃ bb ab bm ov, e = .returned (.tuple #[.pointer (some ⟨bb, 0, none⟩), .bool true]) ∧ BdAt w' w.heap.size bb ab bm ov (.slice none 0 0) 20000 0 [] o ∧ Below w.heap.size w w'
end Go.Proofs.Ytfamdckaljniiaa
