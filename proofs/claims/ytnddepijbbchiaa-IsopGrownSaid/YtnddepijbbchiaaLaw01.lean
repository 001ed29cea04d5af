/- The document's own examples of layer 1, as the statements hold them. -/
import Derived.Test.YtnddepijbbchiaaRef01
import Derived.Test.YtnddepijbbchiaaAfter
namespace Go.Proofs.Ytnddepijbbchiaa
open Go.RowKit Go.Joins

def gk (S : BitVec 256) (i : Nat) (one : Bool) (k p : Nat) : Bool := ((pts S).take k).contains p && (p.testBit i == one)
theorem pts_lt (S : BitVec 256) (q : Nat) (h : q ∈ pts S) : q < 256 ∧ S.getLsbD q = true := by
  unfold pts at h
  rw [List.mem_filter] at h
  exact ⟨by simpa using h.1, h.2⟩
theorem gk_succ (S : BitVec 256) (i : Nat) (one : Bool) (k p : Nat) (hk : k < (pts S).length) : gk S i one (k + 1) p = (gk S i one k p || (p == (pts S)[k] && (p.testBit i == one))) := by
  unfold gk
  rw [List.take_succ_eq_append_getElem hk]
  rw [Bool.eq_iff_iff]
  simp only [List.contains_iff_mem, Bool.and_eq_true, Bool.or_eq_true, List.mem_append, List.mem_singleton, beq_iff_eq]
  constructor
  · rintro ⟨h1 | h1, h2⟩
    · exact .inl ⟨h1, h2⟩
    · exact .inr ⟨h1, h2⟩
  · rintro (⟨h1, h2⟩ | ⟨h1, h2⟩)
    · exact ⟨.inl h1, h2⟩
    · exact ⟨.inr h1, h2⟩
theorem gk_all (S : BitVec 256) (i : Nat) (one : Bool) (p : Nat) (hp : p < 256) : gk S i one (pts S).length p = (S.getLsbD p && (p.testBit i == one)) := by
  unfold gk
  rw [List.take_length]
  congr 1
  rw [Bool.eq_iff_iff, List.contains_iff_mem]
  unfold pts
  rw [List.mem_filter]
  simp [hp]
theorem half_flags (S : BitVec 256) (i : Nat) (one : Bool) (hi : i < 8) : bvOf (gk S i one (pts S).length) = halfB S i one := by
  have h : 0 ≤ (i : Int) ∧ (i : Int) < 8 := by omega
  unfold halfB
  rw [if_pos h]
  refine bvOf_eq _ _ fun p hp => ?_
  rw [gk_all S i one p hp]
  have ho : (onesB i).getLsbD p = p.testBit i := by unfold onesB; rw [bvOf_bit]; simp [hp]
  cases one <;> simp only [Int.toNat_natCast, if_true, Bool.false_eq_true, if_false, BitVec.getLsbD_and, BitVec.getLsbD_not, ho, hp, decide_true, Bool.true_and]
  · cases p.testBit i <;> simp
  · cases p.testBit i <;> simp
theorem no_flags : bvOf (fun _ => false) = 0 := bvOf_eq _ _ fun p _ => by simp

theorem bit_test (p i : Nat) (hp : p < 256) (hi : i < 8) (w : World) :
    Calls Try.prog 26 #[.int .i64 p, .int .i64 i] w fun e w' => e = .returned (.int .i64 (if p.testBit i then 1 else 0)) ∧ w = w' := by
  have h := bit_any p i hp hi w
  have e : ((p / 2 ^ i % 2 : Nat) : Int) = if p.testBit i then 1 else 0 := by
    rw [Nat.testBit_eq_decide_div_mod_eq]
    by_cases h1 : p / 2 ^ i % 2 = 1
    · simp [h1]
    · have h0 : p / 2 ^ i % 2 = 0 := by omega
      simp [h0]
  rw [e] at h
  exact h
theorem half_any (S : BitVec 256) (i : Int) (one : Bool) (w : World) :
    Calls Try.prog 22 #[sv S, .int .i64 i, .bool one] w fun e w' => e = .returned (sv (halfB S i one)) ∧ Below w.heap.size w w' := by
  by_cases h : 0 ≤ i ∧ i < 8
  · obtain ⟨n, rfl⟩ := Int.eq_ofNat_of_zero_le h.1
    have hn : n < 8 := by omega
    cases one
    · have := half_zero S n hn w
      simpa [halfB, h, hn] using this
    · have := half_one S n hn w
      simpa [halfB, h, hn] using this
  · have := half_no S i one (by omega) w
    simpa [halfB, h] using this

end Go.Proofs.Ytnddepijbbchiaa
