/- What two cubes that are right have to do with one another, in one. -/
import Derived.Test.YtmackldgkofedaaLaw02
namespace Go.Proofs.Ytmackldgkofedaa
open Go.RowKit Go.Joins

structure SetsFacts (ma va mb vb : BitVec 8) (n : Nat) : Prop where
  le : n ≤ 8
  meet : clashB ma va mb vb = 0 → cpts ma va n n &&& cpts mb vb n n = cpts (ma ||| mb) ((va &&& ma) ||| (vb &&& mb)) n n
  none : ¬ clashB ma va mb vb = 0 → cpts ma va n n &&& cpts mb vb n n = 0
  size : szK ma 8 = szK ma n
  count : pop (cpts ma va n n) = 2 ^ (n - szK ma n)
  within : decide (cpts mb vb n n &&& ~~~(cpts ma va n n) = 0) = holdsB ma va mb vb
  small : szK ma n ≤ n
theorem setsFacts {ma va mb vb : BitVec 8} {n : Nat} (ha : rightB ma va n = true) (hb : rightB mb vb n = true) : SetsFacts ma va mb vb n := by
  rw [rightB_iff] at ha hb
  obtain ⟨_, a1, a2, _⟩ := ha
  obtain ⟨_, _, b2, b3⟩ := hb
  have hn : n ≤ 8 := by omega
  have am : ∀ i, n ≤ i → ma.getLsbD i = false := fun i hi => a2 i (by simpa using hi)
  have bm : ∀ i, n ≤ i → mb.getLsbD i = false := fun i hi => b2 i (by simpa using hi)
  exact ⟨hn, fun h => meet_some ma va mb vb n hn h, fun h => meet_none ma va mb vb n hn am h, szK_right ma n 8 am hn, pop_pts ma va n hn, holds_within ma va mb vb n hn am bm b3, szK_le ma n⟩
theorem pow_many (n q : Nat) (h : n ≤ 8) : 2 ^ (n - q) ≤ 256 := Nat.pow_le_pow_right (n := 2) (by decide) (show n - q ≤ 8 by omega)
theorem pow_next (k q : Nat) (h : q ≤ k) : 2 * 2 ^ (k - q) = 2 ^ (k + 1 - q) := by
  rw [show k + 1 - q = (k - q) + 1 by omega, Nat.pow_succ]; omega
end Go.Proofs.Ytmackldgkofedaa
