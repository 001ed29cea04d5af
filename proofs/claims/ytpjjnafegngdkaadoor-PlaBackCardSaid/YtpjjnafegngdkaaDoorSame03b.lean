/- Same of the package pla, for any two tables. -/
import Derived.Test.YtpjjnafegngdkaaDoorSame03
namespace Go.Proofs.YtpjjnafegngdkaaDoor
open Go.RowKit Go.Joins

set_option maxHeartbeats 1000000 in
set_option maxRecDepth 100000 in
theorem psame_any (k i n : Int) (L : Value) (ls : List Ln) (k' i' n' : Int) (L' : Value) (ls' : List Ln) (w : World) (hL : LinesAt w w.heap.size L ls) (hL' : LinesAt w w.heap.size L' ls') :
    Calls Tryd.prog 10 #[tv k i n L, tv k' i' n' L'] w fun e w' => e = .returned (.bool (sameT ⟨k, i, n, ls⟩ ⟨k', i', n', ls'⟩)) ∧ Below w.heap.size w w' := by
  have hB := below_alloc2 w (tb k i n L) (tb k' i' n' L')
  have HE := eqLines_any L L' ls ls' _ ((hL.below hB).more hB.size) ((hL'.below hB).more hB.size)
  obtain ⟨A, c, rfl, hlen, -⟩ := hL
  obtain ⟨A', c', rfl, hlen', -⟩ := hL'
  have hr : Hid (sameT ⟨k, i, n, ls⟩ ⟨k', i', n', ls'⟩ = (decide (k = k') && (decide (i = i') && (decide (n = n') && lsEq ls ls')))) := Lib.hid rfl
  generalize lsEq ls ls' = q at *
  unfold tv
  unfold tb at *
  by_cases h1 : k = k'
  · by_cases h2 : i = i'
    · by_cases h3 : n = n'
      · subst h1 h2 h3
        go_enter Tryd.func10, Tryd.ntmps10
        go_wp2_with fail
        refine HE.mono ?_
        rintro e w1 ⟨rfl, hb1⟩
        go_wp2
        go_ret
        exact ⟨by rw [hr.out]; simp, hB.trans (hb1.mono hB.size)⟩
      · have hd : ((n : Int) == n') = false := by simpa using h3
        subst h1 h2
        have hr2 : Hid (sameT ⟨k, i, n, ls⟩ ⟨k, i, n', ls'⟩ = false) := Lib.hid (by rw [hr.out]; simp [h3])
        clear h3 hr HE
        go_enter Tryd.func10, Tryd.ntmps10
        go_wp2
        go_ret
        exact ⟨by rw [hr2.out]; rfl, hB⟩
    · have hd : ((i : Int) == i') = false := by simpa using h2
      subst h1
      have hr2 : Hid (sameT ⟨k, i, n, ls⟩ ⟨k, i', n', ls'⟩ = false) := Lib.hid (by rw [hr.out]; simp [h2])
      clear h2 hr HE
      go_enter Tryd.func10, Tryd.ntmps10
      go_wp2
      go_ret
      exact ⟨by rw [hr2.out]; rfl, hB⟩
  · have hd : ((k : Int) == k') = false := by simpa using h1
    have hr2 : Hid (sameT ⟨k, i, n, ls⟩ ⟨k', i', n', ls'⟩ = false) := Lib.hid (by rw [hr.out]; simp [h1])
    clear h1 hr HE
    go_enter Tryd.func10, Tryd.ntmps10
    go_wp2
    go_ret
    exact ⟨by rw [hr2.out]; rfl, hB⟩
end Go.Proofs.YtpjjnafegngdkaaDoor
