/- Same of the document's own answers of layer 3, for any two tables: all cases. -/
import Derived.Test.YtpjjnafegngdkaaDoorSame03c
namespace Go.Proofs.YtpjjnafegngdkaaDoor
open Go.RowKit Go.Joins

set_option maxHeartbeats 1000000 in
set_option maxRecDepth 100000 in
theorem rsame_any (k i n : Int) (L : Value) (ls : List Ln) (k' i' n' : Int) (L' : Value) (ls' : List Ln) (w : World) (hL : LinesAt w w.heap.size L ls) (hL' : LinesAt w w.heap.size L' ls') :
    Calls Tryd.prog 11 #[tv k i n L, tv k' i' n' L'] w fun e w' => e = .returned (.bool (sameT ⟨k, i, n, ls⟩ ⟨k', i', n', ls'⟩)) ∧ Below w.heap.size w w' := by
  have hB := below_alloc2 w (tb k i n L) (tb k' i' n' L')
  have hloop := rsame_loop i i n L ls L' ls' w hL hL'
  have hr : Hid (sameT ⟨k, i, n, ls⟩ ⟨k', i', n', ls'⟩ = (decide (k = k') && (decide (i = i') && (decide (n = n') && lsEq ls ls')))) := Lib.hid rfl
  by_cases h1 : k = k'
  · by_cases h2 : i = i'
    · by_cases h3 : n = n'
      · subst h1 h2 h3
        by_cases h4 : ls.length = ls'.length
        · rw [hr.out]
          simpa using rsame_loop k i n L ls L' ls' w hL hL' h4
        · have hr2 : Hid (sameT ⟨k, i, n, ls⟩ ⟨k, i, n, ls'⟩ = false) := Lib.hid (by rw [hr.out, lsEq_no (fun e => h4 (by rw [e]))]; simp)
          have hd : (((ls.length : Nat) : Int) != ((ls'.length : Nat) : Int)) = true := by rw [bne_iff_ne]; omega
          obtain ⟨A, c, rfl, hlen, -⟩ := hL
          obtain ⟨A', c', rfl, hlen', -⟩ := hL'
          unfold tv
          unfold tb at *
          clear h4 hr hloop
          go_enter Tryd.func11, Tryd.ntmps11
          go_wp2
          go_ret
          exact ⟨by rw [hr2.out]; rfl, hB⟩
      · have hd : ((n : Int) != n') = true := by simpa using h3
        subst h1 h2
        have hr2 : Hid (sameT ⟨k, i, n, ls⟩ ⟨k, i, n', ls'⟩ = false) := Lib.hid (by rw [hr.out]; simp [h3])
        unfold tv
        unfold tb at *
        obtain ⟨A, c, rfl, hlen, -⟩ := hL
        obtain ⟨A', c', rfl, hlen', -⟩ := hL'
        clear h3 hr hloop
        go_enter Tryd.func11, Tryd.ntmps11
        go_wp2
        go_ret
        exact ⟨by rw [hr2.out]; rfl, hB⟩
    · have hd : ((i : Int) != i') = true := by simpa using h2
      subst h1
      have hr2 : Hid (sameT ⟨k, i, n, ls⟩ ⟨k, i', n', ls'⟩ = false) := Lib.hid (by rw [hr.out]; simp [h2])
      unfold tv
      unfold tb at *
      obtain ⟨A, c, rfl, hlen, -⟩ := hL
      obtain ⟨A', c', rfl, hlen', -⟩ := hL'
      clear h2 hr hloop
      go_enter Tryd.func11, Tryd.ntmps11
      go_wp2
      go_ret
      exact ⟨by rw [hr2.out]; rfl, hB⟩
  · have hd : ((k : Int) != k') = true := by simpa using h1
    have hr2 : Hid (sameT ⟨k, i, n, ls⟩ ⟨k', i', n', ls'⟩ = false) := Lib.hid (by rw [hr.out]; simp [h1])
    unfold tv
    unfold tb at *
    obtain ⟨A, c, rfl, hlen, -⟩ := hL
    obtain ⟨A', c', rfl, hlen', -⟩ := hL'
    clear h1 hr hloop
    go_enter Tryd.func11, Tryd.ntmps11
    go_wp2
    go_ret
    exact ⟨by rw [hr2.out]; rfl, hB⟩
end Go.Proofs.YtpjjnafegngdkaaDoor
