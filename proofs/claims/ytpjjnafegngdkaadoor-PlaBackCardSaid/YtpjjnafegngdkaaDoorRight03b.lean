/- Right of the package pla, and of the document's own answers, for every table. -/
import Derived.Test.YtpjjnafegngdkaaDoorRight03
namespace Go.Proofs.YtpjjnafegngdkaaDoor
open Go.RowKit Go.Joins

theorem right_split (k i n : Int) (ls : List Ln) : rightT ⟨k, i, n, ls⟩ = ((decide (0 ≤ k) && decide (k ≤ 3)) && ((decide (0 ≤ i) && decide (i ≤ 8)) && ((decide (1 ≤ n) && decide (n ≤ 4)) && (decide (ls.length ≤ 64) && !(ls.any fun l => !lineB l i n))))) := by
  unfold rightT headB
  rw [List.not_any_eq_all_not]
  simp [Bool.and_assoc]
set_option maxHeartbeats 1000000 in
set_option maxRecDepth 100000 in
theorem pright_any (k i n : Int) (L : Value) (ls : List Ln) (w : World) (hL : LinesAt w w.heap.size L ls) :
    Calls Tryd.prog 9 #[tv k i n L] w fun e w' => e = .returned (.bool (rightT ⟨k, i, n, ls⟩)) ∧ Below w.heap.size w w' := by
  have hmf : ∀ (fn : Fn) (first cap : Array Value) (w : World), (Instr.makeFunc fn first cap).run Tryd.prog w = .ok (.func fn first cap) w := fun _ _ _ _ => rfl
  have hs := right_split k i n ls
  have HK := fun w => between_any k 0 3 w
  have HI := fun w => between_any i 0 8 w
  have HN := fun w => between_any n 1 4 w
  have hL1 := (hL.below (below_alloc1 w (tb k i n L))).more (show w.heap.size ≤ (w.alloc (tb k i n L)).heap.size by simp)
  have HC := containsLines_any 23 #[.pointer (some ⟨w.heap.size, 0, none⟩)] (fun l => !lineB l i n) L ls (w.alloc (tb k i n L)) (fun _ _ => by kernel_rfl)
    (fun m v O o w1 hb hO => right1_any m v O o w.heap.size k i n L w1 hO (keep_blk hb (heap_alloc_new _ _))) hL1
  obtain ⟨A, c, rfl, hlen, -⟩ := hL
  have hA := below_alloc1 w (tb k i n (.slice A ls.length c))
  clear hL1
  unfold tv
  unfold tb at *
  generalize (decide (0 ≤ k) && decide (k ≤ 3)) = bk at *
  generalize (decide (0 ≤ i) && decide (i ≤ 8)) = bi at *
  generalize (decide (1 ≤ n) && decide (n ≤ 4)) = bn at *
  generalize (ls.any fun l => !lineB l i n) = bl at *
  generalize rightT ⟨k, i, n, ls⟩ = R at *
  cases bk
  · obtain rfl : R = false := by rw [hs]; rfl
    clear hs HI HN HC
    go_enter Tryd.func9, Tryd.ntmps9
    go_wp2_with fail
    refine (HK _).mono ?_
    rintro e w1 ⟨rfl, rfl⟩
    go_wp2
    go_ret
    exact ⟨rfl, hA⟩
  cases bi
  · obtain rfl : R = false := by rw [hs]; rfl
    clear hs HN HC
    go_enter Tryd.func9, Tryd.ntmps9
    go_wp2_with fail
    refine (HK _).mono ?_
    rintro e w1 ⟨rfl, rfl⟩
    go_wp2_with fail
    refine (HI _).mono ?_
    rintro e w1 ⟨rfl, rfl⟩
    go_wp2
    go_ret
    exact ⟨rfl, hA⟩
  cases bn
  · obtain rfl : R = false := by rw [hs]; rfl
    clear hs HC
    go_enter Tryd.func9, Tryd.ntmps9
    go_wp2_with fail
    refine (HK _).mono ?_
    rintro e w1 ⟨rfl, rfl⟩
    go_wp2_with fail
    refine (HI _).mono ?_
    rintro e w1 ⟨rfl, rfl⟩
    go_wp2_with fail
    refine (HN _).mono ?_
    rintro e w1 ⟨rfl, rfl⟩
    go_wp2
    go_ret
    exact ⟨rfl, hA⟩
  by_cases h64 : ls.length ≤ 64
  · obtain rfl : R = !bl := by rw [hs]; simp [h64]
    clear hs
    go_enter Tryd.func9, Tryd.ntmps9
    go_wp2_with fail
    refine (HK _).mono ?_
    rintro e w1 ⟨rfl, rfl⟩
    go_wp2_with fail
    refine (HI _).mono ?_
    rintro e w1 ⟨rfl, rfl⟩
    go_wp2_with fail
    refine (HN _).mono ?_
    rintro e w1 ⟨rfl, rfl⟩
    clear HK HI HN
    go_wp2_with fail
    refine HC.mono ?_
    rintro e w1 ⟨rfl, hb1⟩
    go_wp2
    go_ret
    exact ⟨rfl, hA.trans (hb1.mono (by simp))⟩
  · obtain rfl : R = false := by rw [hs]; simp [h64]
    clear hs HC
    go_enter Tryd.func9, Tryd.ntmps9
    go_wp2_with fail
    refine (HK _).mono ?_
    rintro e w1 ⟨rfl, rfl⟩
    go_wp2_with fail
    refine (HI _).mono ?_
    rintro e w1 ⟨rfl, rfl⟩
    go_wp2_with fail
    refine (HN _).mono ?_
    rintro e w1 ⟨rfl, rfl⟩
    go_wp2
    go_ret
    exact ⟨rfl, hA⟩
end Go.Proofs.YtpjjnafegngdkaaDoor
