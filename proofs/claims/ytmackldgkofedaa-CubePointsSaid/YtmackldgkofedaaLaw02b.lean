/- The statement CubePoints, walked. -/
import Derived.Test.YtmackldgkofedaaLaw02
namespace Go.Proofs.Ytmackldgkofedaa
open Go.RowKit Go.Joins

set_option maxHeartbeats 1000000 in
set_option maxRecDepth 1000000 in
theorem cubePoints_no (m v : BitVec 8) (n : Int) (h : rightB m v n = false) (w : World) :
    Calls Try.prog 3 #[cv m v, .int .i64 n] w fun e w' => e = .returned (.bool true) ∧ Below w.heap.size w w' := by
  have HP := fun w => cpoints_no h w
  have HT := fun w => ctext_no h w
  have HR := fun w => rright_any m v n w
  have HS := fun w => right_no h w
  rw [h] at HR
  rw [show sv 0 = .agg #[.int .u64 0, .int .u64 0, .int .u64 0, .int .u64 0] by kernel_rfl] at HP
  rw [show str [] = { data := #[] } from rfl] at HT
  unfold cv bvv at *
  clear h
  have E := eq4_refl
  go_enter Try.func3, Try.ntmps3
  go_wp2_with fail
  refine (HP _).mono ?_
  rintro e w1 ⟨rfl, hb1⟩
  have ha1 := (keep_blk hb1 (heap_alloc_new _ _) : w1.heap[w.heap.size]? = some (cb m v))
  have hB1 : Below w.heap.size w w1 := (below_alloc1 w _).trans (hb1.mono (by simp))
  obtain ⟨A0, A1, -⟩ := al2 ha1 rfl
  clear hb1
  go_wp2_with fail
  refine (HT _).mono ?_
  rintro e w2 ⟨rfl, hb2⟩
  have ha2 := keep_blk hb2 (keep_alloc ha1)
  have hp2 := keep_blk hb2 (heap_alloc_new _ _)
  have hB2 : Below w.heap.size w w2 := (hB1.alloc hB1.size _).trans (hb2.mono (by have := hB1.size; simp; omega))
  obtain ⟨a0, a1, -⟩ := now2 ha2 rfl
  clear hb2 ha1 A0 A1 hB1
  go_wp2_with fail
  refine (HR _).mono ?_
  rintro e w3 ⟨rfl, hb3⟩
  have ha3 := keep_blk hb3 ha2
  have hp3 := keep_blk hb3 hp2
  have hB3 : Below w.heap.size w w3 := hB2.trans (hb3.mono hB2.size)
  clear hb3 ha2 hp2 hB2 a0 a1
  obtain ⟨a0, a1, -⟩ := now2 ha3 rfl
  go_wp2_with fail
  refine (HS _).mono ?_
  rintro e w4 ⟨rfl, hb4⟩
  have hp4 := keep_blk hb4 hp3
  have hB4 : Below w.heap.size w w4 := hB3.trans (hb4.mono hB3.size)
  clear hb4 ha3 hp3 hB3 a0 a1 HP HT HR HS
  obtain ⟨p0, p1, p2, p3, -⟩ := now4 hp4 rfl
  go_wp2_with fail
  refine (knows2_any _).mono ?_
  rintro e w5 ⟨rfl, hb5⟩
  have hB5 : Below w.heap.size w w5 := hB4.trans (hb5.mono hB4.size)
  go_wp2
  go_ret
  exact ⟨rfl, hB5⟩
set_option maxHeartbeats 1000000 in
set_option maxRecDepth 1000000 in
theorem cubePoints_yes (m v : BitVec 8) (n : Nat) (h : rightB m v n = true) (w : World) :
    Calls Try.prog 3 #[cv m v, .int .i64 n] w fun e w' => e = .returned (.bool true) ∧ Below w.heap.size w w' := by
  have hn : n ≤ 8 := by have := ((rightB_iff m v n).1 h).2.1; omega
  have HP := fun w => cpoints_yes h w
  have HT := fun w => ctext_yes h w
  have HR := fun w => rright_any m v n w
  have HS := fun w => right_yes h w
  have HPr := fun w => rpoints_any m v n hn w
  have HTr := fun w => rtext_any m v n hn w
  rw [h] at HR
  rw [cpts_right h] at HPr
  generalize cpts m v n n = S at *
  generalize str (txtL m v n) = t at *
  unfold cv bvv sv wv at *
  clear h hn
  have E := eq4_refl
  go_enter Try.func3, Try.ntmps3
  go_wp2_with fail
  refine (HP _).mono ?_
  rintro e w1 ⟨rfl, hb1⟩
  have ha1 := (keep_blk hb1 (heap_alloc_new _ _) : w1.heap[w.heap.size]? = some (cb m v))
  have hB1 : Below w.heap.size w w1 := (below_alloc1 w _).trans (hb1.mono (by simp))
  obtain ⟨A0, A1, -⟩ := al2 ha1 rfl
  clear hb1
  go_wp2_with fail
  refine (HT _).mono ?_
  rintro e w2 ⟨rfl, hb2⟩
  have ha2 := keep_blk hb2 (keep_alloc ha1)
  have hp2 := keep_blk hb2 (heap_alloc_new _ _)
  have hB2 : Below w.heap.size w w2 := (hB1.alloc hB1.size _).trans (hb2.mono (by have := hB1.size; simp; omega))
  obtain ⟨a0, a1, -⟩ := now2 ha2 rfl
  clear hb2 ha1 A0 A1 hB1
  go_wp2_with fail
  refine (HR _).mono ?_
  rintro e w3 ⟨rfl, hb3⟩
  have ha3 := keep_blk hb3 ha2
  have hp3 := keep_blk hb3 hp2
  have hB3 : Below w.heap.size w w3 := hB2.trans (hb3.mono hB2.size)
  clear hb3 ha2 hp2 hB2 a0 a1
  obtain ⟨a0, a1, -⟩ := now2 ha3 rfl
  go_wp2_with fail
  refine (HS _).mono ?_
  rintro e w4 ⟨rfl, hb4⟩
  have ha4 := keep_blk hb4 ha3
  have hp4 := keep_blk hb4 hp3
  have hB4 : Below w.heap.size w w4 := hB3.trans (hb4.mono hB3.size)
  clear hb4 ha3 hp3 hB3 a0 a1 HP HT HR HS
  obtain ⟨a0, a1, -⟩ := box2 ha4 rfl
  obtain ⟨p0, p1, p2, p3, -⟩ := box4 hp4 rfl
  go_wp2_with fail
  refine wp_region_after (by kernel_rfl) (by kernel_rfl) ?_
  repeat (first | go_big_quiet_step ((first | (go_at_call 11; exact Calls.after_of (HPr _)) | (go_at_call 12; exact Calls.after_of (HTr _)) | (go_at_call 10; exact Calls.after_of (knows2_any _)))))
  refine wpQuiet_nil ?_
  intro x
  go_wp2
  go_ret
  exact ⟨rfl, hB4.trans (x.2.mono hB4.size)⟩
theorem cubePoints_any (m v : BitVec 8) (n : Int) (w : World) :
    Calls Try.prog 3 #[cv m v, .int .i64 n] w fun e w' => e = .returned (.bool true) ∧ Below w.heap.size w w' := by
  cases h : rightB m v n
  · exact cubePoints_no m v n h w
  · obtain ⟨k, rfl⟩ := Int.eq_ofNat_of_zero_le ((rightB_iff m v n).1 h).1
    exact cubePoints_yes m v k h w
end Go.Proofs.Ytmackldgkofedaa
