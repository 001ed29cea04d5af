/- The statements of layer 12, walked over what the package answers: IsopCovers. -/
import Derived.Test.YtnddepijbbchiaaLaw12c
namespace Go.Proofs.Ytnddepijbbchiaa
open Go.RowKit Go.Joins

set_option maxHeartbeats 2000000 in
set_option maxRecDepth 100000 in
theorem covers12_no (HC : CoverI) (HK : Knows12) (S M : BitVec 256) (n : Int) (hm : mayB S M n = false) (w : World) : Calls Try.prog 4 #[sv S, sv M, .int .i64 n] w fun e w' => e = .returned (.bool true) ∧ Below w.heap.size w w' := by
  have HM := fun w => may12_any S M n w
  rw [hm] at HM
  have C1 := fun w => cover_no HC hm w
  have hB := below_alloc2 w (.cells (sa S) 24) (.cells (sa M) 24)
  have hb0 := heap_alloc2_old w (.cells (sa S) 24) (.cells (sa M) 24)
  have hb1 := heap_alloc2_new w (.cells (sa S) 24) (.cells (sa M) 24)
  obtain ⟨s0, s1, s2, s3, -⟩ := now4 hb0 rfl
  obtain ⟨t0, t1, t2, t3, -⟩ := now4 hb1 rfl
  unfold sv sa at *
  unfold wv at *
  go_enter Try.func4, Try.ntmps4
  go_wp2_with fail
  refine (HM _).mono ?_
  rintro e w1 ⟨rfl, hb⟩
  have hB1 := hB.trans (hb.mono hB.size)
  replace hb0 := keep_blk hb hb0
  replace hb1 := keep_blk hb hb1
  clear s0 s1 s2 s3 t0 t1 t2 t3 hB hb HM
  obtain ⟨s0, s1, s2, s3, -⟩ := now4 hb0 rfl
  obtain ⟨t0, t1, t2, t3, -⟩ := now4 hb1 rfl
  go_wp2_with fail
  refine (C1 _).mono ?_
  rintro e w2 ⟨A, c, rfl, hb⟩
  have hB2 := hB1.trans (hb.mono hB1.size)
  clear s0 s1 s2 s3 t0 t1 t2 t3 hB1 hb C1 hb0 hb1
  go_wp2_with fail
  refine (HK _).mono ?_
  rintro e w3 ⟨rfl, hb⟩
  go_wp2
  go_ret
  exact ⟨rfl, hB2.trans (hb.mono hB2.size)⟩
set_option maxHeartbeats 2000000 in
set_option maxRecDepth 100000 in
theorem covers12_great (HK : Knows12) (S M : BitVec 256) (n : Int) (hm : mayB S M n = true) (h6 : 6 < n) (w : World) : Calls Try.prog 4 #[sv S, sv M, .int .i64 n] w fun e w' => e = .returned (.bool true) ∧ Below w.heap.size w w' := by
  have HM := fun w => may12_any S M n w
  rw [hm] at HM
  have hB := below_alloc2 w (.cells (sa S) 24) (.cells (sa M) 24)
  have hb0 := heap_alloc2_old w (.cells (sa S) 24) (.cells (sa M) 24)
  have hb1 := heap_alloc2_new w (.cells (sa S) 24) (.cells (sa M) 24)
  obtain ⟨s0, s1, s2, s3, -⟩ := now4 hb0 rfl
  obtain ⟨t0, t1, t2, t3, -⟩ := now4 hb1 rfl
  unfold sv sa at *
  unfold wv at *
  go_enter Try.func4, Try.ntmps4
  go_wp2_with fail
  refine (HM _).mono ?_
  rintro e w1 ⟨rfl, hb⟩
  have hB1 := hB.trans (hb.mono hB.size)
  clear s0 s1 s2 s3 t0 t1 t2 t3 hB hb HM hb0 hb1
  go_wp2_with fail
  refine (HK _).mono ?_
  rintro e w3 ⟨rfl, hb⟩
  go_wp2
  go_ret
  exact ⟨rfl, hB1.trans (hb.mono hB1.size)⟩
end Go.Proofs.Ytnddepijbbchiaa
