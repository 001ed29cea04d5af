/- The statement CubeParses, walked: a text that is a cube's or not, a cube that is right or not. -/
import Derived.Test.YtmackldgkofedaaLaw02
import Derived.Test.YtmackldgkofedaaTxt02b
namespace Go.Proofs.Ytmackldgkofedaa
open Go.RowKit Go.Joins

set_option maxHeartbeats 1000000 in
theorem cubeParses_long (s : ByteArray) (m v : BitVec 8) (n : Int) (hs : 1000 < s.size) (hm : s.size ≤ maxLen) (w : World) :
    Calls Try.prog 4 #[.string s, cv m v, .int .i64 n] w fun e w' => e = .returned (.bool true) ∧ Below w.heap.size w w' := by
  unfold maxLen at hm
  unfold cv bvv
  go_enter Try.func4, Try.ntmps4
  go_wp2_with fail
  refine (knows2_any _).mono ?_
  rintro e w5 ⟨rfl, hb5⟩
  go_wp2
  go_ret
  exact ⟨rfl, (below_alloc1 w _).trans (hb5.mono (by simp))⟩

set_option maxHeartbeats 1000000 in
set_option maxRecDepth 1000000 in
theorem cubeParses_ok_right (s : ByteArray) (m v : BitVec 8) (n : Nat) (hs : s.size ≤ 1000) (ht : okT s = true) (hr : rightB m v n = true) (w : World) :
    Calls Try.prog 4 #[.string s, cv m v, .int .i64 n] w fun e w' => e = .returned (.bool true) ∧ Below w.heap.size w w' := by
  have HP := fun w => cparse_any s (by unfold maxLen; omega) w
  have HQ := fun w => rparse_any s (by unfold maxLen; omega) w
  have HT := fun w => ctext_yes (parsed_right ht) w
  rw [parsed_text ht] at HT
  rw [ht] at HQ
  rw [show pE s = 0 by unfold pE; rw [ht]; rfl] at HP
  generalize pM s = M at *
  generalize pV s = V at *
  have HU := fun w => ctext_yes hr w
  have HZ := fun w => cparse_any (str (txtL m v n)) (by rw [txt_size]; have := ((rightB_iff m v n).1 hr).2.1; unfold maxLen; omega) w
  rw [(text_parsed hr).1, (text_parsed hr).2.1, (text_parsed hr).2.2] at HZ
  generalize str (txtL m v n) = t at *
  unfold cv bvv at *
  clear ht hr
  go_enter Try.func4, Try.ntmps4
  go_wp2_with fail
  refine (HP _).mono ?_
  rintro e w1 ⟨rfl, hb1⟩
  have ha1 := (keep_blk hb1 (heap_alloc_new _ _) : w1.heap[w.heap.size]? = some (cb m v))
  have hB1 : Below w.heap.size w w1 := (below_alloc1 w _).trans (hb1.mono (by simp))
  clear hb1
  go_wp2_with fail
  refine (HQ _).mono ?_
  rintro e w2 ⟨rfl, hb2⟩
  have ha2 := keep_blk hb2 (keep_alloc ha1)
  have hx2 := keep_blk hb2 (heap_alloc_new _ _)
  have hB2 : Below w.heap.size w w2 := (hB1.alloc hB1.size _).trans (hb2.mono (by have := hB1.size; simp; omega))
  obtain ⟨X0, X1, -⟩ := al2 hx2 rfl
  obtain ⟨A0, A1, -⟩ := al2 ha2 rfl
  have hz2 := size_of_block hx2
  clear hb2 ha1 hB1 HP HQ
  go_wp2_with fail
  refine (HT _).mono ?_
  rintro e w3 ⟨rfl, hb3⟩
  have ha3 := keep_blk hb3 (keep_alloc ha2)
  have hB3 : Below w.heap.size w w3 := (hB2.alloc hB2.size _).trans (hb3.mono (by have := hB2.size; simp; omega))
  clear hb3 ha2 hx2 hB2 HT X0 X1 A0 A1 hz2
  obtain ⟨a0, a1, -⟩ := now2 ha3 rfl
  go_wp2_with fail
  refine (HU _).mono ?_
  rintro e w4 ⟨rfl, hb4⟩
  have ha4 := keep_blk hb4 ha3
  have hB4 : Below w.heap.size w w4 := hB3.trans (hb4.mono hB3.size)
  clear hb4 ha3 hB3 HU a0 a1
  go_wp2_with fail
  refine (HZ _).mono ?_
  rintro e w5 ⟨rfl, hb5⟩
  have ha5 := keep_blk hb5 ha4
  have hB5 : Below w.heap.size w w5 := hB4.trans (hb5.mono hB4.size)
  clear hb5 ha4 hB4 HZ
  obtain ⟨A0, A1, -⟩ := al2 ha5 rfl
  go_wp2_with fail
  refine (knows2_any _).mono ?_
  rintro e w6 ⟨rfl, hb6⟩
  have hB6 : Below w.heap.size w w6 := (hB5.alloc hB5.size _).trans (hb6.mono (by have := hB5.size; simp; omega))
  go_wp2
  go_ret
  exact ⟨rfl, hB6⟩
set_option maxHeartbeats 1000000 in
set_option maxRecDepth 1000000 in
theorem cubeParses_ok_wrong (s : ByteArray) (m v : BitVec 8) (n : Int) (hs : s.size ≤ 1000) (ht : okT s = true) (hr : rightB m v n = false) (w : World) :
    Calls Try.prog 4 #[.string s, cv m v, .int .i64 n] w fun e w' => e = .returned (.bool true) ∧ Below w.heap.size w w' := by
  have HP := fun w => cparse_any s (by unfold maxLen; omega) w
  have HQ := fun w => rparse_any s (by unfold maxLen; omega) w
  have HT := fun w => ctext_yes (parsed_right ht) w
  rw [parsed_text ht] at HT
  rw [ht] at HQ
  rw [show pE s = 0 by unfold pE; rw [ht]; rfl] at HP
  generalize pM s = M at *
  generalize pV s = V at *
  have HU := fun w => ctext_no hr w
  rw [show str [] = { data := #[] } from rfl] at HU
  unfold cv bvv at *
  clear ht hr
  go_enter Try.func4, Try.ntmps4
  go_wp2_with fail
  refine (HP _).mono ?_
  rintro e w1 ⟨rfl, hb1⟩
  have ha1 := (keep_blk hb1 (heap_alloc_new _ _) : w1.heap[w.heap.size]? = some (cb m v))
  have hB1 : Below w.heap.size w w1 := (below_alloc1 w _).trans (hb1.mono (by simp))
  clear hb1
  go_wp2_with fail
  refine (HQ _).mono ?_
  rintro e w2 ⟨rfl, hb2⟩
  have ha2 := keep_blk hb2 (keep_alloc ha1)
  have hx2 := keep_blk hb2 (heap_alloc_new _ _)
  have hB2 : Below w.heap.size w w2 := (hB1.alloc hB1.size _).trans (hb2.mono (by have := hB1.size; simp; omega))
  obtain ⟨X0, X1, -⟩ := al2 hx2 rfl
  obtain ⟨A0, A1, -⟩ := al2 ha2 rfl
  have hz2 := size_of_block hx2
  clear hb2 ha1 hB1 HP HQ
  go_wp2_with fail
  refine (HT _).mono ?_
  rintro e w3 ⟨rfl, hb3⟩
  have ha3 := keep_blk hb3 (keep_alloc ha2)
  have hB3 : Below w.heap.size w w3 := (hB2.alloc hB2.size _).trans (hb3.mono (by have := hB2.size; simp; omega))
  clear hb3 ha2 hx2 hB2 HT X0 X1 A0 A1 hz2
  obtain ⟨a0, a1, -⟩ := now2 ha3 rfl
  go_wp2_with fail
  refine (HU _).mono ?_
  rintro e w4 ⟨rfl, hb4⟩
  have ha4 := keep_blk hb4 ha3
  have hB4 : Below w.heap.size w w4 := hB3.trans (hb4.mono hB3.size)
  clear hb4 ha3 hB3 HU a0 a1
  go_wp2_with fail
  refine (knows2_any _).mono ?_
  rintro e w6 ⟨rfl, hb6⟩
  have hB6 : Below w.heap.size w w6 := hB4.trans (hb6.mono hB4.size)
  go_wp2
  go_ret
  exact ⟨rfl, hB6⟩
set_option maxHeartbeats 1000000 in
set_option maxRecDepth 1000000 in
theorem cubeParses_bad_right (s : ByteArray) (m v : BitVec 8) (n : Nat) (hs : s.size ≤ 1000) (ht : okT s = false) (hr : rightB m v n = true) (w : World) :
    Calls Try.prog 4 #[.string s, cv m v, .int .i64 n] w fun e w' => e = .returned (.bool true) ∧ Below w.heap.size w w' := by
  have HP := fun w => cparse_any s (by unfold maxLen; omega) w
  have HQ := fun w => rparse_any s (by unfold maxLen; omega) w
  rw [show pE s = 2 by unfold pE; rw [ht]; rfl, show pM s = 0 by unfold pM; rw [ht]; rfl, show pV s = 0 by unfold pV; rw [ht]; rfl, show cv 0 0 = .agg #[.int .u8 0, .int .u8 0] by kernel_rfl] at HP
  rw [ht, show pM s = 0 by unfold pM; rw [ht]; rfl, show pV s = 0 by unfold pV; rw [ht]; rfl, show cv 0 0 = .agg #[.int .u8 0, .int .u8 0] by kernel_rfl] at HQ
  have HU := fun w => ctext_yes hr w
  have HZ := fun w => cparse_any (str (txtL m v n)) (by rw [txt_size]; have := ((rightB_iff m v n).1 hr).2.1; unfold maxLen; omega) w
  rw [(text_parsed hr).1, (text_parsed hr).2.1, (text_parsed hr).2.2] at HZ
  generalize str (txtL m v n) = t at *
  unfold cv bvv at *
  clear ht hr
  go_enter Try.func4, Try.ntmps4
  go_wp2_with fail
  refine (HP _).mono ?_
  rintro e w1 ⟨rfl, hb1⟩
  have ha1 := (keep_blk hb1 (heap_alloc_new _ _) : w1.heap[w.heap.size]? = some (cb m v))
  have hB1 : Below w.heap.size w w1 := (below_alloc1 w _).trans (hb1.mono (by simp))
  clear hb1
  go_wp2_with fail
  refine (HQ _).mono ?_
  rintro e w2 ⟨rfl, hb2⟩
  have ha2 := keep_blk hb2 (keep_alloc ha1)
  have hx2 := keep_blk hb2 (heap_alloc_new _ _)
  have hB2 : Below w.heap.size w w2 := (hB1.alloc hB1.size _).trans (hb2.mono (by have := hB1.size; simp; omega))
  obtain ⟨X0, X1, -⟩ := al2 hx2 rfl
  obtain ⟨A0, A1, -⟩ := al2 ha2 rfl
  have hz2 := size_of_block hx2
  clear hb2 ha1 hB1 HP HQ
  go_wp2_with fail
  refine (HU _).mono ?_
  rintro e w4 ⟨rfl, hb4⟩
  have ha4 := keep_blk hb4 (keep_alloc ha2)
  have hB4 : Below w.heap.size w w4 := (hB2.alloc hB2.size _).trans (hb4.mono (by have := hB2.size; simp; omega))
  clear hb4 ha2 hx2 hB2 HU X0 X1 A0 A1 hz2
  go_wp2_with fail
  refine (HZ _).mono ?_
  rintro e w5 ⟨rfl, hb5⟩
  have ha5 := keep_blk hb5 ha4
  have hB5 : Below w.heap.size w w5 := hB4.trans (hb5.mono hB4.size)
  clear hb5 ha4 hB4 HZ
  obtain ⟨A0, A1, -⟩ := al2 ha5 rfl
  go_wp2_with fail
  refine (knows2_any _).mono ?_
  rintro e w6 ⟨rfl, hb6⟩
  have hB6 : Below w.heap.size w w6 := (hB5.alloc hB5.size _).trans (hb6.mono (by have := hB5.size; simp; omega))
  go_wp2
  go_ret
  exact ⟨rfl, hB6⟩
set_option maxHeartbeats 1000000 in
set_option maxRecDepth 1000000 in
theorem cubeParses_bad_wrong (s : ByteArray) (m v : BitVec 8) (n : Int) (hs : s.size ≤ 1000) (ht : okT s = false) (hr : rightB m v n = false) (w : World) :
    Calls Try.prog 4 #[.string s, cv m v, .int .i64 n] w fun e w' => e = .returned (.bool true) ∧ Below w.heap.size w w' := by
  have HP := fun w => cparse_any s (by unfold maxLen; omega) w
  have HQ := fun w => rparse_any s (by unfold maxLen; omega) w
  rw [show pE s = 2 by unfold pE; rw [ht]; rfl, show pM s = 0 by unfold pM; rw [ht]; rfl, show pV s = 0 by unfold pV; rw [ht]; rfl, show cv 0 0 = .agg #[.int .u8 0, .int .u8 0] by kernel_rfl] at HP
  rw [ht, show pM s = 0 by unfold pM; rw [ht]; rfl, show pV s = 0 by unfold pV; rw [ht]; rfl, show cv 0 0 = .agg #[.int .u8 0, .int .u8 0] by kernel_rfl] at HQ
  have HU := fun w => ctext_no hr w
  rw [show str [] = { data := #[] } from rfl] at HU
  unfold cv bvv at *
  clear ht hr
  go_enter Try.func4, Try.ntmps4
  go_wp2_with fail
  refine (HP _).mono ?_
  rintro e w1 ⟨rfl, hb1⟩
  have ha1 := (keep_blk hb1 (heap_alloc_new _ _) : w1.heap[w.heap.size]? = some (cb m v))
  have hB1 : Below w.heap.size w w1 := (below_alloc1 w _).trans (hb1.mono (by simp))
  clear hb1
  go_wp2_with fail
  refine (HQ _).mono ?_
  rintro e w2 ⟨rfl, hb2⟩
  have ha2 := keep_blk hb2 (keep_alloc ha1)
  have hx2 := keep_blk hb2 (heap_alloc_new _ _)
  have hB2 : Below w.heap.size w w2 := (hB1.alloc hB1.size _).trans (hb2.mono (by have := hB1.size; simp; omega))
  obtain ⟨X0, X1, -⟩ := al2 hx2 rfl
  obtain ⟨A0, A1, -⟩ := al2 ha2 rfl
  have hz2 := size_of_block hx2
  clear hb2 ha1 hB1 HP HQ
  go_wp2_with fail
  refine (HU _).mono ?_
  rintro e w4 ⟨rfl, hb4⟩
  have ha4 := keep_blk hb4 (keep_alloc ha2)
  have hB4 : Below w.heap.size w w4 := (hB2.alloc hB2.size _).trans (hb4.mono (by have := hB2.size; simp; omega))
  clear hb4 ha2 hx2 hB2 HU X0 X1 A0 A1 hz2
  go_wp2_with fail
  refine (knows2_any _).mono ?_
  rintro e w6 ⟨rfl, hb6⟩
  have hB6 : Below w.heap.size w w6 := hB4.trans (hb6.mono hB4.size)
  go_wp2
  go_ret
  exact ⟨rfl, hB6⟩
theorem cubeParses_any (s : ByteArray) (m v : BitVec 8) (n : Int) (hm : s.size ≤ maxLen) (w : World) :
    Calls Try.prog 4 #[.string s, cv m v, .int .i64 n] w fun e w' => e = .returned (.bool true) ∧ Below w.heap.size w w' := by
  by_cases hs : s.size ≤ 1000
  · cases ht : okT s <;> cases hr : rightB m v n
    · exact cubeParses_bad_wrong s m v n hs ht hr w
    · obtain ⟨k, rfl⟩ := Int.eq_ofNat_of_zero_le ((rightB_iff m v n).1 hr).1
      exact cubeParses_bad_right s m v k hs ht hr w
    · exact cubeParses_ok_wrong s m v n hs ht hr w
    · obtain ⟨k, rfl⟩ := Int.eq_ofNat_of_zero_le ((rightB_iff m v n).1 hr).1
      exact cubeParses_ok_right s m v k hs ht hr w
  · exact cubeParses_long s m v n (by omega) hm w
end Go.Proofs.Ytmackldgkofedaa
