/- What Points of the package cube answers for a cube that is right. -/
import Derived.Test.YtnddepijbbchiaaLaw01d
import Derived.Test.YtnddepijbbchiaaPkg02b
namespace Go.Proofs.Ytnddepijbbchiaa
open Go.RowKit Go.Joins

abbrev sb (S : BitVec 256) : Obj := .cells (sa S) 24
set_option maxHeartbeats 1000000 in
set_option maxRecDepth 1000000 in
theorem cpoints_yes {m v : BitVec 8} {n : Nat} (h : rightB m v n = true) (w : World) :
    Calls Try.prog 70 #[cv m v, .int .i64 n] w fun e w' => e = .returned (.tuple #[sv (cpts m v n n), .int .i64 0]) ∧ Below w.heap.size w w' := by
  have HR := fun w => right_yes h w
  have hn : n ≤ 8 := by have := ((rightB_iff m v n).1 h).2.1; omega
  have HA := fun w => all_any n hn w
  have hz := cpts_zero m v n
  clear h
  unfold cv sv bvv wv at *
  go_enter Try.func70, Try.ntmps70
  go_wp2_with fail
  refine (HR _).mono ?_
  rintro e w1 ⟨rfl, hb1⟩
  have hB : Below w.heap.size w w1 := (below_alloc2 w _ _).trans (hb1.mono (by simp; omega))
  have ha := (keep_blk hb1 (heap_alloc2_old _ _ _) : w1.heap[w.heap.size]? = some (cb m v))
  have hc := (keep_blk hb1 (heap_alloc2_new _ _ _) : w1.heap[w.heap.size + 1]? = some (.cells #[Value.int IntKind.u64 0, Value.int IntKind.u64 0, Value.int IntKind.u64 0, Value.int IntKind.u64 0] 24 (0, 0)))
  clear hb1 HR
  go_wp2_with fail
  refine (HA _).mono ?_
  rintro e w2 ⟨rfl, hb2⟩
  have hB2 : Below w.heap.size w w2 := hB.trans (hb2.mono hB.size)
  have ha2 := keep_blk hb2 ha
  have hc2 := keep_blk hb2 hc
  have hs2 := size_of_block hc2
  clear HA ha hc hB hb2
  go_wp2
  go_loopw [20] (fun i wr => ∃ k : Nat, k ≤ n ∧ i = .int .i64 k ∧ wr.heap[w2.heap.size]? = some (sb (cpts m v n k)) ∧ wr.heap[w.heap.size]? = some (cb m v) ∧ wr.heap[w.heap.size + 1]? = some (sb 0) ∧ Below w.heap.size w wr) (fun i _ => n - (intOf i).toNat)
  case atStart =>
    refine ⟨0, by omega, rfl, ?_, ?_, ?_, hB2.alloc hB2.size _⟩
    · rw [hz]; exact heap_alloc_new _ _
    · exact (Below.heap_alloc _ _ _ (by omega)).trans ha2
    · exact (Below.heap_alloc _ _ _ hs2).trans hc2
  case round =>
    clear hz ha2 hc2 hB2
    obtain ⟨k, hk, rfl, hblk, hbox, hres, hb⟩ := hrel
    obtain ⟨a0, a1, -⟩ := now2 hbox rfl
    obtain ⟨s0, s1, s2, s3, sf⟩ := now4 hblk rfl
    unfold wv at s0 s1 s2 s3
    by_cases hlt : k < n
    · have hm := Lib.hid (rfl : m.getLsbD k = m.getLsbD k)
      cases hmk : m.getLsbD k
      · have HB := fun w => bit_no m k (by omega) hmk w
        have hst := Lib.hid (cpts_skip m v n k hmk)
        unfold bvv at HB
        clear hmk hm
        go_wp2_with (go_at_call 74; refine (HB _).mono ?_; rintro e w' ⟨rfl, rfl⟩)
        go_roundw
        case rel => exact ⟨k + 1, by omega, by go_num, by rw [hst.out]; exact hblk, hbox, hres, hb⟩
        case measure => simp [intOf]; omega
      · have HB := fun w => bit_yes m k (by omega) hmk w
        have hst := Lib.hid (cpts_step m v n k hn (by omega) hmk)
        have HH := fun w => half_any (cpts m v n k) k (v.getLsbD k) w
        rw [hst.out] at HH
        unfold sv wv at HH
        unfold bvv at HB
        clear hmk hm hst
        go_wp2_with (go_at_call 74; refine (HB _).mono ?_; rintro e w' ⟨rfl, rfl⟩)
        obtain ⟨A0, A1, -⟩ := box2 hbox rfl
        obtain ⟨S0, S1, S2, S3, SF⟩ := box4 hblk rfl
        unfold wv at S0 S1 S2 S3
        clear a0 a1 s0 s1 s2 s3 sf
        cases hvk : v.getLsbD k
        · have HB := fun w => bit_no v k (by omega) hvk w
          rw [hvk] at HH
          unfold bvv at HB
          clear hvk
          refine wp_region_after_tail 8 (by kernel_rfl) (by kernel_rfl) ?_
          simp only [List.take_succ_cons, List.take_zero, List.drop_succ_cons, List.drop_zero]
          repeat (first | go_big_quiet_step ((first | (go_at_call 74; exact Calls.after_same (HB _)) | (go_at_call 22; exact Calls.after_of (HH _)))))
          refine wpQuiet_nil ?_
          intro x
          go_wp2
          go_roundw
          case rel => exact ⟨k + 1, by omega, by go_num, put4 (After.same x hblk), keep_set4 (by omega) (After.same x hbox), keep_set4 (by omega) (After.same x hres), below4 (by omega) (hb.trans (x.2.mono hb.size))⟩
          case measure => simp [intOf]; omega
        · have HB := fun w => bit_yes v k (by omega) hvk w
          rw [hvk] at HH
          unfold bvv at HB
          clear hvk
          refine wp_region_after_tail 8 (by kernel_rfl) (by kernel_rfl) ?_
          simp only [List.take_succ_cons, List.take_zero, List.drop_succ_cons, List.drop_zero]
          repeat (first | go_big_quiet_step ((first | (go_at_call 74; exact Calls.after_same (HB _)) | (go_at_call 22; exact Calls.after_of (HH _)))))
          refine wpQuiet_nil ?_
          intro x
          go_wp2
          go_roundw
          case rel => exact ⟨k + 1, by omega, by go_num, put4 (After.same x hblk), keep_set4 (by omega) (After.same x hbox), keep_set4 (by omega) (After.same x hres), below4 (by omega) (hb.trans (x.2.mono hb.size))⟩
          case measure => simp [intOf]; omega
    · have e : k = n := by omega
      subst e
      obtain ⟨r0, r1, r2, r3, rf⟩ := res4 hres rfl
      clear hblk hbox hres
      go_wp2
      exact bodyPost_ret (v := .tuple #[.agg #[.int .u64 (wd (cpts m v k k) 0).toNat, .int .u64 (wd (cpts m v k k) 1).toNat, .int .u64 (wd (cpts m v k k) 2).toNat, .int .u64 (wd (cpts m v k k) 3).toNat], .int .i64 0]) (by simp [results, Try.results70, go_sem, r0, r1, r2, r3]) rfl
        ⟨rfl, below4 (le1 w) hb⟩
end Go.Proofs.Ytnddepijbbchiaa
