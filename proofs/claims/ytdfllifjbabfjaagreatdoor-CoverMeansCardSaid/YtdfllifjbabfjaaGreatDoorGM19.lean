/- What Points of the package cube answers for a cube that is right. permitted and Points of the package spec, for every spec and all rows. What the statements of layer 13 say of package cover, as contracts; CoverRights over them. -/
import Derived.Test.YtdfllifjbabfjaaGreatDoorGM12
import Derived.Test.YtdfllifjbabfjaaGreatDoorGM08
import Derived.Test.YtdfllifjbabfjaaGreatDoorGM16
import Derived.Test.YtdfllifjbabfjaaGreatDoorGM05
import Derived.Test.YtdfllifjbabfjaaGreatDoorGM04
import Derived.Lib.AppendIntMem
namespace Go.Proofs.YtdfllifjbabfjaaGreatDoor
open Go.RowKit Go.Joins

abbrev sb (S : BitVec 256) : Obj := .cells (sa S) 50
set_option maxHeartbeats 1000000 in
set_option maxRecDepth 1000000 in
theorem cpoints_yes {m v : BitVec 8} {n : Nat} (h : rightB m v n = true) (w : World) :
    Calls Tryz.prog 71 #[cv m v, .int .i64 n] w fun e w' => e = .returned (.tuple #[sv (cpts m v n n), .int .i64 0]) ∧ Below w.heap.size w w' := by
  have HR := fun w => right_yes h w
  have hn : n ≤ 8 := by have := ((rightB_iff m v n).1 h).2.1; omega
  have HA := fun w => all_any n hn w
  have hz := cpts_zero m v n
  clear h
  unfold cv sv bvv wv at *
  go_enter Tryz.func71, Tryz.ntmps71
  go_wp2_with fail
  refine (HR _).mono ?_
  rintro e w1 ⟨rfl, hb1⟩
  have hB : Below w.heap.size w w1 := (below_alloc2 w _ _).trans (hb1.mono (by simp; omega))
  have ha := (keep_blk hb1 (heap_alloc2_old _ _ _) : w1.heap[w.heap.size]? = some (cb m v))
  have hc := (keep_blk hb1 (heap_alloc2_new _ _ _) : w1.heap[w.heap.size + 1]? = some (.cells #[Value.int IntKind.u64 0, Value.int IntKind.u64 0, Value.int IntKind.u64 0, Value.int IntKind.u64 0] 50 (0, 0)))
  clear hb1 HR
  go_wp2_with fail
  refine (HA _).mono ?_
  rintro e w2 ⟨rfl, hb2⟩
  have hB2 : Below w.heap.size w w2 := hB.trans (hb2.mono hB.size)
  have ha2 := keep_blk hb2 ha
  have hc2 := keep_blk hb2 hc
  have hs2 := size_of_block hc2
  clear HA ha hc hB hb2
  go_wp2
  go_loopw [20] (fun i wr => ∃ k : Nat, k ≤ n ∧ i = .int .i64 k ∧ wr.heap[w2.heap.size]? = some (sb (cpts m v n k)) ∧ wr.heap[w.heap.size]? = some (cb m v) ∧ wr.heap[w.heap.size + 1]? = some (sb 0) ∧ Below w.heap.size w wr) (fun i _ => n - (intOf i).toNat)
  case atStart =>
    refine ⟨0, by omega, rfl, ?_, ?_, ?_, hB2.alloc hB2.size _⟩
    · rw [hz]; exact heap_alloc_new _ _
    · exact (Below.heap_alloc _ _ _ (by omega)).trans ha2
    · exact (Below.heap_alloc _ _ _ hs2).trans hc2
  case round =>
    clear hz ha2 hc2 hB2
    obtain ⟨k, hk, rfl, hblk, hbox, hres, hb⟩ := hrel
    obtain ⟨a0, a1, -⟩ := now2 hbox rfl
    obtain ⟨s0, s1, s2, s3, sf⟩ := now4 hblk rfl
    unfold wv at s0 s1 s2 s3
    by_cases hlt : k < n
    · have hm := Lib.hid (rfl : m.getLsbD k = m.getLsbD k)
      cases hmk : m.getLsbD k
      · have HB := fun w => bit_no m k (by omega) hmk w
        have hst := Lib.hid (cpts_skip m v n k hmk)
        unfold bvv at HB
        clear hmk hm
        go_wp2_with (go_at_call 84; refine (HB _).mono ?_; rintro e w' ⟨rfl, rfl⟩)
        go_roundw
        case rel => exact ⟨k + 1, by omega, by go_num, by rw [hst.out]; exact hblk, hbox, hres, hb⟩
        case measure => simp [intOf]; omega
      · have HB := fun w => bit_yes m k (by omega) hmk w
        have hst := Lib.hid (cpts_step m v n k hn (by omega) hmk)
        have HH := fun w => half_any (cpts m v n k) k (v.getLsbD k) w
        rw [hst.out] at HH
        unfold sv wv at HH
        unfold bvv at HB
        clear hmk hm hst
        go_wp2_with (go_at_call 84; refine (HB _).mono ?_; rintro e w' ⟨rfl, rfl⟩)
        obtain ⟨A0, A1, -⟩ := box2 hbox rfl
        obtain ⟨S0, S1, S2, S3, SF⟩ := box4 hblk rfl
        unfold wv at S0 S1 S2 S3
        clear a0 a1 s0 s1 s2 s3 sf
        cases hvk : v.getLsbD k
        · have HB := fun w => bit_no v k (by omega) hvk w
          rw [hvk] at HH
          unfold bvv at HB
          clear hvk
          refine wp_region_after_tail 8 (by kernel_rfl) (by kernel_rfl) ?_
          simp only [List.take_succ_cons, List.take_zero, List.drop_succ_cons, List.drop_zero]
          repeat (first | go_big_quiet_step ((first | (go_at_call 84; exact Calls.after_same (HB _)) | (go_at_call 85; exact Calls.after_of (HH _)))))
          refine wpQuiet_nil ?_
          intro x
          go_wp2
          go_roundw
          case rel => exact ⟨k + 1, by omega, by go_num, put4 (After.same x hblk), keep_set4 (by omega) (After.same x hbox), keep_set4 (by omega) (After.same x hres), below4 (by omega) (hb.trans (x.2.mono hb.size))⟩
          case measure => simp [intOf]; omega
        · have HB := fun w => bit_yes v k (by omega) hvk w
          rw [hvk] at HH
          unfold bvv at HB
          clear hvk
          refine wp_region_after_tail 8 (by kernel_rfl) (by kernel_rfl) ?_
          simp only [List.take_succ_cons, List.take_zero, List.drop_succ_cons, List.drop_zero]
          repeat (first | go_big_quiet_step ((first | (go_at_call 84; exact Calls.after_same (HB _)) | (go_at_call 85; exact Calls.after_of (HH _)))))
          refine wpQuiet_nil ?_
          intro x
          go_wp2
          go_roundw
          case rel => exact ⟨k + 1, by omega, by go_num, put4 (After.same x hblk), keep_set4 (by omega) (After.same x hbox), keep_set4 (by omega) (After.same x hres), below4 (by omega) (hb.trans (x.2.mono hb.size))⟩
          case measure => simp [intOf]; omega
    · have e : k = n := by omega
      subst e
      obtain ⟨r0, r1, r2, r3, rf⟩ := res4 hres rfl
      clear hblk hbox hres
      go_wp2
      exact bodyPost_ret (v := .tuple #[.agg #[.int .u64 (wd (cpts m v k k) 0).toNat, .int .u64 (wd (cpts m v k k) 1).toNat, .int .u64 (wd (cpts m v k k) 2).toNat, .int .u64 (wd (cpts m v k k) 3).toNat], .int .i64 0]) (by simp [results, Tryz.results71, go_sem, r0, r1, r2, r3]) rfl
        ⟨rfl, below4 (le1 w) hb⟩
end Go.Proofs.YtdfllifjbabfjaaGreatDoor
namespace Go.Proofs.YtdfllifjbabfjaaGreatDoor
open Go.RowKit Go.Joins

set_option maxHeartbeats 2000000 in
set_option maxRecDepth 100000 in
theorem permitted_any (i : Int) (A C L : Value) (on may : List (BitVec 256)) (rs : List Rw) (w : World) (hA : SetsAt w w.heap.size A on) (hC : SetsAt w w.heap.size C may) (hL : RwsAt w w.heap.size L rs) :
    Calls Tryz.prog 44 #[spv i A C, L] w fun e w' => e = .returned (.bool (spB ⟨i, on, may⟩ && mayB ⟨i, on, may⟩ rs)) ∧ Below w.heap.size w w' := by
  have hB0 := below_alloc1 w (spb i A C)
  have hs0 := heap_alloc_new w (spb i A C)
  have HR := sright_any i A C on may (w.alloc (spb i A C)) ((hA.below hB0).more hB0.size) ((hC.below hB0).more hB0.size)
  have HC := fun w1 (h : Below w.heap.size w w1) => cubesRight_any L rs i w1 ((hL.below h).more h.size)
  have HO := fun w1 (h : Below w.heap.size w w1) (h4 : on.length ≤ 8) => outsRight_any L rs on.length h4 w1 ((hL.below h).more h.size)
  have hlen : spB ⟨i, on, may⟩ = true → on.length ≤ 8 := fun h => by
    unfold spB at h
    have := (headS_iff _).1 (Bool.and_eq_true_iff.1 h).1
    simp only at this; omega
  have hm : Hid (mayB ⟨i, on, may⟩ rs = ((rs.all fun x => rightB x.m x.v i) && rs.all fun x => outsB x.o on.length)) := Lib.hid rfl
  generalize mayB ⟨i, on, may⟩ rs = M at *
  generalize (rs.all fun x => rightB x.m x.v i) = q1 at *
  generalize (rs.all fun x => outsB x.o on.length) = q2 at *
  obtain ⟨A, ac, rfl, la, -⟩ := hA
  obtain ⟨C, cc, rfl, lc, -⟩ := hC
  obtain ⟨L, lc', rfl, ll, -⟩ := hL
  unfold spv at *
  unfold spb at *
  cases hS : spB ⟨i, on, may⟩
  · rw [hS] at HR
    clear hS hlen HC HO
    go_enter Tryz.func44, Tryz.ntmps44
    go_wp2_with fail
    refine HR.mono ?_
    rintro e w1 ⟨rfl, hb1⟩
    have hB1 := hB0.trans (hb1.mono hB0.size)
    clear HR
    go_wp2
    go_ret
    exact ⟨rfl, hB1⟩
  · rw [hS] at HR
    have HO := fun w1 h => HO w1 h (hlen hS)
    clear hS hlen
    cases q1
    · have hM : Hid (M = false) := Lib.hid (by rw [hm.out]; rfl)
      clear hm HO
      go_enter Tryz.func44, Tryz.ntmps44
      go_wp2_with fail
      refine HR.mono ?_
      rintro e w1 ⟨rfl, hb1⟩
      have hB1 := hB0.trans (hb1.mono hB0.size)
      have hs1 := keep_blk hb1 hs0
      obtain ⟨d0, d1, -, -⟩ := now3 hs1 rfl
      have HC1 := HC w1 hB1
      clear HR hb1 HC
      go_wp2_with fail
      refine HC1.mono ?_
      rintro e w2 ⟨rfl, hb2⟩
      have hB2 := hB1.trans (hb2.mono hB1.size)
      clear HC1
      go_wp2
      go_ret
      exact ⟨by rw [hM.out]; rfl, hB2⟩
    · have hM : Hid (M = q2) := Lib.hid (by rw [hm.out]; rfl)
      clear hm
      go_enter Tryz.func44, Tryz.ntmps44
      go_wp2_with fail
      refine HR.mono ?_
      rintro e w1 ⟨rfl, hb1⟩
      have hB1 := hB0.trans (hb1.mono hB0.size)
      have hs1 := keep_blk hb1 hs0
      obtain ⟨d0, d1, -, -⟩ := now3 hs1 rfl
      have HC1 := HC w1 hB1
      clear HR hb1 HC
      go_wp2_with fail
      refine HC1.mono ?_
      rintro e w2 ⟨rfl, hb2⟩
      have hB2 := hB1.trans (hb2.mono hB1.size)
      have hs2 := keep_blk hb2 hs1
      obtain ⟨d0, d1, -, -⟩ := now3 hs2 rfl
      have HO2 := HO w2 hB2
      clear HC1 hb2 HO
      go_wp2_with fail
      refine HO2.mono ?_
      rintro e w3 ⟨rfl, hb3⟩
      have hB3 := hB2.trans (hb3.mono hB2.size)
      clear HO2
      go_wp2
      go_ret
      exact ⟨by rw [hM.out]; rfl, hB3⟩
/-- What Points refuses. -/
def ptsBad (rs : List Rw) (n out : Int) : Prop := n < 0 ∨ (0 ≤ n ∧ 8 < n) ∨ (0 ≤ n ∧ n ≤ 8 ∧ out < 0) ∨ (0 ≤ n ∧ n ≤ 8 ∧ 0 ≤ out ∧ 4 ≤ out) ∨ (0 ≤ n ∧ n ≤ 8 ∧ 0 ≤ out ∧ out < 4 ∧ (rs.all fun x => rightB x.m x.v n) = false)
set_option maxHeartbeats 2000000 in
set_option maxRecDepth 100000 in
theorem spoints_bad (L : Value) (rs : List Rw) (n out : Int) (w : World) (hL : RwsAt w w.heap.size L rs) (h : ptsBad rs n out) :
    Calls Tryz.prog 45 #[L, .int .i64 n, .int .i64 out] w fun e w' => e = .returned (.tuple #[sv 0, .int .i64 1]) ∧ Below w.heap.size w w' := by
  have HC := fun w1 (h : Below w.heap.size w w1) => cubesRight_any L rs n w1 ((hL.below h).more h.size)
  have hB0 := below_alloc1 w (.cells #[Value.int IntKind.u64 0, Value.int IntKind.u64 0, Value.int IntKind.u64 0, Value.int IntKind.u64 0] 50)
  have hn0 := heap_alloc_new w (.cells #[Value.int IntKind.u64 0, Value.int IntKind.u64 0, Value.int IntKind.u64 0, Value.int IntKind.u64 0] 50)
  have HC0 := HC _ hB0
  obtain ⟨A, c, rfl, hlen, -⟩ := hL
  rcases h with h | ⟨h1, h⟩ | ⟨h1, h2, h⟩ | ⟨h1, h2, h3, h⟩ | ⟨h1, h2, h3, h4, h⟩
  · clear HC HC0
    go_enter Tryz.func45, Tryz.ntmps45
    go_wp2
    exact bodyPost_ret (v := .tuple #[.agg #[.int .u64 0, .int .u64 0, .int .u64 0, .int .u64 0], .int .i64 1]) (by simp [results, Tryz.results45, go_sem]) rfl
      ⟨rfl, hB0⟩
  · clear HC HC0
    go_enter Tryz.func45, Tryz.ntmps45
    go_wp2
    exact bodyPost_ret (v := .tuple #[.agg #[.int .u64 0, .int .u64 0, .int .u64 0, .int .u64 0], .int .i64 1]) (by simp [results, Tryz.results45, go_sem]) rfl
      ⟨rfl, hB0⟩
  · clear HC HC0
    go_enter Tryz.func45, Tryz.ntmps45
    go_wp2
    exact bodyPost_ret (v := .tuple #[.agg #[.int .u64 0, .int .u64 0, .int .u64 0, .int .u64 0], .int .i64 1]) (by simp [results, Tryz.results45, go_sem]) rfl
      ⟨rfl, hB0⟩
  · clear HC HC0
    go_enter Tryz.func45, Tryz.ntmps45
    go_wp2
    exact bodyPost_ret (v := .tuple #[.agg #[.int .u64 0, .int .u64 0, .int .u64 0, .int .u64 0], .int .i64 1]) (by simp [results, Tryz.results45, go_sem]) rfl
      ⟨rfl, hB0⟩
  · rw [h] at HC0
    clear HC h
    go_enter Tryz.func45, Tryz.ntmps45
    go_wp2_with fail
    refine HC0.mono ?_
    rintro e w1 ⟨rfl, hb1⟩
    have hn1 := keep_blk hb1 hn0
    have hB1 := hB0.trans (hb1.mono hB0.size)
    obtain ⟨c0, c1, c2, c3, cf⟩ := now4 hn1 rfl
    clear HC0 hb1
    go_wp2
    exact bodyPost_ret (v := .tuple #[.agg #[.int .u64 0, .int .u64 0, .int .u64 0, .int .u64 0], .int .i64 1]) (by simp [results, Tryz.results45, go_sem, c0, c1, c2, c3]) rfl
      ⟨rfl, below4 (Nat.le_refl _) hB1⟩
set_option maxHeartbeats 4000000 in
set_option maxRecDepth 100000 in
theorem spoints_good (L : Value) (rs : List Rw) (n out : Nat) (w : World) (hL : RwsAt w w.heap.size L rs) (hn : n ≤ 8) (ho : out < 4) (hr : (rs.all fun x => rightB x.m x.v n) = true) :
    Calls Tryz.prog 45 #[L, .int .i64 n, .int .i64 out] w fun e w' => e = .returned (.tuple #[sv (ptsR rs n out), .int .i64 0]) ∧ Below w.heap.size w w' := by
  have hB0 := below_alloc1 w (.cells #[Value.int IntKind.u64 0, Value.int IntKind.u64 0, Value.int IntKind.u64 0, Value.int IntKind.u64 0] 50)
  have hn0 := heap_alloc_new w (.cells #[Value.int IntKind.u64 0, Value.int IntKind.u64 0, Value.int IntKind.u64 0, Value.int IntKind.u64 0] 50)
  have HC0 := cubesRight_any L rs n _ ((hL.below hB0).more hB0.size)
  rw [hr] at HC0
  have hall : Hid (∀ (j : Nat) (x : Rw), rs[j]? = some x → rightB x.m x.v n = true) := Lib.hid (fun j x h => by
    rw [List.all_eq_true] at hr
    exact hr x (List.mem_of_getElem? h))
  have hz := Lib.hid (ptsR_zero rs n out)
  have hskip := Lib.hid (fun (j : Nat) (x : Rw) (h : rs[j]? = some x) (hb : x.o.getLsbD out = false) => ptsR_skip h hb n)
  have hstep := Lib.hid (fun (j : Nat) (x : Rw) (h : rs[j]? = some x) (hb : x.o.getLsbD out = true) => ptsR_step h hb (hall.out j x h))
  have hend : Hid (ptsR (rs.take rs.length) n out = ptsR rs n out) := Lib.hid (by rw [List.take_length])
  generalize ptsR rs n out = R at *
  obtain ⟨A, c, rfl, hlen, hA⟩ := hL
  clear hr
  go_enter Tryz.func45, Tryz.ntmps45
  go_wp2_with fail
  refine HC0.mono ?_
  rintro e w1 ⟨rfl, hb1⟩
  have hn1 := keep_blk hb1 hn0
  have hB1 := hB0.trans (hb1.mono hB0.size)
  have hB2 := hB1.alloc hB1.size (.cells #[Value.int IntKind.u64 0, Value.int IntKind.u64 0, Value.int IntKind.u64 0, Value.int IntKind.u64 0] 50)
  have ha2 := heap_alloc_new w1 (.cells #[Value.int IntKind.u64 0, Value.int IntKind.u64 0, Value.int IntKind.u64 0, Value.int IntKind.u64 0] 50)
  have hn2 := keep_alloc (x := .cells #[Value.int IntKind.u64 0, Value.int IntKind.u64 0, Value.int IntKind.u64 0, Value.int IntKind.u64 0] 50) hn1
  have hz1 := hB1.size
  have hzz := size_of_block hn1
  generalize hbl : w1.heap.size = bl at *
  have hz0 : Hid (.cells #[Value.int IntKind.u64 0, Value.int IntKind.u64 0, Value.int IntKind.u64 0, Value.int IntKind.u64 0] 50 (0, 0) = Obj.cells (sa (ptsR (rs.take 0) n out)) 50 (0, 0)) := Lib.hid (by rw [hz.out]; rfl)
  clear HC0 hb1 hn1 hB1 hn0 hB0
  go_wp2
  go_loopw [10, 11, 12, 36] (fun _ _ _ t wr => ∃ j : Nat, j ≤ rs.length ∧ t = .int .i64 j ∧ Below w.heap.size w wr ∧ wr.heap[bl]? = some (.cells (sa (ptsR (rs.take j) n out)) 50 (0, 0)) ∧
    wr.heap[w.heap.size]? = some (.cells #[Value.int IntKind.u64 0, Value.int IntKind.u64 0, Value.int IntKind.u64 0, Value.int IntKind.u64 0] 50 (0, 0))) (fun _ _ _ t _ => rs.length - (intOf t).toNat)
  case atStart => exact ⟨0, by omega, rfl, hB2, by rw [← hz0.out]; exact ha2, hn2⟩
  case round =>
    clear hB2 ha2 hn2 hz0 hz
    obtain ⟨j, hj, rfl, hb, hal, hres⟩ := hrel
    by_cases hlt : j < rs.length
    · obtain ⟨b, off, rfl, hBb, hc⟩ := hA (by omega)
      obtain ⟨x, hx⟩ : ∃ x, rs[j]? = some x := ⟨_, List.getElem?_eq_getElem hlt⟩
      obtain ⟨c0, c1, c2⟩ := hc j x hx
      have d0 := (hb.cell (p := ⟨b, off + j * 3, none⟩) hBb).trans c0
      have d1 := (hb.cell (p := ⟨b, off + j * 3 + 1, none⟩) hBb).trans c1
      have d2 := (hb.cell (p := ⟨b, off + j * 3 + 2, none⟩) hBb).trans c2
      have HV := fun w => value_any x.o out (by omega) w
      have hgx := Lib.hid hx
      clear hc c0 c1 c2 hA hx
      cases hbit : x.o.getLsbD out
      · have hst := Lib.hid (hskip.out j x hgx.out hbit)
        rw [show bitI x.o out = 0 by unfold bitI; rw [hbit]; rfl] at HV
        have hB3 := hb.alloc hb.size (.cells #[bvv x.m, bvv x.v, bvv x.o] 44)
        have hal3 := keep_alloc (x := .cells #[bvv x.m, bvv x.v, bvv x.o] 44) hal
        have hres3 := keep_alloc (x := .cells #[bvv x.m, bvv x.v, bvv x.o] 44) hres
        unfold bvv at *
        clear hbit hskip hstep hend
        go_wp2_with (go_at_call 70; refine (HV _).mono ?_; rintro e w' ⟨rfl, rfl⟩)
        go_roundw
        case rel => exact ⟨j + 1, by omega, by go_num, hB3, by rw [hst.out]; exact hal3, hres3⟩
        case measure => simp [intOf]; omega
      · have hst := Lib.hid (hstep.out j x hgx.out hbit)
        rw [show bitI x.o out = 1 by unfold bitI; rw [hbit]; rfl] at HV
        have HP := fun w => cpoints_yes (hall.out j x hgx.out) w
        have HO := fun w => or_any (ptsR (rs.take j) n out) (cpts x.m x.v n n) w
        rw [← hst.out] at HO
        generalize hS : ptsR (rs.take j) n out = S at *
        generalize hS2 : ptsR (rs.take (j + 1)) n out = S2 at *
        generalize cpts x.m x.v n n = P at *
        have hB3 := hb.alloc hb.size (.cells #[bvv x.m, bvv x.v, bvv x.o] 44)
        have hal3 := keep_alloc (x := .cells #[bvv x.m, bvv x.v, bvv x.o] 44) hal
        have hres3 := keep_alloc (x := .cells #[bvv x.m, bvv x.v, bvv x.o] 44) hres
        unfold cv bvv sv at *
        clear hbit hskip hstep hend hal hres
        go_wp2_with (go_at_call 70; refine (HV _).mono ?_; rintro e w' ⟨rfl, rfl⟩)
        refine (HP _).mono ?_
        rintro e w4 ⟨rfl, hb4⟩
        have hB4 := hB3.trans (hb4.mono hB3.size)
        have hal4 := keep_blk hb4 hal3
        have hres4 := keep_blk hb4 hres3
        have hB5 := hB4.alloc hB4.size (.cells (sa P) 50)
        have hal5 := keep_alloc (x := .cells (sa P) 50) hal4
        have hres5 := keep_alloc (x := .cells (sa P) 50) hres4
        obtain ⟨s0, s1, s2, s3, sf⟩ := now4 hal5 rfl
        have hbl4 := size_of_block hal4
        clear HP HV hb4 hal3 hres3 hB3 hB4 hb hres4
        unfold sa wv at *
        go_wp2_with fail
        refine (HO _).mono ?_
        rintro e w6 ⟨rfl, hb6⟩
        have hB6 := hB5.trans (hb6.mono hB5.size)
        have hal6 := keep_blk hb6 hal5
        have hres6 := keep_blk hb6 hres5
        obtain ⟨s0, s1, s2, s3, sf⟩ := now4 hal6 rfl
        clear HO hb6 hal5 hres5 hB5
        go_wp2
        go_roundw
        case rel => exact ⟨j + 1, by omega, by go_num, below4 (by omega) hB6, by rw [hS2]; exact put4 hal6, keep_set4 (by omega) hres6⟩
        case measure => simp [intOf]; omega
    · have e : j = rs.length := by omega
      subst e
      rw [hend.out] at hal
      obtain ⟨s0, s1, s2, s3, sf⟩ := now4 hal rfl
      obtain ⟨r0, r1, r2, r3, rf⟩ := now4 hres rfl
      clear hA hskip hstep hend hall hal
      unfold wv at *
      go_wp2
      exact bodyPost_ret (v := .tuple #[.agg #[.int .u64 (wd R 0).toNat, .int .u64 (wd R 1).toNat, .int .u64 (wd R 2).toNat, .int .u64 (wd R 3).toNat], .int .i64 0]) (by simp [results, Tryz.results45, go_sem, r0, r1, r2, r3]) rfl
        ⟨rfl, below4 (Nat.le_refl _) hb⟩
end Go.Proofs.YtdfllifjbabfjaaGreatDoor
namespace Go.Proofs.YtdfllifjbabfjaaGreatDoor
open Go.RowKit Go.Joins

def RightV : Prop := ∀ (n : Int) (L : Value) (ls : List (List Int)) (w : World), MatAt w w.heap.size L ls → Calls Tryz.prog 11 #[mtv n L] w fun e w' => e = .returned (.bool (rightM n ls)) ∧ Below w.heap.size w w'
def SolvesV : Prop := ∀ (n : Int) (L u : Value) (ls : List (List Int)) (cols : List Int) (w : World), MatAt w w.heap.size L ls → IntsAt w w.heap.size u cols → Calls Tryz.prog 14 #[mtv n L, u] w fun e w' => e = .returned (.bool (rightM n ls && solvesM ls cols)) ∧ Below w.heap.size w w'
/-- The table of powers lies in memory. -/
def TabW (w : World) : Prop := Lib.TabIs Tryz.prog w "internal/strconv.uint64pow10" .u64 Lib.pow10Tab
theorem TabW.below {w w1 : World} (h : TabW w) (hb : Below w.heap.size w w1) : TabW w1 := Lib.tabBelow_of_tabIs h w1 hb
def Knows13 : Prop := ∀ w : World, TabW w → Calls Tryz.prog 6 #[] w fun e w' => e = .returned (.bool true) ∧ Below w.heap.size w w'
end Go.Proofs.YtdfllifjbabfjaaGreatDoor
