/- Package isop: Cover, Grown: the contracts that the statements ask for. -/
import Derived.Test.YtnddepijbbchiaaIsc12
import Derived.Test.YtnddepijbbchiaaWtp09
namespace Go.Proofs.Ytnddepijbbchiaa
open Go.RowKit Go.Joins

theorem sideI_any : SideI := fun S i one w => iside_any S i one w
theorem may_on12 {S M : BitVec 256} {n : Nat} (h8 : n ≤ 8) : mayB S M n = (decide (S &&& ~~~M = 0) && decide (M &&& ~~~allB n = 0)) := by
  unfold mayB ofB
  rw [decide_eq_true (show (0 : Int) ≤ (n : Int) ∧ (n : Int) ≤ 8 by omega), Bool.true_and, Int.toNat_natCast, Bool.and_comm]
theorem may_off12 {S M : BitVec 256} {n : Int} (h : n < 0 ∨ 8 < n) : mayB S M n = false := by
  unfold mayB ofB
  rw [decide_eq_false (by omega), Bool.false_and, Bool.false_and]
set_option maxHeartbeats 2000000 in
set_option maxRecDepth 100000 in
theorem icover_off (S M : BitVec 256) (n : Int) (h : n < 0 ∨ 8 < n) (w : World) : Calls Try.prog 14 #[sv S, sv M, .int .i64 n] w fun e w' => e = .returned (.tuple #[.slice none 0 0, .int .i64 1]) ∧ Below w.heap.size w w' := by
  have HA := fun w => all_no n h w
  have hB := below_alloc2 w (.cells (sa S) 24) (.cells (sa M) 24)
  rw [show sv 0 = .agg #[.int .u64 0, .int .u64 0, .int .u64 0, .int .u64 0] from by kernel_rfl] at HA
  unfold sv sa wv at *
  clear h
  go_enter Try.func14, Try.ntmps14
  go_wp2_with fail
  refine (HA _).mono ?_
  rintro e w1 ⟨rfl, hb1⟩
  have hB1 := hB.trans (hb1.mono hB.size)
  have hB2 := hB1.trans ((below_alloc1 w1 (.cells #[.int .u64 0, .int .u64 0, .int .u64 0, .int .u64 0] 24)).mono hB1.size)
  clear HA
  go_wp2
  go_ret2
  exact ⟨rfl, hB2⟩
set_option maxHeartbeats 4000000 in
set_option maxRecDepth 100000 in
theorem icover_on (S M : BitVec 256) (n : Nat) (h8 : n ≤ 8) (E : Int) (LL : List Cb) (hE : Hid (E = if mayB S M n = true then 0 else 1)) (hLL : Hid (LL = if mayB S M n = true then isoS S M n else [])) (w : World) : Calls Try.prog 14 #[sv S, sv M, .int .i64 n] w fun e w' =>
    ∃ v, e = .returned (.tuple #[v, .int .i64 E]) ∧ CbsAt w' w'.heap.size v LL ∧ Below w.heap.size w w' := by
  have HA := fun w => all_any n h8 w
  have HSM := fun w => within_any S M w
  have HMA := fun w => within_any M (allB n) w
  have hmy := may_on12 (S := S) (M := M) h8
  have HC := fun (hm : mayB S M n = true) w => icover_any n h8 (n + 1) (by omega) S M 0 w (by omega) (may_iso hm)
  have hB := below_alloc2 w (.cells (sa S) 24) (.cells (sa M) 24)
  have hb0 := heap_alloc2_old w (.cells (sa S) 24) (.cells (sa M) 24)
  have hb1 := heap_alloc2_new w (.cells (sa S) 24) (.cells (sa M) 24)
  generalize hd1 : decide (S &&& ~~~M = 0) = d1 at *
  generalize hd2 : decide (M &&& ~~~allB n = 0) = d2 at *
  clear hd1 hd2
  have hmH := Lib.hid hmy
  have hHC := Lib.hid HC
  clear hmy HC
  unfold spcV at *
  unfold sv sa wv at *
  go_enter Try.func14, Try.ntmps14
  go_wp2_with fail
  refine (HA _).mono ?_
  rintro e w1 ⟨rfl, hb⟩
  have hB1 := hB.trans (hb.mono hB.size)
  have hA2 := heap_alloc_new w1 (.cells #[.int .u64 (wd (allB n) 0).toNat, .int .u64 (wd (allB n) 1).toNat, .int .u64 (wd (allB n) 2).toNat, .int .u64 (wd (allB n) 3).toNat] 24)
  have h02 := keep_alloc (x := .cells #[.int .u64 (wd (allB n) 0).toNat, .int .u64 (wd (allB n) 1).toNat, .int .u64 (wd (allB n) 2).toNat, .int .u64 (wd (allB n) 3).toNat] 24) (keep_blk hb hb0)
  have h12 := keep_alloc (x := .cells #[.int .u64 (wd (allB n) 0).toNat, .int .u64 (wd (allB n) 1).toNat, .int .u64 (wd (allB n) 2).toNat, .int .u64 (wd (allB n) 3).toNat] 24) (keep_blk hb hb1)
  have hB2 := hB1.trans ((below_alloc1 w1 (.cells #[.int .u64 (wd (allB n) 0).toNat, .int .u64 (wd (allB n) 1).toNat, .int .u64 (wd (allB n) 2).toNat, .int .u64 (wd (allB n) 3).toNat] 24)).mono hB1.size)
  clear HA hb hb0 hb1 hB hB1
  go_upto_region 2 with (fail)
  generalize w1.alloc _ = w2 at *
  generalize w1.heap.size = bA at *
  obtain ⟨s0, s1, s2, s3, -⟩ := now4 h02 rfl
  obtain ⟨t0, t1, t2, t3, -⟩ := now4 h12 rfl
  cases d1
  · have hm : mayB S M n = false := by rw [hmH.out]; rfl
    have hmF := Lib.hid hm
    clear hHC hmH hm HMA
    go_wp2_with fail
    refine (HSM _).mono ?_
    rintro e w3 ⟨rfl, hb3⟩
    have hB3 := hB2.trans (hb3.mono hB2.size)
    clear HSM s0 s1 s2 s3 t0 t1 t2 t3 h02 h12 hA2
    go_wp2
    go_ret2
    exact ⟨_, by rw [hE.out, hmF.out]; rfl, by rw [hLL.out, hmF.out]; exact cbs_nil _ _, hB3⟩
  · go_wp2_with fail
    refine (HSM _).mono ?_
    rintro e w3 ⟨rfl, hb3⟩
    have hB3 := hB2.trans (hb3.mono hB2.size)
    have h03 := keep_blk hb3 h02
    have h13 := keep_blk hb3 h12
    have hA3 := keep_blk hb3 hA2
    clear HSM s0 s1 s2 s3 t0 t1 t2 t3 h02 h12 hA2 hb3 hB2
    obtain ⟨t0, t1, t2, t3, -⟩ := now4 h13 rfl
    obtain ⟨a0, a1, a2, a3, -⟩ := now4 hA3 rfl
    go_wp2_with fail
    refine (HMA _).mono ?_
    rintro e w4 ⟨rfl, hb4⟩
    have hB4 := hB3.trans (hb4.mono hB3.size)
    have h04 := keep_blk hb4 h03
    have h14 := keep_blk hb4 h13
    have hA4 := keep_blk hb4 hA3
    clear HMA t0 t1 t2 t3 a0 a1 a2 a3 h03 h13 hA3 hb4 hB3
    cases d2
    · have hm : mayB S M n = false := by rw [hmH.out]; rfl
      have hmF := Lib.hid hm
      clear hHC hmH hm h04 h14 hA4
      go_wp2
      go_ret2
      exact ⟨_, by rw [hE.out, hmF.out]; rfl, by rw [hLL.out, hmF.out]; exact cbs_nil _ _, hB4⟩
    · have hm : mayB S M n = true := by rw [hmH.out]; rfl
      have HCv := fun w => hHC.out hm w
      have hmF := Lib.hid hm
      have hiso : Hid (isoF n (n + 1) (bts S) (bts M) 0 = isoS S M n) := Lib.hid rfl
      obtain ⟨s0, s1, s2, s3, -⟩ := now4 h04 rfl
      obtain ⟨t0, t1, t2, t3, -⟩ := now4 h14 rfl
      obtain ⟨a0, a1, a2, a3, -⟩ := now4 hA4 rfl
      clear hHC hmH hm h04 h14 hA4
      generalize isoF n (n + 1) (bts S) (bts M) 0 = L at *
      go_wp2_with fail
      refine (HCv _).mono ?_
      rintro e w5 ⟨v, rfl, hl, hb5⟩
      have hB5 := hB4.trans (hb5.mono hB4.size)
      have hcb := own_cbs hl
      rw [hiso.out] at hcb
      clear HCv s0 s1 s2 s3 t0 t1 t2 t3 a0 a1 a2 a3
      go_wp2
      go_ret2
      exact ⟨_, by rw [hE.out, hmF.out]; rfl, by rw [hLL.out, hmF.out]; exact hcb, hB5⟩
theorem coverI_of (hon : ∀ (S M : BitVec 256) (n : Nat), n ≤ 8 → ∀ w : World, Calls Try.prog 14 #[sv S, sv M, .int .i64 n] w fun e w' =>
    ∃ v, e = .returned (.tuple #[v, .int .i64 (if mayB S M n = true then 0 else 1)]) ∧ CbsAt w' w'.heap.size v (if mayB S M n = true then isoS S M n else []) ∧ Below w.heap.size w w') : CoverI := by
  intro S M n w
  by_cases h : n < 0 ∨ 8 < n
  · rw [may_off12 h]
    refine (icover_off S M n h w).mono ?_
    rintro e w' ⟨rfl, hb⟩
    exact ⟨_, rfl, cbs_nil _ _, hb⟩
  · obtain ⟨k, rfl⟩ : ∃ k : Nat, n = k := ⟨n.toNat, by omega⟩
    exact hon S M k (by omega) w
/- slices.Contains of cubes. -/
set_option maxHeartbeats 4000000 in
set_option maxRecDepth 100000 in
theorem index12_any (l : List Cb) (y : Cb) (v : Value) (w : World) (hv : CbsAt w w.heap.size v l) :
    Calls Try.prog 63 #[v, cv y.m y.v] w fun e w' => ∃ r : Int, e = .returned (.int .i64 r) ∧ decide (0 ≤ r) = (l.any fun x => eqC x y) ∧ Below w.heap.size w w' := by
  obtain ⟨A, c, rfl, hlen, hA⟩ := hv
  obtain ⟨ym, yv⟩ := y
  have hx := heap_alloc_new w (cb ym yv)
  have hB := below_alloc1 w (cb ym yv)
  unfold cv cb bvv at *
  go_enter Try.func63, Try.ntmps63
  go_upto_region 1 with (fail)
  generalize w.alloc _ = W at *
  go_wp2
  go_loopw [5, 8] (fun _ t wr => ∃ k : Nat, k ≤ l.length ∧ t = .int .i64 k ∧ Hid (∀ (j : Nat) (x : Cb), j < k → l[j]? = some x → ¬ x = ⟨ym, yv⟩) ∧ wr.heap[w.heap.size]? = some (.cells #[.int .u8 ym.toNat, .int .u8 yv.toNat] 44 (0, 0)) ∧ Below w.heap.size w wr) (fun _ t _ => l.length - (intOf t).toNat)
  case atStart => exact ⟨0, by omega, rfl, Lib.hid (fun j x h => absurd h (by omega)), hx, hB⟩
  case round =>
    clear hx hB
    obtain ⟨k, hk, rfl, hno, hx, hb⟩ := hrel
    by_cases hlt : k < l.length
    · obtain ⟨b, off, rfl, hBb, hc⟩ := hA (by omega)
      obtain ⟨z, hz⟩ : ∃ z, l[k]? = some z := ⟨_, List.getElem?_eq_getElem hlt⟩
      obtain ⟨c0, c1⟩ := hc k z hz
      have q0 := fun X : After wr => After.cell X ((hb.cell (p := ⟨b, off + k * 2, none⟩) hBb).trans c0)
      have q1 := fun X : After wr => After.cell X ((hb.cell (p := ⟨b, off + k * 2 + 1, none⟩) hBb).trans c1)
      obtain ⟨x0, x1, -⟩ := box2 hx rfl
      have b1 : (0 : Int) ≤ (k : Int) := by omega
      have b2 : (k : Int) < (l.length : Int) := by omega
      have hzH := Lib.hid hz
      clear hc hA hz c0 c1
      obtain ⟨zm, zv⟩ := z
      simp only at q0 q1
      by_cases hxy : ym = zm ∧ yv = zv
      · obtain ⟨rfl, rfl⟩ := hxy
        have hyes : (l.any fun x => eqC x ⟨ym, yv⟩) = true := List.any_eq_true.2 ⟨_, List.mem_of_getElem? hzH.out, eqC_iff.2 rfl⟩
        have hyH := Lib.hid hyes
        clear hyes hno
        go_wp2_with fail
        refine wp_region_after (by kernel_rfl) (by kernel_rfl) ?_
        repeat (first | go_big_quiet_step (fail))
        refine wpQuiet_nil ?_
        intro Z
        have hbz := hb.trans (Z.2.mono hb.size)
        clear q0 q1 x0 x1 hx
        go_wp2
        go_ret
        exact ⟨(k : Int), rfl, by rw [hyH.out]; exact decide_eq_true (by omega), hbz⟩
      · have hno2 : Hid (∀ (j : Nat) (x : Cb), j < k + 1 → l[j]? = some x → ¬ x = ⟨ym, yv⟩) := Lib.hid (fun j x hj hx => by
          by_cases e : j = k
          · subst e
            rw [hzH.out] at hx
            injection hx with hx
            subst hx
            intro e
            injection e with e1 e2
            exact hxy ⟨e1.symm, e2.symm⟩
          · exact hno.out j x (by omega) hx)
        clear hno hzH
        by_cases hm : ym = zm
        · subst hm
          have hn : ¬ (yv.toNat : Int) = zv.toNat := fun e => hxy ⟨rfl, BitVec.eq_of_toNat_eq (by omega)⟩
          have hn2 : ¬ yv = zv := fun e => hxy ⟨rfl, e⟩
          clear hxy
          go_wp2_with fail
          refine wp_region_after (by kernel_rfl) (by kernel_rfl) ?_
          repeat (first | go_big_quiet_step (fail))
          refine wpQuiet_nil ?_
          intro Z
          have hbz := hb.trans (Z.2.mono hb.size)
          have hx2 := Z.same hx
          clear q0 q1 x0 x1 hx
          go_wp2
          go_roundw
          case rel => exact ⟨k + 1, by omega, by go_num, hno2, hx2, hbz⟩
          case measure => simp [intOf]; omega
        · have hn : ¬ (ym.toNat : Int) = zm.toNat := fun e => hm (BitVec.eq_of_toNat_eq (by omega))
          clear hxy
          go_wp2_with fail
          refine wp_region_after (by kernel_rfl) (by kernel_rfl) ?_
          repeat (first | go_big_quiet_step (fail))
          refine wpQuiet_nil ?_
          intro Z
          have hbz := hb.trans (Z.2.mono hb.size)
          have hx2 := Z.same hx
          clear q0 q1 x0 x1 hx
          go_wp2
          go_roundw
          case rel => exact ⟨k + 1, by omega, by go_num, hno2, hx2, hbz⟩
          case measure => simp [intOf]; omega
    · have e : k = l.length := by omega
      subst e
      have hnone : (l.any fun x => eqC x ⟨ym, yv⟩) = false := by
        rw [Bool.eq_false_iff]
        intro h
        obtain ⟨x, hx, he⟩ := List.any_eq_true.1 h
        obtain ⟨j, hj⟩ := List.mem_iff_getElem?.1 hx
        exact hno.out j x (List.getElem?_eq_some_iff.1 hj).1 hj (eqC_iff.1 he)
      have hnH := Lib.hid hnone
      clear hnone hno hA
      go_wp2
      go_ret
      exact ⟨-1, rfl, by rw [hnH.out]; rfl, hb⟩
set_option maxHeartbeats 2000000 in
set_option maxRecDepth 100000 in
theorem contains12_any (l : List Cb) (y : Cb) (v : Value) (w : World) (hv : CbsAt w w.heap.size v l) :
    Calls Try.prog 41 #[v, cv y.m y.v] w fun e w' => e = .returned (.bool (l.any fun x => eqC x y)) ∧ Below w.heap.size w w' := by
  have hB := below_alloc1 w (cb y.m y.v)
  have hx := heap_alloc_new w (cb y.m y.v)
  have HI := index12_any l y v _ ((hv.below hB).more hB.size)
  obtain ⟨A, c, rfl, -, -⟩ := hv
  obtain ⟨ym, yv⟩ := y
  generalize (l.any fun x => eqC x ⟨ym, yv⟩) = R at *
  unfold cv cb bvv at *
  go_enter Try.func41, Try.ntmps41
  go_upto_region 1 with (fail)
  generalize w.alloc _ = W at *
  obtain ⟨x0, x1, -⟩ := now2 hx rfl
  go_wp2_with fail
  refine HI.mono ?_
  rintro e w1 ⟨r, rfl, hr, hb1⟩
  have hB1 := hB.trans (hb1.mono hB.size)
  clear HI x0 x1 hx
  cases R
  · have hr0 : ¬ (0 : Int) ≤ r := of_decide_eq_false hr
    have hr1 : decide (r ≥ 0) = false := decide_eq_false hr0
    go_wp2
    go_ret
    exact ⟨rfl, hB1⟩
  · have hr0 : (0 : Int) ≤ r := of_decide_eq_true hr
    have hr1 : decide (r ≥ 0) = true := decide_eq_true hr0
    go_wp2
    go_ret
    exact ⟨rfl, hB1⟩
/- GROWN. -/
set_option maxHeartbeats 4000000 in
set_option maxRecDepth 100000 in
theorem igrown_no (HC : CoverI) (S M : BitVec 256) (n : Int) (hm : mayB S M n = false) (w : World) : Calls Try.prog 19 #[sv S, sv M, .int .i64 n] w fun e w' => e = .returned (.tuple #[.slice none 0 0, .int .i64 1]) ∧ Below w.heap.size w w' := by
  have C1 := fun w => cover_no HC hm w
  have hB := below_alloc2 w (.cells (sa S) 24) (.cells (sa M) 24)
  have hb0 := heap_alloc2_old w (.cells (sa S) 24) (.cells (sa M) 24)
  have hb1 := heap_alloc2_new w (.cells (sa S) 24) (.cells (sa M) 24)
  unfold sv sa wv at *
  clear hm
  go_enter Try.func19, Try.ntmps19
  go_upto_region 1 with (fail)
  generalize (w.alloc _).alloc _ = W at *
  obtain ⟨s0, s1, s2, s3, -⟩ := now4 hb0 rfl
  obtain ⟨t0, t1, t2, t3, -⟩ := now4 hb1 rfl
  go_wp2_with fail
  refine (C1 _).mono ?_
  rintro e w1 ⟨A, c, rfl, hb⟩
  have hB1 := hB.trans (hb.mono hB.size)
  clear C1 s0 s1 s2 s3 t0 t1 t2 t3 hb0 hb1
  go_wp2
  go_ret2
  exact ⟨rfl, hB1⟩
set_option maxHeartbeats 8000000 in
set_option maxRecDepth 100000 in
theorem igrown_yes (HC : CoverI) (S M : BitVec 256) (n : Nat) (hm : mayB S M n = true) (w : World) : Calls Try.prog 19 #[sv S, sv M, .int .i64 n] w fun e w' => ∃ v, e = .returned (.tuple #[v, .int .i64 0]) ∧ CbsAt w' w'.heap.size v (grwL M n (isoS S M n)) ∧ Below w.heap.size w w' := by
  have C1 := fun w => cover_yes HC hm w
  rw [Int.toNat_natCast] at C1
  have hin := Lib.hid (fun c (hc : c ∈ isoS S M n) => iso_in hm hc)
  have hlen : (isoS S M n).length ≤ 3 ^ 9 := Nat.le_trans (iso_len n (n + 1) _ _ _) (Nat.pow_le_pow_right (by decide) (by have := (may_iso hm).n8; omega))
  have h39 : (3 : Nat) ^ 9 = 19683 := by decide
  rw [h39] at hlen
  clear h39 hm
  unfold grwL
  generalize isoS S M n = L at *
  have hst := Lib.hid (fun (k : Nat) (c : Cb) (h : L[k]? = some c) => grw_some (M := M) (n := n) h)
  have hgl : ∀ k, Hid ((grwK M n L k).length ≤ k) := fun k => Lib.hid (by
    induction k with
    | zero => exact Nat.le_refl _
    | succ k ih =>
      show (match L[k]? with | none => grwK M n L k | some c => _).length ≤ k + 1
      split
      · omega
      · split
        · omega
        · rw [List.length_append, List.length_singleton]; omega)
  obtain ⟨i0, hi0, hz0, hz1, hz2⟩ := info_parts Try.infoCube9
  have hB := below_alloc2 w (.cells (sa S) 24) (.cells (sa M) 24)
  have hb0 := heap_alloc2_old w (.cells (sa S) 24) (.cells (sa M) 24)
  have hb1 := heap_alloc2_new w (.cells (sa S) 24) (.cells (sa M) 24)
  have HG := fun (c : Cb) (hc : c ∈ L) w => pgrow_yes c.m c.v M n (hin.out c hc) w
  have hGr := Lib.hid HG
  clear HG hin
  unfold sv sa wv at *
  go_enter Try.func19, Try.ntmps19
  go_upto_region 1 with (fail)
  generalize (w.alloc _).alloc _ = W at *
  obtain ⟨s0, s1, s2, s3, -⟩ := now4 hb0 rfl
  obtain ⟨t0, t1, t2, t3, -⟩ := now4 hb1 rfl
  go_wp2_with fail
  refine (C1 _).mono ?_
  rintro e w2 ⟨v, rfl, hv, hb⟩
  have hB2 := hB.trans (hb.mono hB.size)
  have hb12 := keep_blk hb hb1
  obtain ⟨A, c, rfl, hlv, hA⟩ := hv
  have hsz2 := hB2.size
  clear C1 s0 s1 s2 s3 t0 t1 t2 t3 hb0 hb1 hB hb
  go_wp2
  go_loopw [10, 12, 13, 14, 27] (fun V _ _ _ t wr => ∃ (k : Nat) (G : List Cb), k ≤ L.length ∧ t = .int .i64 k ∧ Hid (G = grwK M n L k) ∧ wr.ownsRow w2.heap.size 44 2 V G.length (cbsV G) ∧ Below w2.heap.size w2 wr) (fun _ _ _ _ t _ => L.length - (intOf t).toNat)
  case atStart => exact ⟨0, [], by omega, rfl, Lib.hid rfl, World.ownsRow_nil _ _ _ _, Below.refl _ _⟩
  case round =>
    obtain ⟨k, G, hk, rfl, hG, hown, hb⟩ := hrel
    obtain ⟨Av, cv', rfl⟩ := own_form hown
    by_cases hlt : k < L.length
    · obtain ⟨b, off, rfl, hBb, hc⟩ := hA (by omega)
      obtain ⟨x, hx⟩ : ∃ x, L[k]? = some x := ⟨_, List.getElem?_eq_getElem hlt⟩
      obtain ⟨c0, c1⟩ := hc k x hx
      have d0 := (hb.cell (p := ⟨b, off + k * 2, none⟩) hBb).trans c0
      have d1 := (hb.cell (p := ⟨b, off + k * 2 + 1, none⟩) hBb).trans c1
      have hstp := hst.out k x hx
      have HP := hGr.out x (List.mem_of_getElem? hx)
      have hGl : G.length ≤ 19683 := by rw [hG.out]; have := (hgl k).out; omega
      rw [← hG.out] at hstp
      have HPy : ∀ w, Calls Try.prog 40 #[cv x.m x.v, .agg #[.int .u64 (wd M 0).toNat, .int .u64 (wd M 1).toNat, .int .u64 (wd M 2).toNat, .int .u64 (wd M 3).toNat], .int .i64 n] w fun e w' => e = .returned (.tuple #[cv (grC M n x).m (grC M n x).v, .int .i64 0]) ∧ Below w.heap.size w w' := HP
      clear HP
      generalize grC M n x = y at *
      obtain ⟨xm, xv⟩ := x
      obtain ⟨ym, yv⟩ := y
      have hstH := Lib.hid hstp
      simp only at HPy d0 d1
      have hB3 := hb.alloc hb.size (cb xm xv)
      have hown3 := hown.alloc (cb xm xv)
      have hx3 := heap_alloc_new wr (cb xm xv)
      have ht3 := keep_alloc (x := cb xm xv) (keep_blk hb hb12)
      clear hst hGr hgl hA hc c0 c1 hx hstp hown hb
      unfold cv cb bvv at *
      go_upto_region 8 with (fail)
      generalize wr.alloc _ = W3 at *
      obtain ⟨x0, x1, -⟩ := now2 hx3 rfl
      obtain ⟨t0, t1, t2, t3, -⟩ := now4 ht3 rfl
      go_wp2_with fail
      refine (HPy _).mono ?_
      rintro e w4 ⟨rfl, hb4⟩
      have hB4 := hB3.trans (hb4.mono hB3.size)
      have hown4 := owns_below hown3 hb4
      have hB5 := hB4.alloc hB4.size (.cells #[.int .u8 ym.toNat, .int .u8 yv.toNat] 44)
      have hown5 := hown4.alloc (.cells #[.int .u8 ym.toNat, .int .u8 yv.toNat] 44)
      have hy5 := heap_alloc_new w4 (.cells #[.int .u8 ym.toNat, .int .u8 yv.toNat] 44)
      clear HPy x0 x1 t0 t1 t2 t3 hx3 ht3 hB3 hown3 hb4 hB4 hown4 d0 d1
      go_upto_region 11 with (fail)
      generalize w4.alloc _ = W5 at *
      obtain ⟨y0, y1, -⟩ := now2 hy5 rfl
      have HCt := contains12_any G ⟨ym, yv⟩ _ W5 (own_cbs hown5)
      unfold cv bvv at HCt
      go_wp2_with fail
      refine HCt.mono ?_
      rintro e w6 ⟨rfl, hb6⟩
      have hB6 := hB5.trans (hb6.mono hB5.size)
      have hown6 := owns_below hown5 hb6
      have hy6 := keep_blk hb6 hy5
      clear HCt y0 y1 hy5 hown5 hB5 hb6
      generalize (G.any fun z => eqC z ⟨ym, yv⟩) = R at *
      cases R
      · have hG2 : Hid (G ++ [⟨ym, yv⟩] = grwK M n L (k + 1)) := Lib.hid (by rw [hstH.out]; rfl)
        obtain ⟨y0, y1, -⟩ := now2 hy6 rfl
        clear hstH hG
        have hsz6 := hB6.size
        go_wp2_with (at_builtin; go_loud (refine wpList_append_own _ rfl _ _ 33 rfl w2.heap.size 44 i0 (.agg #[.int .u8 0, .int .u8 0]) 2 2 Try.underlying33 hi0 hz0 hz1 hz2 rfl (by decide) _ _ _ rfl (hown6.alloc _) ⟨w6.heap.size, 0, none⟩ 1 1 [.int .u8 ym.toNat, .int .u8 yv.toNat] rfl rfl ?c1 ?c2 ?c3 ?c4 ?c5 ?_))
        first | (case c1 => exact World.news_of_block (cs := #[.int .u8 ym.toNat, .int .u8 yv.toNat]) (t := 44) (fr := (0, 0)) (heap_alloc_new w6 _)) | skip
        case c2 => first | exact ⟨rfl, rfl⟩ | (intro u hu; simp at hu; rcases hu with rfl | rfl <;> rfl)
        case c3 => unfold maxLen; omega
        case c4 => omega
        case c5 => first | omega | (simp; omega)
        intro V7 w7 ho7 hg7 _
        have hB7 := grown_below (hown6.alloc (.cells #[.int .u8 ym.toNat, .int .u8 yv.toNat] 44)) hg7 (hB6.alloc hB6.size _) (Nat.le_refl _) (by simp; omega)
        have ho8 : w7.ownsRow w2.heap.size 44 2 V7 (G ++ [(⟨ym, yv⟩ : Cb)]).length (cbsV (G ++ [(⟨ym, yv⟩ : Cb)])) := by
          rw [cbsV_snoc, List.length_append]
          exact ho7
        clear hg7 ho7 hown6 hB6 y0 y1 hy6
        go_wp2
        go_roundw
        case rel => exact ⟨k + 1, _, by omega, by go_num, hG2, ho8, hB7⟩
        case measure => simp [intOf]; omega
      · have hG2 : Hid (G = grwK M n L (k + 1)) := Lib.hid (by rw [hstH.out]; rfl)
        clear hstH hG hy6
        go_wp2
        go_roundw
        case rel => exact ⟨k + 1, _, by omega, by go_num, hG2, hown6, hB6⟩
        case measure => simp [intOf]; omega
    · have e : k = L.length := by omega
      have hkd : decide ((k : Int) < (L.length : Int)) = false := decide_eq_false (by omega)
      rw [e] at hG
      have hcb := own_cbs hown
      have hBr := hB2.trans (hb.mono hsz2)
      have hG2 := Lib.hid hG.out
      clear e hst hGr hgl hA hG hb12 hown hb hB2
      go_wp2
      go_ret2
      exact ⟨_, rfl, by rw [← hG2.out]; exact hcb, hBr⟩
theorem coverI_any : CoverI := coverI_of fun S M n h w => icover_on S M n h _ _ (Lib.hid rfl) (Lib.hid rfl) w
theorem grownI_of (HC : CoverI) : GrownI := by
  intro S M n w
  cases hm : mayB S M n
  · refine (igrown_no HC S M n hm w).mono ?_
    rintro e w' ⟨rfl, hb⟩
    exact ⟨_, rfl, cbs_nil _ _, hb⟩
  · obtain ⟨k, rfl⟩ : ∃ k : Nat, n = k := by
      have := may_n8 hm
      exact ⟨n.toNat, by omega⟩
    refine (igrown_yes HC S M k hm w).mono ?_
    rintro e w' ⟨v, rfl, hv, hb⟩
    exact ⟨v, rfl, hv, hb⟩
theorem grownI_any : GrownI := grownI_of coverI_any
end Go.Proofs.Ytnddepijbbchiaa
