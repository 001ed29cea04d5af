/- Package prime's All. -/
import Derived.Test.YtgajgjlldohekaaGreatGP42
namespace Go.Proofs.YtgajgjlldohekaaGreat
open Go.RowKit Go.Joins
open Go.Maps (Keyed)

theorem ofB_no {S : BitVec 256} {n : Int} (h : n < 0 ∨ 8 < n) : ofB S n = false := by
  unfold ofB
  rw [decide_eq_false (by omega), Bool.false_and]
theorem pow8 (k : Nat) : 256 * 8 ^ (k + 1) = 8 * (256 * 8 ^ k) := by rw [Nat.pow_succ]; omega
theorem pow8_le {k : Nat} (h : k ≤ 8) : 256 * 8 ^ k ≤ 4294967296 :=
  Nat.le_trans (Nat.mul_le_mul_left 256 (Nat.pow_le_pow_right (by decide) h)) (by decide)
set_option maxHeartbeats 1000000 in
theorem pall_out (S : BitVec 256) (n : Int) (h : n < 0 ∨ 8 < n) (w : World) :
    Calls Tryz.prog 16 #[sv S, .int .i64 n] w fun e w' => e = .returned (.tuple #[.slice none 0 0, .int .i64 1]) ∧ Below w.heap.size w w' := by
  have HA := fun w => all_no n h w
  rw [show sv 0 = .agg #[.int .u64 0, .int .u64 0, .int .u64 0, .int .u64 0] from by kernel_rfl] at HA
  have hb := below_alloc1 w (.cells (sa S) 37)
  clear h
  unfold sv sa wv at *
  go_enter Tryz.func16, Tryz.ntmps16
  go_upto_region 1 with (fail)
  generalize w.alloc _ = W at *
  go_wp2_with fail
  refine (HA _).mono ?_
  rintro e w1 ⟨rfl, hb1⟩
  have hB := hb.trans (hb1.mono hb.size)
  clear HA hb hb1
  go_wp2
  go_ret2
  exact ⟨rfl, hB.trans ((below_alloc1 _ _).mono hB.size)⟩
set_option maxHeartbeats 1000000 in
theorem pall_off (S : BitVec 256) (n : Nat) (hn : n ≤ 8) (h : decide (S &&& ~~~(allB n) = 0) = false) (w : World) :
    Calls Tryz.prog 16 #[sv S, .int .i64 n] w fun e w' => e = .returned (.tuple #[.slice none 0 0, .int .i64 1]) ∧ Below w.heap.size w w' := by
  have HA := fun w => all_any n hn w
  have HW := fun w => within_any S (allB n) w
  rw [h] at HW
  clear h
  generalize allB n = L at *
  have hx := heap_alloc_new w (.cells (sa S) 37)
  have hb := below_alloc1 w (.cells (sa S) 37)
  unfold sv sa wv at *
  go_enter Tryz.func16, Tryz.ntmps16
  go_upto_region 1 with (fail)
  generalize w.alloc _ = W at *
  go_wp2_with fail
  refine (HA _).mono ?_
  rintro e w1 ⟨rfl, hb1⟩
  have hx1 := keep_blk hb1 hx
  have hB := hb.trans (hb1.mono hb.size)
  clear HA hb hb1 hx
  go_upto_region 2 with (fail)
  have hz := heap_alloc_new w1 (.cells #[.int .u64 (wd L 0).toNat, .int .u64 (wd L 1).toNat, .int .u64 (wd L 2).toNat, .int .u64 (wd L 3).toNat] 37)
  have hx2 := keep_alloc (x := .cells #[.int .u64 (wd L 0).toNat, .int .u64 (wd L 1).toNat, .int .u64 (wd L 2).toNat, .int .u64 (wd L 3).toNat] 37) hx1
  have hB2 := hB.trans ((below_alloc1 w1 (.cells #[.int .u64 (wd L 0).toNat, .int .u64 (wd L 1).toNat, .int .u64 (wd L 2).toNat, .int .u64 (wd L 3).toNat] 37)).mono hB.size)
  clear hx1 hB
  generalize hW2 : w1.alloc _ = w2 at *
  clear hW2
  obtain ⟨z0, z1, z2, z3, -⟩ := now4 hz rfl
  obtain ⟨x0, x1, x2, x3, -⟩ := now4 hx2 rfl
  go_wp2_with fail
  refine (HW _).mono ?_
  rintro e w3 ⟨rfl, hb3⟩
  have hB3 := hB2.trans (hb3.mono hB2.size)
  clear HW z0 z1 z2 z3 x0 x1 x2 x3 hz hx2
  go_wp2
  go_ret2
  exact ⟨rfl, hB3⟩
set_option maxHeartbeats 4000000 in
set_option maxRecDepth 100000 in
theorem pall_on (S : BitVec 256) (n : Nat) (hn : n ≤ 8) (h : decide (S &&& ~~~(allB n) = 0) = true) (w : World) :
    Calls Tryz.prog 16 #[sv S, .int .i64 n] w fun e w' => ∃ v, e = .returned (.tuple #[v, .int .i64 0]) ∧ w'.ownsRow w.heap.size 23 2 v (prims S n).length (cbsV (prims S n)) ∧ Below w.heap.size w w' := by
  have HA := fun w => all_any n hn w
  have HW := fun w => within_any S (allB n) w
  have HS := fun w => single_any S n hn w
  have hsg := Lib.hid (fun m v => sgF_all hn (of_decide_eq_true h) m v)
  rw [h] at HW
  clear h
  have HMg := Lib.hid (fun k N hN B bl pb D V ks w hB hBp hm hp hk => merge_any S n k N hn hN B bl pb D V ks w hB hBp hm hp hk)
  have hall := Lib.hid (fun k ks (h : Kept S n k (fun _ _ => False) ks) hz => h.all hz)
  generalize allB n = L at *
  have hx := heap_alloc_new w (.cells (sa S) 37)
  have hb := below_alloc1 w (.cells (sa S) 37)
  unfold sv sa wv at *
  go_enter Tryz.func16, Tryz.ntmps16
  go_upto_region 1 with (fail)
  generalize w.alloc _ = W at *
  go_wp2_with fail
  refine (HA _).mono ?_
  rintro e w1 ⟨rfl, hb1⟩
  have hx1 := keep_blk hb1 hx
  have hB := hb.trans (hb1.mono hb.size)
  clear HA hb hb1 hx
  go_upto_region 2 with (fail)
  have hz := heap_alloc_new w1 (.cells #[.int .u64 (wd L 0).toNat, .int .u64 (wd L 1).toNat, .int .u64 (wd L 2).toNat, .int .u64 (wd L 3).toNat] 37)
  have hx2 := keep_alloc (x := .cells #[.int .u64 (wd L 0).toNat, .int .u64 (wd L 1).toNat, .int .u64 (wd L 2).toNat, .int .u64 (wd L 3).toNat] 37) hx1
  have hB2 := hB.trans ((below_alloc1 w1 (.cells #[.int .u64 (wd L 0).toNat, .int .u64 (wd L 1).toNat, .int .u64 (wd L 2).toNat, .int .u64 (wd L 3).toNat] 37)).mono hB.size)
  clear hx1 hB
  generalize hW2 : w1.alloc _ = w2 at *
  clear hW2
  obtain ⟨z0, z1, z2, z3, -⟩ := now4 hz rfl
  obtain ⟨x0, x1, x2, x3, -⟩ := now4 hx2 rfl
  go_wp2_with fail
  refine (HW _).mono ?_
  rintro e w3 ⟨rfl, hb3⟩
  have hx3 := keep_blk hb3 hx2
  have hB3 := hB2.trans (hb3.mono hB2.size)
  clear HW z0 z1 z2 z3 x0 x1 x2 x3 hz hx2 hB2 hb3
  go_upto_region 5 with (fail)
  have hp4 : PrmAt (w3.alloc (.cells #[.slice none 0 0] 44)) w.heap.size w3.heap.size (.slice none 0 0) [] := ⟨heap_alloc_new w3 _, World.ownsRow_nil _ _ _ _⟩
  have hx4 := keep_alloc (x := .cells #[.slice none 0 0] 44) hx3
  have hB4 := hB3.trans ((below_alloc1 w3 (.cells #[.slice none 0 0] 44)).mono hB3.size)
  have hpbl : w.heap.size ≤ w3.heap.size := hB3.size
  clear hx3 hB3
  generalize w3.alloc _ = w4 at *
  generalize w3.heap.size = pb at *
  obtain ⟨x0, x1, x2, x3, -⟩ := now4 hx4 rfl
  go_wp2_with fail
  refine (HS _).mono ?_
  rintro e w5 ⟨b0, D0, rfl, -, hM5, hb5⟩
  have hp5 := hp4.below hb5
  have hB5 := hB4.trans (hb5.mono hB4.size)
  have hM6 := hM5.same hsg.out (Nat.le_refl _) (Nat.le_refl _)
  clear HS x0 x1 x2 x3 hx4 hp4 hB4 hb5 hM5 hsg
  go_wp2_with fail
  go_loopg [10] (n + 1) (fun g t wr => ∃ (k bl : Nat) (D : DataW Unit) (V : Value) (ks : List Nat) (N : Nat), t = .map (some bl) ∧ k + g = n + 1 ∧ Hid (N ≤ 256 * 8 ^ k) ∧ MpAt wr bl N N (Lv S n k) D ∧ PrmAt wr w.heap.size pb V ks ∧ Hid (Kept S n k (fun _ _ => False) ks) ∧ Below w.heap.size w wr)
  case atStart => exact ⟨0, b0, D0, _, [], 256, rfl, by omega, Lib.hid (by decide), hM6, hp5, Lib.hid Kept.nil, hB5⟩
  case round =>
    clear hM6 hp5 hB5
    obtain ⟨k, bl, D, V, ks, N, rfl, hk, hN, hM, hP, hK, hBw⟩ := hrel
    obtain ⟨c, hlen, hc0, hc1⟩ := hM.len 3
    by_cases hc : c = 0
    · subst hc
      have hz := hc0 rfl
      have hks := hall.out k ks hK.out hz
      obtain ⟨p0, -⟩ := nowP hP.box
      have hrow := hP.row
      have hfin : wr.ownsRow w.heap.size 23 2 V (prims S n).length (cbsV (prims S n)) := by
        unfold prims
        rw [← hks, List.length_map]
        exact hrow
      obtain ⟨A, cc, eV⟩ := own_form hrow
      clear HMg hall hrow hks hz hc0 hc1 hK
      subst eV
      go_wp2
      go_ret2
      exact ⟨_, rfl, hfin, hBw⟩
    · have hkn : k ≤ n := by
        rcases Nat.lt_or_ge n k with q | q
        · exact absurd (hc1 fun m v hl => by have := hl.2; omega) hc
        · exact q
      have d1 : decide ((0 : Int) < (c : Int)) = true := decide_eq_true (by omega)
      have d2 : decide (0 < c) = true := decide_eq_true (by omega)
      have HM1 := HMg.out k N (Nat.le_trans hN.out (pow8_le (by omega))) w.heap.size bl pb D V ks wr hBw.size hpbl hM hP hK.out
      clear hall hc0 hc1 hK HMg
      go_wp2_with fail
      refine HM1.mono ?_
      rintro e w6 ⟨ba, D', V', ks', rfl, hM', hP', hK', hB'⟩
      clear HM1 hM hP
      go_wp2
      go_roundg (n - k)
      case rel => exact ⟨k + 1, ba, D', V', ks', 8 * N, rfl, by omega, Lib.hid (by rw [pow8]; have := hN.out; omega), hM', hP', Lib.hid hK', hBw.trans hB'⟩
      case measure => omega
/-- All, for every set and number. -/
theorem pall_any : AllC := by
  intro S n w
  by_cases h : n < 0 ∨ 8 < n
  · rw [ofB_no h]
    exact (pall_out S n h w).mono fun e w' ⟨h1, h2⟩ => ⟨_, h1, cbs_nil _ _, h2⟩
  · obtain ⟨k, rfl⟩ : ∃ k : Nat, n = k := ⟨n.toNat, by omega⟩
    have hk : k ≤ 8 := by omega
    have e : ofB S k = decide (S &&& ~~~(allB k) = 0) := by
      unfold ofB
      rw [decide_eq_true (by omega), Bool.true_and, Int.toNat_natCast]
    rw [e]
    cases hd : decide (S &&& ~~~(allB k) = 0)
    · exact (pall_off S k hk hd w).mono fun e w' ⟨h1, h2⟩ => ⟨_, h1, cbs_nil _ _, h2⟩
    · exact (pall_on S k hk hd w).mono fun e w' ⟨v, h1, h2, h3⟩ => ⟨v, h1, own_cbs h2, h3⟩
end Go.Proofs.YtgajgjlldohekaaGreat
