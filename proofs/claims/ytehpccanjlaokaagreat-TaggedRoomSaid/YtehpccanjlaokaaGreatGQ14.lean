/- The developers' items, members and rows. -/
import Derived.Test.YtehpccanjlaokaaGreatGQ08
import Derived.Test.YtehpccanjlaokaaGreatGQ13
namespace Go.Proofs.YtehpccanjlaokaaGreat
open Go.RowKit Go.Joins

theorem two20 {k : Nat} (h : k ≤ 20) : 2 ^ k ≤ 1048576 := Nat.le_trans (Nat.pow_le_pow_right (by decide) h) (by decide : (2 : Nat) ^ 20 ≤ 1048576)
theorem titem_any (i : Nat) (b : Nat) (hi : i < 8) (hb : b < 2) (w : World) :
    Calls Tryz.prog 45 #[.int .i64 i, .int .u8 b] w fun e w' => e = .returned (.int .i64 ((2 ^ (2 * i + b) : Nat) : Int)) ∧ w = w' := by
  have hw : wrap64 ((2 : Int) ^ (2 * i + b)) = ((2 ^ (2 * i + b) : Nat) : Int) := by
    have h2 := two20 (k := 2 * i + b) (by omega)
    have e : ((2 : Int) ^ (2 * i + b)) = ((2 ^ (2 * i + b) : Nat) : Int) := by simp
    rw [e]
    generalize 2 ^ (2 * i + b) = m at h2
    unfold wrap64
    omega
  go_enter Tryz.func45, Tryz.ntmps45
  go_wp2
  go_ret
  exact ⟨by rw [← hw]; rfl, rfl⟩
theorem orNat (p q : Nat) (hp : p < 1048576) (hq : q < 1048576) : bits BinOp.or IntKind.i64 (p : Int) (q : Int) = ((p ||| q : Nat) : Int) := by
  have := i64_nat true p q (by omega) (by omega)
  simpa using this
theorem andNat (p q : Nat) (hp : p < 1048577) (hq : q < 1048577) : bits BinOp.and IntKind.i64 (p : Int) (q : Int) = ((p &&& q : Nat) : Int) := by
  have := i64_nat false p q (by omega) (by omega)
  simpa using this
theorem ttag_any (o : BitVec 8) (w : World) :
    Calls Tryz.prog 46 #[bvv o] w fun e w' => e = .returned (.int .i64 ((65536 * (o &&& 15#8).toNat : Nat) : Int)) ∧ w = w' := by
  have hv : (o &&& 15#8).toNat = o.toNat &&& 15 := BitVec.toNat_and _ _
  unfold bvv
  go_enter Tryz.func46, Tryz.ntmps46
  go_wp2
  go_ret
  have e : (o.toNat : Int) % 16 * 65536 = ((65536 * (o &&& 15#8).toNat : Nat) : Int) := by
    rw [hv, show (15 : Nat) = 2 ^ 4 - 1 from rfl, Nat.and_two_pow_sub_one_eq_mod]
    omega
  exact ⟨by rw [← e]; rfl, rfl⟩
/-- What a member has, the first k inputs told. -/
def mbK (m v o : BitVec 8) (k : Nat) : Nat := wsum (fun t => mbF m v o t && (decide (t < 2 * k) || decide (16 ≤ t))) 20
theorem mbK_bit (m v o : BitVec 8) (k t : Nat) : (mbK m v o k).testBit t = (decide (t < 20) && (mbF m v o t && (decide (t < 2 * k) || decide (16 ≤ t)))) := wsum_bit _ _ _
theorem mbK_all (m v o : BitVec 8) : mbK m v o 8 = memB m v o := by
  apply Nat.eq_of_testBit_eq
  intro t
  rw [mbK_bit, memB_bit]
  by_cases h : t < 16
  · rw [decide_eq_true (show t < 2 * 8 by omega)]; simp
  · rw [decide_eq_true (show 16 ≤ t by omega)]; simp
theorem mbK_zero (m v o : BitVec 8) : mbK m v o 0 = 65536 * (o &&& 15#8).toNat := by
  apply Nat.eq_of_testBit_eq
  intro t
  rw [mbK_bit, show 65536 * (o &&& 15#8).toNat = (o &&& 15#8).toNat * 2 ^ 16 from Nat.mul_comm _ _, Nat.testBit_mul_two_pow, decide_eq_false (show ¬ t < 2 * 0 by omega), Bool.false_or]
  by_cases h : 16 ≤ t
  · rw [decide_eq_true h, Bool.and_true, Bool.true_and]
    unfold mbF
    rw [if_neg (by omega), show (o &&& 15#8).toNat.testBit (t - 16) = (o &&& 15#8).getLsbD (t - 16) from rfl, ← row_o m v o, rmO_bit]
    by_cases h20 : t < 20
    · rw [decide_eq_true h20, decide_eq_true (show t - 16 < 4 by omega), memB_out _ _ _ (by omega)]; rfl
    · rw [decide_eq_false h20, decide_eq_false (show ¬ t - 16 < 4 by omega)]; rfl
  · rw [decide_eq_false h]; simp
theorem mbK_no {m v o : BitVec 8} {k : Nat} (hm : m.getLsbD k = false) : mbK m v o (k + 1) = mbK m v o k := by
  apply Nat.eq_of_testBit_eq
  intro t
  rw [mbK_bit, mbK_bit]
  by_cases h : t / 2 = k ∧ t < 16
  · have : mbF m v o t = false := by unfold mbF; rw [if_pos h.2, h.1, hm]; rfl
    rw [this]; simp
  · have : decide (t < 2 * (k + 1)) = decide (t < 2 * k) ∨ 16 ≤ t := by
      by_cases h16 : 16 ≤ t
      · exact .inr h16
      · left
        rw [Bool.eq_iff_iff, decide_eq_true_iff, decide_eq_true_iff]
        omega
    rcases this with e | e
    · rw [e]
    · rw [decide_eq_true e]; simp
theorem mbK_yes {m v o : BitVec 8} {k : Nat} (hk : k < 8) (hm : m.getLsbD k = true) : mbK m v o (k + 1) = mbK m v o k ||| 2 ^ (2 * k + if v.getLsbD k then 1 else 0) := by
  apply Nat.eq_of_testBit_eq
  intro t
  rw [Nat.testBit_or, mbK_bit, mbK_bit, Nat.testBit_two_pow]
  by_cases h16 : 16 ≤ t
  · have hne : ¬ (2 * k + if v.getLsbD k then 1 else 0) = t := by split <;> omega
    rw [decide_eq_true h16, decide_eq_false hne]; simp
  · rw [decide_eq_false h16]
    by_cases h : t / 2 = k
    · have e0 : mbF m v o t = (v.getLsbD k == decide (t % 2 = 1)) := by unfold mbF; rw [if_pos (by omega), h, hm, Bool.true_and]
      rw [e0, decide_eq_true (show t < 20 by omega), decide_eq_true (show t < 2 * (k + 1) by omega), decide_eq_false (show ¬ t < 2 * k by omega)]
      cases hv : v.getLsbD k
      · rcases Nat.mod_two_eq_zero_or_one t with e | e
        · simp [e]; omega
        · simp [e]; omega
      · rcases Nat.mod_two_eq_zero_or_one t with e | e
        · simp [e]; omega
        · simp [e]; omega
    · have hne : ¬ (2 * k + if v.getLsbD k then 1 else 0) = t := by split <;> omega
      have e : decide (t < 2 * (k + 1)) = decide (t < 2 * k) := by rw [Bool.eq_iff_iff, decide_eq_true_iff, decide_eq_true_iff]; omega
      rw [e, decide_eq_false hne]; simp
theorem mbK_lt (m v o : BitVec 8) (k : Nat) : mbK m v o k < 1048576 := wsum_lt _ 20
set_option maxHeartbeats 2000000 in
theorem tmember_any : MemberT := by
  intro m v o w
  have HT := fun w => ttag_any o w
  have hlt := Lib.hid (mbK_lt m v o)
  have h0 := Lib.hid (mbK_zero m v o)
  have h8 := Lib.hid (mbK_all m v o)
  have hno := Lib.hid (fun k => @mbK_no m v o k)
  have hyes := Lib.hid (fun k => @mbK_yes m v o k)
  generalize memB m v o = R at *
  generalize mbK m v o = F at *
  have hx := heap_alloc_new w (.cells #[bvv m, bvv v, bvv o] 59 (0, 0))
  have hb := below_alloc1 w (.cells #[bvv m, bvv v, bvv o] 59 (0, 0))
  unfold bvv at *
  go_enter Tryz.func21, Tryz.ntmps21
  go_upto_region 1 with (fail)
  generalize w.alloc _ = W at *
  obtain ⟨x0, x1, x2, -⟩ := now3 hx rfl
  go_wp2_with fail
  refine (HT _).mono ?_
  rintro e w1 ⟨rfl, rfl⟩
  rw [← h0.out]
  clear HT
  go_wp2_with fail
  go_loopw [3, 8] (fun p t wr => ∃ k : Nat, k ≤ 8 ∧ t = .int .i64 k ∧ p = .int .i64 ((F k : Nat) : Int) ∧ W = wr) (fun _ t _ => 8 - (intOf t).toNat)
  case atStart => exact ⟨0, by omega, rfl, rfl, rfl⟩
  case round =>
    obtain ⟨k, hk, rfl, rfl, rfl⟩ := hrel
    by_cases hlt8 : k < 8
    · have hF := hlt.out k
      have hbm := bitI_eq m k
      have hbv := bitI_eq v k
      cases hm : m.getLsbD k
      · have hn := Lib.hid (hno.out k hm)
        rw [show bitI m k = 0 by unfold bitI; rw [hm]; rfl] at hbm
        clear hm hno hyes hbv
        go_wp2
        go_roundw
        case rel => exact ⟨k + 1, by omega, by go_num, by rw [hn.out], trivial⟩
        case measure => simp [intOf]; omega
      · have hy := Lib.hid (hyes.out k hlt8 hm)
        rw [show bitI m k = 1 by unfold bitI; rw [hm]; rfl] at hbm
        cases hv : v.getLsbD k
        · rw [hv] at hy
          rw [show bitI v k = ((0 : Nat) : Int) by unfold bitI; rw [hv]; rfl] at hbv
          have HI := fun w => titem_any k 0 hlt8 (by omega) w
          have hor := orNat (F k) (2 ^ (2 * k + 0)) hF (by have := two20 (k := 2 * k) (by omega); have : 2 ^ (2 * k + 0) < 2 ^ 20 := Nat.pow_lt_pow_right (by decide) (by omega); omega)
          clear hm hv hno hyes
          simp only [Bool.false_eq_true, if_false] at hy
          generalize 2 ^ (2 * k + 0) = q at *
          go_wp2_with fail
          refine (HI _).mono ?_
          rintro e w1 ⟨rfl, rfl⟩
          clear HI
          go_wp2
          go_roundw
          case rel => exact ⟨k + 1, by omega, by go_num, by rw [hy.out], trivial⟩
          case measure => simp [intOf]; omega
        · rw [hv] at hy
          rw [show bitI v k = ((1 : Nat) : Int) by unfold bitI; rw [hv]; rfl] at hbv
          have HI := fun w => titem_any k 1 hlt8 (by omega) w
          have hor := orNat (F k) (2 ^ (2 * k + 1)) hF (by have : 2 ^ (2 * k + 1) < 2 ^ 20 := Nat.pow_lt_pow_right (by decide) (by omega); omega)
          clear hm hv hno hyes
          simp only [if_true] at hy
          generalize 2 ^ (2 * k + 1) = q at *
          go_wp2_with fail
          refine (HI _).mono ?_
          rintro e w1 ⟨rfl, rfl⟩
          clear HI
          go_wp2
          go_roundw
          case rel => exact ⟨k + 1, by omega, by go_num, by rw [hy.out], trivial⟩
          case measure => simp [intOf]; omega
    · obtain rfl : k = 8 := by omega
      go_wp2
      go_ret
      exact ⟨by rw [h8.out]; rfl, hb⟩
/-! ### The row of a member -/
def rmK (k i : Nat) : BitVec 8 := BitVec.ofNat 8 (wsum (fun j => k.testBit (2 * j) || k.testBit (2 * j + 1)) i)
def rvK (k i : Nat) : BitVec 8 := BitVec.ofNat 8 (wsum (fun j => k.testBit (2 * j + 1)) i)
theorem rmK_bit {i : Nat} (k j : Nat) (hi : i ≤ 8) : (rmK k i).getLsbD j = (decide (j < i) && (k.testBit (2 * j) || k.testBit (2 * j + 1))) := ofN_bit hi
theorem rvK_bit {i : Nat} (k j : Nat) (hi : i ≤ 8) : (rvK k i).getLsbD j = (decide (j < i) && k.testBit (2 * j + 1)) := ofN_bit hi
theorem rm_more {f : Nat → Bool} {x y : BitVec 8} {i : Nat} (hi : i < 8) (hx : ∀ j, x.getLsbD j = (decide (j < i) && f j)) (hy : ∀ j, y.getLsbD j = (decide (j < i + 1) && f j)) : y = if f i then x ||| BitVec.twoPow 8 i else x := by
  apply BitVec.eq_of_getLsbD_eq
  intro j hj
  rw [hy]
  by_cases h : f i = true
  · rw [if_pos h, BitVec.getLsbD_or, hx, BitVec.getLsbD_twoPow]
    by_cases e : i = j
    · subst e; simp [h, hi]
    · have : decide (j < i + 1) = decide (j < i) := by rw [Bool.eq_iff_iff, decide_eq_true_iff, decide_eq_true_iff]; omega
      rw [this]; simp [e]
  · rw [if_neg h, hx]
    by_cases e : i = j
    · subst e; simp [h]
    · have : decide (j < i + 1) = decide (j < i) := by rw [Bool.eq_iff_iff, decide_eq_true_iff, decide_eq_true_iff]; omega
      rw [this]
theorem rmK_next {k i : Nat} (hi : i < 8) : rmK k (i + 1) = if k.testBit (2 * i) || k.testBit (2 * i + 1) then rmK k i ||| BitVec.twoPow 8 i else rmK k i :=
  rm_more (f := fun j => k.testBit (2 * j) || k.testBit (2 * j + 1)) hi (fun j => rmK_bit k j (by omega)) (fun j => rmK_bit k j (by omega))
theorem rvK_next {k i : Nat} (hi : i < 8) : rvK k (i + 1) = if k.testBit (2 * i + 1) then rvK k i ||| BitVec.twoPow 8 i else rvK k i :=
  rm_more (f := fun j => k.testBit (2 * j + 1)) hi (fun j => rvK_bit k j (by omega)) (fun j => rvK_bit k j (by omega))
theorem or_one11 (x : BitVec 8) (k : Nat) (hk : k < 8) : bits .or .u8 (x.toNat : Int) (2 ^ k % 256) = ((x ||| BitVec.twoPow 8 k).toNat : Int) := by
  have h : (2 : Int) ^ k % 256 = ((BitVec.twoPow 8 k).toNat : Int) := by
    rw [twoPow8 k hk]
    have : 2 ^ k < 256 := Nat.pow_lt_pow_right (n := 8) (by decide) hk
    have e : ((2 ^ k : Nat) : Int) = 2 ^ k := by simp
    rw [← e]
    clear e
    generalize 2 ^ k = q at *
    omega
  rw [h, or8]
/-- What it has of one input's items. -/
theorem and_two (k i : Nat) : k &&& (2 ^ (2 * i + 0) ||| 2 ^ (2 * i + 1)) = (if k.testBit (2 * i) then 2 ^ (2 * i + 0) else 0) ||| (if k.testBit (2 * i + 1) then 2 ^ (2 * i + 1) else 0) := by
  apply Nat.eq_of_testBit_eq
  intro t
  rw [Nat.testBit_and, Nat.testBit_or, Nat.testBit_or, Nat.testBit_two_pow, Nat.testBit_two_pow]
  by_cases e0 : 2 * i = t
  · subst e0
    cases h0 : k.testBit (2 * i) <;> cases h1 : k.testBit (2 * i + 1) <;> simp []
  · by_cases e1 : 2 * i + 1 = t
    · subst e1
      cases h0 : k.testBit (2 * i) <;> cases h1 : k.testBit (2 * i + 1) <;> simp []
    · cases h0 : k.testBit (2 * i) <;> cases h1 : k.testBit (2 * i + 1) <;> simp [e0, e1]
set_option maxHeartbeats 2000000 in
set_option maxRecDepth 100000 in
theorem trow11_yes (k : Nat) (h16 : 65536 ≤ k) (h20 : k < 1048576) (w : World) :
    Calls Tryz.prog 20 #[.int .i64 k] w fun e w' => e = .returned (.tuple #[if twoB k 8 = true then .agg #[bvv (rmM k), bvv (rmV k), bvv (rmO k)] else rowZ11, .int .i64 (if twoB k 8 = true then 0 else 1)]) ∧ Below w.heap.size w w' := by
  have hMe : rmM k = rmK k 8 := rfl
  have hVe : rmV k = rvK k 8 := rfl
  have d20 : ((k : Int) / 1048576 != 0) = false := by have : (k : Int) / 1048576 = 0 := by omega
                                                      rw [this]; rfl
  have ho : Hid ((rmO k).toNat = k / 65536) := Lib.hid (by
    have hw : wsum (fun j => k.testBit (16 + j)) 4 = k / 65536 := by
      apply Nat.eq_of_testBit_eq
      intro t
      rw [wsum_bit, show 65536 = 2 ^ 16 from rfl, Nat.testBit_div_two_pow, Nat.add_comm t]
      by_cases h4 : t < 4
      · rw [decide_eq_true h4]; rfl
      · rw [decide_eq_false h4, Nat.testBit_lt_two_pow (Nat.lt_of_lt_of_le (show k < 2 ^ 20 by omega) (Nat.pow_le_pow_right (by decide) (by omega)))]; rfl
    unfold rmO
    rw [BitVec.toNat_ofNat, hw]
    omega)
  have hoo : (k : Int) / 65536 = ((rmO k).toNat : Int) := by have := ho.out; omega
  have d16 : (((rmO k).toNat : Int) == 0) = false := by
    rw [beq_eq_false_iff_ne, ← hoo]; omega
  generalize (rmO k) = o at *
  have hx2 := heap_alloc2_old w (.cells #[.int .u8 0, .int .u8 0, .int .u8 0] 59 (0, 0)) (.cells #[.int .u8 0, .int .u8 0, .int .u8 o.toNat] 59 (0, 0))
  have hx4 := heap_alloc2_new w (.cells #[.int .u8 0, .int .u8 0, .int .u8 0] 59 (0, 0)) (.cells #[.int .u8 0, .int .u8 0, .int .u8 o.toNat] 59 (0, 0))
  have hb := below_alloc2 w (.cells #[.int .u8 0, .int .u8 0, .int .u8 0] 59 (0, 0)) (.cells #[.int .u8 0, .int .u8 0, .int .u8 o.toNat] 59 (0, 0))
  have m0 : Hid ((rmK k 0).toNat = 0 ∧ (rvK k 0).toNat = 0 ∧ twoB k 0 = true) := Lib.hid ⟨rfl, rfl, rfl⟩
  have hnm := Lib.hid (fun i => @rmK_next k i)
  have hnv := Lib.hid (fun i => @rvK_next k i)
  have hnt := Lib.hid (fun i => twoB_succ k i)
  have hno := Lib.hid (fun i => @twoB_no k i)
  have hand := Lib.hid (fun i => and_two k i)
  rw [hMe, hVe]
  unfold bvv rowZ11 at *
  have hRt : Hid (twoB k 8 = true → Value.tuple #[if twoB k 8 = true then .agg #[.int .u8 (rmK k 8).toNat, .int .u8 (rvK k 8).toNat, .int .u8 o.toNat] else .agg #[.int .u8 0, .int .u8 0, .int .u8 0], .int .i64 (if twoB k 8 = true then 0 else 1)] = .tuple #[.agg #[.int .u8 (rmK k 8).toNat, .int .u8 (rvK k 8).toNat, .int .u8 o.toNat], .int .i64 0]) := Lib.hid fun h => by rw [if_pos h, if_pos h]
  have hRf : Hid (twoB k 8 = false → Value.tuple #[if twoB k 8 = true then .agg #[.int .u8 (rmK k 8).toNat, .int .u8 (rvK k 8).toNat, .int .u8 o.toNat] else .agg #[.int .u8 0, .int .u8 0, .int .u8 0], .int .i64 (if twoB k 8 = true then 0 else 1)] = .tuple #[.agg #[.int .u8 0, .int .u8 0, .int .u8 0], .int .i64 1]) := Lib.hid fun h => by rw [if_neg (by rw [h]; decide), if_neg (by rw [h]; decide)]
  generalize Value.tuple #[if twoB k 8 = true then .agg #[.int .u8 (rmK k 8).toNat, .int .u8 (rvK k 8).toNat, .int .u8 o.toNat] else .agg #[.int .u8 0, .int .u8 0, .int .u8 0], .int .i64 (if twoB k 8 = true then 0 else 1)] = R at *
  clear hMe hVe ho h16
  go_enter Tryz.func20, Tryz.ntmps20
  go_upto_region 4 with (fail)
  clear hoo d20 d16
  generalize (w.alloc _).alloc _ = W at *
  generalize hM : rmK k = M at *
  generalize hV : rvK k = V at *
  generalize hT : twoB k = T at *
  clear hM hV hT
  go_wp2
  go_loopw [19] (fun t wr => ∃ i : Nat, i ≤ 8 ∧ t = .int .i64 i ∧ Hid (T i = true) ∧ wr.heap[w.heap.size]? = some (.cells #[.int .u8 0, .int .u8 0, .int .u8 0] 59 (0, 0)) ∧ wr.heap[w.heap.size + 1]? = some (.cells #[.int .u8 (M i).toNat, .int .u8 (V i).toNat, .int .u8 o.toNat] 59 (0, 0)) ∧ Below w.heap.size w wr) (fun t _ => 8 - (intOf t).toNat)
  case atStart => exact ⟨0, by omega, rfl, Lib.hid m0.out.2.2, hx2, by rw [m0.out.1, m0.out.2.1]; exact hx4, hb⟩
  case round =>
    clear m0 hx2 hx4 hb
    obtain ⟨i, hi, rfl, ht, hx2, hx4, hb⟩ := hrel
    by_cases hlt : i < 8
    · have HI0 : ∀ w, Calls Tryz.prog 45 #[.int .i64 i, .int .u8 0] w fun e w' => e = .returned (.int .i64 ((2 ^ (2 * i + 0) : Nat) : Int)) ∧ w = w' := fun w => titem_any i 0 hlt (by omega) w
      have HI1 : ∀ w, Calls Tryz.prog 45 #[.int .i64 i, .int .u8 1] w fun e w' => e = .returned (.int .i64 ((2 ^ (2 * i + 1) : Nat) : Int)) ∧ w = w' := fun w => titem_any i 1 hlt (by omega) w
      have hJ : 2 ^ (2 * i + 0) ||| 2 ^ (2 * i + 1) = 2 ^ (2 * i + 0) + 2 ^ (2 * i + 1) := by
        have h := Nat.two_pow_add_eq_or_of_lt (i := 2 * i + 1) (b := 2 ^ (2 * i + 0)) (Nat.pow_lt_pow_right (by decide) (by omega)) 1
        rw [Nat.mul_one] at h
        rw [Nat.or_comm, ← h, Nat.add_comm]
      have q0 : 2 ^ (2 * i + 0) < 1048576 := by have : 2 ^ (2 * i + 0) < 2 ^ 20 := Nat.pow_lt_pow_right (by decide) (by omega); omega
      have q1 : 2 ^ (2 * i + 1) < 1048576 := by have : 2 ^ (2 * i + 1) < 2 ^ 20 := Nat.pow_lt_pow_right (by decide) (by omega); omega
      have hor := orNat (2 ^ (2 * i + 0)) (2 ^ (2 * i + 1)) q0 q1
      have hol : 2 ^ (2 * i + 0) ||| 2 ^ (2 * i + 1) < 1048576 := Nat.or_lt_two_pow (n := 20) q0 q1
      have han := andNat k (2 ^ (2 * i + 0) ||| 2 ^ (2 * i + 1)) (by omega) (by omega)
      have hnmi := hnm.out i hlt
      have hnvi := hnv.out i hlt
      have hnti := hnt.out i
      have hnoi := hno.out i hlt
      have p0 : 0 < 2 ^ (2 * i + 0) := Nat.two_pow_pos _
      have p01 : 2 ^ (2 * i + 1) = 2 * 2 ^ (2 * i + 0) := by rw [Nat.pow_succ]; exact Nat.mul_comm _ _
      have hom := or_one11 (M i) i hlt
      have hov := or_one11 (V i) i hlt
      have han := han
      rw [hand.out i, hJ] at han
      rw [hJ] at hor
      generalize 2 ^ (2 * i + 0) = Q0 at *
      generalize 2 ^ (2 * i + 1) = Q1 at *
      clear hnm hnv hnt hno hand q0 q1 hol
      have hTT := ht.out
      have q0 : ((Q0 : Int) == 0) = false := by rw [beq_eq_false_iff_ne]; omega
      have q1 : ((Q1 : Int) == 0) = false := by rw [beq_eq_false_iff_ne]; omega
      have q2 : ((Q1 : Int) == (Q0 : Int)) = false := by rw [beq_eq_false_iff_ne]; omega
      have q3 : ((Q0 : Int) == (Q0 : Int)) = true := by simp
      have q4 : ((Q1 : Int) == (Q1 : Int)) = true := by simp
      have q5 : (((Q0 + Q1 : Nat) : Int) == 0) = false := by rw [beq_eq_false_iff_ne]; omega
      have q6 : (((Q0 + Q1 : Nat) : Int) == (Q0 : Int)) = false := by rw [beq_eq_false_iff_ne]; omega
      have q7 : (((Q0 + Q1 : Nat) : Int) == (Q1 : Int)) = false := by rw [beq_eq_false_iff_ne]; omega
      rw [hTT, Bool.true_and] at hnti
      clear hTT p0 p01
      cases b0 : k.testBit (2 * i) <;> cases b1 : k.testBit (2 * i + 1)
      · rw [b0, b1] at hnmi hnti han
        rw [b1] at hnvi
        have han : bits BinOp.and IntKind.i64 (k : Int) ((Q0 : Int) + (Q1 : Int)) = 0 := han.trans (by simp)
        have hM1 : Hid (M (i + 1) = M i) := Lib.hid hnmi
        have hV1 : Hid (V (i + 1) = V i) := Lib.hid hnvi
        have hT1 : Hid (T (i + 1) = true) := Lib.hid hnti
        clear b0 b1 hnmi hnvi hnti hnoi hJ hom hov
        go_wp2_with fail
        refine (HI0 _).mono ?_
        rintro e w1 ⟨rfl, rfl⟩
        go_wp2_with fail
        refine (HI1 _).mono ?_
        rintro e w1 ⟨rfl, rfl⟩
        clear HI0 HI1
        go_wp2
        go_roundw
        case rel => exact ⟨i + 1, by omega, by go_num, hT1, hx2, by rw [hM1.out, hV1.out]; exact hx4, hb⟩
        case measure => simp [intOf]; omega
      · rw [b0, b1] at hnmi hnti han
        rw [b1] at hnvi
        have han : bits BinOp.and IntKind.i64 (k : Int) ((Q0 : Int) + (Q1 : Int)) = (Q1 : Int) := han.trans (by simp)
        have hM1 : Hid (M (i + 1) = M i ||| BitVec.twoPow 8 i) := Lib.hid hnmi
        have hV1 : Hid (V (i + 1) = V i ||| BitVec.twoPow 8 i) := Lib.hid hnvi
        have hT1 : Hid (T (i + 1) = true) := Lib.hid hnti
        clear b0 b1 hnmi hnvi hnti hnoi hJ
        generalize M i ||| BitVec.twoPow 8 i = M' at *
        generalize V i ||| BitVec.twoPow 8 i = V' at *
        go_wp2_with fail
        refine (HI0 _).mono ?_
        rintro e w1 ⟨rfl, rfl⟩
        go_wp2_with fail
        refine (HI1 _).mono ?_
        rintro e w1 ⟨rfl, rfl⟩
        go_wp2_with fail
        refine (HI0 _).mono ?_
        rintro e w1 ⟨rfl, rfl⟩
        go_wp2_with fail
        refine (HI1 _).mono ?_
        rintro e w1 ⟨rfl, rfl⟩
        clear HI0 HI1
        go_upto_region 13 with (fail)
        obtain ⟨x0, x1, x2, xf⟩ := box3 hx4 rfl
        refine wp_region_after_tail 8 (by kernel_rfl) (by kernel_rfl) ?_
        simp only [List.take_succ_cons, List.take_zero, List.drop_succ_cons, List.drop_zero]
        repeat (first | go_big_quiet_step (fail))
        refine wpQuiet_nil ?_
        intro x
        replace hx2 := keep_set (a := ⟨w.heap.size + 1, 0, none⟩) (u := .int .u8 M'.toNat) (by simp) (x.same hx2)
        replace hx4 : (x.1.setCell ⟨w.heap.size + 1, 0, none⟩ (.int .u8 M'.toNat)).heap[w.heap.size + 1]? = some (.cells #[.int .u8 M'.toNat, .int .u8 (V i).toNat, .int .u8 o.toNat] 59 (0, 0)) := by
          rw [block_setCell (x.same hx4)]; rfl
        replace hb := (hb.trans (x.2.mono hb.size)).setCell (p := ⟨w.heap.size + 1, 0, none⟩) (by simp) (.int .u8 M'.toNat)
        go_upto_region 14 with (fail)
        clear x0 x1 x2 xf
        obtain ⟨x0, x1, x2, xf⟩ := box3 hx4 rfl
        refine wp_region_after_tail 8 (by kernel_rfl) (by kernel_rfl) ?_
        simp only [List.take_succ_cons, List.take_zero, List.drop_succ_cons, List.drop_zero]
        repeat (first | go_big_quiet_step (fail))
        refine wpQuiet_nil ?_
        intro y
        replace hx2 := keep_set (a := ⟨w.heap.size + 1, 1, none⟩) (u := .int .u8 V'.toNat) (by simp) (y.same hx2)
        replace hx4 : (y.1.setCell ⟨w.heap.size + 1, 1, none⟩ (.int .u8 V'.toNat)).heap[w.heap.size + 1]? = some (.cells #[.int .u8 M'.toNat, .int .u8 V'.toNat, .int .u8 o.toNat] 59 (0, 0)) := by
          rw [block_setCell (y.same hx4)]; rfl
        replace hb := (hb.trans (y.2.mono hb.size)).setCell (p := ⟨w.heap.size + 1, 1, none⟩) (by simp) (.int .u8 V'.toNat)
        go_wp2
        go_roundw
        case rel => exact ⟨i + 1, by omega, by go_num, hT1, hx2, by rw [hM1.out, hV1.out]; exact hx4, hb⟩
        case measure => simp [intOf]; omega
      · rw [b0, b1] at hnmi hnti han
        rw [b1] at hnvi
        have han : bits BinOp.and IntKind.i64 (k : Int) ((Q0 : Int) + (Q1 : Int)) = (Q0 : Int) := han.trans (by simp)
        have hM1 : Hid (M (i + 1) = M i ||| BitVec.twoPow 8 i) := Lib.hid hnmi
        have hV1 : Hid (V (i + 1) = V i) := Lib.hid hnvi
        have hT1 : Hid (T (i + 1) = true) := Lib.hid hnti
        clear b0 b1 hnmi hnvi hnti hnoi hJ hov
        generalize M i ||| BitVec.twoPow 8 i = M' at *
        go_wp2_with fail
        refine (HI0 _).mono ?_
        rintro e w1 ⟨rfl, rfl⟩
        go_wp2_with fail
        refine (HI1 _).mono ?_
        rintro e w1 ⟨rfl, rfl⟩
        go_wp2_with fail
        refine (HI0 _).mono ?_
        rintro e w1 ⟨rfl, rfl⟩
        clear HI0 HI1
        go_upto_region 11 with (fail)
        obtain ⟨x0, x1, x2, xf⟩ := box3 hx4 rfl
        refine wp_region_after_tail 8 (by kernel_rfl) (by kernel_rfl) ?_
        simp only [List.take_succ_cons, List.take_zero, List.drop_succ_cons, List.drop_zero]
        repeat (first | go_big_quiet_step (fail))
        refine wpQuiet_nil ?_
        intro x
        replace hx2 := keep_set (a := ⟨w.heap.size + 1, 0, none⟩) (u := .int .u8 M'.toNat) (by simp) (x.same hx2)
        replace hx4 : (x.1.setCell ⟨w.heap.size + 1, 0, none⟩ (.int .u8 M'.toNat)).heap[w.heap.size + 1]? = some (.cells #[.int .u8 M'.toNat, .int .u8 (V i).toNat, .int .u8 o.toNat] 59 (0, 0)) := by
          rw [block_setCell (x.same hx4)]; rfl
        replace hb := (hb.trans (x.2.mono hb.size)).setCell (p := ⟨w.heap.size + 1, 0, none⟩) (by simp) (.int .u8 M'.toNat)
        go_wp2
        go_roundw
        case rel => exact ⟨i + 1, by omega, by go_num, hT1, hx2, by rw [hM1.out, hV1.out]; exact hx4, hb⟩
        case measure => simp [intOf]; omega
      · rw [b0, b1] at hnmi hnti han
        rw [b1] at hnvi
        have han : bits BinOp.and IntKind.i64 (k : Int) ((Q0 : Int) + (Q1 : Int)) = (Q0 : Int) + (Q1 : Int) := han.trans (by simp only [if_true]; rw [hJ]; exact Int.natCast_add _ _)
        have q5' : (((Q0 : Int) + (Q1 : Int)) == 0) = false := q5
        have q6' : (((Q0 : Int) + (Q1 : Int)) == (Q0 : Int)) = false := q6
        have q7' : (((Q0 : Int) + (Q1 : Int)) == (Q1 : Int)) = false := q7
        have hT8 : Hid (T 8 = false) := Lib.hid (hnoi (by rw [b0, b1]; rfl))
        clear b0 b1 hnmi hnvi hnti hnoi hJ hom hov q5 q6 q7
        go_wp2_with fail
        refine (HI0 _).mono ?_
        rintro e w1 ⟨rfl, rfl⟩
        go_wp2_with fail
        refine (HI1 _).mono ?_
        rintro e w1 ⟨rfl, rfl⟩
        go_wp2_with fail
        refine (HI0 _).mono ?_
        rintro e w1 ⟨rfl, rfl⟩
        go_wp2_with fail
        refine (HI1 _).mono ?_
        rintro e w1 ⟨rfl, rfl⟩
        clear HI0 HI1
        obtain ⟨r0, r1, r2, rf⟩ := now3 hx2 rfl
        have hr' := put3 (x0 := .int .u8 0) (x1 := .int .u8 0) (x2 := .int .u8 0) hx2
        obtain ⟨z0, z1, z2, -⟩ := now3 hr' rfl
        have hb' := ((hb.setCell (p := ⟨w.heap.size, 0, none⟩) (Nat.le_refl _) (.int .u8 0)).setCell (p := ⟨w.heap.size, 1, none⟩) (Nat.le_refl _) (.int .u8 0)).setCell (p := ⟨w.heap.size, 2, none⟩) (Nat.le_refl _) (.int .u8 0)
        clear hx2 hx4 hb hr'
        go_wp2
        exact bodyPost_ret (v := .tuple #[.agg #[.int .u8 0, .int .u8 0, .int .u8 0], .int .i64 1]) (by simp [results, Tryz.results20, go_sem, z0, z1, z2]) rfl ⟨by rw [hRf.out hT8.out], hb'⟩
    · obtain rfl : i = 8 := by omega
      obtain ⟨y0, y1, y2, -⟩ := now3 hx4 rfl
      obtain ⟨r0, r1, r2, rf⟩ := now3 hx2 rfl
      have hr' := put3 (x0 := .int .u8 (M 8).toNat) (x1 := .int .u8 (V 8).toNat) (x2 := .int .u8 o.toNat) hx2
      obtain ⟨z0, z1, z2, -⟩ := now3 hr' rfl
      have hb' := ((hb.setCell (p := ⟨w.heap.size, 0, none⟩) (Nat.le_refl _) (.int .u8 (M 8).toNat)).setCell (p := ⟨w.heap.size, 1, none⟩) (Nat.le_refl _) (.int .u8 (V 8).toNat)).setCell (p := ⟨w.heap.size, 2, none⟩) (Nat.le_refl _) (.int .u8 o.toNat)
      clear hx2 hx4 hb hr' hnm hnv hnt hno hand
      go_wp2
      exact bodyPost_ret (v := .tuple #[.agg #[.int .u8 (M 8).toNat, .int .u8 (V 8).toNat, .int .u8 o.toNat], .int .i64 0]) (by simp [results, Tryz.results20, go_sem, z0, z1, z2]) rfl ⟨by rw [hRt.out ht.out], hb'⟩
set_option maxHeartbeats 1000000 in
theorem trow11_off (k : Int) (h : ¬ (65536 ≤ k ∧ k < 1048576)) (w : World) :
    Calls Tryz.prog 20 #[.int .i64 k] w fun e w' => e = .returned (.tuple #[rowZ11, .int .i64 1]) ∧ Below w.heap.size w w' := by
  have hx2 := heap_alloc_new w (.cells #[.int .u8 0, .int .u8 0, .int .u8 0] 59 (0, 0))
  have hb := below_alloc1 w (.cells #[.int .u8 0, .int .u8 0, .int .u8 0] 59 (0, 0))
  unfold rowZ11
  have key : (k / 1048576 != 0) = true ∨ ((k / 1048576 != 0) = false ∧ (k / 65536 == 0) = true) := by
    by_cases h1 : k / 1048576 = 0
    · right
      have : k / 65536 = 0 := by omega
      rw [h1, this]
      exact ⟨rfl, rfl⟩
    · left
      rw [bne_iff_ne]; exact h1
  clear h
  obtain ⟨r0, r1, r2, rf⟩ := now3 hx2 rfl
  have hr' := put3 (x0 := .int .u8 0) (x1 := .int .u8 0) (x2 := .int .u8 0) hx2
  obtain ⟨z0, z1, z2, -⟩ := now3 hr' rfl
  have hb' := ((hb.setCell (p := ⟨w.heap.size, 0, none⟩) (Nat.le_refl _) (.int .u8 0)).setCell (p := ⟨w.heap.size, 1, none⟩) (Nat.le_refl _) (.int .u8 0)).setCell (p := ⟨w.heap.size, 2, none⟩) (Nat.le_refl _) (.int .u8 0)
  clear hx2 hb hr'
  go_enter Tryz.func20, Tryz.ntmps20
  go_upto_region 1 with (fail)
  generalize w.alloc _ = W at *
  rcases key with d20 | ⟨d20, d16⟩
  · go_wp2
    exact bodyPost_ret (v := .tuple #[.agg #[.int .u8 0, .int .u8 0, .int .u8 0], .int .i64 1]) (by simp [results, Tryz.results20, go_sem, z0, z1, z2]) rfl ⟨rfl, hb'⟩
  · go_wp2
    exact bodyPost_ret (v := .tuple #[.agg #[.int .u8 0, .int .u8 0, .int .u8 0], .int .i64 1]) (by simp [results, Tryz.results20, go_sem, z0, z1, z2]) rfl ⟨rfl, hb'⟩
theorem trow_any : RowT := by
  intro k w
  by_cases h : 65536 ≤ k ∧ k < 1048576
  · obtain ⟨n, rfl⟩ : ∃ n : Nat, k = n := ⟨k.toNat, by omega⟩
    have e : belB (n : Int) = twoB n 8 := by unfold belB; rw [decide_eq_true h, Bool.true_and, Int.toNat_natCast]
    rw [e, Int.toNat_natCast]
    exact trow11_yes n (by omega) (by omega) w
  · have e : belB k = false := by unfold belB; rw [decide_eq_false h, Bool.false_and]
    rw [e]
    exact trow11_off k h w
end Go.Proofs.YtehpccanjlaokaaGreat
