/- What each function of the package cube answers, for every input; nothing that was there before a call turns. -/
import Derived.Test.YtnddepijbbchiaaSet2
import Derived.Test.YtnddepijbbchiaaTail
import Derived.Test.YtnddepijbbchiaaCube
import Derived.Laws.BitsAllLaws
namespace Go.Proofs.Ytnddepijbbchiaa
open Go.RowKit Go.Joins

theorem and8 (a b : BitVec 8) : bits .and .u8 (a.toNat : Int) (b.toNat : Int) = ((a &&& b).toNat : Int) := by
  rw [u8_and_nat _ _ a.isLt b.isLt, BitVec.toNat_and]
theorem or8 (a b : BitVec 8) : bits .or .u8 (a.toNat : Int) (b.toNat : Int) = ((a ||| b).toNat : Int) := by
  rw [u8_or_nat _ _ a.isLt b.isLt, BitVec.toNat_or]
theorem xor8 (a b : BitVec 8) : bits .xor .u8 (a.toNat : Int) (b.toNat : Int) = ((a ^^^ b).toNat : Int) := by
  rw [u8_xor_nat _ _ a.isLt b.isLt, BitVec.toNat_xor]
theorem less8 (a b : BitVec 8) : bits .andNot .u8 (a.toNat : Int) (b.toNat : Int) = ((a &&& ~~~b).toNat : Int) := by
  rw [u8_andNot_nat _ _ a.isLt b.isLt, BitVec.toNat_and, BitVec.toNat_not]

/-- A bit as a number. -/
def bitI (x : BitVec 8) (i : Nat) : Int := if x.getLsbD i then 1 else 0
theorem bitI_eq (x : BitVec 8) (i : Nat) : bits .and .u8 ((x.toNat : Int) / 2 ^ i) 1 = bitI x i := by
  have hn : (x.toNat : Int) / 2 ^ i = ((x.toNat / 2 ^ i : Nat) : Int) := by rw [Int.natCast_ediv]; simp
  have hl : x.toNat / 2 ^ i < 256 := Nat.lt_of_le_of_lt (Nat.div_le_self _ _) x.isLt
  rw [hn, show (1 : Int) = ((1 : Nat) : Int) from rfl, u8_and_nat _ _ hl (by decide), Nat.and_one_is_mod]
  unfold bitI
  have hb : x.getLsbD i = decide (x.toNat / 2 ^ i % 2 = 1) := by simp only [BitVec.getLsbD, Nat.testBit_eq_decide_div_mod_eq]
  rw [hb]
  by_cases h : x.toNat / 2 ^ i % 2 = 1
  · simp [h]
  · have h0 : x.toNat / 2 ^ i % 2 = 0 := by omega
    simp [h0]
theorem bit_any8 (x : BitVec 8) (i : Nat) (hi : i < 8) (w : World) :
    Calls Try.prog 74 #[bvv x, .int .i64 i] w fun e w' => e = .returned (.int .u8 (bitI x i)) ∧ w = w' := by
  have hb := Lib.hid (bitI_eq x i)
  unfold bvv
  go_enter Try.func74, Try.ntmps74
  go_wp2
  go_ret
  exact ⟨by rw [← hb.out]; rfl, rfl⟩
theorem bit_yes (x : BitVec 8) (i : Nat) (hi : i < 8) (h : x.getLsbD i = true) (w : World) :
    Calls Try.prog 74 #[bvv x, .int .i64 i] w fun e w' => e = .returned (.int .u8 1) ∧ w = w' := by
  have := bit_any8 x i hi w
  rwa [show bitI x i = 1 by unfold bitI; rw [if_pos h]] at this
theorem bit_no (x : BitVec 8) (i : Nat) (hi : i < 8) (h : x.getLsbD i = false) (w : World) :
    Calls Try.prog 74 #[bvv x, .int .i64 i] w fun e w' => e = .returned (.int .u8 0) ∧ w = w' := by
  have := bit_any8 x i hi w
  rwa [show bitI x i = 0 by unfold bitI; rw [if_neg (by rw [h]; simp)]] at this
theorem tidy_any (m v : BitVec 8) (w : World) :
    Calls Try.prog 72 #[cv m v] w fun e w' => e = .returned (cv m (v &&& m)) ∧ Below w.heap.size w w' := by
  have A := Lib.hid (and8 v m)
  unfold cv bvv
  go_enter Try.func72, Try.ntmps72
  go_wp2
  exact bodyPost_ret (v := .agg #[.int .u8 m.toNat, .int .u8 (bits .and .u8 v.toNat m.toNat)]) (by simp [results, Try.results72, go_sem]) rfl
    ⟨by rw [A.out], below_alloc2 _ _ _⟩
theorem clash_any (m v m' v' : BitVec 8) (w : World) :
    Calls Try.prog 71 #[cv m v, cv m' v'] w fun e w' => e = .returned (bvv (clashB m v m' v')) ∧ Below w.heap.size w w' := by
  have A : Hid (bits .and .u8 (bits .and .u8 (m.toNat : Int) (m'.toNat : Int)) (bits .xor .u8 (v.toNat : Int) (v'.toNat : Int)) = ((clashB m v m' v').toNat : Int)) := by
    refine Lib.hid ?_
    rw [and8, xor8, and8]; rfl
  unfold cv bvv
  go_enter Try.func71, Try.ntmps71
  go_wp2
  go_ret
  exact ⟨by rw [← A.out]; rfl, below_alloc2 _ _ _⟩
/-- '==' of two cubes. -/
theorem eq_cube (m v m' v' : BitVec 8) (w : World) : (Op.equalIn 10000 44 (.agg #[.int .u8 m.toNat, .int .u8 v.toNat]) (.agg #[.int .u8 m'.toNat, .int .u8 v'.toNat])).run Try.prog w = .ok (decide (m = m' ∧ v = v')) w := by
  simp [go_sem]
  have e : ∀ a b : BitVec 8, ((a.toNat : Int) = (b.toNat : Int)) ↔ a = b := fun a b => ⟨fun h => BitVec.eq_of_toNat_eq (by exact_mod_cast h), fun h => by rw [h]⟩
  simp only [e]
  by_cases h1 : m = m' <;> by_cases h2 : v = v' <;> simp [h1, h2]
theorem toNat_ne {a b : BitVec 8} (h : ¬ a = b) : ¬ ((a.toNat : Int) = (b.toNat : Int)) := fun e => h (BitVec.eq_of_toNat_eq (by exact_mod_cast e))
abbrev cb (m v : BitVec 8) : Obj := .cells #[Value.int IntKind.u8 m.toNat, Value.int IntKind.u8 v.toNat] 44
abbrev cb0 : Obj := .cells #[Value.int IntKind.u8 0, Value.int IntKind.u8 0] 44
set_option maxHeartbeats 400000 in
/-- What both have. -/
theorem meet_yes (m v m' v' : BitVec 8) (h : clashB m v m' v' = 0) (w : World) :
    Calls Try.prog 56 #[cv m v, cv m' v'] w fun e w' => e = .returned (.tuple #[cv (m ||| m') ((v &&& m) ||| (v' &&& m')), .bool true]) ∧ Below w.heap.size w w' := by
  have HC := fun w => clash_any m v m' v' w
  rw [h] at HC
  have HT := fun w => tidy_any m v w
  have HT' := fun w => tidy_any m' v' w
  have A1 := Lib.hid (or8 m m')
  have A2 := Lib.hid (or8 (v &&& m) (v' &&& m'))
  unfold cv bvv at *
  clear h
  generalize v &&& m = t at *
  generalize v' &&& m' = t' at *
  simp only [BitVec.ofNat_eq_ofNat, BitVec.toNat_ofNat, Nat.zero_mod] at HC
  go_enter Try.func56, Try.ntmps56
  go_wp2_with fail
  generalize hW : ((w.alloc (cb m v)).alloc (cb m' v')).alloc cb0 = W
  have ha : W.heap[w.heap.size]? = some (cb m v) := by rw [← hW]; exact heap_alloc3_a _ _ _ _
  have hb : W.heap[w.heap.size + 1]? = some (cb m' v') := by rw [← hW]; exact heap_alloc3_b _ _ _ _
  have hc : W.heap[w.heap.size + 2]? = some cb0 := by rw [← hW]; exact heap_alloc3_c _ _ _ _
  have hB : Below w.heap.size w W := by rw [← hW]; exact below_alloc3 _ _ _ _
  clear hW
  refine (HC _).mono ?_
  rintro e w1 ⟨rfl, hb1⟩
  have hB1 : Below w.heap.size w w1 := hB.trans (hb1.mono hB.size)
  obtain ⟨a0, a1, af⟩ := box2 (keep_blk hb1 ha) rfl
  obtain ⟨b0, b1, bf⟩ := box2 (keep_blk hb1 hb) rfl
  obtain ⟨c0, c1, cf⟩ := box2 (keep_blk hb1 hc) rfl
  clear ha hb hc hB hb1
  go_wp2_with fail
  refine wp_region_after_tail 4 (by kernel_rfl) (by kernel_rfl) ?_
  simp only [List.take_succ_cons, List.take_zero, List.drop_succ_cons, List.drop_zero]
  repeat (first | go_big_quiet_step ((first | (go_at_call_of 72 (Value.agg #[Value.int IntKind.u8 m.toNat, Value.int IntKind.u8 v.toNat]); exact Calls.after_of (HT _)) | (go_at_call 72; exact Calls.after_of (HT' _)))))
  refine wpQuiet_nil ?_
  intro x
  have hx : Below w.heap.size w x.1 := hB1.trans (x.2.mono hB1.size)
  clear hB1
  go_wp2
  exact bodyPost_ret (v := .tuple #[.agg #[.int .u8 (bits .or .u8 m.toNat m'.toNat), .int .u8 (bits .or .u8 t.toNat t'.toNat)], .bool true]) (by simp [results, Try.results56, go_sem, c0, c1]) rfl
    ⟨by rw [A1.out, A2.out], (((((hx.setCell (Nat.le_refl _) _).setCell (Nat.le_refl _) _).setCell (le1 w) _).setCell (le1 w) _).setCell (le2 w) _).setCell (le2 w) _⟩
theorem meet_no (m v m' v' : BitVec 8) (h : ¬ clashB m v m' v' = 0) (w : World) :
    Calls Try.prog 56 #[cv m v, cv m' v'] w fun e w' => e = .returned (.tuple #[cv 0 0, .bool false]) ∧ Below w.heap.size w w' := by
  have HC := fun w => clash_any m v m' v' w
  have hn : (((clashB m v m' v').toNat : Int) != 0) = true := by
    rw [bne_iff_ne]
    exact fun e => h (BitVec.eq_of_toNat_eq (by simpa using e))
  unfold cv bvv at *
  clear h
  generalize clashB m v m' v' = C at *
  go_enter Try.func56, Try.ntmps56
  go_wp2_with fail
  generalize hW : ((w.alloc (cb m v)).alloc (cb m' v')).alloc cb0 = W
  have hc : W.heap[w.heap.size + 2]? = some cb0 := by rw [← hW]; exact heap_alloc3_c _ _ _ _
  have hB : Below w.heap.size w W := by rw [← hW]; exact below_alloc3 _ _ _ _
  clear hW
  refine (HC _).mono ?_
  rintro e w1 ⟨rfl, hb1⟩
  have hB1 : Below w.heap.size w w1 := hB.trans (hb1.mono hB.size)
  obtain ⟨c0, c1, cf⟩ := now2 (keep_blk hb1 hc) rfl
  clear hc hB hb1
  go_wp2
  exact bodyPost_ret (v := .tuple #[.agg #[.int .u8 0, .int .u8 0], .bool false]) (by simp [results, Try.results56, go_sem, c0, c1]) rfl
    ⟨rfl, (hB1.setCell (le2 w) _).setCell (le2 w) _⟩
theorem szI_succ (m : BitVec 8) (k : Nat) : (szK m k : Int) + bitI m k = (szK m (k + 1) : Nat) := by
  rw [szK_succ]; unfold bitI; split <;> simp
end Go.Proofs.Ytnddepijbbchiaa
