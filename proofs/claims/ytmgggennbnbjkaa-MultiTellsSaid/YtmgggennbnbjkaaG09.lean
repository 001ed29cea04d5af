/- What each function of the package cube answers, for every input; nothing that was there before a call turns. What Right and Points of the package cube answer, for every input. What Text of the package cube answers, for every input. What Parse of the package cube answers, for every text. -/
import Derived.Test.YtmgggennbnbjkaaG05
import Derived.Test.YtmgggennbnbjkaaG04
import Derived.Test.YtmgggennbnbjkaaG08
import Derived.Laws.BitsAllLaws
import Derived.Lib.SlBytesRow
import Derived.Lib.OthersKept
namespace Go.Proofs.Ytmgggennbnbjkaa
open Go.RowKit Go.Joins

theorem and8 (a b : BitVec 8) : bits .and .u8 (a.toNat : Int) (b.toNat : Int) = ((a &&& b).toNat : Int) := by
  rw [u8_and_nat _ _ a.isLt b.isLt, BitVec.toNat_and]
theorem or8 (a b : BitVec 8) : bits .or .u8 (a.toNat : Int) (b.toNat : Int) = ((a ||| b).toNat : Int) := by
  rw [u8_or_nat _ _ a.isLt b.isLt, BitVec.toNat_or]
theorem xor8 (a b : BitVec 8) : bits .xor .u8 (a.toNat : Int) (b.toNat : Int) = ((a ^^^ b).toNat : Int) := by
  rw [u8_xor_nat _ _ a.isLt b.isLt, BitVec.toNat_xor]
theorem less8 (a b : BitVec 8) : bits .andNot .u8 (a.toNat : Int) (b.toNat : Int) = ((a &&& ~~~b).toNat : Int) := by
  rw [u8_andNot_nat _ _ a.isLt b.isLt, BitVec.toNat_and, BitVec.toNat_not]

/-- A bit as a number. -/
def bitI (x : BitVec 8) (i : Nat) : Int := if x.getLsbD i then 1 else 0
theorem bitI_eq (x : BitVec 8) (i : Nat) : bits .and .u8 ((x.toNat : Int) / 2 ^ i) 1 = bitI x i := by
  have hn : (x.toNat : Int) / 2 ^ i = ((x.toNat / 2 ^ i : Nat) : Int) := by rw [Int.natCast_ediv]; simp
  have hl : x.toNat / 2 ^ i < 256 := Nat.lt_of_le_of_lt (Nat.div_le_self _ _) x.isLt
  rw [hn, show (1 : Int) = ((1 : Nat) : Int) from rfl, u8_and_nat _ _ hl (by decide), Nat.and_one_is_mod]
  unfold bitI
  have hb : x.getLsbD i = decide (x.toNat / 2 ^ i % 2 = 1) := by simp only [BitVec.getLsbD, Nat.testBit_eq_decide_div_mod_eq]
  rw [hb]
  by_cases h : x.toNat / 2 ^ i % 2 = 1
  · simp [h]
  · have h0 : x.toNat / 2 ^ i % 2 = 0 := by omega
    simp [h0]
theorem bit_any8 (x : BitVec 8) (i : Nat) (hi : i < 8) (w : World) :
    Calls Try.prog 74 #[bvv x, .int .i64 i] w fun e w' => e = .returned (.int .u8 (bitI x i)) ∧ w = w' := by
  have hb := Lib.hid (bitI_eq x i)
  unfold bvv
  go_enter Try.func74, Try.ntmps74
  go_wp2
  go_ret
  exact ⟨by rw [← hb.out]; rfl, rfl⟩
theorem bit_yes (x : BitVec 8) (i : Nat) (hi : i < 8) (h : x.getLsbD i = true) (w : World) :
    Calls Try.prog 74 #[bvv x, .int .i64 i] w fun e w' => e = .returned (.int .u8 1) ∧ w = w' := by
  have := bit_any8 x i hi w
  rwa [show bitI x i = 1 by unfold bitI; rw [if_pos h]] at this
theorem bit_no (x : BitVec 8) (i : Nat) (hi : i < 8) (h : x.getLsbD i = false) (w : World) :
    Calls Try.prog 74 #[bvv x, .int .i64 i] w fun e w' => e = .returned (.int .u8 0) ∧ w = w' := by
  have := bit_any8 x i hi w
  rwa [show bitI x i = 0 by unfold bitI; rw [if_neg (by rw [h]; simp)]] at this
theorem tidy_any (m v : BitVec 8) (w : World) :
    Calls Try.prog 59 #[cv m v] w fun e w' => e = .returned (cv m (v &&& m)) ∧ Below w.heap.size w w' := by
  have A := Lib.hid (and8 v m)
  unfold cv bvv
  go_enter Try.func59, Try.ntmps59
  go_wp2
  exact bodyPost_ret (v := .agg #[.int .u8 m.toNat, .int .u8 (bits .and .u8 v.toNat m.toNat)]) (by simp [results, Try.results59, go_sem]) rfl
    ⟨by rw [A.out], below_alloc2 _ _ _⟩
theorem clash_any (m v m' v' : BitVec 8) (w : World) :
    Calls Try.prog 76 #[cv m v, cv m' v'] w fun e w' => e = .returned (bvv (clashB m v m' v')) ∧ Below w.heap.size w w' := by
  have A : Hid (bits .and .u8 (bits .and .u8 (m.toNat : Int) (m'.toNat : Int)) (bits .xor .u8 (v.toNat : Int) (v'.toNat : Int)) = ((clashB m v m' v').toNat : Int)) := by
    refine Lib.hid ?_
    rw [and8, xor8, and8]; rfl
  unfold cv bvv
  go_enter Try.func76, Try.ntmps76
  go_wp2
  go_ret
  exact ⟨by rw [← A.out]; rfl, below_alloc2 _ _ _⟩
/-- '==' of two cubes. -/
theorem eq_cube (m v m' v' : BitVec 8) (w : World) : (Op.equalIn 10000 26 (.agg #[.int .u8 m.toNat, .int .u8 v.toNat]) (.agg #[.int .u8 m'.toNat, .int .u8 v'.toNat])).run Try.prog w = .ok (decide (m = m' ∧ v = v')) w := by
  simp [go_sem]
  have e : ∀ a b : BitVec 8, ((a.toNat : Int) = (b.toNat : Int)) ↔ a = b := fun a b => ⟨fun h => BitVec.eq_of_toNat_eq (by exact_mod_cast h), fun h => by rw [h]⟩
  simp only [e]
  by_cases h1 : m = m' <;> by_cases h2 : v = v' <;> simp [h1, h2]
set_option maxHeartbeats 400000 in
theorem join_any (m v m' v' : BitVec 8) (w : World) :
    Calls Try.prog 58 #[cv m v, cv m' v'] w fun e w' => e = .returned (cv (joinM m v m' v') (v &&& joinM m v m' v')) ∧ Below w.heap.size w w' := by
  have HC := fun w => clash_any m v m' v' w
  have HT := fun w => tidy_any (joinM m v m' v') v w
  have hj : bits .andNot .u8 (bits .and .u8 (m.toNat : Int) (m'.toNat : Int)) ((clashB m v m' v').toNat : Int) = ((joinM m v m' v').toNat : Int) := by
    rw [and8, less8]; rfl
  unfold cv bvv at *
  generalize joinM m v m' v' = J at *
  generalize clashB m v m' v' = C at *
  go_enter Try.func58, Try.ntmps58
  go_wp2_with fail
  generalize hW : ((w.alloc (Obj.cells #[Value.int IntKind.u8 m.toNat, Value.int IntKind.u8 v.toNat] 26)).alloc (Obj.cells #[Value.int IntKind.u8 m'.toNat, Value.int IntKind.u8 v'.toNat] 26)).alloc (Obj.cells #[Value.int IntKind.u8 0, Value.int IntKind.u8 0] 26) = W
  obtain ⟨a0, a1, -⟩ := box2 (by rw [← hW]; exact heap_alloc3_a _ _ _ _ : W.heap[w.heap.size]? = _) rfl
  obtain ⟨b0, b1, -⟩ := box2 (by rw [← hW]; exact heap_alloc3_b _ _ _ _ : W.heap[w.heap.size + 1]? = _) rfl
  obtain ⟨c0, c1, cf⟩ := box2 (by rw [← hW]; exact heap_alloc3_c _ _ _ _ : W.heap[w.heap.size + 2]? = _) rfl
  have hB : Below w.heap.size w W := by rw [← hW]; exact below_alloc3 _ _ _ _
  clear hW
  refine wp_region_after_tail 13 (by kernel_rfl) (by kernel_rfl) ?_
  simp only [List.take_succ_cons, List.take_zero, List.drop_succ_cons, List.drop_zero]
  repeat (first | go_big_quiet_step ((first | (go_at_call 76; exact Calls.after_of (HC _)) | (go_at_call 59; exact Calls.after_of (HT _)))))
  refine wpQuiet_nil ?_
  intro x
  go_wp2
  exact bodyPost_ret (v := .agg #[.int .u8 J.toNat, .int .u8 (v &&& J).toNat]) (by simp [results, Try.results58, go_sem, c0, c1]) rfl
    ⟨rfl, ((hB.trans (x.2.mono hB.size)).setCell (le2 w) _).setCell (le2 w) _⟩
theorem toNat_ne {a b : BitVec 8} (h : ¬ a = b) : ¬ ((a.toNat : Int) = (b.toNat : Int)) := fun e => h (BitVec.eq_of_toNat_eq (by exact_mod_cast e))
theorem holds_any (m v m' v' : BitVec 8) (w : World) :
    Calls Try.prog 32 #[cv m v, cv m' v'] w fun e w' => e = .returned (.bool (holdsB m v m' v')) ∧ Below w.heap.size w w' := by
  have HJ := fun w => join_any m v m' v' w
  have HT := fun w => tidy_any m v w
  have hd : holdsB m v m' v' = decide (joinM m v m' v' = m) := rfl
  rw [hd]
  clear hd
  unfold cv bvv at *
  generalize joinM m v m' v' = J at *
  by_cases h : J = m
  · subst h
    rw [decide_eq_true rfl]
    go_enter Try.func32, Try.ntmps32
    go_wp2_with fail
    generalize hW : (w.alloc (Obj.cells #[Value.int IntKind.u8 J.toNat, Value.int IntKind.u8 v.toNat] 26)).alloc (Obj.cells #[Value.int IntKind.u8 m'.toNat, Value.int IntKind.u8 v'.toNat] 26) = W
    obtain ⟨a0, a1, -⟩ := box2 (by rw [← hW]; exact heap_alloc2_old _ _ _ : W.heap[w.heap.size]? = _) rfl
    obtain ⟨b0, b1, -⟩ := box2 (by rw [← hW]; exact heap_alloc2_new _ _ _ : W.heap[w.heap.size + 1]? = _) rfl
    have hB : Below w.heap.size w W := by rw [← hW]; exact below_alloc2 _ _ _
    clear hW
    refine wp_region_after (by kernel_rfl) (by kernel_rfl) ?_
    repeat (first | go_big_quiet_step ((first | (go_at_call 58; exact Calls.after_of (HJ _)) | (go_at_call 59; exact Calls.after_of (HT _)))))
    refine wpQuiet_nil ?_
    intro x
    go_wp2
    go_ret
    exact ⟨rfl, hB.trans (x.2.mono hB.size)⟩
  · have hn := toNat_ne h
    rw [decide_eq_false h]
    clear h
    go_enter Try.func32, Try.ntmps32
    go_wp2_with fail
    generalize hW : (w.alloc (Obj.cells #[Value.int IntKind.u8 m.toNat, Value.int IntKind.u8 v.toNat] 26)).alloc (Obj.cells #[Value.int IntKind.u8 m'.toNat, Value.int IntKind.u8 v'.toNat] 26) = W
    obtain ⟨a0, a1, -⟩ := box2 (by rw [← hW]; exact heap_alloc2_old _ _ _ : W.heap[w.heap.size]? = _) rfl
    obtain ⟨b0, b1, -⟩ := box2 (by rw [← hW]; exact heap_alloc2_new _ _ _ : W.heap[w.heap.size + 1]? = _) rfl
    have hB : Below w.heap.size w W := by rw [← hW]; exact below_alloc2 _ _ _
    clear hW
    refine wp_region_after (by kernel_rfl) (by kernel_rfl) ?_
    repeat (first | go_big_quiet_step ((first | (go_at_call 58; exact Calls.after_of (HJ _)) | (go_at_call 59; exact Calls.after_of (HT _)))))
    refine wpQuiet_nil ?_
    intro x
    go_wp2
    go_ret
    exact ⟨rfl, hB.trans (x.2.mono hB.size)⟩
abbrev cb (m v : BitVec 8) : Obj := .cells #[Value.int IntKind.u8 m.toNat, Value.int IntKind.u8 v.toNat] 26
abbrev cb0 : Obj := .cells #[Value.int IntKind.u8 0, Value.int IntKind.u8 0] 26
theorem szI_succ (m : BitVec 8) (k : Nat) : (szK m k : Int) + bitI m k = (szK m (k + 1) : Nat) := by
  rw [szK_succ]; unfold bitI; split <;> simp
end Go.Proofs.Ytmgggennbnbjkaa
namespace Go.Proofs.Ytmgggennbnbjkaa
open Go.RowKit Go.Joins

theorem right_low (m v : BitVec 8) (n : Int) (h : n < 0) (w : World) :
    Calls Try.prog 73 #[cv m v, .int .i64 n] w fun e w' => e = .returned (.bool false) ∧ Below w.heap.size w w' := by
  unfold cv bvv
  have h1 : decide (0 ≤ n) = false := decide_eq_false (by omega)
  go_enter Try.func73, Try.ntmps73
  go_wp2_with fail
  refine wp_region_after (by kernel_rfl) (by kernel_rfl) ?_
  repeat (first | go_big_quiet_step (fail))
  refine wpQuiet_nil ?_
  intro x
  go_wp2
  go_ret
  exact ⟨rfl, (below_alloc1 w _).trans (x.2.mono (by simp))⟩
theorem right_high (m v : BitVec 8) (n : Int) (h : 8 < n) (w : World) :
    Calls Try.prog 73 #[cv m v, .int .i64 n] w fun e w' => e = .returned (.bool false) ∧ Below w.heap.size w w' := by
  unfold cv bvv
  have h1 : decide (0 ≤ n) = true := decide_eq_true (by omega)
  have h2 : decide (n ≤ 8) = false := decide_eq_false (by omega)
  go_enter Try.func73, Try.ntmps73
  go_wp2_with fail
  refine wp_region_after (by kernel_rfl) (by kernel_rfl) ?_
  repeat (first | go_big_quiet_step (fail))
  refine wpQuiet_nil ?_
  intro x
  go_wp2
  go_ret
  exact ⟨rfl, (below_alloc1 w _).trans (x.2.mono (by simp))⟩
theorem right_mid (m v : BitVec 8) (n : Nat) (h : n ≤ 8) (w : World) :
    Calls Try.prog 73 #[cv m v, .int .i64 n] w fun e w' => e = .returned (.bool (rightB m v n)) ∧ Below w.heap.size w w' := by
  have HT := fun w => tidy_any m v w
  have hr : rightB m v n = (decide (m.toNat / 2 ^ n = 0) && decide (v &&& m = v)) := by
    unfold rightB
    have e1 : (0 : Int) ≤ n := by omega
    have e2 : (n : Int) ≤ 8 := by omega
    simp [e1, e2]
  rw [hr]
  clear hr
  have hq : (m.toNat : Int) / 2 ^ n = ((m.toNat / 2 ^ n : Nat) : Int) := by rw [Int.natCast_ediv]; simp
  have h1 : decide (0 ≤ (n : Int)) = true := decide_eq_true (by omega)
  have h2 : decide ((n : Int) ≤ 8) = true := decide_eq_true (by omega)
  by_cases hz : m.toNat / 2 ^ n = 0
  · have hz2 : (m.toNat : Int) / 2 ^ n = 0 := by rw [hq, hz]; rfl
    rw [decide_eq_true hz]
    clear hq hz
    unfold cv bvv at *
    by_cases hv : v &&& m = v
    · rw [hv] at HT
      rw [decide_eq_true hv]
      clear hv
      go_enter Try.func73, Try.ntmps73
      go_wp2_with fail
      generalize hW : w.alloc (cb m v) = W
      obtain ⟨a0, a1, -⟩ := box2 (by rw [← hW]; exact heap_alloc_new _ _ : W.heap[w.heap.size]? = _) rfl
      have hB : Below w.heap.size w W := by rw [← hW]; exact below_alloc1 _ _
      clear hW
      refine wp_region_after (by kernel_rfl) (by kernel_rfl) ?_
      repeat (first | go_big_quiet_step ((go_at_call 59; exact Calls.after_of (HT _))))
      refine wpQuiet_nil ?_
      intro x
      go_wp2
      go_ret
      exact ⟨rfl, hB.trans (x.2.mono hB.size)⟩
    · have hn := toNat_ne (fun e => hv e.symm)
      rw [decide_eq_false hv]
      clear hv
      generalize v &&& m = t at *
      go_enter Try.func73, Try.ntmps73
      go_wp2_with fail
      generalize hW : w.alloc (cb m v) = W
      obtain ⟨a0, a1, -⟩ := box2 (by rw [← hW]; exact heap_alloc_new _ _ : W.heap[w.heap.size]? = _) rfl
      have hB : Below w.heap.size w W := by rw [← hW]; exact below_alloc1 _ _
      clear hW
      refine wp_region_after (by kernel_rfl) (by kernel_rfl) ?_
      repeat (first | go_big_quiet_step ((go_at_call 59; exact Calls.after_of (HT _))))
      refine wpQuiet_nil ?_
      intro x
      go_wp2
      go_ret
      exact ⟨rfl, hB.trans (x.2.mono hB.size)⟩
  · have hz2 : ((m.toNat : Int) / 2 ^ n == 0) = false := by
      rw [hq, beq_eq_false_iff_ne]
      exact fun e => hz (by exact_mod_cast e)
    rw [decide_eq_false hz, Bool.false_and]
    clear hq hz HT
    unfold cv bvv at *
    go_enter Try.func73, Try.ntmps73
    go_wp2_with fail
    generalize hW : w.alloc (cb m v) = W
    obtain ⟨a0, a1, -⟩ := box2 (by rw [← hW]; exact heap_alloc_new _ _ : W.heap[w.heap.size]? = _) rfl
    have hB : Below w.heap.size w W := by rw [← hW]; exact below_alloc1 _ _
    clear hW
    refine wp_region_after (by kernel_rfl) (by kernel_rfl) ?_
    repeat (first | go_big_quiet_step (fail))
    refine wpQuiet_nil ?_
    intro x
    go_wp2
    go_ret
    exact ⟨rfl, hB.trans (x.2.mono hB.size)⟩
theorem right_any (m v : BitVec 8) (n : Int) (w : World) :
    Calls Try.prog 73 #[cv m v, .int .i64 n] w fun e w' => e = .returned (.bool (rightB m v n)) ∧ Below w.heap.size w w' := by
  by_cases h0 : n < 0
  · have e : rightB m v n = false := by unfold rightB; exact decide_eq_false (by omega)
    rw [e]; exact right_low m v n h0 w
  · by_cases h8 : 8 < n
    · have e : rightB m v n = false := by unfold rightB; exact decide_eq_false (by omega)
      rw [e]; exact right_high m v n h8 w
    · obtain ⟨k, rfl⟩ := Int.eq_ofNat_of_zero_le (show 0 ≤ n by omega)
      exact right_mid m v k (by omega) w
theorem right_yes {m v : BitVec 8} {n : Int} (h : rightB m v n = true) (w : World) :
    Calls Try.prog 73 #[cv m v, .int .i64 n] w fun e w' => e = .returned (.bool true) ∧ Below w.heap.size w w' := by
  have := right_any m v n w; rwa [h] at this
theorem right_no {m v : BitVec 8} {n : Int} (h : rightB m v n = false) (w : World) :
    Calls Try.prog 73 #[cv m v, .int .i64 n] w fun e w' => e = .returned (.bool false) ∧ Below w.heap.size w w' := by
  have := right_any m v n w; rwa [h] at this
theorem cpoints_no {m v : BitVec 8} {n : Int} (h : rightB m v n = false) (w : World) :
    Calls Try.prog 57 #[cv m v, .int .i64 n] w fun e w' => e = .returned (.tuple #[sv 0, .int .i64 1]) ∧ Below w.heap.size w w' := by
  have HR := fun w => right_no h w
  unfold cv bvv at *
  clear h
  go_enter Try.func57, Try.ntmps57
  go_wp2_with fail
  refine (HR _).mono ?_
  rintro e w1 ⟨rfl, hb1⟩
  have hB : Below w.heap.size w w1 := (below_alloc2 w _ _).trans (hb1.mono (by simp; omega))
  obtain ⟨c0, c1, c2, c3, cf⟩ := now4 (keep_blk hb1 (heap_alloc2_new _ _ _) : w1.heap[w.heap.size + 1]? = _) rfl
  clear hb1
  go_wp2
  exact bodyPost_ret (v := .tuple #[.agg #[.int .u64 0, .int .u64 0, .int .u64 0, .int .u64 0], .int .i64 1]) (by simp [results, Try.results57, go_sem, c0, c1, c2, c3]) rfl
    ⟨rfl, (((hB.setCell (le1 w) _).setCell (le1 w) _).setCell (le1 w) _).setCell (le1 w) _⟩
theorem cpts_zero (m v : BitVec 8) (n : Nat) : cpts m v n 0 = allB n := by
  unfold cpts allB; congr 1; funext p; simp [fits]
theorem cpts_step (m v : BitVec 8) (n k : Nat) (hn : n ≤ 8) (hk : k < 8) (hm : m.getLsbD k = true) : halfB (cpts m v n k) k (v.getLsbD k) = cpts m v n (k + 1) := by
  apply BitVec.eq_of_getLsbD_eq
  intro p hp
  have h : 0 ≤ (k : Int) ∧ (k : Int) < 8 := by omega
  have ho : (onesB k).getLsbD p = p.testBit k := by unfold onesB; rw [bvOf_bit]; simp [hp]
  unfold halfB
  rw [if_pos h, cpts_bit _ _ _ _ _ hn, fits, hm]
  cases hv : v.getLsbD k <;> simp only [Int.toNat_natCast, if_true, Bool.false_eq_true, if_false, BitVec.getLsbD_and, BitVec.getLsbD_not, ho, hp, decide_true, Bool.true_and, cpts_bit _ _ _ _ _ hn, Bool.not_true, Bool.false_or, Bool.and_assoc]
  · cases p.testBit k <;> simp
  · cases p.testBit k <;> simp
theorem cpts_skip (m v : BitVec 8) (n k : Nat) (hm : m.getLsbD k = false) : cpts m v n (k + 1) = cpts m v n k := by
  unfold cpts; congr 1; funext p; rw [fits, hm]; simp
end Go.Proofs.Ytmgggennbnbjkaa
namespace Go.Proofs.Ytmgggennbnbjkaa
open Go.RowKit Go.Joins

/-- The byte of a literal. -/
def litC (x : Nat) : UInt8 := if x = 2 then 45 else if x = 1 then 49 else 48
/-- The text of the first n inputs. -/
def txtL (m v : BitVec 8) (n : Nat) : List UInt8 := (List.range n).map fun i => litC (lit m v i)
theorem txtL_succ (m v : BitVec 8) (n : Nat) : txtL m v (n + 1) = txtL m v n ++ [litC (lit m v n)] := by
  unfold txtL; rw [List.range_succ, List.map_append]; rfl
theorem txtL_len (m v : BitVec 8) (n : Nat) : (txtL m v n).length = n := by simp [txtL]
def str (l : List UInt8) : ByteArray := ⟨l.toArray⟩
def byteV (l : List UInt8) : List Value := l.map fun c => .int .u8 (c.toNat : Int)
theorem byteV_len (l : List UInt8) : (byteV l).length = l.length := by simp [byteV]
theorem Try.infoU8 : (Try.prog.info? 5).map (fun i => (i.zero, i.size, i.bytes)) = some (some (.int .u8 0), 1, 1) := by kernel_rfl
end Go.Proofs.Ytmgggennbnbjkaa
namespace Go.Proofs.Ytmgggennbnbjkaa
open Go.RowKit Go.Joins

/-- Is a byte a literal's? -/
def okC (c : UInt8) : Bool := c == 48 || c == 49 || c == 45
/-- The literal of a byte. -/
def litOf (c : UInt8) : Nat := if c = 48 then 0 else if c = 49 then 1 else 2
/-- The literal of byte i of a text. -/
def gS (s : ByteArray) (i : Nat) : Nat := litOf (s.data.toList.getD i 0)
def okTo (s : ByteArray) (k : Nat) : Prop := ∀ i (h : i < s.size), i < k → okC s[i] = true
def okT (s : ByteArray) : Bool := decide (s.size ≤ 8) && s.data.toList.all okC
/-- What a text is parsed to. -/
def pM (s : ByteArray) : BitVec 8 := if okT s then mB (gS s) s.size else 0
def pV (s : ByteArray) : BitVec 8 := if okT s then vB (gS s) s.size else 0
def pE (s : ByteArray) : Int := if okT s then 0 else 2
theorem gS_at (s : ByteArray) (k : Nat) (h : k < s.size) : gS s k = litOf s[k] := by
  unfold gS
  have e : s.data.toList.getD k 0 = s[k] := by simp [List.getD, h]; rfl
  rw [e]
theorem okT_yes {s : ByteArray} (h8 : s.size ≤ 8) (h : okTo s s.size) : okT s = true := by
  unfold okT
  simp only [h8, decide_true, Bool.true_and, List.all_eq_true]
  intro c hc
  obtain ⟨i, hi, rfl⟩ := List.mem_iff_getElem.1 hc
  have hi' : i < s.size := by simpa using hi
  exact h i hi' hi'
theorem okT_bad {s : ByteArray} {k : Nat} (hk : k < s.size) (h : okC s[k] = false) : okT s = false := by
  unfold okT
  rw [Bool.and_eq_false_iff]
  right
  rw [List.all_eq_false]
  refine ⟨s[k], ?_, by rw [h]; simp⟩
  exact List.mem_iff_getElem.2 ⟨k, by simpa using hk, rfl⟩
theorem okT_long {s : ByteArray} (h : 8 < s.size) : okT s = false := by
  unfold okT
  have : ¬ s.size ≤ 8 := by omega
  simp [this]
theorem mB_zero (g : Nat → Nat) : mB g 0 = 0 := rfl
theorem vB_zero (g : Nat → Nat) : vB g 0 = 0 := rfl
theorem twoPow8 (k : Nat) (hk : k < 8) : (BitVec.twoPow 8 k).toNat = 2 ^ k := BitVec.toNat_twoPow_of_lt hk
theorem mB_succ (g : Nat → Nat) (k : Nat) (h : g k < 2) : mB g (k + 1) = mB g k ||| BitVec.twoPow 8 k := by
  apply BitVec.eq_of_getLsbD_eq
  intro i hi
  rw [BitVec.getLsbD_or, mB_bit, mB_bit, BitVec.getLsbD_twoPow]
  by_cases e : i = k
  · subst e; simp [hi, h]
  · have a : (i < k + 1) ↔ (i < k) := by omega
    have b : ¬ k = i := fun x => e x.symm
    simp [a, b, hi]
theorem mB_same (g : Nat → Nat) (k : Nat) (h : ¬ g k < 2) : mB g (k + 1) = mB g k := by
  apply BitVec.eq_of_getLsbD_eq
  intro i hi
  rw [mB_bit, mB_bit]
  by_cases e : i = k
  · subst e; simp [h]
  · have a : (i < k + 1) ↔ (i < k) := by omega
    simp [a]
theorem vB_succ (g : Nat → Nat) (k : Nat) (h : g k = 1) : vB g (k + 1) = vB g k ||| BitVec.twoPow 8 k := by
  apply BitVec.eq_of_getLsbD_eq
  intro i hi
  rw [BitVec.getLsbD_or, vB_bit, vB_bit, BitVec.getLsbD_twoPow]
  by_cases e : i = k
  · subst e; simp [hi, h]
  · have a : (i < k + 1) ↔ (i < k) := by omega
    have b : ¬ k = i := fun x => e x.symm
    simp [a, b, hi]
theorem vB_same (g : Nat → Nat) (k : Nat) (h : ¬ g k = 1) : vB g (k + 1) = vB g k := by
  apply BitVec.eq_of_getLsbD_eq
  intro i hi
  rw [vB_bit, vB_bit]
  by_cases e : i = k
  · subst e; simp [h]
  · have a : (i < k + 1) ↔ (i < k) := by omega
    simp [a]
/-- What holds at the loop's head. -/
structure PInv (s : ByteArray) (w wr : World) (k : Nat) : Prop where
  it : wr.heap[w.heap.size + 2]? = some (.stringIter s k)
  box : wr.heap[w.heap.size + 1]? = some (cb (mB (gS s) k) (vB (gS s) k))
  res : wr.heap[w.heap.size]? = some cb0
  below : Below w.heap.size w wr
  ok : okTo s k
/-- The next byte is read. -/
structure PMid (s : ByteArray) (w wr : World) (k : Nat) (m v : BitVec 8) : Prop where
  it : wr.heap[w.heap.size + 2]? = some (.stringIter s (k + 1))
  box : wr.heap[w.heap.size + 1]? = some (cb m v)
  res : wr.heap[w.heap.size]? = some cb0
  below : Below w.heap.size w wr
  ok : okTo s (k + 1)
theorem PInv.next {s : ByteArray} {w wr : World} {k : Nat} (I : PInv s w wr k) (h : k < s.size) (hc : okC s[k] = true) : PMid s w (wr.iterAt (w.heap.size + 2) s (k + 1)) k (mB (gS s) k) (vB (gS s) k) :=
  ⟨Lib.iterAt_heap _ _ _ _ _ I.it, (Lib.iterAt_other _ _ _ _ _ (by omega)).trans I.box, (Lib.iterAt_other _ _ _ _ _ (by omega)).trans I.res, Lib.below_iterAt I.below (by omega) _ _,
    fun i hi hk => by
      by_cases e : i = k
      · subst e; exact hc
      · exact I.ok i hi (by omega)⟩
theorem or_one (x : BitVec 8) (k : Nat) (hk : k < 8) : bits .or .u8 (x.toNat : Int) (2 ^ k % 256) = ((x ||| BitVec.twoPow 8 k).toNat : Int) := by
  have h : (2 : Int) ^ k % 256 = ((BitVec.twoPow 8 k).toNat : Int) := by
    rw [twoPow8 k hk]
    have : 2 ^ k < 256 := Nat.pow_lt_pow_right (n := 8) (by decide) hk
    have e : ((2 ^ k : Nat) : Int) = 2 ^ k := by simp
    rw [← e]
    clear e
    generalize 2 ^ k = q at *
    omega
  rw [h, or8]
theorem PMid.mask {s : ByteArray} {w wx : World} {k : Nat} {m v : BitVec 8} (J : PMid s w wx k m v) (hk : k < 8) (x : After wx) :
    PMid s w (x.1.setCell ⟨w.heap.size + 1, 0, none⟩ (.int .u8 (bits .or .u8 (m.toNat : Int) (2 ^ k % 256)))) k (m ||| BitVec.twoPow 8 k) v := by
  rw [or_one m k hk]
  refine ⟨keep_set (by simp) (After.same x J.it), ?_, keep_set (by simp) (After.same x J.res), (J.below.trans (x.2.mono J.below.size)).setCell (by simp) _, J.ok⟩
  rw [block_setCell (After.same x J.box)]; rfl
theorem PMid.val {s : ByteArray} {w wx : World} {k : Nat} {m v : BitVec 8} (J : PMid s w wx k m v) (hk : k < 8) (x : After wx) :
    PMid s w (x.1.setCell ⟨w.heap.size + 1, 1, none⟩ (.int .u8 (bits .or .u8 (v.toNat : Int) (2 ^ k % 256)))) k m (v ||| BitVec.twoPow 8 k) := by
  rw [or_one v k hk]
  refine ⟨keep_set (by simp) (After.same x J.it), ?_, keep_set (by simp) (After.same x J.res), (J.below.trans (x.2.mono J.below.size)).setCell (by simp) _, J.ok⟩
  rw [block_setCell (After.same x J.box)]; rfl
theorem PMid.done {s : ByteArray} {w wx : World} {k : Nat} {m v : BitVec 8} (J : PMid s w wx k m v) (hm : mB (gS s) (k + 1) = m) (hv : vB (gS s) (k + 1) = v) : PInv s w wx (k + 1) :=
  ⟨J.it, by rw [hm, hv]; exact J.box, J.res, J.below, J.ok⟩
theorem PMid.left {s : ByteArray} {w wx : World} {k : Nat} {m v : BitVec 8} (J : PMid s w wx k m v) : wx.iterPos (w.heap.size + 2) = k + 1 := by
  simp [World.iterPos, J.it]
theorem PInv.left {s : ByteArray} {w wx : World} {k : Nat} (J : PInv s w wx k) : wx.iterPos (w.heap.size + 2) = k := by
  simp [World.iterPos, J.it]
end Go.Proofs.Ytmgggennbnbjkaa
