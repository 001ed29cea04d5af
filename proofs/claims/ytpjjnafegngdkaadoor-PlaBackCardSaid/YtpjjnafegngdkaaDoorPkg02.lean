/- What each function of the package cube answers, for every input; nothing that was there before a call turns. -/
import Derived.Test.YtpjjnafegngdkaaDoorSet2
import Derived.Test.YtpjjnafegngdkaaDoorTail
import Derived.Test.YtpjjnafegngdkaaDoorCube
import Derived.Laws.BitsAllLaws
namespace Go.Proofs.YtpjjnafegngdkaaDoor
open Go.RowKit Go.Joins

theorem and8 (a b : BitVec 8) : bits .and .u8 (a.toNat : Int) (b.toNat : Int) = ((a &&& b).toNat : Int) := by
  rw [u8_and_nat _ _ a.isLt b.isLt, BitVec.toNat_and]
theorem or8 (a b : BitVec 8) : bits .or .u8 (a.toNat : Int) (b.toNat : Int) = ((a ||| b).toNat : Int) := by
  rw [u8_or_nat _ _ a.isLt b.isLt, BitVec.toNat_or]
theorem xor8 (a b : BitVec 8) : bits .xor .u8 (a.toNat : Int) (b.toNat : Int) = ((a ^^^ b).toNat : Int) := by
  rw [u8_xor_nat _ _ a.isLt b.isLt, BitVec.toNat_xor]
theorem less8 (a b : BitVec 8) : bits .andNot .u8 (a.toNat : Int) (b.toNat : Int) = ((a &&& ~~~b).toNat : Int) := by
  rw [u8_andNot_nat _ _ a.isLt b.isLt, BitVec.toNat_and, BitVec.toNat_not]

/-- A bit as a number. -/
def bitI (x : BitVec 8) (i : Nat) : Int := if x.getLsbD i then 1 else 0
theorem bitI_eq (x : BitVec 8) (i : Nat) : bits .and .u8 ((x.toNat : Int) / 2 ^ i) 1 = bitI x i := by
  have hn : (x.toNat : Int) / 2 ^ i = ((x.toNat / 2 ^ i : Nat) : Int) := by rw [Int.natCast_ediv]; simp
  have hl : x.toNat / 2 ^ i < 256 := Nat.lt_of_le_of_lt (Nat.div_le_self _ _) x.isLt
  rw [hn, show (1 : Int) = ((1 : Nat) : Int) from rfl, u8_and_nat _ _ hl (by decide), Nat.and_one_is_mod]
  unfold bitI
  have hb : x.getLsbD i = decide (x.toNat / 2 ^ i % 2 = 1) := by simp only [BitVec.getLsbD, Nat.testBit_eq_decide_div_mod_eq]
  rw [hb]
  by_cases h : x.toNat / 2 ^ i % 2 = 1
  · simp [h]
  · have h0 : x.toNat / 2 ^ i % 2 = 0 := by omega
    simp [h0]
theorem bit_any8 (x : BitVec 8) (i : Nat) (hi : i < 8) (w : World) :
    Calls Tryd.prog 38 #[bvv x, .int .i64 i] w fun e w' => e = .returned (.int .u8 (bitI x i)) ∧ w = w' := by
  have hb := Lib.hid (bitI_eq x i)
  unfold bvv
  go_enter Tryd.func38, Tryd.ntmps38
  go_wp2
  go_ret
  exact ⟨by rw [← hb.out]; rfl, rfl⟩
theorem bit_yes (x : BitVec 8) (i : Nat) (hi : i < 8) (h : x.getLsbD i = true) (w : World) :
    Calls Tryd.prog 38 #[bvv x, .int .i64 i] w fun e w' => e = .returned (.int .u8 1) ∧ w = w' := by
  have := bit_any8 x i hi w
  rwa [show bitI x i = 1 by unfold bitI; rw [if_pos h]] at this
theorem bit_no (x : BitVec 8) (i : Nat) (hi : i < 8) (h : x.getLsbD i = false) (w : World) :
    Calls Tryd.prog 38 #[bvv x, .int .i64 i] w fun e w' => e = .returned (.int .u8 0) ∧ w = w' := by
  have := bit_any8 x i hi w
  rwa [show bitI x i = 0 by unfold bitI; rw [if_neg (by rw [h]; simp)]] at this
theorem tidy_any (m v : BitVec 8) (w : World) :
    Calls Tryd.prog 55 #[cv m v] w fun e w' => e = .returned (cv m (v &&& m)) ∧ Below w.heap.size w w' := by
  have A := Lib.hid (and8 v m)
  unfold cv bvv
  go_enter Tryd.func55, Tryd.ntmps55
  go_wp2
  exact bodyPost_ret (v := .agg #[.int .u8 m.toNat, .int .u8 (bits .and .u8 v.toNat m.toNat)]) (by simp [results, Tryd.results55, go_sem]) rfl
    ⟨by rw [A.out], below_alloc2 _ _ _⟩
/-- '==' of two cubes. -/
theorem eq_cube (m v m' v' : BitVec 8) (w : World) : (Op.equalIn 10000 36 (.agg #[.int .u8 m.toNat, .int .u8 v.toNat]) (.agg #[.int .u8 m'.toNat, .int .u8 v'.toNat])).run Tryd.prog w = .ok (decide (m = m' ∧ v = v')) w := by
  simp [go_sem]
  have e : ∀ a b : BitVec 8, ((a.toNat : Int) = (b.toNat : Int)) ↔ a = b := fun a b => ⟨fun h => BitVec.eq_of_toNat_eq (by exact_mod_cast h), fun h => by rw [h]⟩
  simp only [e]
  by_cases h1 : m = m' <;> by_cases h2 : v = v' <;> simp [h1, h2]
theorem toNat_ne {a b : BitVec 8} (h : ¬ a = b) : ¬ ((a.toNat : Int) = (b.toNat : Int)) := fun e => h (BitVec.eq_of_toNat_eq (by exact_mod_cast e))
abbrev cb (m v : BitVec 8) : Obj := .cells #[Value.int IntKind.u8 m.toNat, Value.int IntKind.u8 v.toNat] 36
abbrev cb0 : Obj := .cells #[Value.int IntKind.u8 0, Value.int IntKind.u8 0] 36
theorem szI_succ (m : BitVec 8) (k : Nat) : (szK m k : Int) + bitI m k = (szK m (k + 1) : Nat) := by
  rw [szK_succ]; unfold bitI; split <;> simp
end Go.Proofs.YtpjjnafegngdkaaDoor
