/- The statement SetBoth, walked. The statement SetPoints, walked: its pieces. Plain mathematics on cubes, told as two numbers of 8 bits: their literals, their points, their texts; no program is spoken of. What each function of the package cube answers, for every input; nothing that was there before a call turns. What Right and Points of the package cube answer, for every input. What Text of the package cube answers, for every input. What Parse of the package cube answers, for every text. -/
import Derived.Test.YtehpccanjlaokaaGreatGQ04
import Derived.Test.YtehpccanjlaokaaGreatGQ01
import Derived.Test.YtehpccanjlaokaaGreatGQ03
import Derived.Deep.RegionHeld3
import Derived.Deep.DeepCutAuto
import Derived.WalkKit
import Derived.Laws.BitsAllLaws
import Derived.Lib.SlBytesRow
import Derived.Lib.OthersKept
namespace Go.Proofs.YtehpccanjlaokaaGreat
open Go.RowKit Go.Joins

/-- 256 flags in a block. -/
def flagsA (g : Nat → Bool) : Array Value := (boolsV g).toArray
theorem flagsA_get (g : Nat → Bool) (p : Nat) (h : p < 256) : (flagsA g)[p]? = some (.bool (g p)) := by unfold flagsA; simpa using boolsV_get g p h
theorem flagsA_set (g g' : Nat → Bool) (q : Nat) (u : Bool) (hq : g' q = u) (hne : ∀ p, p ≠ q → g' p = g p) : (flagsA g).setIfInBounds q (.bool u) = flagsA g' := by
  unfold flagsA
  rw [List.setIfInBounds_toArray, boolsV_set g g' q u hq hne]
theorem flagsA_made : madeCells #[Value.bool false] 256 = flagsA (fun _ => false) := by
  unfold flagsA
  rw [← boolsV_made]
theorem make256 (w : World) : (Instr.makeSlice 53 (.int .i64 256) (.int .i64 256)).run Tryz.prog w = .ok (.slice (some ⟨w.heap.size, 0, none⟩) 256 256) (w.alloc (.cells (flagsA (fun _ => false)) 4)) := by
  obtain ⟨ib, jb, kb0, kb1, kb2⟩ := info_parts Tryz.infoBool
  have h := run_makeSlice (P := Tryz.prog) w 53 4 ib (.bool false) Tryz.underlying53 jb kb0 .i64 .i64 256 256 (by decide) (by decide) (by rw [kb1]; decide) (by rw [kb2]; decide) (by decide)
  rw [kb1] at h
  rw [h, ← flagsA_made]
  rfl

theorem flags_any2 (S : BitVec 256) (w : World) :
    Calls Tryz.prog 40 #[sv S] w fun e w' => ∃ b cap : Nat, e = .returned (.slice (some ⟨b, 0, none⟩) 256 cap) ∧ w.heap.size ≤ b ∧ b < w'.heap.size ∧ (∀ p, p < 256 → w'.cell? ⟨b, p, none⟩ = some (.bool (S.getLsbD p))) ∧ Below w.heap.size w w' :=
  (flags_any S w).mono fun e w' ⟨v, he, hown, hb⟩ => by
    obtain ⟨b, cap, rfl, h1, h2, h3⟩ := flags_form hown
    exact ⟨b, cap, he, h1, h2, h3, hb⟩

theorem less_zero (S T : BitVec 256) : S &&& ~~~T = 0 ↔ ∀ p, p < 256 → (S.getLsbD p && !T.getLsbD p) = false := by
  constructor
  · intro h p hp
    have h1 := congrArg (fun x => x.getLsbD p) h
    simp only [BitVec.getLsbD_and, BitVec.getLsbD_not, hp, decide_true, Bool.true_and] at h1
    rw [h1]
    exact BitVec.getLsbD_zero
  · intro h
    apply BitVec.eq_of_getLsbD_eq
    intro p hp
    rw [BitVec.getLsbD_and, BitVec.getLsbD_not]
    have := h p hp
    simp only [hp, decide_true, Bool.true_and, this]
    exact BitVec.getLsbD_zero.symm
set_option maxHeartbeats 1000000 in
set_option maxRecDepth 1000000 in
theorem refwithin_any (S T : BitVec 256) (w : World) :
    Calls Tryz.prog 16 #[sv S, sv T] w fun e w' => e = .returned (.bool (decide (S &&& ~~~T = 0))) ∧ Below w.heap.size w w' := by
  have HF := fun w => flags_any2 S w
  have HG := fun w => flags_any2 T w
  unfold sv wv at *
  go_enter Tryz.func16, Tryz.ntmps16
  go_upto_region 1 with (fail)
  go_cut [5, 6] from 8 (fun s5 s6 wc => ∃ bx cx by' cy : Nat, s5 = .slice (some ⟨bx, 0, none⟩) 256 cx ∧ s6 = .slice (some ⟨by', 0, none⟩) 256 cy ∧ bx < wc.heap.size ∧ by' < wc.heap.size ∧ w.heap.size + 2 ≤ wc.heap.size ∧
    (∀ p, p < 256 → wc.cell? ⟨bx, p, none⟩ = some (.bool (S.getLsbD p))) ∧ (∀ p, p < 256 → wc.cell? ⟨by', p, none⟩ = some (.bool (T.getLsbD p))) ∧
    wc.heap[w.heap.size]? = some (.cells (sa S) 51 (0, 0)) ∧ wc.heap[w.heap.size + 1]? = some (.cells (sa T) 51 (0, 0)) ∧ Below w.heap.size w wc)
  case first =>
    go_region_with (first
      | (go_at_call_of 40 (Value.agg #[.int .u64 (wd S 0).toNat, .int .u64 (wd S 1).toNat, .int .u64 (wd S 2).toNat, .int .u64 (wd S 3).toNat]); refine (HF _).mono ?_; rintro e w1 ⟨b1, c1, rfl, hlo1, hhi1, hc1, hb1⟩; obtain ⟨hq1, hr1⟩ := bcell hb1; have hzz1 := hb1.size; try simp at hzz1 hlo1)
      | (go_at_call_of 40 (Value.agg #[.int .u64 (wd T 0).toNat, .int .u64 (wd T 1).toNat, .int .u64 (wd T 2).toNat, .int .u64 (wd T 3).toNat]); refine (HG _).mono ?_; rintro e w2 ⟨b2, c2, rfl, hlo2, hhi2, hc2, hb2⟩; obtain ⟨hq2, hr2⟩ := bcell hb2; have hzz2 := hb2.size; try simp at hzz2 hlo2))
    all_goals
      clear hq1 hr1 hq2 hr2
      go_wp2_with fail
      go_meet
      have hB : Below w.heap.size w w2 := by first | exact ((below_alloc2 w _ _).trans (hb1.mono (by simp; omega))).trans (hb2.mono (by omega)) | exact ((below_alloc2 w _ _).drew.trans (hb1.mono (by simp; omega))).trans (hb2.mono (by omega))
      refine ⟨b1, c1, b2, c2, rfl, rfl, by omega, by omega, by omega, fun p hp => ?_, hc2, ?_, ?_, hB⟩
      · rw [hb2.cell (p := ⟨b1, p, none⟩) (by exact hhi1)]; exact hc1 p hp
      · rw [hb2.block _ (by omega), hb1.block _ (by simp; omega)]; exact heap_alloc2_old _ _ _
      · rw [hb2.block _ (by omega), hb1.block _ (by simp)]; exact heap_alloc2_new _ _ _
  case rest =>
    obtain ⟨bx, cx, by', cy, rfl, rfl, hbx, hby, hsz, hX, hY, hbox1, hbox2, hB⟩ := hcut
    clear HF HG hbox1 hbox2
    go_wp2
    go_loop [7] (fun j => ∃ k : Nat, k ≤ 256 ∧ j = .int .i64 k ∧ ∀ p, p < k → (S.getLsbD p && !T.getLsbD p) = false) (fun j => 256 - (intOf j).toNat)
    case atStart => exact ⟨0, by omega, rfl, fun p hp => by omega⟩
    case round =>
      obtain ⟨k, hk, rfl, hall⟩ := hrel
      have hall2 := Lib.hid hall
      clear hall
      by_cases hlt : k < 256
      · have hx := hX k hlt
        have hy := hY k hlt
        clear hX hY
        have hz := Lib.hid (less_zero S T)
        cases hs : S.getLsbD k
        · rw [hs] at hx
          have hs2 := Lib.hid hs
          clear hs
          go_wp2
          go_round
          case rel =>
            refine ⟨k + 1, by omega, by go_num, fun p hp => ?_⟩
            by_cases e : p = k
            · subst e; rw [hs2.out]; rfl
            · exact hall2.out p (by omega)
          case measure => simp [intOf]; omega
        · rw [hs] at hx
          have hs2 := Lib.hid hs
          clear hs
          cases ht : T.getLsbD k
          · rw [ht] at hy
            have ht2 := Lib.hid ht
            clear ht
            go_wp2
            go_ret
            refine ⟨ret_bool (Eq.symm (decide_eq_false fun h => ?_)), hB⟩
            have := hz.out.1 h k hlt
            rw [hs2.out, ht2.out] at this
            simp at this
          · rw [ht] at hy
            have ht2 := Lib.hid ht
            clear ht
            go_wp2
            go_round
            case rel =>
              refine ⟨k + 1, by omega, by go_num, fun p hp => ?_⟩
              by_cases e : p = k
              · subst e; rw [ht2.out]; simp
              · exact hall2.out p (by omega)
            case measure => simp [intOf]; omega
      · have e : k = 256 := by omega
        subst e
        clear hX hY
        go_wp2
        go_ret
        exact ⟨ret_bool (Eq.symm (decide_eq_true ((less_zero S T).2 hall2.out))), hB⟩
end Go.Proofs.YtehpccanjlaokaaGreat
namespace Go.Proofs.YtehpccanjlaokaaGreat
open Go.RowKit Go.Joins

set_option maxHeartbeats 1000000 in
set_option maxRecDepth 1000000 in
theorem refall_blk (n : Nat) (hn : n ≤ 8) (w : World) :
    Calls Tryz.prog 18 #[.int .i64 n] w fun e w' => ∃ b : Nat, e = .returned (.slice (some ⟨b, 0, none⟩) 256 256) ∧ w.heap.size ≤ b ∧ w'.heap[b]? = some (.cells (flagsA (fun p => decide (p < 2 ^ n))) 4 (0, 0)) ∧ Below w.heap.size w w' := by
  have HP := power_any n (by omega)
  have hq : 2 ^ n ≤ 256 := Nat.pow_le_pow_right (n := 2) (by decide) hn
  rw [Nat.mod_eq_of_lt (by omega : 2 ^ n < 18446744073709551616)] at HP
  generalize 2 ^ n = q at HP hq ⊢
  have hmk := make256
  generalize hfa : flagsA (fun _ => false) = FA at hmk
  have hfa2 := Lib.hid hfa
  clear hfa
  go_enter Tryz.func18, Tryz.ntmps18
  go_wp2
  go_loopw [4] (fun i wr => ∃ k : Nat, k ≤ q ∧ i = .int .i64 k ∧ wr.heap[w.heap.size]? = some (.cells (flagsA (fun p => decide (p < k))) 4 (0, 0)) ∧ Below w.heap.size w wr) (fun i _ => q - (intOf i).toNat)
  case atStart => exact ⟨0, by omega, rfl, by rw [show (fun p => decide (p < 0)) = fun _ => false from funext fun p => by simp, hfa2.out]; exact heap_alloc_new _ _, below_alloc1 _ _⟩
  case round =>
    clear hfa2 hmk
    obtain ⟨k, hk, rfl, hblk, hb⟩ := hrel
    by_cases hlt : k < q
    · have hc := (cell_of_block hblk k).trans (flagsA_get _ k (by omega))
      have hf := unfrozen_of_block hblk k
      have hst : (flagsA (fun p => decide (p < k))).setIfInBounds k (.bool true) = flagsA (fun p => decide (p < k + 1)) := flagsA_set _ _ k true (by simp) (fun p hp => by
        by_cases h : p < k
        · have : p < k + 1 := by omega
          simp [h, this]
        · have : ¬ p < k + 1 := by omega
          simp [h, this])
      have hst2 := Lib.hid hst
      clear hst
      go_wp2_with (go_at_call 41; refine (HP _).mono ?_; rintro e w' ⟨rfl, rfl⟩)
      go_roundw
      case rel => exact ⟨k + 1, by omega, by go_num, by rw [block_setCell hblk, hst2.out], hb.setCell (Nat.le_refl _) _⟩
      case measure => simp [intOf]; omega
    · have e : k = q := by omega
      subst e
      go_wp2_with (go_at_call 41; refine (HP _).mono ?_; rintro e w' ⟨rfl, rfl⟩)
      go_ret
      exact ⟨_, rfl, Nat.le_refl _, hblk, hb⟩
theorem refall_any (n : Nat) (hn : n ≤ 8) (w : World) :
    Calls Tryz.prog 18 #[.int .i64 n] w fun e w' => ∃ b : Nat, e = .returned (.slice (some ⟨b, 0, none⟩) 256 256) ∧ w.heap.size ≤ b ∧ b < w'.heap.size ∧ (∀ p, p < 256 → w'.cell? ⟨b, p, none⟩ = some (.bool (decide (p < 2 ^ n)))) ∧ Below w.heap.size w w' := by
  refine (refall_blk n hn w).mono ?_
  rintro e w' ⟨b, rfl, hlo, hblk, hb⟩
  exact ⟨b, rfl, hlo, size_of_block hblk, fun p hp => by rw [cell_of_block hblk, flagsA_get _ p hp], hb⟩

def addB (S : BitVec 256) (p : Int) : BitVec 256 := if 0 ≤ p ∧ p < 256 then S ||| BitVec.twoPow 256 p.toNat else S
theorem withAny (S : BitVec 256) (p : Int) (w : World) :
    Calls Tryz.prog 143 #[sv S, .int .i64 p] w fun e w' => e = .returned (sv (addB S p)) ∧ Below w.heap.size w w' := by
  unfold addB
  by_cases h : 0 ≤ p ∧ p < 256
  · rw [if_pos h]
    obtain ⟨n, rfl⟩ := Int.eq_ofNat_of_zero_le h.1
    exact with_any S n (by omega) w
  · rw [if_neg h]
    exact with_no S p (by omega) w
end Go.Proofs.YtehpccanjlaokaaGreat
namespace Go.Proofs.YtehpccanjlaokaaGreat
open Go.RowKit

/-- A byte as the program holds it. -/
def bvv (x : BitVec 8) : Value := .int .u8 (x.toNat : Int)
/-- A cube as the program holds it. -/
def cv (m v : BitVec 8) : Value := .agg #[bvv m, bvv v]

/-- The literal of input i: 0, 1, or 2 for none. -/
def lit (m v : BitVec 8) (i : Nat) : Nat := if m.getLsbD i then (if v.getLsbD i then 1 else 0) else 2
theorem lit_le (m v : BitVec 8) (i : Nat) : lit m v i ≤ 2 := by unfold lit; split <;> (try split) <;> omega

/-- The cube of literals, those of the first k inputs. -/
def mB (g : Nat → Nat) (k : Nat) : BitVec 8 := BitVec.ofNat 8 (wsum (fun i => decide (g i < 2)) k)
def vB (g : Nat → Nat) (k : Nat) : BitVec 8 := BitVec.ofNat 8 (wsum (fun i => decide (g i = 1)) k)
theorem mB_bit (g : Nat → Nat) (k i : Nat) : (mB g k).getLsbD i = (decide (i < 8) && (decide (i < k) && decide (g i < 2))) := by
  unfold mB; rw [BitVec.getLsbD_ofNat, wsum_bit]
theorem vB_bit (g : Nat → Nat) (k i : Nat) : (vB g k).getLsbD i = (decide (i < 8) && (decide (i < k) && decide (g i = 1))) := by
  unfold vB; rw [BitVec.getLsbD_ofNat, wsum_bit]
theorem shr_zero (m : BitVec 8) (n : Nat) : m.toNat / 2 ^ n = 0 ↔ ∀ i, n ≤ i → m.getLsbD i = false := by
  constructor
  · intro h i hi
    have hlt : m.toNat < 2 ^ n := (Nat.div_eq_zero_iff_lt (Nat.two_pow_pos n)).1 h
    simp only [BitVec.getLsbD]
    exact Nat.testBit_lt_two_pow (Nat.lt_of_lt_of_le hlt (Nat.pow_le_pow_right (by decide) hi))
  · intro h
    rw [Nat.div_eq_zero_iff_lt (Nat.two_pow_pos n)]
    exact Nat.lt_pow_two_of_testBit _ fun i hi => h i hi
/-- Is a cube right, of n inputs? -/
def rightB (m v : BitVec 8) (n : Int) : Bool := decide (0 ≤ n ∧ n ≤ 8 ∧ m.toNat / 2 ^ n.toNat = 0 ∧ v &&& m = v)
theorem rightB_iff (m v : BitVec 8) (n : Int) : rightB m v n = true ↔ 0 ≤ n ∧ n ≤ 8 ∧ (∀ i, n.toNat ≤ i → m.getLsbD i = false) ∧ v &&& m = v := by
  unfold rightB; rw [decide_eq_true_iff, shr_zero]

/- POINTS. -/
/-- Has a point the literals of the first k inputs? -/
def fits (m v : BitVec 8) : Nat → Nat → Bool
  | 0, _ => true
  | k + 1, p => fits m v k p && (!m.getLsbD k || p.testBit k == v.getLsbD k)
theorem fits_iff (m v : BitVec 8) (k p : Nat) : fits m v k p = true ↔ ∀ i, i < k → m.getLsbD i = true → p.testBit i = v.getLsbD i := by
  induction k with
  | zero => simp [fits]
  | succ k ih =>
    rw [fits, Bool.and_eq_true, ih]
    constructor
    · rintro ⟨h1, h2⟩ i hi hm
      by_cases e : i = k
      · subst e; simpa [hm] using h2
      · exact h1 i (by omega) hm
    · intro h
      refine ⟨fun i hi hm => h i (by omega) hm, ?_⟩
      cases hm : m.getLsbD k
      · rfl
      · simpa using h k (by omega) hm
/-- The points of n inputs that have the literals of the first k. -/
def cpts (m v : BitVec 8) (n k : Nat) : BitVec 256 := bvOf fun p => decide (p < 2 ^ n) && fits m v k p
theorem cpts_bit (m v : BitVec 8) (n k p : Nat) (hn : n ≤ 8) : (cpts m v n k).getLsbD p = (decide (p < 2 ^ n) && fits m v k p) := by
  unfold cpts
  rw [bvOf_bit]
  have : 2 ^ n ≤ 256 := Nat.pow_le_pow_right (n := 2) (by decide) hn
  by_cases h : p < 2 ^ n
  · have : p < 256 := by omega
    simp [h, this]
  · simp [h]

/- WHAT TWO CUBES HAVE TO DO WITH ONE ANOTHER. -/
def clashB (m v m' v' : BitVec 8) : BitVec 8 := m &&& m' &&& (v ^^^ v')
theorem clashB_bit (m v m' v' : BitVec 8) (i : Nat) : (clashB m v m' v').getLsbD i = (m.getLsbD i && m'.getLsbD i && (v.getLsbD i ^^ v'.getLsbD i)) := by
  unfold clashB; rw [BitVec.getLsbD_and, BitVec.getLsbD_and, BitVec.getLsbD_xor]
def joinM (m v m' v' : BitVec 8) : BitVec 8 := m &&& m' &&& ~~~(clashB m v m' v')
theorem joinM_bit (m v m' v' : BitVec 8) (i : Nat) : (joinM m v m' v').getLsbD i = (m.getLsbD i && m'.getLsbD i && !(v.getLsbD i ^^ v'.getLsbD i)) := by
  unfold joinM
  rw [BitVec.getLsbD_and, BitVec.getLsbD_and, BitVec.getLsbD_not, clashB_bit]
  by_cases h : i < 8
  · cases m.getLsbD i <;> cases m'.getLsbD i <;> simp [h]
  · rw [BitVec.getLsbD_of_ge m i (by omega)]; simp
/-- Does the first hold the second? -/
def holdsB (m v m' v' : BitVec 8) : Bool := decide (joinM m v m' v' = m)
theorem holdsB_iff (m v m' v' : BitVec 8) : holdsB m v m' v' = true ↔ ∀ i, m.getLsbD i = true → m'.getLsbD i = true ∧ v.getLsbD i = v'.getLsbD i := by
  unfold holdsB
  rw [decide_eq_true_iff]
  constructor
  · intro h i hm
    have := joinM_bit m v m' v' i
    rw [h, hm] at this
    revert this
    cases m'.getLsbD i <;> cases v.getLsbD i <;> cases v'.getLsbD i <;> simp
  · intro h
    apply BitVec.eq_of_getLsbD_eq
    intro i hi
    rw [joinM_bit]
    cases hm : m.getLsbD i
    · simp
    · obtain ⟨h1, h2⟩ := h i hm
      rw [h1, h2]; simp
theorem lt_of_right {m v : BitVec 8} {n : Nat} (hm : ∀ i, n ≤ i → m.getLsbD i = false) (hv : v &&& m = v) : v.toNat < 2 ^ n := by
  refine Nat.lt_pow_two_of_testBit _ fun i hi => ?_
  have h := congrArg (fun x => x.getLsbD i) hv
  simp only [BitVec.getLsbD_and, hm i hi, Bool.and_false] at h
  exact h.symm
end Go.Proofs.YtehpccanjlaokaaGreat
namespace Go.Proofs.YtehpccanjlaokaaGreat
open Go.RowKit Go.Joins

theorem and8 (a b : BitVec 8) : bits .and .u8 (a.toNat : Int) (b.toNat : Int) = ((a &&& b).toNat : Int) := by
  rw [u8_and_nat _ _ a.isLt b.isLt, BitVec.toNat_and]
theorem or8 (a b : BitVec 8) : bits .or .u8 (a.toNat : Int) (b.toNat : Int) = ((a ||| b).toNat : Int) := by
  rw [u8_or_nat _ _ a.isLt b.isLt, BitVec.toNat_or]
theorem xor8 (a b : BitVec 8) : bits .xor .u8 (a.toNat : Int) (b.toNat : Int) = ((a ^^^ b).toNat : Int) := by
  rw [u8_xor_nat _ _ a.isLt b.isLt, BitVec.toNat_xor]
/-- A bit as a number. -/
def bitI (x : BitVec 8) (i : Nat) : Int := if x.getLsbD i then 1 else 0
theorem bitI_eq (x : BitVec 8) (i : Nat) : bits .and .u8 ((x.toNat : Int) / 2 ^ i) 1 = bitI x i := by
  have hn : (x.toNat : Int) / 2 ^ i = ((x.toNat / 2 ^ i : Nat) : Int) := by rw [Int.natCast_ediv]; simp
  have hl : x.toNat / 2 ^ i < 256 := Nat.lt_of_le_of_lt (Nat.div_le_self _ _) x.isLt
  rw [hn, show (1 : Int) = ((1 : Nat) : Int) from rfl, u8_and_nat _ _ hl (by decide), Nat.and_one_is_mod]
  unfold bitI
  have hb : x.getLsbD i = decide (x.toNat / 2 ^ i % 2 = 1) := by simp only [BitVec.getLsbD, Nat.testBit_eq_decide_div_mod_eq]
  rw [hb]
  by_cases h : x.toNat / 2 ^ i % 2 = 1
  · simp [h]
  · have h0 : x.toNat / 2 ^ i % 2 = 0 := by omega
    simp [h0]
theorem bit_any8 (x : BitVec 8) (i : Nat) (hi : i < 8) (w : World) :
    Calls Tryz.prog 127 #[bvv x, .int .i64 i] w fun e w' => e = .returned (.int .u8 (bitI x i)) ∧ w = w' := by
  have hb := Lib.hid (bitI_eq x i)
  unfold bvv
  go_enter Tryz.func127, Tryz.ntmps127
  go_wp2
  go_ret
  exact ⟨by rw [← hb.out]; rfl, rfl⟩
theorem bit_yes (x : BitVec 8) (i : Nat) (hi : i < 8) (h : x.getLsbD i = true) (w : World) :
    Calls Tryz.prog 127 #[bvv x, .int .i64 i] w fun e w' => e = .returned (.int .u8 1) ∧ w = w' := by
  have := bit_any8 x i hi w
  rwa [show bitI x i = 1 by unfold bitI; rw [if_pos h]] at this
theorem bit_no (x : BitVec 8) (i : Nat) (hi : i < 8) (h : x.getLsbD i = false) (w : World) :
    Calls Tryz.prog 127 #[bvv x, .int .i64 i] w fun e w' => e = .returned (.int .u8 0) ∧ w = w' := by
  have := bit_any8 x i hi w
  rwa [show bitI x i = 0 by unfold bitI; rw [if_neg (by rw [h]; simp)]] at this
theorem tidy_any (m v : BitVec 8) (w : World) :
    Calls Tryz.prog 125 #[cv m v] w fun e w' => e = .returned (cv m (v &&& m)) ∧ Below w.heap.size w w' := by
  have A := Lib.hid (and8 v m)
  unfold cv bvv
  go_enter Tryz.func125, Tryz.ntmps125
  go_wp2
  exact bodyPost_ret (v := .agg #[.int .u8 m.toNat, .int .u8 (bits .and .u8 v.toNat m.toNat)]) (by simp [results, Tryz.results125, go_sem]) rfl
    ⟨by rw [A.out], below_alloc2 _ _ _⟩
theorem toNat_ne {a b : BitVec 8} (h : ¬ a = b) : ¬ ((a.toNat : Int) = (b.toNat : Int)) := fun e => h (BitVec.eq_of_toNat_eq (by exact_mod_cast e))
abbrev cb (m v : BitVec 8) : Obj := .cells #[Value.int IntKind.u8 m.toNat, Value.int IntKind.u8 v.toNat] 57
abbrev cb0 : Obj := .cells #[Value.int IntKind.u8 0, Value.int IntKind.u8 0] 57
end Go.Proofs.YtehpccanjlaokaaGreat
namespace Go.Proofs.YtehpccanjlaokaaGreat
open Go.RowKit Go.Joins

theorem right_low (m v : BitVec 8) (n : Int) (h : n < 0) (w : World) :
    Calls Tryz.prog 126 #[cv m v, .int .i64 n] w fun e w' => e = .returned (.bool false) ∧ Below w.heap.size w w' := by
  unfold cv bvv
  have h1 : decide (0 ≤ n) = false := decide_eq_false (by omega)
  go_enter Tryz.func126, Tryz.ntmps126
  go_wp2_with fail
  refine wp_region_after (by kernel_rfl) (by kernel_rfl) ?_
  repeat (first | go_big_quiet_step (fail))
  refine wpQuiet_nil ?_
  intro x
  go_wp2
  go_ret
  exact ⟨rfl, (below_alloc1 w _).trans (x.2.mono (by simp))⟩
theorem right_high (m v : BitVec 8) (n : Int) (h : 8 < n) (w : World) :
    Calls Tryz.prog 126 #[cv m v, .int .i64 n] w fun e w' => e = .returned (.bool false) ∧ Below w.heap.size w w' := by
  unfold cv bvv
  have h1 : decide (0 ≤ n) = true := decide_eq_true (by omega)
  have h2 : decide (n ≤ 8) = false := decide_eq_false (by omega)
  go_enter Tryz.func126, Tryz.ntmps126
  go_wp2_with fail
  refine wp_region_after (by kernel_rfl) (by kernel_rfl) ?_
  repeat (first | go_big_quiet_step (fail))
  refine wpQuiet_nil ?_
  intro x
  go_wp2
  go_ret
  exact ⟨rfl, (below_alloc1 w _).trans (x.2.mono (by simp))⟩
theorem right_mid (m v : BitVec 8) (n : Nat) (h : n ≤ 8) (w : World) :
    Calls Tryz.prog 126 #[cv m v, .int .i64 n] w fun e w' => e = .returned (.bool (rightB m v n)) ∧ Below w.heap.size w w' := by
  have HT := fun w => tidy_any m v w
  have hr : rightB m v n = (decide (m.toNat / 2 ^ n = 0) && decide (v &&& m = v)) := by
    unfold rightB
    have e1 : (0 : Int) ≤ n := by omega
    have e2 : (n : Int) ≤ 8 := by omega
    simp [e1, e2]
  rw [hr]
  clear hr
  have hq : (m.toNat : Int) / 2 ^ n = ((m.toNat / 2 ^ n : Nat) : Int) := by rw [Int.natCast_ediv]; simp
  have h1 : decide (0 ≤ (n : Int)) = true := decide_eq_true (by omega)
  have h2 : decide ((n : Int) ≤ 8) = true := decide_eq_true (by omega)
  by_cases hz : m.toNat / 2 ^ n = 0
  · have hz2 : (m.toNat : Int) / 2 ^ n = 0 := by rw [hq, hz]; rfl
    rw [decide_eq_true hz]
    clear hq hz
    unfold cv bvv at *
    by_cases hv : v &&& m = v
    · rw [hv] at HT
      rw [decide_eq_true hv]
      clear hv
      go_enter Tryz.func126, Tryz.ntmps126
      go_wp2_with fail
      generalize hW : w.alloc (cb m v) = W
      obtain ⟨a0, a1, -⟩ := box2 (by rw [← hW]; exact heap_alloc_new _ _ : W.heap[w.heap.size]? = _) rfl
      have hB : Below w.heap.size w W := by rw [← hW]; exact below_alloc1 _ _
      clear hW
      refine wp_region_after (by kernel_rfl) (by kernel_rfl) ?_
      repeat (first | go_big_quiet_step ((go_at_call 125; exact Calls.after_of (HT _))))
      refine wpQuiet_nil ?_
      intro x
      go_wp2
      go_ret
      exact ⟨rfl, hB.trans (x.2.mono hB.size)⟩
    · have hn := toNat_ne (fun e => hv e.symm)
      rw [decide_eq_false hv]
      clear hv
      generalize v &&& m = t at *
      go_enter Tryz.func126, Tryz.ntmps126
      go_wp2_with fail
      generalize hW : w.alloc (cb m v) = W
      obtain ⟨a0, a1, -⟩ := box2 (by rw [← hW]; exact heap_alloc_new _ _ : W.heap[w.heap.size]? = _) rfl
      have hB : Below w.heap.size w W := by rw [← hW]; exact below_alloc1 _ _
      clear hW
      refine wp_region_after (by kernel_rfl) (by kernel_rfl) ?_
      repeat (first | go_big_quiet_step ((go_at_call 125; exact Calls.after_of (HT _))))
      refine wpQuiet_nil ?_
      intro x
      go_wp2
      go_ret
      exact ⟨rfl, hB.trans (x.2.mono hB.size)⟩
  · have hz2 : ((m.toNat : Int) / 2 ^ n == 0) = false := by
      rw [hq, beq_eq_false_iff_ne]
      exact fun e => hz (by exact_mod_cast e)
    rw [decide_eq_false hz, Bool.false_and]
    clear hq hz HT
    unfold cv bvv at *
    go_enter Tryz.func126, Tryz.ntmps126
    go_wp2_with fail
    generalize hW : w.alloc (cb m v) = W
    obtain ⟨a0, a1, -⟩ := box2 (by rw [← hW]; exact heap_alloc_new _ _ : W.heap[w.heap.size]? = _) rfl
    have hB : Below w.heap.size w W := by rw [← hW]; exact below_alloc1 _ _
    clear hW
    refine wp_region_after (by kernel_rfl) (by kernel_rfl) ?_
    repeat (first | go_big_quiet_step (fail))
    refine wpQuiet_nil ?_
    intro x
    go_wp2
    go_ret
    exact ⟨rfl, hB.trans (x.2.mono hB.size)⟩
theorem right_any (m v : BitVec 8) (n : Int) (w : World) :
    Calls Tryz.prog 126 #[cv m v, .int .i64 n] w fun e w' => e = .returned (.bool (rightB m v n)) ∧ Below w.heap.size w w' := by
  by_cases h0 : n < 0
  · have e : rightB m v n = false := by unfold rightB; exact decide_eq_false (by omega)
    rw [e]; exact right_low m v n h0 w
  · by_cases h8 : 8 < n
    · have e : rightB m v n = false := by unfold rightB; exact decide_eq_false (by omega)
      rw [e]; exact right_high m v n h8 w
    · obtain ⟨k, rfl⟩ := Int.eq_ofNat_of_zero_le (show 0 ≤ n by omega)
      exact right_mid m v k (by omega) w
theorem right_yes {m v : BitVec 8} {n : Int} (h : rightB m v n = true) (w : World) :
    Calls Tryz.prog 126 #[cv m v, .int .i64 n] w fun e w' => e = .returned (.bool true) ∧ Below w.heap.size w w' := by
  have := right_any m v n w; rwa [h] at this
theorem right_no {m v : BitVec 8} {n : Int} (h : rightB m v n = false) (w : World) :
    Calls Tryz.prog 126 #[cv m v, .int .i64 n] w fun e w' => e = .returned (.bool false) ∧ Below w.heap.size w w' := by
  have := right_any m v n w; rwa [h] at this
theorem cpoints_no {m v : BitVec 8} {n : Int} (h : rightB m v n = false) (w : World) :
    Calls Tryz.prog 94 #[cv m v, .int .i64 n] w fun e w' => e = .returned (.tuple #[sv 0, .int .i64 1]) ∧ Below w.heap.size w w' := by
  have HR := fun w => right_no h w
  unfold cv bvv at *
  clear h
  go_enter Tryz.func94, Tryz.ntmps94
  go_wp2_with fail
  refine (HR _).mono ?_
  rintro e w1 ⟨rfl, hb1⟩
  have hB : Below w.heap.size w w1 := (below_alloc2 w _ _).trans (hb1.mono (by simp; omega))
  obtain ⟨c0, c1, c2, c3, cf⟩ := now4 (keep_blk hb1 (heap_alloc2_new _ _ _) : w1.heap[w.heap.size + 1]? = _) rfl
  clear hb1
  go_wp2
  exact bodyPost_ret (v := .tuple #[.agg #[.int .u64 0, .int .u64 0, .int .u64 0, .int .u64 0], .int .i64 1]) (by simp [results, Tryz.results94, go_sem, c0, c1, c2, c3]) rfl
    ⟨rfl, (((hB.setCell (le1 w) _).setCell (le1 w) _).setCell (le1 w) _).setCell (le1 w) _⟩
theorem cpts_zero (m v : BitVec 8) (n : Nat) : cpts m v n 0 = allB n := by
  unfold cpts allB; congr 1; funext p; simp [fits]
theorem cpts_step (m v : BitVec 8) (n k : Nat) (hn : n ≤ 8) (hk : k < 8) (hm : m.getLsbD k = true) : halfB (cpts m v n k) k (v.getLsbD k) = cpts m v n (k + 1) := by
  apply BitVec.eq_of_getLsbD_eq
  intro p hp
  have h : 0 ≤ (k : Int) ∧ (k : Int) < 8 := by omega
  have ho : (onesB k).getLsbD p = p.testBit k := by unfold onesB; rw [bvOf_bit]; simp [hp]
  unfold halfB
  rw [if_pos h, cpts_bit _ _ _ _ _ hn, fits, hm]
  cases hv : v.getLsbD k <;> simp only [Int.toNat_natCast, if_true, Bool.false_eq_true, if_false, BitVec.getLsbD_and, BitVec.getLsbD_not, ho, hp, decide_true, Bool.true_and, cpts_bit _ _ _ _ _ hn, Bool.not_true, Bool.false_or, Bool.and_assoc]
  · cases p.testBit k <;> simp
  · cases p.testBit k <;> simp
theorem cpts_skip (m v : BitVec 8) (n k : Nat) (hm : m.getLsbD k = false) : cpts m v n (k + 1) = cpts m v n k := by
  unfold cpts; congr 1; funext p; rw [fits, hm]; simp
end Go.Proofs.YtehpccanjlaokaaGreat
namespace Go.Proofs.YtehpccanjlaokaaGreat
open Go.RowKit Go.Joins

end Go.Proofs.YtehpccanjlaokaaGreat
namespace Go.Proofs.YtehpccanjlaokaaGreat
open Go.RowKit Go.Joins

theorem twoPow8 (k : Nat) (hk : k < 8) : (BitVec.twoPow 8 k).toNat = 2 ^ k := BitVec.toNat_twoPow_of_lt hk
end Go.Proofs.YtehpccanjlaokaaGreat
