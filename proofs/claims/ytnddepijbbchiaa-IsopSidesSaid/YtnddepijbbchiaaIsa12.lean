/- Package isop: Side, both, points. -/
import Derived.Test.YtnddepijbbchiaaIsg12
import Derived.Test.YtnddepijbbchiaaPkg02c
namespace Go.Proofs.Ytnddepijbbchiaa
open Go.RowKit Go.Joins

theorem half_d12 {S : BitVec 256} {i p : Nat} (hi : i < 8) (b : Bool) (hp : p < 256) : (halfB S i b).getLsbD p = (S.getLsbD p && (p.testBit i == b)) := by
  have h := half_flags S i b hi
  rw [← h, bvOf_bit, gk_all _ _ _ _ hp]
  simp [hp]
/-- A set with, beside each of the first k points of H, the point beyond input i. -/
def sidK (H : BitVec 256) (i : Nat) : Nat → BitVec 256
  | 0 => H
  | k + 1 => match (pts H)[k]? with
    | none => sidK H i k
    | some p => addB (sidK H i k) ((p ^^^ 2 ^ i : Nat) : Int)
theorem sidK_some {H : BitVec 256} {i k p : Nat} (h : (pts H)[k]? = some p) : sidK H i (k + 1) = addB (sidK H i k) ((p ^^^ 2 ^ i : Nat) : Int) := by
  show (match (pts H)[k]? with | none => _ | some p => _) = _
  rw [h]
theorem addB_d12 (S : BitVec 256) {q p : Nat} (hq : q < 256) : (addB S (q : Int)).getLsbD p = (S.getLsbD p || decide (p = q)) := by
  unfold addB
  rw [if_pos (by omega), BitVec.getLsbD_or, BitVec.getLsbD_twoPow, Int.toNat_natCast, decide_eq_true hq, Bool.true_and]
  congr 1
  by_cases e : p = q
  · subst e; rfl
  · rw [decide_eq_false e, decide_eq_false (fun h => e h.symm)]
theorem xor_d12lt {p i : Nat} (hp : p < 256) (hi : i < 8) : p ^^^ 2 ^ i < 256 := Nat.xor_lt_two_pow (n := 8) hp (Nat.pow_lt_pow_right (by decide) hi)
theorem xor_d12back (p i : Nat) : (p ^^^ 2 ^ i) ^^^ 2 ^ i = p := by rw [Nat.xor_assoc, Nat.xor_self, Nat.xor_zero]
theorem xor_d12bit (p i : Nat) : (p ^^^ 2 ^ i).testBit i = !p.testBit i := by rw [Nat.testBit_xor, Nat.testBit_two_pow_self, Bool.xor_true]
theorem pts_mem12 (H : BitVec 256) (p : Nat) (hp : p < 256) (h : H.getLsbD p = true) : p ∈ pts H := by
  unfold pts
  exact List.mem_filter.2 ⟨List.mem_range.2 hp, h⟩
theorem sidK_bit (H : BitVec 256) (i : Nat) (hi : i < 8) (q : Nat) : ∀ k, k ≤ (pts H).length → ((sidK H i k).getLsbD q = true ↔ H.getLsbD q = true ∨ ∃ j p, j < k ∧ (pts H)[j]? = some p ∧ q = p ^^^ 2 ^ i)
  | 0, _ => by
    constructor
    · intro h; exact .inl h
    · rintro (h | ⟨j, p, h, -⟩)
      · exact h
      · omega
  | k + 1, hk => by
    have ih := sidK_bit H i hi q k (by omega)
    obtain ⟨x, hx⟩ : ∃ x, (pts H)[k]? = some x := ⟨_, List.getElem?_eq_getElem (by omega)⟩
    have hx2 := pts_lt H x (List.mem_of_getElem? hx)
    rw [sidK_some hx, addB_d12 _ (xor_d12lt hx2.1 hi), Bool.or_eq_true, ih, decide_eq_true_iff]
    constructor
    · rintro ((h | ⟨j, p, h1, h2, h3⟩) | h)
      · exact .inl h
      · exact .inr ⟨j, p, by omega, h2, h3⟩
      · exact .inr ⟨k, x, by omega, hx, h⟩
    · rintro (h | ⟨j, p, h1, h2, h3⟩)
      · exact .inl (.inl h)
      · by_cases e : j = k
        · subst e
          rw [hx] at h2
          injection h2 with h2
          subst h2
          exact .inr h3
        · exact .inl (.inr ⟨j, p, by omega, h2, h3⟩)
theorem sidK_all (S : BitVec 256) (i : Nat) (one : Bool) (hi : i < 8) : sidK (halfB S i one) i (pts (halfB S i one)).length = bvOf fun p => sideF (fun q => S.getLsbD q) i one p := by
  apply BitVec.eq_of_getLsbD_eq
  intro q hq
  rw [bvOf_bit, decide_eq_true hq, Bool.true_and, Bool.eq_iff_iff, sidK_bit _ _ hi _ _ (Nat.le_refl _)]
  unfold sideF
  constructor
  · rintro (h | ⟨j, p, -, h2, h3⟩)
    · rw [half_d12 hi _ hq, Bool.and_eq_true, beq_iff_eq] at h
      rw [sb12_same h.2]; exact h.1
    · have hp := pts_lt _ _ (List.mem_of_getElem? h2)
      have hh := hp.2
      rw [half_d12 hi _ hp.1, Bool.and_eq_true, beq_iff_eq] at hh
      have : sb12 q i one = p := by
        unfold sb12
        rw [if_neg, h3, xor_d12back]
        rw [h3, xor_d12bit, hh.2]
        cases one <;> decide
      rw [this]; exact hh.1
  · intro h
    by_cases e : q.testBit i = one
    · rw [sb12_same e] at h
      exact .inl (by rw [half_d12 hi _ hq, show S.getLsbD q = true from h, e]; simp)
    · have e2 : sb12 q i one = q ^^^ 2 ^ i := by unfold sb12; rw [if_neg e]
      rw [e2] at h
      have hb : (q ^^^ 2 ^ i).testBit i = one := by
        rw [xor_d12bit]
        cases one <;> cases hh : q.testBit i <;> simp_all
      have hm := pts_mem12 (halfB S i one) (q ^^^ 2 ^ i) (xor_d12lt hq hi) (by rw [half_d12 hi _ (xor_d12lt hq hi), show S.getLsbD (q ^^^ 2 ^ i) = true from h, hb]; simp)
      obtain ⟨j, hj⟩ := List.mem_iff_getElem?.1 hm
      exact .inr ⟨j, _, (List.getElem?_eq_some_iff.1 hj).1, hj, (xor_d12back q i).symm⟩
theorem xor64_d12' : ∀ (p : Fin 256) (i : Fin 8), bits .xor .i64 (p.val : Int) ((2 ^ i.val : Nat) : Int) = ((p.val ^^^ 2 ^ i.val : Nat) : Int) := by decide +kernel
theorem wrap_d12 : ∀ (i : Fin 8), wrap64 ((2 : Int) ^ i.val) = ((2 ^ i.val : Nat) : Int) := by decide +kernel
theorem xor64_d12 {p i : Nat} (hp : p < 256) (hi : i < 8) : bits .xor .i64 (p : Int) (wrap64 ((2 : Int) ^ i)) = ((p ^^^ 2 ^ i : Nat) : Int) := by
  rw [wrap_d12 ⟨i, hi⟩]
  exact xor64_d12' ⟨p, hp⟩ ⟨i, hi⟩
abbrev set0 : Obj := .cells #[.int .u64 0, .int .u64 0, .int .u64 0, .int .u64 0] 24
set_option maxHeartbeats 2000000 in
set_option maxRecDepth 100000 in
theorem iside_any (S : BitVec 256) (i : Int) (one : Bool) (w : World) :
    Calls Try.prog 8 #[sv S, .int .i64 i, .bool one] w fun e w' => e = .returned (sv (sidB S i one)) ∧ Below w.heap.size w w' := by
  have HH := fun w => half_any S i one w
  have HL := fun w => list_any (halfB S i one) w
  have HI := fun T p w => withAny T p w
  have hfin : Hid (sidK (halfB S i one) i.toNat (pts (halfB S i one)).length = sidB S i one) := Lib.hid (by
    unfold sidB
    by_cases h : 0 ≤ i ∧ i ≤ 7
    · obtain ⟨k, rfl⟩ := Int.eq_ofNat_of_zero_le h.1
      rw [if_pos h]
      have := sidK_all S k one (by omega)
      simpa using this
    · rw [if_neg h]
      have e : halfB S i one = 0 := by unfold halfB; rw [if_neg (by omega)]
      rw [e, show pts 0 = [] from by decide +kernel]
      rfl)
  have hstep := Lib.hid (fun k p (h : (pts (halfB S i one))[k]? = some p) => sidK_some (i := i.toNat) h)
  have hnone : Hid (0 < (pts (halfB S i one)).length → 0 ≤ i ∧ i < 8) := Lib.hid (fun h => by
    refine Classical.byContradiction fun hn => ?_
    have e : halfB S i one = 0 := by unfold halfB; rw [if_neg hn]
    rw [e] at h
    have : (pts 0).length = 0 := by decide +kernel
    omega)
  have hlen : (pts (halfB S i one)).length ≤ 256 := by rw [← pop_eq]; exact pop_le _
  have hptl := Lib.hid (pts_lt (halfB S i one))
  have h0 : Hid (sidK (halfB S i one) i.toNat 0 = halfB S i one) := Lib.hid rfl
  generalize sidB S i one = R at *
  generalize halfB S i one = H at *
  have hB := below_alloc2 w (.cells (sa S) 24) set0
  have hr := heap_alloc2_new w (.cells (sa S) 24) set0
  have hs := heap_alloc2_old w (.cells (sa S) 24) set0
  unfold set0 sv sa wv at *
  go_enter Try.func8, Try.ntmps8
  go_upto_region 1 with (fail)
  generalize (w.alloc _).alloc _ = W at *
  obtain ⟨s0, s1, s2, s3, -⟩ := now4 hs rfl
  go_wp2_with fail
  refine (HH _).mono ?_
  rintro e w1 ⟨rfl, hb1⟩
  have hB1 := hB.trans (hb1.mono hB.size)
  have hr1 := keep_blk hb1 hr
  clear HH s0 s1 s2 s3 hs hr hB hb1
  have hr2 := keep_alloc (x := .cells #[.int .u64 (wd H 0).toNat, .int .u64 (wd H 1).toNat, .int .u64 (wd H 2).toNat, .int .u64 (wd H 3).toNat] 24) hr1
  have hs2 := heap_alloc_new w1 (.cells #[.int .u64 (wd H 0).toNat, .int .u64 (wd H 1).toNat, .int .u64 (wd H 2).toNat, .int .u64 (wd H 3).toNat] 24)
  have hB2 := hB1.alloc hB1.size (.cells #[.int .u64 (wd H 0).toNat, .int .u64 (wd H 1).toNat, .int .u64 (wd H 2).toNat, .int .u64 (wd H 3).toNat] 24)
  have hsb := size_of_block hr1
  go_upto_region 2 with (fail)
  clear hr1 hB1
  generalize w1.alloc _ = W2 at *
  generalize hb7 : w1.heap.size = b7 at *
  clear hb7
  obtain ⟨s0, s1, s2, s3, -⟩ := now4 hs2 rfl
  go_wp2_with fail
  refine (HL _).mono ?_
  rintro e w3 ⟨v, rfl, hown, hb3⟩
  have hB3 := hB2.trans (hb3.mono hB2.size)
  have hr3 := keep_blk hb3 hr2
  have hs3 := keep_blk hb3 hs2
  obtain ⟨A, cap, rfl⟩ := own_form hown
  have hs30 : w3.heap[b7]? = some (.cells (sa (sidK H i.toNat 0)) 24 (0, 0)) := by rw [h0.out]; exact hs3
  clear HL s0 s1 s2 s3 hs2 hr2 hB2 hb3 hs3 h0
  go_wp2
  go_loopw [9, 17] (fun _ t wr => ∃ k : Nat, k ≤ (pts H).length ∧ t = .int .i64 k ∧ wr.ownsRow W2.heap.size 3 1 (.slice A (pts H).length cap) (pts H).length (intsV (pts H)) ∧ wr.heap[b7]? = some (.cells (sa (sidK H i.toNat k)) 24 (0, 0)) ∧
    wr.heap[w.heap.size + 1]? = some (.cells #[.int .u64 0, .int .u64 0, .int .u64 0, .int .u64 0] 24 (0, 0)) ∧ Below w.heap.size w wr) (fun _ t _ => (pts H).length - (intOf t).toNat)
  case atStart => exact ⟨0, by omega, rfl, hown, hs30, hr3, hB3⟩
  case round =>
    clear hown hs30 hr3 hB3
    obtain ⟨k, hk, rfl, hown, hst, hr, hb⟩ := hrel
    by_cases hlt : k < (pts H).length
    · obtain ⟨h0i, hi8⟩ := hnone.out (by omega)
      obtain ⟨ii, rfl⟩ := Int.eq_ofNat_of_zero_le h0i
      obtain ⟨g, c, hv, -, -, -, hc⟩ := own_cellq hown (by omega)
      injection hv with hA _ _
      subst hA
      obtain ⟨p, hp⟩ : ∃ p, (pts H)[k]? = some p := ⟨_, List.getElem?_eq_getElem hlt⟩
      have hp256 := (hptl.out p (List.mem_of_getElem? hp)).1
      have hstp := Lib.hid (hstep.out k p hp)
      have hx := Lib.hid (xor64_d12 hp256 (show ii < 8 by omega))
      have hck := hc k (.int .i64 p) (by simp [intsV, hp])
      rw [Int.toNat_natCast] at *
      have HI1 := fun w => HI (sidK H ii k) ((p ^^^ 2 ^ ii : Nat) : Int) w
      rw [← hstp.out, ← hx.out] at HI1
      generalize hU : sidK H ii (k + 1) = U at *
      clear HI hstep hnone hptl hc hfin hp
      unfold sa wv at hst
      generalize hT : sidK H ii k = T at *
      clear hT
      have i0 : decide ((0 : Int) ≤ (ii : Int)) = true := decide_eq_true (by omega)
      have i1 : ¬ (ii : Int) < 0 := by omega
      have hk0 : (0 : Int) ≤ (k : Int) := by omega
      have hk1 : (k : Int) < ((pts H).length : Int) := by omega
      go_upto_region 5 with (fail)
      obtain ⟨q0, q1, q2, q3, qf⟩ := box4 hst rfl
      refine wp_region_after_tail 6 (by kernel_rfl) (by kernel_rfl) ?_
      simp only [List.take_succ_cons, List.take_zero, List.drop_succ_cons, List.drop_zero]

      repeat (first | go_big_quiet_step (first | (go_at_call 24; exact Calls.after_of (HI1 _))))
      refine wpQuiet_nil ?_
      intro X
      have hst2 := X.same hst
      have hr2 := X.same hr
      have hown2 := owns_below hown X.2
      have hb2 := hb.trans (X.2.mono hb.size)
      obtain ⟨q0, q1, q2, q3, qf⟩ := now4 hst2 rfl
      have hst3 := put4 (x0 := .int .u64 (wd U 0).toNat) (x1 := .int .u64 (wd U 1).toNat) (x2 := .int .u64 (wd U 2).toNat) (x3 := .int .u64 (wd U 3).toNat) hst2
      have hr3 := keep_set4 (x0 := .int .u64 (wd U 0).toNat) (x1 := .int .u64 (wd U 1).toNat) (x2 := .int .u64 (wd U 2).toNat) (x3 := .int .u64 (wd U 3).toNat) (c := b7) (b := w.heap.size + 1) (by omega) hr2
      have hb3 := below4 (b := b7) (x0 := .int .u64 (wd U 0).toNat) (x1 := .int .u64 (wd U 1).toNat) (x2 := .int .u64 (wd U 2).toNat) (x3 := .int .u64 (wd U 3).toNat) (by omega) hb2
      have hown3 := own_set (own_set (own_set (own_set hown2 (own_ne hown2 hst2 (by decide)) 0 (.int .u64 (wd U 0).toNat)) (own_ne hown2 hst2 (by decide)) 1 (.int .u64 (wd U 1).toNat)) (own_ne hown2 hst2 (by decide)) 2 (.int .u64 (wd U 2).toNat)) (own_ne hown2 hst2 (by decide)) 3 (.int .u64 (wd U 3).toNat)
      have J := Lib.hid (And.intro hown3 (And.intro hst3 (And.intro hr3 hb3)))
      clear hst hr hown hb hst2 hr2 hown2 hb2 hst3 hr3 hb3 hown3 hck HI1
      go_wp2
      go_roundw
      case rel => exact ⟨k + 1, by omega, by go_num, J.out.1, by rw [hU]; exact J.out.2.1, J.out.2.2.1, J.out.2.2.2⟩
      case measure => simp [intOf]; omega
    · have e : k = (pts H).length := by omega
      have hkd : decide ((k : Int) < ((pts H).length : Int)) = false := decide_eq_false (by omega)
      have hf := hfin.out
      rw [← e] at hf
      rw [hf] at hst
      unfold sa wv at hst
      obtain ⟨q0, q1, q2, q3, -⟩ := now4 hst rfl
      obtain ⟨r0, r1, r2, r3, rf⟩ := now4 hr rfl
      have hp := put4 (x0 := .int .u64 (wd R 0).toNat) (x1 := .int .u64 (wd R 1).toNat) (x2 := .int .u64 (wd R 2).toNat) (x3 := .int .u64 (wd R 3).toNat) hr
      have hbl := below4 (b := w.heap.size + 1) (x0 := .int .u64 (wd R 0).toNat) (x1 := .int .u64 (wd R 1).toNat) (x2 := .int .u64 (wd R 2).toNat) (x3 := .int .u64 (wd R 3).toNat) (by omega) hb
      obtain ⟨p0, p1, p2, p3, -⟩ := now4 hp rfl
      clear HI hstep hnone hptl hfin hlen hf hst hr hb hown hp
      go_wp2
      exact bodyPost_ret (v := .agg #[.int .u64 (wd R 0).toNat, .int .u64 (wd R 1).toNat, .int .u64 (wd R 2).toNat, .int .u64 (wd R 3).toNat]) (by simp [results, Try.results8, go_sem, p0, p1, p2, p3]) rfl ⟨rfl, hbl⟩

/- BOTH SIDES. -/
/-- Two sets, as an array's cells. -/
def sdV (S T : BitVec 256) : Array Value := #[.int .u64 (wd S 0).toNat, .int .u64 (wd S 1).toNat, .int .u64 (wd S 2).toNat, .int .u64 (wd S 3).toNat, .int .u64 (wd T 0).toNat, .int .u64 (wd T 1).toNat, .int .u64 (wd T 2).toNat, .int .u64 (wd T 3).toNat]
abbrev sd0 : Obj := .cells #[.int .u64 0, .int .u64 0, .int .u64 0, .int .u64 0, .int .u64 0, .int .u64 0, .int .u64 0, .int .u64 0] 74
/-- A box of eight cells. -/
theorem now8 {w : World} {b : Nat} {T : TypeId} {x0 x1 x2 x3 x4 x5 x6 x7 : Value} (h : w.heap[b]? = some (.cells #[x0, x1, x2, x3, x4, x5, x6, x7] T (0, 0))) :
    w.cell? ⟨b, 0, none⟩ = some x0 ∧ w.cell? ⟨b, 1, none⟩ = some x1 ∧ w.cell? ⟨b, 2, none⟩ = some x2 ∧ w.cell? ⟨b, 3, none⟩ = some x3 ∧ w.cell? ⟨b, 4, none⟩ = some x4 ∧ w.cell? ⟨b, 5, none⟩ = some x5 ∧ w.cell? ⟨b, 6, none⟩ = some x6 ∧ w.cell? ⟨b, 7, none⟩ = some x7 ∧ ∀ j, w.frozen? ⟨b, j, none⟩ = false :=
  ⟨by rw [cell_of_block h]; rfl, by rw [cell_of_block h]; rfl, by rw [cell_of_block h]; rfl, by rw [cell_of_block h]; rfl, by rw [cell_of_block h]; rfl, by rw [cell_of_block h]; rfl, by rw [cell_of_block h]; rfl, by rw [cell_of_block h]; rfl, unfrozen_of_block h⟩
theorem put8 {w : World} {b : Nat} {T : TypeId} {x0 x1 x2 x3 x4 x5 x6 x7 y0 y1 y2 y3 y4 y5 y6 y7 : Value} (h : w.heap[b]? = some (.cells #[y0, y1, y2, y3, y4, y5, y6, y7] T (0, 0))) :
    ((((((((w.setCell ⟨b, 0, none⟩ x0).setCell ⟨b, 1, none⟩ x1).setCell ⟨b, 2, none⟩ x2).setCell ⟨b, 3, none⟩ x3).setCell ⟨b, 4, none⟩ x4).setCell ⟨b, 5, none⟩ x5).setCell ⟨b, 6, none⟩ x6).setCell ⟨b, 7, none⟩ x7).heap[b]? = some (.cells #[x0, x1, x2, x3, x4, x5, x6, x7] T (0, 0)) := by
  exact (block_setCell (block_setCell (block_setCell (block_setCell (block_setCell (block_setCell (block_setCell (block_setCell h x0) x1) x2) x3) x4) x5) x6) x7).trans (by simp)
theorem below8 {w a : World} {B b : Nat} {x0 x1 x2 x3 x4 x5 x6 x7 : Value} (hb : B ≤ b) (h : Below B a w) :
    Below B a ((((((((w.setCell ⟨b, 0, none⟩ x0).setCell ⟨b, 1, none⟩ x1).setCell ⟨b, 2, none⟩ x2).setCell ⟨b, 3, none⟩ x3).setCell ⟨b, 4, none⟩ x4).setCell ⟨b, 5, none⟩ x5).setCell ⟨b, 6, none⟩ x6).setCell ⟨b, 7, none⟩ x7) :=
  (((((((h.setCell hb _).setCell hb _).setCell hb _).setCell hb _).setCell hb _).setCell hb _).setCell hb _).setCell hb _
set_option maxHeartbeats 2000000 in
set_option maxRecDepth 100000 in
theorem both_any (S : BitVec 256) (i : Int) (w : World) :
    Calls Try.prog 53 #[sv S, .int .i64 i] w fun e w' => e = .returned (.agg (sdV (sidB S i false) (sidB S i true))) ∧ Below w.heap.size w w' := by
  have HF := fun w => iside_any S i false w
  have HT := fun w => iside_any S i true w
  generalize sidB S i false = F at *
  generalize sidB S i true = T at *
  have hB := below_alloc2 w (.cells (sa S) 24) sd0
  have hr := heap_alloc2_new w (.cells (sa S) 24) sd0
  have hs := heap_alloc2_old w (.cells (sa S) 24) sd0
  unfold sdV sd0 sv sa wv at *
  go_enter Try.func53, Try.ntmps53
  go_upto_region 1 with (fail)
  generalize (w.alloc _).alloc _ = W at *
  obtain ⟨s0, s1, s2, s3, -⟩ := box4 hs rfl
  refine wp_region_after_tail 7 (by kernel_rfl) (by kernel_rfl) ?_
  simp only [List.take_succ_cons, List.take_zero, List.drop_succ_cons, List.drop_zero]
  repeat (first | go_big_quiet_step (first | (go_at_call_of 8 (Value.bool false); exact Calls.after_of (HF _)) | (go_at_call 8; exact Calls.after_of (HT _))))
  refine wpQuiet_nil ?_
  intro X
  have hr2 := X.same hr
  have hb2 := hB.trans (X.2.mono hB.size)
  obtain ⟨q0, q1, q2, q3, q4, q5, q6, q7, qf⟩ := now8 hr2
  have hp := put8 (x0 := .int .u64 (wd F 0).toNat) (x1 := .int .u64 (wd F 1).toNat) (x2 := .int .u64 (wd F 2).toNat) (x3 := .int .u64 (wd F 3).toNat) (x4 := .int .u64 (wd T 0).toNat) (x5 := .int .u64 (wd T 1).toNat) (x6 := .int .u64 (wd T 2).toNat) (x7 := .int .u64 (wd T 3).toNat) hr2
  have hbl := below8 (b := w.heap.size + 1) (x0 := .int .u64 (wd F 0).toNat) (x1 := .int .u64 (wd F 1).toNat) (x2 := .int .u64 (wd F 2).toNat) (x3 := .int .u64 (wd F 3).toNat) (x4 := .int .u64 (wd T 0).toNat) (x5 := .int .u64 (wd T 1).toNat) (x6 := .int .u64 (wd T 2).toNat) (x7 := .int .u64 (wd T 3).toNat) (by omega) hb2
  obtain ⟨p0, p1, p2, p3, p4, p5, p6, p7, -⟩ := now8 hp
  clear s0 s1 s2 s3 hs hr hr2 hB hb2 HF HT hp
  go_wp2
  exact bodyPost_ret (v := .agg #[.int .u64 (wd F 0).toNat, .int .u64 (wd F 1).toNat, .int .u64 (wd F 2).toNat, .int .u64 (wd F 3).toNat, .int .u64 (wd T 0).toNat, .int .u64 (wd T 1).toNat, .int .u64 (wd T 2).toNat, .int .u64 (wd T 3).toNat]) (by simp [results, Try.results53, go_sem, p0, p1, p2, p3, p4, p5, p6, p7]) rfl ⟨rfl, hbl⟩

/- THE POINTS OF CUBES. -/
theorem cpts_8 {m v : BitVec 8} {n : Nat} (h : rightB m v n = true) : cpts m v n n = cpts m v n 8 := by
  have hr := (rightB_iff _ _ _).1 h
  have hn : n ≤ 8 := by omega
  apply BitVec.eq_of_getLsbD_eq
  intro p _
  rw [cpts_bit _ _ _ _ _ hn, cpts_bit _ _ _ _ _ hn]
  congr 1
  rw [Bool.eq_iff_iff, fits_iff, fits_iff]
  constructor
  · intro hf i hi hb
    by_cases hin : i < n
    · exact hf i hin hb
    · rw [hr.2.2.1 i (by omega)] at hb; cases hb
  · intro hf i hi hb
    exact hf i (by omega) hb
theorem ptsU_one {n : Nat} {l : List Cb} {k : Nat} {x : Cb} (h : l[k]? = some x) (hr : rightB x.m x.v n = true) : ptsU n l (-1) (k + 1) = ptsU n l (-1) k ||| cpts x.m x.v n n := by
  rw [cpts_8 hr]
  conv => lhs; unfold ptsU
  rw [h]
  exact if_neg (by omega)
/-- The space of n inputs, as cells. -/
def spcV (n : Nat) : Array Value := #[.int .i64 n, .int .u64 (wd (allB n) 0).toNat, .int .u64 (wd (allB n) 1).toNat, .int .u64 (wd (allB n) 2).toNat, .int .u64 (wd (allB n) 3).toNat]
theorem now5 {w : World} {b : Nat} {T : TypeId} {x0 x1 x2 x3 x4 : Value} (h : w.heap[b]? = some (.cells #[x0, x1, x2, x3, x4] T (0, 0))) :
    w.cell? ⟨b, 0, none⟩ = some x0 ∧ w.cell? ⟨b, 1, none⟩ = some x1 ∧ w.cell? ⟨b, 2, none⟩ = some x2 ∧ w.cell? ⟨b, 3, none⟩ = some x3 ∧ w.cell? ⟨b, 4, none⟩ = some x4 ∧ ∀ j, w.frozen? ⟨b, j, none⟩ = false :=
  ⟨by rw [cell_of_block h]; rfl, by rw [cell_of_block h]; rfl, by rw [cell_of_block h]; rfl, by rw [cell_of_block h]; rfl, by rw [cell_of_block h]; rfl, unfrozen_of_block h⟩
set_option maxHeartbeats 4000000 in
set_option maxRecDepth 100000 in
theorem ipoints_any (n : Nat) (cs : List Cb) (hr : ∀ x ∈ cs, rightB x.m x.v n = true) (v : Value) (w : World) (hv : CbsAt w w.heap.size v cs) :
    Calls Try.prog 55 #[.agg (spcV n), v] w fun e w' => e = .returned (sv (ptsU n cs (-1) cs.length)) ∧ Below w.heap.size w w' := by
  obtain ⟨A, c, rfl, hlen, hA⟩ := hv
  have hstep := Lib.hid (fun (k : Nat) (x : Cb) (h : cs[k]? = some x) => ptsU_one h (hr x (List.mem_of_getElem? h)))
  have hP := Lib.hid (fun (k : Nat) (x : Cb) (h : cs[k]? = some x) => fun w => cpoints_yes (hr x (List.mem_of_getElem? h)) w)
  have h0 : Hid (ptsU n cs (-1) 0 = 0) := Lib.hid rfl
  have hB := below_alloc3 w (.cells (spcV n) 55) set0 set0
  have hsp := heap_alloc3_a w (.cells (spcV n) 55) set0 set0
  have hres := heap_alloc3_b w (.cells (spcV n) 55) set0 set0
  have hal := heap_alloc3_c w (.cells (spcV n) 55) set0 set0
  unfold spcV set0 at *
  generalize wd (allB n) 0 = a0 at *
  generalize wd (allB n) 1 = a1 at *
  generalize wd (allB n) 2 = a2 at *
  generalize wd (allB n) 3 = a3 at *
  go_enter Try.func55, Try.ntmps55
  go_upto_region 2 with (fail)
  generalize ((w.alloc _).alloc _).alloc _ = W at *
  have hal0 : W.heap[w.heap.size + 2]? = some (.cells (sa (ptsU n cs (-1) 0)) 24 (0, 0)) := by rw [h0.out]; exact hal
  clear hal h0
  go_wp2
  go_loopw [7, 8, 9, 12] (fun _ _ _ t wr => ∃ k : Nat, k ≤ cs.length ∧ t = .int .i64 k ∧ Below w.heap.size w wr ∧ wr.heap[w.heap.size + 2]? = some (.cells (sa (ptsU n cs (-1) k)) 24 (0, 0)) ∧
    wr.heap[w.heap.size + 1]? = some (.cells #[.int .u64 0, .int .u64 0, .int .u64 0, .int .u64 0] 24 (0, 0)) ∧
    wr.heap[w.heap.size]? = some (.cells #[.int .i64 n, .int .u64 a0.toNat, .int .u64 a1.toNat, .int .u64 a2.toNat, .int .u64 a3.toNat] 55 (0, 0))) (fun _ _ _ t _ => cs.length - (intOf t).toNat)
  case atStart => exact ⟨0, by omega, rfl, hB, hal0, hres, hsp⟩
  case round =>
    clear hB hal0 hres hsp
    obtain ⟨k, hk, rfl, hb, hal, hres, hsp⟩ := hrel
    by_cases hlt : k < cs.length
    · obtain ⟨b, off, rfl, hBb, hc⟩ := hA (by omega)
      obtain ⟨x, hx⟩ : ∃ x, cs[k]? = some x := ⟨_, List.getElem?_eq_getElem hlt⟩
      obtain ⟨c0, c1⟩ := hc k x hx
      have d0 := (hb.cell (p := ⟨b, off + k * 2, none⟩) hBb).trans c0
      have d1 := (hb.cell (p := ⟨b, off + k * 2 + 1, none⟩) hBb).trans c1
      have hst := Lib.hid (hstep.out k x hx)
      have HP := hP.out k x hx
      have HO := fun w => or_any (ptsU n cs (-1) k) (cpts x.m x.v n n) w
      rw [← hst.out] at HO
      generalize hS2 : ptsU n cs (-1) (k + 1) = S2 at *
      generalize hS : ptsU n cs (-1) k = S at *
      generalize cpts x.m x.v n n = P at *
      obtain ⟨xm, xv⟩ := x
      simp only at d0 d1 HP
      have hB3 := hb.alloc hb.size (cb xm xv)
      have hal3 := keep_alloc (x := cb xm xv) hal
      have hres3 := keep_alloc (x := cb xm xv) hres
      have hsp3 := keep_alloc (x := cb xm xv) hsp
      have hx3 := heap_alloc_new wr (cb xm xv)
      unfold cv cb bvv sv at *
      clear hstep hP hal hres hsp hc c0 c1 hA hx hst hS hb
      go_upto_region 5 with (fail)
      generalize wr.alloc _ = W3 at *
      obtain ⟨x0, x1, -⟩ := now2 hx3 rfl
      obtain ⟨s0, -, -, -, -, -⟩ := now5 hsp3
      go_wp2_with fail
      refine (HP _).mono ?_
      rintro e w4 ⟨rfl, hb4⟩
      have hB4 := hB3.trans (hb4.mono hB3.size)
      have hal4 := keep_blk hb4 hal3
      have hres4 := keep_blk hb4 hres3
      have hsp4 := keep_blk hb4 hsp3
      have hB5 := hB4.alloc hB4.size (.cells (sa P) 24)
      have hal5 := keep_alloc (x := .cells (sa P) 24) hal4
      have hres5 := keep_alloc (x := .cells (sa P) 24) hres4
      have hsp5 := keep_alloc (x := .cells (sa P) 24) hsp4
      have hp5 := heap_alloc_new w4 (.cells (sa P) 24)
      clear HP hb4 hal3 hres3 hsp3 hB3 hB4 hal4 hres4 hsp4 x0 x1 s0 hx3
      unfold sa wv at *
      go_upto_region 6 with (fail)
      generalize w4.alloc _ = W5 at *
      obtain ⟨s0, s1, s2, s3, sf⟩ := now4 hal5 rfl
      obtain ⟨p0, p1, p2, p3, -⟩ := now4 hp5 rfl
      go_wp2_with fail
      refine (HO _).mono ?_
      rintro e w6 ⟨rfl, hb6⟩
      have hB6 := hB5.trans (hb6.mono hB5.size)
      have hal6 := keep_blk hb6 hal5
      have hres6 := keep_blk hb6 hres5
      have hsp6 := keep_blk hb6 hsp5
      clear HO hb6 hal5 hres5 hsp5 hB5 s0 s1 s2 s3 sf p0 p1 p2 p3 hp5
      obtain ⟨s0, s1, s2, s3, sf⟩ := now4 hal6 rfl
      have J := Lib.hid (And.intro (below4 (b := w.heap.size + 2) (x0 := .int .u64 (wd S2 0).toNat) (x1 := .int .u64 (wd S2 1).toNat) (x2 := .int .u64 (wd S2 2).toNat) (x3 := .int .u64 (wd S2 3).toNat) (by omega) hB6) (And.intro (put4 (x0 := .int .u64 (wd S2 0).toNat) (x1 := .int .u64 (wd S2 1).toNat) (x2 := .int .u64 (wd S2 2).toNat) (x3 := .int .u64 (wd S2 3).toNat) hal6)
        (And.intro (keep_set4 (x0 := .int .u64 (wd S2 0).toNat) (x1 := .int .u64 (wd S2 1).toNat) (x2 := .int .u64 (wd S2 2).toNat) (x3 := .int .u64 (wd S2 3).toNat) (c := w.heap.size + 2) (b := w.heap.size + 1) (by omega) hres6) (keep_set4 (x0 := .int .u64 (wd S2 0).toNat) (x1 := .int .u64 (wd S2 1).toNat) (x2 := .int .u64 (wd S2 2).toNat) (x3 := .int .u64 (wd S2 3).toNat) (c := w.heap.size + 2) (b := w.heap.size) (by omega) hsp6))))
      clear hal6 hres6 hsp6 hB6
      go_wp2
      go_roundw
      case rel => exact ⟨k + 1, by omega, by go_num, J.out.1, by rw [hS2]; exact J.out.2.1, J.out.2.2.1, J.out.2.2.2⟩
      case measure => simp [intOf]; omega
    · have e : k = cs.length := by omega
      have hkd : decide ((k : Int) < (cs.length : Int)) = false := decide_eq_false (by omega)
      rw [e] at hal
      clear e hstep hP hA hsp
      generalize hR : ptsU n cs (-1) cs.length = R at *
      have hR2 := Lib.hid hR
      clear hR
      unfold sa wv at *
      obtain ⟨q0, q1, q2, q3, -⟩ := now4 hal rfl
      obtain ⟨r0, r1, r2, r3, rf⟩ := now4 hres rfl
      have hp := put4 (x0 := .int .u64 (wd R 0).toNat) (x1 := .int .u64 (wd R 1).toNat) (x2 := .int .u64 (wd R 2).toNat) (x3 := .int .u64 (wd R 3).toNat) hres
      have hbl := below4 (b := w.heap.size + 1) (x0 := .int .u64 (wd R 0).toNat) (x1 := .int .u64 (wd R 1).toNat) (x2 := .int .u64 (wd R 2).toNat) (x3 := .int .u64 (wd R 3).toNat) (by omega) hb
      obtain ⟨p0, p1, p2, p3, -⟩ := now4 hp rfl
      clear hal hres hp hb
      go_wp2
      exact bodyPost_ret (v := .agg #[.int .u64 (wd R 0).toNat, .int .u64 (wd R 1).toNat, .int .u64 (wd R 2).toNat, .int .u64 (wd R 3).toNat]) (by simp [results, Try.results55, go_sem, p0, p1, p2, p3]) rfl ⟨by rw [hR2.out]; rfl, hbl⟩

/- A LITERAL. -/
def ltV12 (i : Nat) (b : Bool) : BitVec 8 := if b = true then BitVec.twoPow 8 i else 0
set_option maxHeartbeats 1000000 in
theorem ilit0_0 (w : World) : Calls Try.prog 57 #[.int .i64 0, .int .i64 0] w fun e w' => e = .returned (.agg #[.int .u8 1, .int .u8 0]) ∧ Below w.heap.size w w' := by
  have hc := heap_alloc_new w cb0
  have hB := below_alloc1 w cb0
  unfold cb0 at *
  go_enter Try.func57, Try.ntmps57
  go_upto_region 1 with (fail)
  generalize w.alloc _ = W at *
  refine wp_region_after_tail 7 (by kernel_rfl) (by kernel_rfl) ?_
  simp only [List.take_succ_cons, List.take_zero, List.drop_succ_cons, List.drop_zero]
  repeat (first | go_big_quiet_step (fail))
  refine wpQuiet_nil ?_
  intro X
  have hc2 := X.same hc
  have hB2 := hB.trans (X.2.mono hB.size)
  obtain ⟨q0, q1, qf⟩ := now2 hc2 rfl
  have hp := put2 (x0 := .int .u8 1) (x1 := .int .u8 0) hc2
  obtain ⟨p0, p1, -⟩ := now2 hp rfl
  have hbl := below2 (b := w.heap.size) (x0 := .int .u8 1) (x1 := .int .u8 0) (Nat.le_refl _) hB2
  go_wp2
  exact bodyPost_ret (v := .agg #[.int .u8 1, .int .u8 0]) (by simp [results, Try.results57, go_sem, p0, p1]) rfl ⟨rfl, hbl⟩
set_option maxHeartbeats 1000000 in
theorem ilit0_1 (w : World) : Calls Try.prog 57 #[.int .i64 0, .int .i64 1] w fun e w' => e = .returned (.agg #[.int .u8 1, .int .u8 1]) ∧ Below w.heap.size w w' := by
  have hc := heap_alloc_new w cb0
  have hB := below_alloc1 w cb0
  unfold cb0 at *
  go_enter Try.func57, Try.ntmps57
  go_upto_region 1 with (fail)
  generalize w.alloc _ = W at *
  refine wp_region_after_tail 7 (by kernel_rfl) (by kernel_rfl) ?_
  simp only [List.take_succ_cons, List.take_zero, List.drop_succ_cons, List.drop_zero]
  repeat (first | go_big_quiet_step (fail))
  refine wpQuiet_nil ?_
  intro X
  have hc2 := X.same hc
  have hB2 := hB.trans (X.2.mono hB.size)
  obtain ⟨q0, q1, qf⟩ := now2 hc2 rfl
  have hp := put2 (x0 := .int .u8 1) (x1 := .int .u8 1) hc2
  obtain ⟨p0, p1, -⟩ := now2 hp rfl
  have hbl := below2 (b := w.heap.size) (x0 := .int .u8 1) (x1 := .int .u8 1) (Nat.le_refl _) hB2
  go_wp2
  exact bodyPost_ret (v := .agg #[.int .u8 1, .int .u8 1]) (by simp [results, Try.results57, go_sem, p0, p1]) rfl ⟨rfl, hbl⟩
set_option maxHeartbeats 1000000 in
theorem ilit1_0 (w : World) : Calls Try.prog 57 #[.int .i64 1, .int .i64 0] w fun e w' => e = .returned (.agg #[.int .u8 2, .int .u8 0]) ∧ Below w.heap.size w w' := by
  have hc := heap_alloc_new w cb0
  have hB := below_alloc1 w cb0
  unfold cb0 at *
  go_enter Try.func57, Try.ntmps57
  go_upto_region 1 with (fail)
  generalize w.alloc _ = W at *
  refine wp_region_after_tail 7 (by kernel_rfl) (by kernel_rfl) ?_
  simp only [List.take_succ_cons, List.take_zero, List.drop_succ_cons, List.drop_zero]
  repeat (first | go_big_quiet_step (fail))
  refine wpQuiet_nil ?_
  intro X
  have hc2 := X.same hc
  have hB2 := hB.trans (X.2.mono hB.size)
  obtain ⟨q0, q1, qf⟩ := now2 hc2 rfl
  have hp := put2 (x0 := .int .u8 2) (x1 := .int .u8 0) hc2
  obtain ⟨p0, p1, -⟩ := now2 hp rfl
  have hbl := below2 (b := w.heap.size) (x0 := .int .u8 2) (x1 := .int .u8 0) (Nat.le_refl _) hB2
  go_wp2
  exact bodyPost_ret (v := .agg #[.int .u8 2, .int .u8 0]) (by simp [results, Try.results57, go_sem, p0, p1]) rfl ⟨rfl, hbl⟩
set_option maxHeartbeats 1000000 in
theorem ilit1_1 (w : World) : Calls Try.prog 57 #[.int .i64 1, .int .i64 1] w fun e w' => e = .returned (.agg #[.int .u8 2, .int .u8 2]) ∧ Below w.heap.size w w' := by
  have hc := heap_alloc_new w cb0
  have hB := below_alloc1 w cb0
  unfold cb0 at *
  go_enter Try.func57, Try.ntmps57
  go_upto_region 1 with (fail)
  generalize w.alloc _ = W at *
  refine wp_region_after_tail 7 (by kernel_rfl) (by kernel_rfl) ?_
  simp only [List.take_succ_cons, List.take_zero, List.drop_succ_cons, List.drop_zero]
  repeat (first | go_big_quiet_step (fail))
  refine wpQuiet_nil ?_
  intro X
  have hc2 := X.same hc
  have hB2 := hB.trans (X.2.mono hB.size)
  obtain ⟨q0, q1, qf⟩ := now2 hc2 rfl
  have hp := put2 (x0 := .int .u8 2) (x1 := .int .u8 2) hc2
  obtain ⟨p0, p1, -⟩ := now2 hp rfl
  have hbl := below2 (b := w.heap.size) (x0 := .int .u8 2) (x1 := .int .u8 2) (Nat.le_refl _) hB2
  go_wp2
  exact bodyPost_ret (v := .agg #[.int .u8 2, .int .u8 2]) (by simp [results, Try.results57, go_sem, p0, p1]) rfl ⟨rfl, hbl⟩
set_option maxHeartbeats 1000000 in
theorem ilit2_0 (w : World) : Calls Try.prog 57 #[.int .i64 2, .int .i64 0] w fun e w' => e = .returned (.agg #[.int .u8 4, .int .u8 0]) ∧ Below w.heap.size w w' := by
  have hc := heap_alloc_new w cb0
  have hB := below_alloc1 w cb0
  unfold cb0 at *
  go_enter Try.func57, Try.ntmps57
  go_upto_region 1 with (fail)
  generalize w.alloc _ = W at *
  refine wp_region_after_tail 7 (by kernel_rfl) (by kernel_rfl) ?_
  simp only [List.take_succ_cons, List.take_zero, List.drop_succ_cons, List.drop_zero]
  repeat (first | go_big_quiet_step (fail))
  refine wpQuiet_nil ?_
  intro X
  have hc2 := X.same hc
  have hB2 := hB.trans (X.2.mono hB.size)
  obtain ⟨q0, q1, qf⟩ := now2 hc2 rfl
  have hp := put2 (x0 := .int .u8 4) (x1 := .int .u8 0) hc2
  obtain ⟨p0, p1, -⟩ := now2 hp rfl
  have hbl := below2 (b := w.heap.size) (x0 := .int .u8 4) (x1 := .int .u8 0) (Nat.le_refl _) hB2
  go_wp2
  exact bodyPost_ret (v := .agg #[.int .u8 4, .int .u8 0]) (by simp [results, Try.results57, go_sem, p0, p1]) rfl ⟨rfl, hbl⟩
set_option maxHeartbeats 1000000 in
theorem ilit2_1 (w : World) : Calls Try.prog 57 #[.int .i64 2, .int .i64 1] w fun e w' => e = .returned (.agg #[.int .u8 4, .int .u8 4]) ∧ Below w.heap.size w w' := by
  have hc := heap_alloc_new w cb0
  have hB := below_alloc1 w cb0
  unfold cb0 at *
  go_enter Try.func57, Try.ntmps57
  go_upto_region 1 with (fail)
  generalize w.alloc _ = W at *
  refine wp_region_after_tail 7 (by kernel_rfl) (by kernel_rfl) ?_
  simp only [List.take_succ_cons, List.take_zero, List.drop_succ_cons, List.drop_zero]
  repeat (first | go_big_quiet_step (fail))
  refine wpQuiet_nil ?_
  intro X
  have hc2 := X.same hc
  have hB2 := hB.trans (X.2.mono hB.size)
  obtain ⟨q0, q1, qf⟩ := now2 hc2 rfl
  have hp := put2 (x0 := .int .u8 4) (x1 := .int .u8 4) hc2
  obtain ⟨p0, p1, -⟩ := now2 hp rfl
  have hbl := below2 (b := w.heap.size) (x0 := .int .u8 4) (x1 := .int .u8 4) (Nat.le_refl _) hB2
  go_wp2
  exact bodyPost_ret (v := .agg #[.int .u8 4, .int .u8 4]) (by simp [results, Try.results57, go_sem, p0, p1]) rfl ⟨rfl, hbl⟩
set_option maxHeartbeats 1000000 in
theorem ilit3_0 (w : World) : Calls Try.prog 57 #[.int .i64 3, .int .i64 0] w fun e w' => e = .returned (.agg #[.int .u8 8, .int .u8 0]) ∧ Below w.heap.size w w' := by
  have hc := heap_alloc_new w cb0
  have hB := below_alloc1 w cb0
  unfold cb0 at *
  go_enter Try.func57, Try.ntmps57
  go_upto_region 1 with (fail)
  generalize w.alloc _ = W at *
  refine wp_region_after_tail 7 (by kernel_rfl) (by kernel_rfl) ?_
  simp only [List.take_succ_cons, List.take_zero, List.drop_succ_cons, List.drop_zero]
  repeat (first | go_big_quiet_step (fail))
  refine wpQuiet_nil ?_
  intro X
  have hc2 := X.same hc
  have hB2 := hB.trans (X.2.mono hB.size)
  obtain ⟨q0, q1, qf⟩ := now2 hc2 rfl
  have hp := put2 (x0 := .int .u8 8) (x1 := .int .u8 0) hc2
  obtain ⟨p0, p1, -⟩ := now2 hp rfl
  have hbl := below2 (b := w.heap.size) (x0 := .int .u8 8) (x1 := .int .u8 0) (Nat.le_refl _) hB2
  go_wp2
  exact bodyPost_ret (v := .agg #[.int .u8 8, .int .u8 0]) (by simp [results, Try.results57, go_sem, p0, p1]) rfl ⟨rfl, hbl⟩
set_option maxHeartbeats 1000000 in
theorem ilit3_1 (w : World) : Calls Try.prog 57 #[.int .i64 3, .int .i64 1] w fun e w' => e = .returned (.agg #[.int .u8 8, .int .u8 8]) ∧ Below w.heap.size w w' := by
  have hc := heap_alloc_new w cb0
  have hB := below_alloc1 w cb0
  unfold cb0 at *
  go_enter Try.func57, Try.ntmps57
  go_upto_region 1 with (fail)
  generalize w.alloc _ = W at *
  refine wp_region_after_tail 7 (by kernel_rfl) (by kernel_rfl) ?_
  simp only [List.take_succ_cons, List.take_zero, List.drop_succ_cons, List.drop_zero]
  repeat (first | go_big_quiet_step (fail))
  refine wpQuiet_nil ?_
  intro X
  have hc2 := X.same hc
  have hB2 := hB.trans (X.2.mono hB.size)
  obtain ⟨q0, q1, qf⟩ := now2 hc2 rfl
  have hp := put2 (x0 := .int .u8 8) (x1 := .int .u8 8) hc2
  obtain ⟨p0, p1, -⟩ := now2 hp rfl
  have hbl := below2 (b := w.heap.size) (x0 := .int .u8 8) (x1 := .int .u8 8) (Nat.le_refl _) hB2
  go_wp2
  exact bodyPost_ret (v := .agg #[.int .u8 8, .int .u8 8]) (by simp [results, Try.results57, go_sem, p0, p1]) rfl ⟨rfl, hbl⟩
set_option maxHeartbeats 1000000 in
theorem ilit4_0 (w : World) : Calls Try.prog 57 #[.int .i64 4, .int .i64 0] w fun e w' => e = .returned (.agg #[.int .u8 16, .int .u8 0]) ∧ Below w.heap.size w w' := by
  have hc := heap_alloc_new w cb0
  have hB := below_alloc1 w cb0
  unfold cb0 at *
  go_enter Try.func57, Try.ntmps57
  go_upto_region 1 with (fail)
  generalize w.alloc _ = W at *
  refine wp_region_after_tail 7 (by kernel_rfl) (by kernel_rfl) ?_
  simp only [List.take_succ_cons, List.take_zero, List.drop_succ_cons, List.drop_zero]
  repeat (first | go_big_quiet_step (fail))
  refine wpQuiet_nil ?_
  intro X
  have hc2 := X.same hc
  have hB2 := hB.trans (X.2.mono hB.size)
  obtain ⟨q0, q1, qf⟩ := now2 hc2 rfl
  have hp := put2 (x0 := .int .u8 16) (x1 := .int .u8 0) hc2
  obtain ⟨p0, p1, -⟩ := now2 hp rfl
  have hbl := below2 (b := w.heap.size) (x0 := .int .u8 16) (x1 := .int .u8 0) (Nat.le_refl _) hB2
  go_wp2
  exact bodyPost_ret (v := .agg #[.int .u8 16, .int .u8 0]) (by simp [results, Try.results57, go_sem, p0, p1]) rfl ⟨rfl, hbl⟩
set_option maxHeartbeats 1000000 in
theorem ilit4_1 (w : World) : Calls Try.prog 57 #[.int .i64 4, .int .i64 1] w fun e w' => e = .returned (.agg #[.int .u8 16, .int .u8 16]) ∧ Below w.heap.size w w' := by
  have hc := heap_alloc_new w cb0
  have hB := below_alloc1 w cb0
  unfold cb0 at *
  go_enter Try.func57, Try.ntmps57
  go_upto_region 1 with (fail)
  generalize w.alloc _ = W at *
  refine wp_region_after_tail 7 (by kernel_rfl) (by kernel_rfl) ?_
  simp only [List.take_succ_cons, List.take_zero, List.drop_succ_cons, List.drop_zero]
  repeat (first | go_big_quiet_step (fail))
  refine wpQuiet_nil ?_
  intro X
  have hc2 := X.same hc
  have hB2 := hB.trans (X.2.mono hB.size)
  obtain ⟨q0, q1, qf⟩ := now2 hc2 rfl
  have hp := put2 (x0 := .int .u8 16) (x1 := .int .u8 16) hc2
  obtain ⟨p0, p1, -⟩ := now2 hp rfl
  have hbl := below2 (b := w.heap.size) (x0 := .int .u8 16) (x1 := .int .u8 16) (Nat.le_refl _) hB2
  go_wp2
  exact bodyPost_ret (v := .agg #[.int .u8 16, .int .u8 16]) (by simp [results, Try.results57, go_sem, p0, p1]) rfl ⟨rfl, hbl⟩
set_option maxHeartbeats 1000000 in
theorem ilit5_0 (w : World) : Calls Try.prog 57 #[.int .i64 5, .int .i64 0] w fun e w' => e = .returned (.agg #[.int .u8 32, .int .u8 0]) ∧ Below w.heap.size w w' := by
  have hc := heap_alloc_new w cb0
  have hB := below_alloc1 w cb0
  unfold cb0 at *
  go_enter Try.func57, Try.ntmps57
  go_upto_region 1 with (fail)
  generalize w.alloc _ = W at *
  refine wp_region_after_tail 7 (by kernel_rfl) (by kernel_rfl) ?_
  simp only [List.take_succ_cons, List.take_zero, List.drop_succ_cons, List.drop_zero]
  repeat (first | go_big_quiet_step (fail))
  refine wpQuiet_nil ?_
  intro X
  have hc2 := X.same hc
  have hB2 := hB.trans (X.2.mono hB.size)
  obtain ⟨q0, q1, qf⟩ := now2 hc2 rfl
  have hp := put2 (x0 := .int .u8 32) (x1 := .int .u8 0) hc2
  obtain ⟨p0, p1, -⟩ := now2 hp rfl
  have hbl := below2 (b := w.heap.size) (x0 := .int .u8 32) (x1 := .int .u8 0) (Nat.le_refl _) hB2
  go_wp2
  exact bodyPost_ret (v := .agg #[.int .u8 32, .int .u8 0]) (by simp [results, Try.results57, go_sem, p0, p1]) rfl ⟨rfl, hbl⟩
set_option maxHeartbeats 1000000 in
theorem ilit5_1 (w : World) : Calls Try.prog 57 #[.int .i64 5, .int .i64 1] w fun e w' => e = .returned (.agg #[.int .u8 32, .int .u8 32]) ∧ Below w.heap.size w w' := by
  have hc := heap_alloc_new w cb0
  have hB := below_alloc1 w cb0
  unfold cb0 at *
  go_enter Try.func57, Try.ntmps57
  go_upto_region 1 with (fail)
  generalize w.alloc _ = W at *
  refine wp_region_after_tail 7 (by kernel_rfl) (by kernel_rfl) ?_
  simp only [List.take_succ_cons, List.take_zero, List.drop_succ_cons, List.drop_zero]
  repeat (first | go_big_quiet_step (fail))
  refine wpQuiet_nil ?_
  intro X
  have hc2 := X.same hc
  have hB2 := hB.trans (X.2.mono hB.size)
  obtain ⟨q0, q1, qf⟩ := now2 hc2 rfl
  have hp := put2 (x0 := .int .u8 32) (x1 := .int .u8 32) hc2
  obtain ⟨p0, p1, -⟩ := now2 hp rfl
  have hbl := below2 (b := w.heap.size) (x0 := .int .u8 32) (x1 := .int .u8 32) (Nat.le_refl _) hB2
  go_wp2
  exact bodyPost_ret (v := .agg #[.int .u8 32, .int .u8 32]) (by simp [results, Try.results57, go_sem, p0, p1]) rfl ⟨rfl, hbl⟩
set_option maxHeartbeats 1000000 in
theorem ilit6_0 (w : World) : Calls Try.prog 57 #[.int .i64 6, .int .i64 0] w fun e w' => e = .returned (.agg #[.int .u8 64, .int .u8 0]) ∧ Below w.heap.size w w' := by
  have hc := heap_alloc_new w cb0
  have hB := below_alloc1 w cb0
  unfold cb0 at *
  go_enter Try.func57, Try.ntmps57
  go_upto_region 1 with (fail)
  generalize w.alloc _ = W at *
  refine wp_region_after_tail 7 (by kernel_rfl) (by kernel_rfl) ?_
  simp only [List.take_succ_cons, List.take_zero, List.drop_succ_cons, List.drop_zero]
  repeat (first | go_big_quiet_step (fail))
  refine wpQuiet_nil ?_
  intro X
  have hc2 := X.same hc
  have hB2 := hB.trans (X.2.mono hB.size)
  obtain ⟨q0, q1, qf⟩ := now2 hc2 rfl
  have hp := put2 (x0 := .int .u8 64) (x1 := .int .u8 0) hc2
  obtain ⟨p0, p1, -⟩ := now2 hp rfl
  have hbl := below2 (b := w.heap.size) (x0 := .int .u8 64) (x1 := .int .u8 0) (Nat.le_refl _) hB2
  go_wp2
  exact bodyPost_ret (v := .agg #[.int .u8 64, .int .u8 0]) (by simp [results, Try.results57, go_sem, p0, p1]) rfl ⟨rfl, hbl⟩
set_option maxHeartbeats 1000000 in
theorem ilit6_1 (w : World) : Calls Try.prog 57 #[.int .i64 6, .int .i64 1] w fun e w' => e = .returned (.agg #[.int .u8 64, .int .u8 64]) ∧ Below w.heap.size w w' := by
  have hc := heap_alloc_new w cb0
  have hB := below_alloc1 w cb0
  unfold cb0 at *
  go_enter Try.func57, Try.ntmps57
  go_upto_region 1 with (fail)
  generalize w.alloc _ = W at *
  refine wp_region_after_tail 7 (by kernel_rfl) (by kernel_rfl) ?_
  simp only [List.take_succ_cons, List.take_zero, List.drop_succ_cons, List.drop_zero]
  repeat (first | go_big_quiet_step (fail))
  refine wpQuiet_nil ?_
  intro X
  have hc2 := X.same hc
  have hB2 := hB.trans (X.2.mono hB.size)
  obtain ⟨q0, q1, qf⟩ := now2 hc2 rfl
  have hp := put2 (x0 := .int .u8 64) (x1 := .int .u8 64) hc2
  obtain ⟨p0, p1, -⟩ := now2 hp rfl
  have hbl := below2 (b := w.heap.size) (x0 := .int .u8 64) (x1 := .int .u8 64) (Nat.le_refl _) hB2
  go_wp2
  exact bodyPost_ret (v := .agg #[.int .u8 64, .int .u8 64]) (by simp [results, Try.results57, go_sem, p0, p1]) rfl ⟨rfl, hbl⟩
set_option maxHeartbeats 1000000 in
theorem ilit7_0 (w : World) : Calls Try.prog 57 #[.int .i64 7, .int .i64 0] w fun e w' => e = .returned (.agg #[.int .u8 128, .int .u8 0]) ∧ Below w.heap.size w w' := by
  have hc := heap_alloc_new w cb0
  have hB := below_alloc1 w cb0
  unfold cb0 at *
  go_enter Try.func57, Try.ntmps57
  go_upto_region 1 with (fail)
  generalize w.alloc _ = W at *
  refine wp_region_after_tail 7 (by kernel_rfl) (by kernel_rfl) ?_
  simp only [List.take_succ_cons, List.take_zero, List.drop_succ_cons, List.drop_zero]
  repeat (first | go_big_quiet_step (fail))
  refine wpQuiet_nil ?_
  intro X
  have hc2 := X.same hc
  have hB2 := hB.trans (X.2.mono hB.size)
  obtain ⟨q0, q1, qf⟩ := now2 hc2 rfl
  have hp := put2 (x0 := .int .u8 128) (x1 := .int .u8 0) hc2
  obtain ⟨p0, p1, -⟩ := now2 hp rfl
  have hbl := below2 (b := w.heap.size) (x0 := .int .u8 128) (x1 := .int .u8 0) (Nat.le_refl _) hB2
  go_wp2
  exact bodyPost_ret (v := .agg #[.int .u8 128, .int .u8 0]) (by simp [results, Try.results57, go_sem, p0, p1]) rfl ⟨rfl, hbl⟩
set_option maxHeartbeats 1000000 in
theorem ilit7_1 (w : World) : Calls Try.prog 57 #[.int .i64 7, .int .i64 1] w fun e w' => e = .returned (.agg #[.int .u8 128, .int .u8 128]) ∧ Below w.heap.size w w' := by
  have hc := heap_alloc_new w cb0
  have hB := below_alloc1 w cb0
  unfold cb0 at *
  go_enter Try.func57, Try.ntmps57
  go_upto_region 1 with (fail)
  generalize w.alloc _ = W at *
  refine wp_region_after_tail 7 (by kernel_rfl) (by kernel_rfl) ?_
  simp only [List.take_succ_cons, List.take_zero, List.drop_succ_cons, List.drop_zero]
  repeat (first | go_big_quiet_step (fail))
  refine wpQuiet_nil ?_
  intro X
  have hc2 := X.same hc
  have hB2 := hB.trans (X.2.mono hB.size)
  obtain ⟨q0, q1, qf⟩ := now2 hc2 rfl
  have hp := put2 (x0 := .int .u8 128) (x1 := .int .u8 128) hc2
  obtain ⟨p0, p1, -⟩ := now2 hp rfl
  have hbl := below2 (b := w.heap.size) (x0 := .int .u8 128) (x1 := .int .u8 128) (Nat.le_refl _) hB2
  go_wp2
  exact bodyPost_ret (v := .agg #[.int .u8 128, .int .u8 128]) (by simp [results, Try.results57, go_sem, p0, p1]) rfl ⟨rfl, hbl⟩
theorem ilit_any (i : Nat) (hi : i < 8) (b : Bool) (w : World) : Calls Try.prog 57 #[.int .i64 i, .int .i64 (if b = true then 1 else 0)] w fun e w' => e = .returned (cv (BitVec.twoPow 8 i) (ltV12 i b)) ∧ Below w.heap.size w w' := by
  have hi' : i = 0 ∨ i = 1 ∨ i = 2 ∨ i = 3 ∨ i = 4 ∨ i = 5 ∨ i = 6 ∨ i = 7 := by omega
  rcases hi' with rfl | rfl | rfl | rfl | rfl | rfl | rfl | rfl <;> cases b
  · exact ilit0_0 w
  · exact ilit0_1 w
  · exact ilit1_0 w
  · exact ilit1_1 w
  · exact ilit2_0 w
  · exact ilit2_1 w
  · exact ilit3_0 w
  · exact ilit3_1 w
  · exact ilit4_0 w
  · exact ilit4_1 w
  · exact ilit5_0 w
  · exact ilit5_1 w
  · exact ilit6_0 w
  · exact ilit6_1 w
  · exact ilit7_0 w
  · exact ilit7_1 w
end Go.Proofs.Ytnddepijbbchiaa
