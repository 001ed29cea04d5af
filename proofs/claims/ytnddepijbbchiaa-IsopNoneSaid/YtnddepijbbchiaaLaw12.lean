/- The statements of layer 12, walked over what the package answers: the contracts; may, points. -/
import Derived.Test.YtnddepijbbchiaaCvr12
import Derived.Test.YtnddepijbbchiaaGro09
namespace Go.Proofs.Ytnddepijbbchiaa
open Go.RowKit Go.Joins

/-- May sets be covered? -/
def mayB (S M : BitVec 256) (n : Int) : Bool := ofB M n && decide (S &&& ~~~M = 0)
/-- The document's cover of sets. -/
def isoS (S M : BitVec 256) (n : Nat) : List Cb := isoF n (n + 1) (fun p => S.getLsbD p) (fun p => M.getLsbD p) 0
def sidB (S : BitVec 256) (i : Int) (one : Bool) : BitVec 256 := if 0 ≤ i ∧ i ≤ 7 then bvOf fun p => sideF (fun q => S.getLsbD q) i.toNat one p else 0
/-- What the package answers. -/
def SideI : Prop := ∀ (S : BitVec 256) (i : Int) (one : Bool) (w : World), Calls Try.prog 8 #[sv S, .int .i64 i, .bool one] w fun e w' => e = .returned (sv (sidB S i one)) ∧ Below w.heap.size w w'
def CoverI : Prop := ∀ (S M : BitVec 256) (n : Int) (w : World), Calls Try.prog 14 #[sv S, sv M, .int .i64 n] w fun e w' =>
  ∃ v, e = .returned (.tuple #[v, .int .i64 (if mayB S M n = true then 0 else 1)]) ∧ CbsAt w' w'.heap.size v (if mayB S M n = true then isoS S M n.toNat else []) ∧ Below w.heap.size w w'
theorem cover_yes (h : CoverI) {S M : BitVec 256} {n : Int} (ho : mayB S M n = true) (w : World) : Calls Try.prog 14 #[sv S, sv M, .int .i64 n] w fun e w' => ∃ v, e = .returned (.tuple #[v, .int .i64 0]) ∧ CbsAt w' w'.heap.size v (isoS S M n.toNat) ∧ Below w.heap.size w w' := by
  have := h S M n w
  rwa [if_pos ho, if_pos ho] at this
theorem cover_no (h : CoverI) {S M : BitVec 256} {n : Int} (ho : mayB S M n = false) (w : World) : Calls Try.prog 14 #[sv S, sv M, .int .i64 n] w fun e w' => ∃ A c, e = .returned (.tuple #[.slice A 0 c, .int .i64 1]) ∧ Below w.heap.size w w' := by
  have := h S M n w
  rw [ho] at this
  refine this.mono ?_
  rintro e w' ⟨v, rfl, ⟨A, c, rfl, -⟩, hb⟩
  exact ⟨A, c, rfl, hb⟩
theorem may_iso {S M : BitVec 256} {n : Nat} (h : mayB S M n = true) : Iso n 0 (fun p => S.getLsbD p) (fun p => M.getLsbD p) := by
  unfold mayB ofB at h
  rw [Bool.and_eq_true, Bool.and_eq_true] at h
  obtain ⟨⟨h1, h2⟩, h3⟩ := h
  have h1 := of_decide_eq_true h1
  have h2 := of_decide_eq_true h2
  have h3 := of_decide_eq_true h3
  rw [Int.toNat_natCast] at h2
  have key : ∀ A B : BitVec 256, A &&& ~~~B = 0 → ∀ p, A.getLsbD p = true → B.getLsbD p = true := fun A B h p hp => by
    have hl : p < 256 := by
      rcases Nat.lt_or_ge p 256 with q | q
      · exact q
      · rw [BitVec.getLsbD_of_ge A p q] at hp; cases hp
    have := (less_zero A B).1 h p hl
    rw [hp] at this
    simpa using this
  have h8 : n ≤ 8 := by omega
  refine ⟨h8, by omega, fun j hj => absurd hj (by omega), fun j hj => absurd hj (by omega), fun p hp => key S M h3 p hp, fun p hp => ?_⟩
  have := key M (allB n) h2 p hp
  unfold allB at this
  rw [bvOf_bit] at this
  simp only [Bool.and_eq_true, decide_eq_true_iff] at this
  exact this.2

/-- The points of the first k cubes, but for one. -/
def ptsU (n : Nat) (l : List Cb) (but : Int) : Nat → BitVec 256
  | 0 => 0
  | k + 1 => match l[k]? with
    | none => ptsU n l but k
    | some x => if (k : Int) = but then ptsU n l but k else ptsU n l but k ||| cpts x.m x.v n 8
theorem ptsU_bit (n : Nat) (hn : n ≤ 8) (l : List Cb) (but : Int) (p : Nat) : ∀ k, (ptsU n l but k).getLsbD p = true ↔ p < 2 ^ n ∧ ∃ j x, j < k ∧ (j : Int) ≠ but ∧ l[j]? = some x ∧ fits x.m x.v 8 p = true
  | 0 => by
    constructor
    · intro h; unfold ptsU at h; simp at h
    · rintro ⟨-, j, x, h, -⟩; omega
  | k + 1 => by
    have ih := ptsU_bit n hn l but p k
    unfold ptsU
    cases hx : l[k]? with
    | none =>
      simp only
      rw [ih]
      constructor
      · rintro ⟨a, j, x, h1, h2⟩; exact ⟨a, j, x, by omega, h2⟩
      · rintro ⟨a, j, x, h1, h2, h3, h4⟩
        refine ⟨a, j, x, ?_, h2, h3, h4⟩
        rcases Nat.lt_or_ge j k with q | q
        · exact q
        · have : j = k := by omega
          subst this
          rw [hx] at h3; cases h3
    | some y =>
      simp only
      by_cases hb : (k : Int) = but
      · rw [if_pos hb, ih]
        constructor
        · rintro ⟨a, j, x, h1, h2⟩; exact ⟨a, j, x, by omega, h2⟩
        · rintro ⟨a, j, x, h1, h2, h3⟩
          refine ⟨a, j, x, ?_, h2, h3⟩
          rcases Nat.lt_or_ge j k with q | q
          · exact q
          · have : j = k := by omega
            subst this
            exact absurd hb h2
      · rw [if_neg hb, BitVec.getLsbD_or, Bool.or_eq_true, ih, cpts_bit _ _ _ _ _ hn, Bool.and_eq_true, decide_eq_true_iff]
        constructor
        · rintro (⟨a, j, x, h1, h2⟩ | ⟨a, h⟩)
          · exact ⟨a, j, x, by omega, h2⟩
          · exact ⟨a, k, y, by omega, hb, hx, h⟩
        · rintro ⟨a, j, x, h1, h2, h3, h4⟩
          rcases Nat.lt_or_ge j k with q | q
          · exact .inl ⟨a, j, x, q, h2, h3, h4⟩
          · have : j = k := by omega
            subst this
            rw [hx] at h3
            injection h3 with h3
            subst h3
            exact .inr ⟨a, h4⟩
set_option maxHeartbeats 2000000 in
set_option maxRecDepth 100000 in
theorem points12_any (cs : List Cb) (n : Nat) (hn : n ≤ 8) (but : Int) (v : Value) (w : World) (h : CbsAt w w.heap.size v cs) :
    Calls Try.prog 17 #[v, .int .i64 n, .int .i64 but] w fun e w' => e = .returned (sv (ptsU n cs but cs.length)) ∧ Below w.heap.size w w' := by
  obtain ⟨A, c, rfl, hl, hcs⟩ := h
  have HP := fun m v w => rpoints_any m v n hn w
  have HO := fun S T w => or_any S T w
  have hstep := Lib.hid (fun (k : Nat) (x : Cb) (h : cs[k]? = some x) => (by
    show ptsU n cs but (k + 1) = _
    conv => lhs; unfold ptsU
    rw [h] : ptsU n cs but (k + 1) = if (k : Int) = but then ptsU n cs but k else ptsU n cs but k ||| cpts x.m x.v n 8))
  have hs0 : Hid (ptsU n cs but 0 = 0) := Lib.hid rfl
  go_enter Try.func17, Try.ntmps17
  go_wp2
  go_loopw [8] (fun t wr => ∃ k : Nat, k ≤ cs.length ∧ t = .int .i64 k ∧ wr.heap[w.heap.size]? = some (.cells #[.int .u64 0, .int .u64 0, .int .u64 0, .int .u64 0] 24 (0, 0)) ∧ wr.heap[w.heap.size + 1]? = some (.cells (sa (ptsU n cs but k)) 24 (0, 0)) ∧ Below w.heap.size w wr) (fun t _ => cs.length - (intOf t).toNat)
  case atStart =>
    refine ⟨0, by omega, rfl, heap_alloc2_old _ _ _, ?_, below_alloc2 _ _ _⟩
    rw [hs0.out, show sa 0 = #[.int .u64 0, .int .u64 0, .int .u64 0, .int .u64 0] from by kernel_rfl]
    exact heap_alloc2_new _ _ _
  case round =>
    obtain ⟨k, hk, rfl, hres, hblk, hb⟩ := hrel
    by_cases hlt : k < cs.length
    · obtain ⟨cb', off, rfl, hB, hc⟩ := hcs (by omega)
      obtain ⟨x, hx⟩ : ∃ x, cs[k]? = some x := ⟨_, List.getElem?_eq_getElem hlt⟩
      obtain ⟨x0, x1⟩ := hc k x hx
      have hst := hstep.out k x hx
      have hbc := hb.cell (p := ⟨cb', off + k * 2, none⟩) hB
      have hbc1 := hb.cell (p := ⟨cb', off + k * 2 + 1, none⟩) hB
      rw [x0] at hbc
      rw [x1] at hbc1
      obtain ⟨m, v⟩ := x
      by_cases hbk : (k : Int) = but
      · rw [if_pos hbk] at hst
        have hst2 := Lib.hid hst
        clear hst hx x0 x1 hc hbc hbc1 hstep
        subst hbk
        go_wp2
        go_roundw
        case rel => exact ⟨k + 1, by omega, by go_num, hres, by rw [hst2.out]; exact hblk, hb⟩
        case measure => simp [intOf]; omega
      · rw [if_neg hbk] at hst
        have hst2 := Lib.hid hst
        generalize ptsU n cs but k = U at *
        have HP1 := fun w => HP m v w
        have HO1 := fun w => HO U (cpts m v n 8) w
        generalize cpts m v n 8 = V at *
        unfold cv at HP1
        simp only at hbc hbc1
        unfold bvv at hbc hbc1 HP1
        unfold sv wv at HO1 HP1
        obtain ⟨b0, b1, b2, b3, bf⟩ := now4 hblk rfl
        unfold wv at b0 b1 b2 b3
        have hne : ((k : Int) != but) = true := by rw [bne_iff_ne]; exact hbk
        clear hst hx x0 x1 hc HP HO hstep
        have q0 := fun X : After wr => After.cell X hbc
        have q1 := fun X : After wr => After.cell X hbc1
        obtain ⟨z0, z1, z2, z3, -⟩ := box4 hblk rfl
        unfold wv at z0 z1 z2 z3
        clear hbc hbc1 b0 b1 b2 b3 bf
        go_wp2_with fail
        refine wp_region_after_tail 8 (by kernel_rfl) (by kernel_rfl) ?_
        simp only [List.take_succ_cons, List.take_zero, List.drop_succ_cons, List.drop_zero]
        repeat (first | go_big_quiet_step (first | (go_at_call 39; exact Calls.after_of (HP1 _)) | (go_at_call 38; exact Calls.after_of (HO1 _))))
        refine wpQuiet_nil ?_
        intro X
        have hblk2 := X.same hblk
        have hres2 := X.same hres
        have hb2 := hb.trans (X.2.mono hb.size)
        obtain ⟨b0, b1, b2, b3, bf⟩ := now4 hblk2 rfl
        unfold wv at b0 b1 b2 b3
        clear q0 q1 z0 z1 z2 z3 HP1 HO1 hblk hres hb
        go_wp2
        go_roundw
        case rel => exact ⟨k + 1, by omega, by go_num, keep_set4 (by omega) hres2, by rw [hst2.out]; exact put4 hblk2, below4 (by omega) hb2⟩
        case measure => simp [intOf]; omega
    · have e : k = cs.length := by omega
      have e2 := Lib.hid e
      clear e
      obtain ⟨s0, s1, s2, s3, -⟩ := now4 hblk rfl
      obtain ⟨r0, r1, r2, r3, rf⟩ := now4 hres rfl
      have hUe : ptsU n cs but k = ptsU n cs but cs.length := by rw [e2.out]
      generalize ptsU n cs but k = U at *
      have hUe2 := Lib.hid hUe
      clear hUe
      unfold wv at s0 s1 s2 s3
      have hp := put4 (x0 := .int .u64 (wd U 0).toNat) (x1 := .int .u64 (wd U 1).toNat) (x2 := .int .u64 (wd U 2).toNat) (x3 := .int .u64 (wd U 3).toNat) hres
      have hbl := below4 (x0 := .int .u64 (wd U 0).toNat) (x1 := .int .u64 (wd U 1).toNat) (x2 := .int .u64 (wd U 2).toNat) (x3 := .int .u64 (wd U 3).toNat) (Nat.le_refl _) hb
      obtain ⟨p0, p1, p2, p3, -⟩ := now4 hp rfl
      clear hcs HP HO hstep hs0 hres hblk
      go_wp2
      exact bodyPost_ret (v := sv U) (by simp [results, Try.results17, go_sem, p0, p1, p2, p3, sv, wv]) rfl ⟨by rw [hUe2.out], hbl⟩
set_option maxHeartbeats 1000000 in
set_option maxRecDepth 100000 in
theorem may12_any (S M : BitVec 256) (n : Int) (w : World) : Calls Try.prog 13 #[sv S, sv M, .int .i64 n] w fun e w' => e = .returned (.bool (mayB S M n)) ∧ Below w.heap.size w w' := by
  have HO := fun w => rof9_any M n w
  have HW := fun w => refwithin_any S M w
  unfold mayB
  have hB := below_alloc2 w (.cells (sa S) 24) (.cells (sa M) 24)
  have hb0 := heap_alloc2_old w (.cells (sa S) 24) (.cells (sa M) 24)
  have hb1 := heap_alloc2_new w (.cells (sa S) 24) (.cells (sa M) 24)
  unfold sv sa at *
  unfold wv at *
  cases hq : ofB M n
  · rw [hq] at HO
    rw [Bool.false_and]
    go_enter Try.func13, Try.ntmps13
    go_wp2_with fail
    refine (HO _).mono ?_
    rintro e w1 ⟨rfl, hb⟩
    go_wp2
    go_ret
    exact ⟨rfl, hB.trans (hb.mono hB.size)⟩
  · rw [hq] at HO
    rw [Bool.true_and]
    generalize decide (S &&& ~~~M = 0) = d at *
    go_enter Try.func13, Try.ntmps13
    go_wp2_with fail
    refine (HO _).mono ?_
    rintro e w1 ⟨rfl, hb⟩
    have hB1 := hB.trans (hb.mono hB.size)
    obtain ⟨s0, s1, s2, s3, -⟩ := now4 (keep_blk hb hb0) rfl
    obtain ⟨t0, t1, t2, t3, -⟩ := now4 (keep_blk hb hb1) rfl
    clear hb hb0 hb1 hB
    go_wp2_with fail
    refine (HW _).mono ?_
    rintro e w2 ⟨rfl, hb⟩
    go_wp2
    go_ret
    exact ⟨rfl, hB1.trans (hb.mono hB1.size)⟩
end Go.Proofs.Ytnddepijbbchiaa
