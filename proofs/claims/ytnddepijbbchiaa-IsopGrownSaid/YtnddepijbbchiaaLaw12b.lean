/- The statements of layer 12, walked over what the package answers: IsopBetween. -/
import Derived.Test.YtnddepijbbchiaaLaw12
namespace Go.Proofs.Ytnddepijbbchiaa
open Go.RowKit Go.Joins

/-- What the statements' own examples come to. -/
def Knows12 : Prop := ∀ w : World, Calls Try.prog 9 #[] w fun e w' => e = .returned (.bool true) ∧ Below w.heap.size w w'
theorem pts_all (n : Nat) (hn : n ≤ 8) (l : List Cb) (p : Nat) : (ptsU n l (-1) l.length).getLsbD p = (decide (p < 2 ^ n) && heldF l p) := by
  rw [Bool.eq_iff_iff, ptsU_bit n hn, Bool.and_eq_true, decide_eq_true_iff]
  constructor
  · rintro ⟨a, j, x, -, -, h3, h4⟩; exact ⟨a, held_of h3 h4⟩
  · rintro ⟨a, h⟩
    obtain ⟨j, x, h3, h4⟩ := held_some h
    exact ⟨a, j, x, (List.getElem?_eq_some_iff.1 h3).1, by omega, h3, h4⟩
theorem may_n8 {S M : BitVec 256} {n : Int} (h : mayB S M n = true) : 0 ≤ n ∧ n ≤ 8 := by
  unfold mayB ofB at h
  rw [Bool.and_eq_true, Bool.and_eq_true] at h
  exact of_decide_eq_true h.1.1
theorem sub_bits {A B : BitVec 256} (h : ∀ p, A.getLsbD p = true → B.getLsbD p = true) : A &&& ~~~B = 0 :=
  (less_zero A B).2 fun p _ => by
    cases ha : A.getLsbD p
    · rfl
    · rw [h p ha]; rfl
theorem may_same {S M : BitVec 256} {n : Nat} (h : mayB S M n = true) : mayB S S n = true := by
  have hi := may_iso h
  have h8 := may_n8 h
  unfold mayB ofB
  rw [Bool.and_eq_true, Bool.and_eq_true]
  refine ⟨⟨decide_eq_true h8, decide_eq_true (sub_bits fun p hp => ?_)⟩, decide_eq_true (sub_bits fun p hp => hp)⟩
  have hl := hi.low p (hi.sub p hp)
  rw [Int.toNat_natCast]
  unfold allB
  rw [bvOf_bit]
  have : 2 ^ n ≤ 256 := Nat.pow_le_pow_right (n := 2) (by decide) hi.n8
  simp [hl]; omega
theorem iso_isc {S M : BitVec 256} {n : Nat} (h : mayB S M n = true) : IsC n 0 (fun p => S.getLsbD p) (fun p => M.getLsbD p) (isoS S M n) :=
  iso_is n (n + 1) _ _ 0 (by omega) (may_iso h)
theorem iso_holds {S M : BitVec 256} {n : Nat} (h : mayB S M n = true) : S &&& ~~~(ptsU n (isoS S M n) (-1) (isoS S M n).length) = 0 :=
  sub_bits fun p hp => by
    have hi := may_iso h
    rw [pts_all n hi.n8, (iso_isc h).holds p hp, decide_eq_true (hi.low p (hi.sub p hp))]; rfl
theorem iso_within {S M : BitVec 256} {n : Nat} (h : mayB S M n = true) : ptsU n (isoS S M n) (-1) (isoS S M n).length &&& ~~~M = 0 :=
  sub_bits fun p hp => by
    have hi := may_iso h
    rw [pts_all n hi.n8, Bool.and_eq_true, decide_eq_true_iff] at hp
    exact (iso_isc h).within p hp.1 hp.2
theorem iso_just {S : BitVec 256} {n : Nat} (h : mayB S S n = true) : ptsU n (isoS S S n) (-1) (isoS S S n).length = S := by
  apply BitVec.eq_of_getLsbD_eq
  intro p _
  rw [Bool.eq_iff_iff]
  have hi := may_iso h
  rw [pts_all n hi.n8, Bool.and_eq_true, decide_eq_true_iff]
  constructor
  · rintro ⟨a, b⟩; exact (iso_isc h).within p a b
  · intro hp; exact ⟨hi.low p (hi.sub p hp), (iso_isc h).holds p hp⟩
set_option maxHeartbeats 2000000 in
set_option maxRecDepth 100000 in
theorem between12_no (HK : Knows12) (S M : BitVec 256) (n : Int) (hm : mayB S M n = false) (w : World) : Calls Try.prog 5 #[sv S, sv M, .int .i64 n] w fun e w' => e = .returned (.bool true) ∧ Below w.heap.size w w' := by
  have HM := fun w => may12_any S M n w
  rw [hm] at HM
  have hB := below_alloc2 w (.cells (sa S) 24) (.cells (sa M) 24)
  have hb0 := heap_alloc2_old w (.cells (sa S) 24) (.cells (sa M) 24)
  have hb1 := heap_alloc2_new w (.cells (sa S) 24) (.cells (sa M) 24)
  obtain ⟨s0, s1, s2, s3, -⟩ := now4 hb0 rfl
  obtain ⟨t0, t1, t2, t3, -⟩ := now4 hb1 rfl
  unfold sv sa at *
  unfold wv at *
  go_enter Try.func5, Try.ntmps5
  go_wp2_with fail
  refine (HM _).mono ?_
  rintro e w1 ⟨rfl, hb⟩
  have hB1 := hB.trans (hb.mono hB.size)
  clear s0 s1 s2 s3 t0 t1 t2 t3 hb0 hb1 hB hb HM
  go_wp2_with fail
  refine (HK _).mono ?_
  rintro e w2 ⟨rfl, hb⟩
  go_wp2
  go_ret
  exact ⟨rfl, hB1.trans (hb.mono hB1.size)⟩
set_option maxHeartbeats 2000000 in
set_option maxRecDepth 100000 in
theorem between12_yes (HC : CoverI) (HK : Knows12) (S M : BitVec 256) (n : Nat) (hm : mayB S M n = true) (w : World) : Calls Try.prog 5 #[sv S, sv M, .int .i64 n] w fun e w' => e = .returned (.bool true) ∧ Below w.heap.size w w' := by
  have hn := (may_iso hm).n8
  have HM := fun w => may12_any S M n w
  rw [hm] at HM
  have C1 := fun w => cover_yes HC hm w
  have C2 := fun w => cover_yes HC (may_same hm) w
  rw [Int.toNat_natCast] at C1 C2
  have W1 := fun w => refwithin_any S (ptsU n (isoS S M n) (-1) (isoS S M n).length) w
  have W2 := fun w => refwithin_any (ptsU n (isoS S M n) (-1) (isoS S M n).length) M w
  rw [decide_eq_true (iso_holds hm)] at W1
  rw [decide_eq_true (iso_within hm)] at W2
  have P1 := fun v w h => points12_any (isoS S M n) n hn (-1) v w h
  have P2 := fun v w h => points12_any (isoS S S n) n hn (-1) v w h
  rw [iso_just (may_same hm)] at P2
  generalize ptsU n (isoS S M n) (-1) (isoS S M n).length = U at *
  generalize isoS S M n = L1 at *
  generalize isoS S S n = L2 at *
  clear HC hm hn
  have hB := below_alloc2 w (.cells (sa S) 24) (.cells (sa M) 24)
  have hb0 := heap_alloc2_old w (.cells (sa S) 24) (.cells (sa M) 24)
  have hb1 := heap_alloc2_new w (.cells (sa S) 24) (.cells (sa M) 24)
  obtain ⟨s0, s1, s2, s3, -⟩ := now4 hb0 rfl
  obtain ⟨t0, t1, t2, t3, -⟩ := now4 hb1 rfl
  unfold sv sa at *
  unfold wv at *
  go_enter Try.func5, Try.ntmps5
  go_wp2_with fail
  refine (HM _).mono ?_
  rintro e w1 ⟨rfl, hb⟩
  have hB1 := hB.trans (hb.mono hB.size)
  replace hb0 := keep_blk hb hb0
  replace hb1 := keep_blk hb hb1
  clear s0 s1 s2 s3 t0 t1 t2 t3 hB hb HM
  obtain ⟨s0, s1, s2, s3, -⟩ := now4 hb0 rfl
  obtain ⟨t0, t1, t2, t3, -⟩ := now4 hb1 rfl
  go_wp2_with fail
  refine (C1 _).mono ?_
  rintro e w2 ⟨v, rfl, hL, hb⟩
  have hB2 := hB1.trans (hb.mono hB1.size)
  replace hb0 := keep_blk hb hb0
  replace hb1 := keep_blk hb hb1
  clear s0 s1 s2 s3 t0 t1 t2 t3 hB1 hb C1
  obtain ⟨s0, s1, s2, s3, -⟩ := now4 hb0 rfl
  obtain ⟨t0, t1, t2, t3, -⟩ := now4 hb1 rfl
  have P1' := P1 v _ hL
  obtain ⟨A, c, rfl, -, -⟩ := hL
  go_wp2_with fail
  refine P1'.mono ?_
  rintro e w3 ⟨rfl, hb⟩
  have hB3 := hB2.trans (hb.mono hB2.size)
  replace hb0 := keep_blk hb hb0
  replace hb1 := keep_blk hb hb1
  clear s0 s1 s2 s3 t0 t1 t2 t3 hB2 hb P1 P1'
  obtain ⟨s0, s1, s2, s3⟩ := al4 hb0 rfl
  have hpu := heap_alloc_new w3 (.cells #[Value.int IntKind.u64 (wd U 0).toNat, Value.int IntKind.u64 (wd U 1).toNat, Value.int IntKind.u64 (wd U 2).toNat, Value.int IntKind.u64 (wd U 3).toNat] 24)
  have hA := below_alloc1 w3 (.cells #[Value.int IntKind.u64 (wd U 0).toNat, Value.int IntKind.u64 (wd U 1).toNat, Value.int IntKind.u64 (wd U 2).toNat, Value.int IntKind.u64 (wd U 3).toNat] 24)
  have hB4 := hB3.trans (hA.mono hB3.size)
  replace hb0 := keep_blk hA hb0
  replace hb1 := keep_blk hA hb1
  clear hA hB3
  go_wp2_with fail
  refine (C2 _).mono ?_
  rintro e w5 ⟨v2, rfl, hL2, hb⟩
  have hB5 := hB4.trans (hb.mono hB4.size)
  replace hb0 := keep_blk hb hb0
  replace hb1 := keep_blk hb hb1
  replace hpu := keep_blk hb hpu
  clear s0 s1 s2 s3 hB4 hb C2
  obtain ⟨s0, s1, s2, s3, -⟩ := box4 hb0 rfl
  obtain ⟨t0, t1, t2, t3, -⟩ := box4 hb1 rfl
  obtain ⟨p0, p1, p2, p3, -⟩ := box4 hpu rfl
  have P3 := fun X : After w5 => P2 v2 X.1 ((hL2.below X.2).more X.2.size)
  have HE := fun w1 => eq4_refl (wd S 0).toNat (wd S 1).toNat (wd S 2).toNat (wd S 3).toNat w1
  have HK' : ∀ w : World, Calls Try.prog 9 #[] w fun e w' => e = .returned (.bool true) ∧ Below w.heap.size w w' := HK
  obtain ⟨A2, c2, rfl, -, -⟩ := hL2
  clear P2 hb0 hb1 hpu HK
  go_wp2_with fail
  refine wp_region_after (by kernel_rfl) (by kernel_rfl) ?_
  repeat (first | go_big_quiet_step (first | (go_at_call_of 18 (Value.agg #[Value.int IntKind.u64 (wd S 0).toNat, Value.int IntKind.u64 (wd S 1).toNat, Value.int IntKind.u64 (wd S 2).toNat, Value.int IntKind.u64 (wd S 3).toNat]); exact Calls.after_of (W1 _)) | (go_at_call_of 18 (Value.agg #[Value.int IntKind.u64 (wd U 0).toNat, Value.int IntKind.u64 (wd U 1).toNat, Value.int IntKind.u64 (wd U 2).toNat, Value.int IntKind.u64 (wd U 3).toNat]); exact Calls.after_of (W2 _)) | (go_at_call 17; exact Calls.after_of (P3 _)) | (go_at_call 9; exact Calls.after_of (HK' _))))
  refine wpQuiet_nil ?_
  intro z
  have hBz := hB5.trans (z.2.mono hB5.size)
  go_wp2
  go_ret
  exact ⟨rfl, hBz⟩
end Go.Proofs.Ytnddepijbbchiaa
