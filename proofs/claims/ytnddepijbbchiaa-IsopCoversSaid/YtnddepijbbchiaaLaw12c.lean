/- The statements of layer 12, walked over what the package answers: IsopNone. -/
import Derived.Test.YtnddepijbbchiaaLaw12b
namespace Go.Proofs.Ytnddepijbbchiaa
open Go.RowKit Go.Joins

theorem isopBetween_any (HC : CoverI) (HK : Knows12) (S M : BitVec 256) (n : Int) (w : World) : Calls Try.prog 5 #[sv S, sv M, .int .i64 n] w fun e w' => e = .returned (.bool true) ∧ Below w.heap.size w w' := by
  cases hm : mayB S M n
  · exact between12_no HK S M n hm w
  · obtain ⟨k, rfl⟩ : ∃ k : Nat, n = k := ⟨n.toNat, by have := may_n8 hm; omega⟩
    exact between12_yes HC HK S M k hm w
theorem iso_empty {S M : BitVec 256} {n : Nat} (h : mayB S M n = true) (h0 : isoS S M n = []) : S = 0 := by
  have hi := iso_isc h
  rw [h0] at hi
  apply BitVec.eq_of_getLsbD_eq
  intro p _
  rw [show (0 : BitVec 256).getLsbD p = false from BitVec.getLsbD_zero, Bool.eq_false_iff]
  intro hp
  have := hi.holds p hp
  unfold heldF at this
  simp at this
theorem iso_less {S M : BitVec 256} {n : Nat} (h : mayB S M n = true) {k : Nat} (hk : k < (isoS S M n).length) : decide (S &&& ~~~(ptsU n (isoS S M n) (k : Int) (isoS S M n).length) = 0) = false := by
  rw [decide_eq_false_iff_not]
  intro hz
  have hi := iso_isc h
  obtain ⟨p, hp, ho⟩ := hi.none k _ (List.getElem?_eq_getElem hk)
  have hl := (may_iso h).low p ((may_iso h).sub p hp)
  have h8 := (may_iso h).n8
  have hpl : p < 256 := Nat.lt_of_lt_of_le hl (Nat.pow_le_pow_right (n := 2) (by decide) h8)
  have := (less_zero _ _).1 hz p hpl
  have hp' : S.getLsbD p = true := hp
  rw [hp', Bool.true_and, Bool.not_eq_false', ptsU_bit n h8] at this
  obtain ⟨-, j, x, -, hj, hx, hf⟩ := this
  exact hj (by rw [ho j x hx hf])
theorem which_mod (b : BitVec 8) (l : Nat) : ((b.toNat : Int) % (l : Int)) = ((b.toNat % l : Nat) : Int) := by omega
set_option maxHeartbeats 2000000 in
set_option maxRecDepth 100000 in
theorem none12_no (HK : Knows12) (S M : BitVec 256) (n : Int) (hm : mayB S M n = false) (b : BitVec 8) (w : World) : Calls Try.prog 6 #[sv S, sv M, .int .i64 n, .int .u8 b.toNat] w fun e w' => e = .returned (.bool true) ∧ Below w.heap.size w w' := by
  have HM := fun w => may12_any S M n w
  rw [hm] at HM
  have hB := below_alloc2 w (.cells (sa S) 24) (.cells (sa M) 24)
  have hb0 := heap_alloc2_old w (.cells (sa S) 24) (.cells (sa M) 24)
  have hb1 := heap_alloc2_new w (.cells (sa S) 24) (.cells (sa M) 24)
  obtain ⟨s0, s1, s2, s3, -⟩ := now4 hb0 rfl
  obtain ⟨t0, t1, t2, t3, -⟩ := now4 hb1 rfl
  unfold sv sa at *
  unfold wv at *
  go_enter Try.func6, Try.ntmps6
  go_wp2_with fail
  refine (HM _).mono ?_
  rintro e w1 ⟨rfl, hb⟩
  have hB1 := hB.trans (hb.mono hB.size)
  clear s0 s1 s2 s3 t0 t1 t2 t3 hb0 hb1 hB hb HM
  go_wp2_with fail
  refine (HK _).mono ?_
  rintro e w2 ⟨rfl, hb⟩
  go_wp2
  go_ret
  exact ⟨rfl, hB1.trans (hb.mono hB1.size)⟩
set_option maxHeartbeats 2000000 in
set_option maxRecDepth 100000 in
theorem none12_yes (HC : CoverI) (HK : Knows12) (S M : BitVec 256) (n : Nat) (hm : mayB S M n = true) (b : BitVec 8) (w : World) : Calls Try.prog 6 #[sv S, sv M, .int .i64 n, .int .u8 b.toNat] w fun e w' => e = .returned (.bool true) ∧ Below w.heap.size w w' := by
  have hn := (may_iso hm).n8
  have HM := fun w => may12_any S M n w
  rw [hm] at HM
  have C1 := fun w => cover_yes HC hm w
  rw [Int.toNat_natCast] at C1
  have HK' : ∀ w : World, Calls Try.prog 9 #[] w fun e w' => e = .returned (.bool true) ∧ Below w.heap.size w w' := HK
  by_cases hl : (isoS S M n).length = 0
  · obtain rfl := iso_empty hm (List.eq_nil_of_length_eq_zero hl)
    generalize isoS 0 M n = L1 at *
    have hl' : ((L1.length : Nat) : Int) = 0 := by omega
    clear HC hm hn HK
    have HE := fun w1 => eq4_refl 0 0 0 0 w1
    have hw0 : ((wd (0 : BitVec 256) 0).toNat : Int) = 0 ∧ ((wd (0 : BitVec 256) 1).toNat : Int) = 0 ∧ ((wd (0 : BitVec 256) 2).toNat : Int) = 0 ∧ ((wd (0 : BitVec 256) 3).toNat : Int) = 0 := by decide +kernel
    have hB := below_alloc2 w (.cells (sa (0 : BitVec 256)) 24) (.cells (sa M) 24)
    have hb0 := heap_alloc2_old w (.cells (sa (0 : BitVec 256)) 24) (.cells (sa M) 24)
    have hb1 := heap_alloc2_new w (.cells (sa (0 : BitVec 256)) 24) (.cells (sa M) 24)
    obtain ⟨s0, s1, s2, s3, -⟩ := now4 hb0 rfl
    obtain ⟨t0, t1, t2, t3, -⟩ := now4 hb1 rfl
    unfold sv sa at *
    unfold wv at *
    simp only [hw0.1, hw0.2.1, hw0.2.2.1, hw0.2.2.2] at *
    go_enter Try.func6, Try.ntmps6
    go_wp2_with fail
    refine (HM _).mono ?_
    rintro e w1 ⟨rfl, hb⟩
    have hB1 := hB.trans (hb.mono hB.size)
    replace hb0 := keep_blk hb hb0
    replace hb1 := keep_blk hb hb1
    clear s0 s1 s2 s3 t0 t1 t2 t3 hB hb HM
    obtain ⟨s0, s1, s2, s3, -⟩ := now4 hb0 rfl
    obtain ⟨t0, t1, t2, t3, -⟩ := now4 hb1 rfl
    go_wp2_with fail
    refine (C1 _).mono ?_
    rintro e w2 ⟨v, rfl, hL, hb⟩
    have hB2 := hB1.trans (hb.mono hB1.size)
    replace hb0 := keep_blk hb hb0
    obtain ⟨A, c, rfl, -, -⟩ := hL
    clear s0 s1 s2 s3 t0 t1 t2 t3 hB1 hb C1 hb1
    obtain ⟨s0, s1, s2, s3⟩ := al4 hb0 rfl
    obtain ⟨r0, r1, r2, r3, -⟩ := now4 hb0 rfl
    rw [hl]
    go_wp2_with fail
    refine (HK' _).mono ?_
    rintro e w3 ⟨rfl, hb⟩
    go_wp2
    go_ret
    exact ⟨rfl, hB2.trans (hb.mono hB2.size)⟩
  · generalize hk : b.toNat % (isoS S M n).length = k
    have hkl : k < (isoS S M n).length := by rw [← hk]; exact Nat.mod_lt _ (by omega)
    have W1 := fun w => refwithin_any S (ptsU n (isoS S M n) (k : Int) (isoS S M n).length) w
    rw [iso_less hm hkl] at W1
    have P1 := fun v w h => points12_any (isoS S M n) n hn k v w h
    have hkw := which_mod b (isoS S M n).length
    rw [hk] at hkw
    generalize ptsU n (isoS S M n) (k : Int) (isoS S M n).length = U at *
    generalize isoS S M n = L1 at *
    clear HC hm hn HK hk
    have hB := below_alloc2 w (.cells (sa S) 24) (.cells (sa M) 24)
    have hb0 := heap_alloc2_old w (.cells (sa S) 24) (.cells (sa M) 24)
    have hb1 := heap_alloc2_new w (.cells (sa S) 24) (.cells (sa M) 24)
    obtain ⟨s0, s1, s2, s3, -⟩ := now4 hb0 rfl
    obtain ⟨t0, t1, t2, t3, -⟩ := now4 hb1 rfl
    unfold sv sa at *
    unfold wv at *
    go_enter Try.func6, Try.ntmps6
    go_wp2_with fail
    refine (HM _).mono ?_
    rintro e w1 ⟨rfl, hb⟩
    have hB1 := hB.trans (hb.mono hB.size)
    replace hb0 := keep_blk hb hb0
    replace hb1 := keep_blk hb hb1
    clear s0 s1 s2 s3 t0 t1 t2 t3 hB hb HM
    obtain ⟨s0, s1, s2, s3, -⟩ := now4 hb0 rfl
    obtain ⟨t0, t1, t2, t3, -⟩ := now4 hb1 rfl
    go_wp2_with fail
    refine (C1 _).mono ?_
    rintro e w2 ⟨v, rfl, hL, hb⟩
    have hB2 := hB1.trans (hb.mono hB1.size)
    replace hb0 := keep_blk hb hb0
    clear s0 s1 s2 s3 t0 t1 t2 t3 hB1 hb C1 hb1
    obtain ⟨s0, s1, s2, s3, -⟩ := box4 hb0 rfl
    have P2 := fun X : After w2 => P1 v X.1 ((hL.below X.2).more X.2.size)
    obtain ⟨A, c, rfl, -, -⟩ := hL
    have hne : ¬ (L1.length : Int) = 0 := by omega
    have hne2 : (0 : Int) < (L1.length : Int) := by omega
    clear P1
    go_wp2_with fail
    refine wp_region_after (by kernel_rfl) (by kernel_rfl) ?_
    repeat (first | go_big_quiet_step (first | (go_at_call 18; exact Calls.after_of (W1 _)) | (go_at_call 17; exact Calls.after_of (P2 _)) | (go_at_call 9; exact Calls.after_of (HK' _))))
    refine wpQuiet_nil ?_
    intro z
    have hBz := hB2.trans (z.2.mono hB2.size)
    go_wp2
    go_ret
    exact ⟨rfl, hBz⟩
theorem isopNone_any (HC : CoverI) (HK : Knows12) (S M : BitVec 256) (n : Int) (b : BitVec 8) (w : World) : Calls Try.prog 6 #[sv S, sv M, .int .i64 n, .int .u8 b.toNat] w fun e w' => e = .returned (.bool true) ∧ Below w.heap.size w w' := by
  cases hm : mayB S M n
  · exact none12_no HK S M n hm b w
  · obtain ⟨k, rfl⟩ : ∃ k : Nat, n = k := ⟨n.toNat, by have := may_n8 hm; omega⟩
    exact none12_yes HC HK S M k hm b w
end Go.Proofs.Ytnddepijbbchiaa
