/- The statement SpecCovers, walked. -/
import Derived.Test.YtckmjampgeojbaaGreatDoorJ13
import Derived.Test.YtckmjampgeojbaaGreatDoorJ20
import Derived.Test.YtckmjampgeojbaaGreatDoorJ22
namespace Go.Proofs.YtckmjampgeojbaaGreatDoor
open Go.RowKit Go.Joins

theorem rcovers_int (i : Int) (A C L : Value) (on may : List (BitVec 256)) (rs : List Rw) (w : World) (hA : SetsAt w w.heap.size A on) (hC : SetsAt w w.heap.size C may) (hL : RwsAt w w.heap.size L rs) (hs : spB ⟨i, on, may⟩ = true) :
    Calls Tryz.prog 11 #[spv i A C, L] w fun e w' => e = .returned (.bool (coversB ⟨i, on, may⟩ rs)) ∧ Below w.heap.size w w' := by
  have hh := (headS_iff _).1 (Bool.and_eq_true_iff.1 (show (headS ⟨i, on, may⟩ && _) = true from hs)).1
  obtain ⟨k, rfl⟩ := Int.eq_ofNat_of_zero_le (show 0 ≤ i from hh.1.1)
  exact rcovers_any k A C L on may rs w hA hC hL hs
set_option maxHeartbeats 4000000 in
set_option maxRecDepth 100000 in
theorem specCovers_great1 (s u : Sp) (A C A2 C2 L : Value) (rs : List Rw) (w : World) (hA : SetsAt w w.heap.size A s.on) (hC : SetsAt w w.heap.size C s.may) (hA2 : SetsAt w w.heap.size A2 u.on) (hC2 : SetsAt w w.heap.size C2 u.may) (hL : RwsAt w w.heap.size L rs) (hkw : KW w)
    (hg : (decide (20 < s.on.length) || (decide (20 < s.may.length) || decide (100 < rs.length))) = true) :
    Calls Tryz.prog 3 #[spv s.i A C, spv u.i A2 C2, L] w fun e w' => e = .returned (.bool true) ∧ Below w.heap.size w w' := by
  have hB0 := below_alloc2 w (spb s.i A C) (spb u.i A2 C2)
  have hs0 := heap_alloc2_old w (spb s.i A C) (spb u.i A2 C2)
  have hu0 := heap_alloc2_new w (spb s.i A C) (spb u.i A2 C2)
  have HG := great4_any s.i A C L s.on s.may rs _ ((hA.below hB0).more hB0.size) ((hC.below hB0).more hB0.size) ((hL.below hB0).more hB0.size)
  rw [hg] at HG
  have HK := fun W (hW : Below w.heap.size w W) => knows4_any W (hkw.below hW)
  obtain ⟨A, ac, rfl, la, -⟩ := hA
  obtain ⟨C, cc, rfl, lc, -⟩ := hC
  obtain ⟨A2, ac2, rfl, la2, -⟩ := hA2
  obtain ⟨C2, cc2, rfl, lc2, -⟩ := hC2
  obtain ⟨L, lc', rfl, ll, -⟩ := hL
  unfold spv spb at *
  obtain ⟨q0, q1, q2, -⟩ := now3 hs0 rfl
  obtain ⟨r0, r1, r2, -⟩ := now3 hu0 rfl
  clear hg
  go_enter Tryz.func3, Tryz.ntmps3
  go_wp2_with fail
  refine HG.mono ?_
  rintro e w1 ⟨rfl, hb1⟩
  have hB1 := hB0.trans (hb1.mono hB0.size)
  have HK1 := HK w1 hB1
  clear HG hb1 HK q0 q1 q2 r0 r1 r2
  go_wp2_with fail
  refine HK1.mono ?_
  rintro e w2 ⟨rfl, hb2⟩
  have hB2 := hB1.trans (hb2.mono hB1.size)
  clear HK1
  go_wp2
  go_ret
  exact ⟨rfl, hB2⟩
set_option maxHeartbeats 8000000 in
set_option maxRecDepth 100000 in
theorem specCovers_small (s u : Sp) (A C A2 C2 L : Value) (rs : List Rw) (w : World) (hA : SetsAt w w.heap.size A s.on) (hC : SetsAt w w.heap.size C s.may) (hA2 : SetsAt w w.heap.size A2 u.on) (hC2 : SetsAt w w.heap.size C2 u.may) (hL : RwsAt w w.heap.size L rs) (hkw : KW w)
    (hg : (decide (20 < s.on.length) || (decide (20 < s.may.length) || decide (100 < rs.length))) = false) :
    Calls Tryz.prog 3 #[spv s.i A C, spv u.i A2 C2, L] w fun e w' => e = .returned (.bool true) ∧ Below w.heap.size w w' := by
  have hB0 := below_alloc2 w (spb s.i A C) (spb u.i A2 C2)
  have hs0 := heap_alloc2_old w (spb s.i A C) (spb u.i A2 C2)
  have hu0 := heap_alloc2_new w (spb s.i A C) (spb u.i A2 C2)
  have HG := great4_any s.i A C L s.on s.may rs _ ((hA.below hB0).more hB0.size) ((hC.below hB0).more hB0.size) ((hL.below hB0).more hB0.size)
  rw [hg] at HG
  have HG2 := fun W (hW : Below w.heap.size w W) => great4_any u.i A2 C2 (.slice none 0 0) u.on u.may [] W ((hA2.below hW).more hW.size) ((hC2.below hW).more hW.size) (rws_nil _ _)
  have HK := fun W (hW : Below w.heap.size w W) => knows4_any W (hkw.below hW)
  have HR := fun W (hW : Below w.heap.size w W) => sright_any s.i A C s.on s.may W ((hA.below hW).more hW.size) ((hC.below hW).more hW.size)
  have HRr := fun W (hW : Below w.heap.size w W) => rspec_any s.i A C s.on s.may W ((hA.below hW).more hW.size) ((hC.below hW).more hW.size)
  have HS := fun W (hW : Below w.heap.size w W) => ssame_any s u A C A2 C2 W ((hA.below hW).more hW.size) ((hC.below hW).more hW.size) ((hA2.below hW).more hW.size) ((hC2.below hW).more hW.size)
  have HSr := fun W (hW : Below w.heap.size w W) => rsame4_any s u A C A2 C2 W ((hA.below hW).more hW.size) ((hC.below hW).more hW.size) ((hA2.below hW).more hW.size) ((hC2.below hW).more hW.size)
  have HC := fun W (hW : Below w.heap.size w W) => scovers_any s.i A C L s.on s.may rs W ((hA.below hW).more hW.size) ((hC.below hW).more hW.size) ((hL.below hW).more hW.size)
  have HCr := fun (hs : spB ⟨s.i, s.on, s.may⟩ = true) W (hW : Below w.heap.size w W) => rcovers_int s.i A C L s.on s.may rs W ((hA.below hW).more hW.size) ((hC.below hW).more hW.size) ((hL.below hW).more hW.size) hs
  generalize (decide (20 < u.on.length) || (decide (20 < u.may.length) || decide (100 < ([] : List Rw).length))) = g2 at *
  generalize spB ⟨s.i, s.on, s.may⟩ = ok at *
  generalize sameSp s u = sm at *
  generalize coversB ⟨s.i, s.on, s.may⟩ rs = cov at *
  obtain ⟨A, ac, rfl, la, -⟩ := hA
  obtain ⟨C, cc, rfl, lc, -⟩ := hC
  obtain ⟨A2, ac2, rfl, la2, -⟩ := hA2
  obtain ⟨C2, cc2, rfl, lc2, -⟩ := hC2
  obtain ⟨L, lc', rfl, ll, -⟩ := hL
  unfold spv spb at *
  obtain ⟨q0, q1, q2, -⟩ := now3 hs0 rfl
  obtain ⟨r0, r1, r2, -⟩ := now3 hu0 rfl
  clear hg
  go_enter Tryz.func3, Tryz.ntmps3
  go_wp2_with fail
  refine HG.mono ?_
  rintro e w1 ⟨rfl, hb1⟩
  have hB1 := hB0.trans (hb1.mono hB0.size)
  have hs1 := keep_blk hb1 hs0
  have hu1 := keep_blk hb1 hu0
  have HG21 := HG2 w1 hB1
  clear HG hb1 q0 q1 q2 r0 r1 r2 HG2 hs0 hu0 hB0
  obtain ⟨q0, q1, q2, -⟩ := now3 hs1 rfl
  obtain ⟨r0, r1, r2, -⟩ := now3 hu1 rfl
  go_wp2_with fail
  refine HG21.mono ?_
  rintro e w2 ⟨rfl, hb2⟩
  have hB2 := hB1.trans (hb2.mono hB1.size)
  have hs2 := keep_blk hb2 hs1
  have hu2 := keep_blk hb2 hu1
  clear HG21 hb2 q0 q1 q2 r0 r1 r2 hs1 hu1 hB1
  cases g2
  · obtain ⟨q0, q1, q2, -⟩ := now3 hs2 rfl
    obtain ⟨r0, r1, r2, -⟩ := now3 hu2 rfl
    have HRr2 := HRr w2 hB2
    go_wp2_with fail
    refine HRr2.mono ?_
    rintro e w3 ⟨rfl, hb3⟩
    have hB3 := hB2.trans (hb3.mono hB2.size)
    have hs3 := keep_blk hb3 hs2
    have hu3 := keep_blk hb3 hu2
    clear HRr2 HRr hb3 q0 q1 q2 r0 r1 r2 hs2 hu2 hB2
    obtain ⟨q0, q1, q2, -⟩ := now3 hs3 rfl
    obtain ⟨r0, r1, r2, -⟩ := now3 hu3 rfl
    cases ok
    · clear HCr
      simp only [Bool.false_and] at HC
      cases sm
      · skip
        have HR' := fun x : After w3 => HR x.1 (hB3.trans (x.2.mono hB3.size))
        have HS' := fun x : After w3 => HS x.1 (hB3.trans (x.2.mono hB3.size))
        have HSr' := fun x : After w3 => HSr x.1 (hB3.trans (x.2.mono hB3.size))
        have HC' := fun x : After w3 => HC x.1 (hB3.trans (x.2.mono hB3.size))
        have HK' := fun x : After w3 => HK x.1 (hB3.trans (x.2.mono hB3.size))
        clear HR HS HSr HC HK q0 q1 q2 r0 r1 r2
        go_upto_region 4 with (fail)
        obtain ⟨S0, S1, S2, -⟩ := box3 hs3 rfl
        obtain ⟨U0, U1, U2, -⟩ := box3 hu3 rfl
        refine wp_region_after_tail 28 (by kernel_rfl) (by kernel_rfl) ?_
        simp only [List.take_succ_cons, List.take_zero, List.drop_succ_cons, List.drop_zero]
        repeat (first | go_big_quiet_step ((first | (go_at_call 7; exact Calls.after_of (HR' _)) | (go_at_call 8; exact Calls.after_of (HS' _)) | (go_at_call 9; exact Calls.after_of (HSr' _)) | (go_at_call 10; exact Calls.after_of (HC' _)) | (go_at_call 5; exact Calls.after_of (HK' _)))))
        refine wpQuiet_nil ?_
        intro x
        have hB4 := hB3.trans (x.2.mono hB3.size)
        clear HR' HS' HSr' HC' HK' S0 S1 S2 U0 U1 U2
        go_wp2
        go_ret
        exact ⟨rfl, hB4⟩
      · skip
        have HR' := fun x : After w3 => HR x.1 (hB3.trans (x.2.mono hB3.size))
        have HS' := fun x : After w3 => HS x.1 (hB3.trans (x.2.mono hB3.size))
        have HSr' := fun x : After w3 => HSr x.1 (hB3.trans (x.2.mono hB3.size))
        have HC' := fun x : After w3 => HC x.1 (hB3.trans (x.2.mono hB3.size))
        have HK' := fun x : After w3 => HK x.1 (hB3.trans (x.2.mono hB3.size))
        clear HR HS HSr HC HK q0 q1 q2 r0 r1 r2
        go_upto_region 4 with (fail)
        obtain ⟨S0, S1, S2, -⟩ := box3 hs3 rfl
        obtain ⟨U0, U1, U2, -⟩ := box3 hu3 rfl
        refine wp_region_after_tail 28 (by kernel_rfl) (by kernel_rfl) ?_
        simp only [List.take_succ_cons, List.take_zero, List.drop_succ_cons, List.drop_zero]
        repeat (first | go_big_quiet_step ((first | (go_at_call 7; exact Calls.after_of (HR' _)) | (go_at_call 8; exact Calls.after_of (HS' _)) | (go_at_call 9; exact Calls.after_of (HSr' _)) | (go_at_call 10; exact Calls.after_of (HC' _)) | (go_at_call 5; exact Calls.after_of (HK' _)))))
        refine wpQuiet_nil ?_
        intro x
        have hB4 := hB3.trans (x.2.mono hB3.size)
        clear HR' HS' HSr' HC' HK' S0 S1 S2 U0 U1 U2
        go_wp2
        go_ret
        exact ⟨rfl, hB4⟩
    · replace HCr := HCr rfl
      simp only [Bool.true_and] at HC
      cases sm
      · cases cov
        · skip
          have HR' := fun x : After w3 => HR x.1 (hB3.trans (x.2.mono hB3.size))
          have HS' := fun x : After w3 => HS x.1 (hB3.trans (x.2.mono hB3.size))
          have HSr' := fun x : After w3 => HSr x.1 (hB3.trans (x.2.mono hB3.size))
          have HC' := fun x : After w3 => HC x.1 (hB3.trans (x.2.mono hB3.size))
          have HCr' := fun x : After w3 => HCr x.1 (hB3.trans (x.2.mono hB3.size))
          have HK' := fun x : After w3 => HK x.1 (hB3.trans (x.2.mono hB3.size))
          clear HR HS HSr HC HCr HK q0 q1 q2 r0 r1 r2
          go_upto_region 4 with (fail)
          obtain ⟨S0, S1, S2, -⟩ := box3 hs3 rfl
          obtain ⟨U0, U1, U2, -⟩ := box3 hu3 rfl
          refine wp_region_after_tail 28 (by kernel_rfl) (by kernel_rfl) ?_
          simp only [List.take_succ_cons, List.take_zero, List.drop_succ_cons, List.drop_zero]
          repeat (first | go_big_quiet_step ((first | (go_at_call 7; exact Calls.after_of (HR' _)) | (go_at_call 8; exact Calls.after_of (HS' _)) | (go_at_call 9; exact Calls.after_of (HSr' _)) | (go_at_call 10; exact Calls.after_of (HC' _)) | (go_at_call 11; exact Calls.after_of (HCr' _)) | (go_at_call 5; exact Calls.after_of (HK' _)))))
          refine wpQuiet_nil ?_
          intro x
          have hB4 := hB3.trans (x.2.mono hB3.size)
          clear HR' HS' HSr' HC' HCr' HK' S0 S1 S2 U0 U1 U2
          go_wp2
          go_ret
          exact ⟨rfl, hB4⟩
        · skip
          have HR' := fun x : After w3 => HR x.1 (hB3.trans (x.2.mono hB3.size))
          have HS' := fun x : After w3 => HS x.1 (hB3.trans (x.2.mono hB3.size))
          have HSr' := fun x : After w3 => HSr x.1 (hB3.trans (x.2.mono hB3.size))
          have HC' := fun x : After w3 => HC x.1 (hB3.trans (x.2.mono hB3.size))
          have HCr' := fun x : After w3 => HCr x.1 (hB3.trans (x.2.mono hB3.size))
          have HK' := fun x : After w3 => HK x.1 (hB3.trans (x.2.mono hB3.size))
          clear HR HS HSr HC HCr HK q0 q1 q2 r0 r1 r2
          go_upto_region 4 with (fail)
          obtain ⟨S0, S1, S2, -⟩ := box3 hs3 rfl
          obtain ⟨U0, U1, U2, -⟩ := box3 hu3 rfl
          refine wp_region_after_tail 28 (by kernel_rfl) (by kernel_rfl) ?_
          simp only [List.take_succ_cons, List.take_zero, List.drop_succ_cons, List.drop_zero]
          repeat (first | go_big_quiet_step ((first | (go_at_call 7; exact Calls.after_of (HR' _)) | (go_at_call 8; exact Calls.after_of (HS' _)) | (go_at_call 9; exact Calls.after_of (HSr' _)) | (go_at_call 10; exact Calls.after_of (HC' _)) | (go_at_call 11; exact Calls.after_of (HCr' _)) | (go_at_call 5; exact Calls.after_of (HK' _)))))
          refine wpQuiet_nil ?_
          intro x
          have hB4 := hB3.trans (x.2.mono hB3.size)
          clear HR' HS' HSr' HC' HCr' HK' S0 S1 S2 U0 U1 U2
          go_wp2
          go_ret
          exact ⟨rfl, hB4⟩
      · cases cov
        · skip
          have HR' := fun x : After w3 => HR x.1 (hB3.trans (x.2.mono hB3.size))
          have HS' := fun x : After w3 => HS x.1 (hB3.trans (x.2.mono hB3.size))
          have HSr' := fun x : After w3 => HSr x.1 (hB3.trans (x.2.mono hB3.size))
          have HC' := fun x : After w3 => HC x.1 (hB3.trans (x.2.mono hB3.size))
          have HCr' := fun x : After w3 => HCr x.1 (hB3.trans (x.2.mono hB3.size))
          have HK' := fun x : After w3 => HK x.1 (hB3.trans (x.2.mono hB3.size))
          clear HR HS HSr HC HCr HK q0 q1 q2 r0 r1 r2
          go_upto_region 4 with (fail)
          obtain ⟨S0, S1, S2, -⟩ := box3 hs3 rfl
          obtain ⟨U0, U1, U2, -⟩ := box3 hu3 rfl
          refine wp_region_after_tail 28 (by kernel_rfl) (by kernel_rfl) ?_
          simp only [List.take_succ_cons, List.take_zero, List.drop_succ_cons, List.drop_zero]
          repeat (first | go_big_quiet_step ((first | (go_at_call 7; exact Calls.after_of (HR' _)) | (go_at_call 8; exact Calls.after_of (HS' _)) | (go_at_call 9; exact Calls.after_of (HSr' _)) | (go_at_call 10; exact Calls.after_of (HC' _)) | (go_at_call 11; exact Calls.after_of (HCr' _)) | (go_at_call 5; exact Calls.after_of (HK' _)))))
          refine wpQuiet_nil ?_
          intro x
          have hB4 := hB3.trans (x.2.mono hB3.size)
          clear HR' HS' HSr' HC' HCr' HK' S0 S1 S2 U0 U1 U2
          go_wp2
          go_ret
          exact ⟨rfl, hB4⟩
        · skip
          have HR' := fun x : After w3 => HR x.1 (hB3.trans (x.2.mono hB3.size))
          have HS' := fun x : After w3 => HS x.1 (hB3.trans (x.2.mono hB3.size))
          have HSr' := fun x : After w3 => HSr x.1 (hB3.trans (x.2.mono hB3.size))
          have HC' := fun x : After w3 => HC x.1 (hB3.trans (x.2.mono hB3.size))
          have HCr' := fun x : After w3 => HCr x.1 (hB3.trans (x.2.mono hB3.size))
          have HK' := fun x : After w3 => HK x.1 (hB3.trans (x.2.mono hB3.size))
          clear HR HS HSr HC HCr HK q0 q1 q2 r0 r1 r2
          go_upto_region 4 with (fail)
          obtain ⟨S0, S1, S2, -⟩ := box3 hs3 rfl
          obtain ⟨U0, U1, U2, -⟩ := box3 hu3 rfl
          refine wp_region_after_tail 28 (by kernel_rfl) (by kernel_rfl) ?_
          simp only [List.take_succ_cons, List.take_zero, List.drop_succ_cons, List.drop_zero]
          repeat (first | go_big_quiet_step ((first | (go_at_call 7; exact Calls.after_of (HR' _)) | (go_at_call 8; exact Calls.after_of (HS' _)) | (go_at_call 9; exact Calls.after_of (HSr' _)) | (go_at_call 10; exact Calls.after_of (HC' _)) | (go_at_call 11; exact Calls.after_of (HCr' _)) | (go_at_call 5; exact Calls.after_of (HK' _)))))
          refine wpQuiet_nil ?_
          intro x
          have hB4 := hB3.trans (x.2.mono hB3.size)
          clear HR' HS' HSr' HC' HCr' HK' S0 S1 S2 U0 U1 U2
          go_wp2
          go_ret
          exact ⟨rfl, hB4⟩
  · have HK2 := HK w2 hB2
    clear HK HR HRr HS HSr HC HCr
    go_wp2_with fail
    refine HK2.mono ?_
    rintro e w3 ⟨rfl, hb3⟩
    have hB3 := hB2.trans (hb3.mono hB2.size)
    clear HK2
    go_wp2
    go_ret
    exact ⟨rfl, hB3⟩
theorem specCovers_any (s u : Sp) (A C A2 C2 L : Value) (rs : List Rw) (w : World) (hA : SetsAt w w.heap.size A s.on) (hC : SetsAt w w.heap.size C s.may) (hA2 : SetsAt w w.heap.size A2 u.on) (hC2 : SetsAt w w.heap.size C2 u.may) (hL : RwsAt w w.heap.size L rs) (hkw : KW w) :
    Calls Tryz.prog 3 #[spv s.i A C, spv u.i A2 C2, L] w fun e w' => e = .returned (.bool true) ∧ Below w.heap.size w w' := by
  cases hg : (decide (20 < s.on.length) || (decide (20 < s.may.length) || decide (100 < rs.length)))
  · exact specCovers_small s u A C A2 C2 L rs w hA hC hA2 hC2 hL hkw hg
  · exact specCovers_great1 s u A C A2 C2 L rs w hA hC hA2 hC2 hL hkw hg
end Go.Proofs.YtckmjampgeojbaaGreatDoor
