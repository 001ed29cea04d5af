/- The statements of layer 10, over what the package answers: MultiAll. -/
import Derived.Test.YtmgggennbnbjkaaG30
namespace Go.Proofs.Ytmgggennbnbjkaa
open Go.RowKit Go.Joins

theorem great10_any (i : Int) (A C : Value) (on may : List (BitVec 256)) (w : World) (hA : SetsAt w w.heap.size A on) (hC : SetsAt w w.heap.size C may) :
    Calls Try.prog 7 #[spv i A C] w fun e w' => e = .returned (.bool (decide (20 < on.length) || decide (20 < may.length))) ∧ Below w.heap.size w w' := by
  obtain ⟨A, ac, rfl, la, -⟩ := hA
  obtain ⟨C, cc, rfl, lc, -⟩ := hC
  have hB := below_alloc1 w (spb i (.slice A on.length ac) (.slice C may.length cc))
  have h2 : decide (20 < may.length) = decide ((20 : Int) < (may.length : Int)) := by rw [Bool.eq_iff_iff, decide_eq_true_iff, decide_eq_true_iff]; omega
  unfold spv spb at *
  by_cases h : 20 < on.length
  · have hd : (decide ((20 : Int) < (on.length : Int))) = true := decide_eq_true (by omega)
    rw [decide_eq_true h, Bool.true_or]
    go_enter Try.func7, Try.ntmps7
    go_wp2
    go_ret
    exact ⟨rfl, hB⟩
  · have hd : (decide ((20 : Int) < (on.length : Int))) = false := decide_eq_false (by omega)
    rw [decide_eq_false h, Bool.false_or, h2]
    go_enter Try.func7, Try.ntmps7
    go_wp2
    go_ret
    exact ⟨rfl, hB⟩
set_option maxHeartbeats 4000000 in
set_option maxRecDepth 100000 in
theorem multiAll_any (HA : AllM) (HG : GrowM) (HP : PrimeM) (i : Int) (A C : Value) (on may : List (BitVec 256)) (w : World) (hA : SetsAt w w.heap.size A on) (hC : SetsAt w w.heap.size C may) :
    Calls Try.prog 4 #[spv i A C] w fun e w' => e = .returned (.bool true) ∧ Below w.heap.size w w' := by
  have HK := fun w => knows10_any HA HG HP w
  have HR := fun w1 (hb : Below w.heap.size w w1) => rspec_any i A C on may w1 ((hA.below hb).more hb.size) ((hC.below hb).more hb.size)
  have HX := fun w1 (hb : Below w.heap.size w w1) => great10_any i A C on may w1 ((hA.below hb).more hb.size) ((hC.below hb).more hb.size)
  have HL := fun w1 (hb : Below w.heap.size w w1) => HA i A C on may w1 ((hA.below hb).more hb.size) ((hC.below hb).more hb.size)
  have HF := fun (n : Nat) (hn : i = n) (h8 : n ≤ 8) (h1 : on.length ≤ 8) (h2 : may.length ≤ 8) w1 (hb : Below w.heap.size w w1) => (by
    subst hn
    exact rall10_any n A C on may w1 ((hA.below hb).more hb.size) ((hC.below hb).more hb.size) h8 h1 h2 : Calls Try.prog 19 #[spv i A C] w1 fun e w' => ∃ v, e = .returned v ∧ RwsAt w' w'.heap.size v (rwL (primR ⟨i, on, may⟩)) ∧ Below w1.heap.size w1 w')
  have hB := below_alloc1 w (spb i A C)
  have hs := heap_alloc_new w (spb i A C)
  obtain ⟨A, ac, rfl, la, -⟩ := hA
  obtain ⟨C, cc, rfl, lc, -⟩ := hC
  obtain ⟨s0, s1, s2, -⟩ := now3 hs rfl
  have HR1 := HR _ hB
  unfold spv spb at *
  clear HA HG HP HR
  go_enter Try.func4, Try.ntmps4
  go_wp2_with fail
  refine HR1.mono ?_
  rintro e w1 ⟨rfl, hb⟩
  have hB1 := hB.trans (hb.mono hB.size)
  have hs1 := keep_blk hb hs
  clear HR1 hB hb hs s0 s1 s2
  obtain ⟨s0, s1, s2, -⟩ := now3 hs1 rfl
  have HX1 := HX _ hB1
  go_wp2_with fail
  refine HX1.mono ?_
  rintro e w2 ⟨rfl, hb⟩
  have hB2 := hB1.trans (hb.mono hB1.size)
  have hs2 := keep_blk hb hs1
  clear HX1 HX hB1 hb hs1 s0 s1 s2
  obtain ⟨s0, s1, s2, -⟩ := now3 hs2 rfl
  cases hg : (decide (20 < on.length) || decide (20 < may.length))
  · cases hr : spB ⟨i, on, may⟩
    · have HL2 := HL _ hB2
      rw [hr, if_neg (by decide), if_neg (by decide)] at HL2
      clear HL HF hr
      go_wp2_with fail
      refine HL2.mono ?_
      rintro e w3 ⟨v, rfl, ⟨A3, c3, rfl, -⟩, hb⟩
      have hB3 := hB2.trans (hb.mono hB2.size)
      clear HL2 hb hB2 hs2 s0 s1 s2
      go_wp2_with fail
      refine (HK _).mono ?_
      rintro e w4 ⟨rfl, hb⟩
      go_wp2
      go_ret
      exact ⟨rfl, hB3.trans (hb.mono hB3.size)⟩
    · have hh := (headS_iff _).1 (Bool.and_eq_true_iff.1 (show (headS ⟨i, on, may⟩ && _) = true from hr)).1
      obtain ⟨⟨i0, i8⟩, ⟨l1, l4⟩, lm⟩ := hh
      simp only at i0 i8 l1 l4 lm
      by_cases h3 : 3 < i
      · have hd : decide (3 < i) = true := decide_eq_true h3
        clear HL HF hr h3 i0 i8 l1 l4 lm
        go_wp2_with fail
        refine (HK _).mono ?_
        rintro e w4 ⟨rfl, hb⟩
        go_wp2
        go_ret
        exact ⟨rfl, hB2.trans (hb.mono hB2.size)⟩
      · have hd : decide (3 < i) = false := decide_eq_false h3
        by_cases h4 : 3 < on.length
        · have hd2 : decide ((3 : Int) < (on.length : Int)) = true := decide_eq_true (by omega)
          clear HL HF hr h3 i0 i8 l1 l4 lm h4
          go_wp2_with fail
          refine (HK _).mono ?_
          rintro e w4 ⟨rfl, hb⟩
          go_wp2
          go_ret
          exact ⟨rfl, hB2.trans (hb.mono hB2.size)⟩
        · have hd2 : decide ((3 : Int) < (on.length : Int)) = false := decide_eq_false (by omega)
          have HL2 := HL _ hB2
          rw [hr, if_pos rfl, if_pos rfl] at HL2
          have HF2 := HF i.toNat (by omega) (by omega) (by omega) (by omega)
          clear HL HF hr h3 i0 i8 l1 l4 lm h4
          go_wp2_with fail
          refine HL2.mono ?_
          rintro e w3 ⟨v, rfl, hC3, hb⟩
          have hB3 := hB2.trans (hb.mono hB2.size)
          have hs3 := keep_blk hb hs2
          have HF3 := HF2 _ hB3
          clear HL2 hb hB2 hs2 s0 s1 s2 HF2
          obtain ⟨s0, s1, s2, -⟩ := now3 hs3 rfl
          go_wp2_with fail
          refine HF3.mono ?_
          rintro e w4 ⟨u, rfl, hD, hb⟩
          have hB4 := hB3.trans (hb.mono hB3.size)
          have HE := rsame10_any w4 v u _ _ ((hC3.below hb).more hb.size) hD
          obtain ⟨A3, c3, rfl, -, -⟩ := hC3
          obtain ⟨A4, c4, rfl, -, -⟩ := hD
          clear HF3 hb hB3 hs3 s0 s1 s2
          go_wp2_with fail
          refine HE.mono ?_
          rintro e w5 ⟨b, rfl, hbl, hb⟩
          have hB5 := hB4.trans (hb.mono hB4.size)
          obtain rfl : b = true := hbl.2 (by trivial)
          clear HE hb hB4 hbl
          go_wp2_with fail
          refine (HK _).mono ?_
          rintro e w6 ⟨rfl, hb⟩
          go_wp2
          go_ret
          exact ⟨rfl, hB5.trans (hb.mono hB5.size)⟩
  · clear HL HF
    generalize spB ⟨i, on, may⟩ = r at *
    go_wp2_with fail
    refine (HK _).mono ?_
    rintro e w4 ⟨rfl, hb⟩
    go_wp2
    go_ret
    exact ⟨rfl, hB2.trans (hb.mono hB2.size)⟩
end Go.Proofs.Ytmgggennbnbjkaa
