/- The statements of layer 11, walked over what the package answers: with little room the family of all prime rows is the one that there is with more, or no node is left. -/
import Derived.Test.YtehpccanjlaokaaGreatGQxQuLaw11c
namespace Go.Proofs.YtehpccanjlaokaaGreat
open Go.RowKit Go.Joins

def NewRoom (Fr : Nat → World → Nat → Prop) (b : BitVec 8) : Prop := ∀ w, Calls Tryz.prog 5 #[.int .i64 b.toNat] w fun e w' => ∃ zb : Nat, e = .returned (.tuple #[.pointer (some ⟨zb, 0, none⟩), .int .i64 0]) ∧ Fr w.heap.size w' zb ∧ Below w.heap.size w w'
def AllNone : Prop := ∀ {w : World} (i : Int) (A C : Value) (on may : List (BitVec 256)), SetsAt w w.heap.size A on → SetsAt w w.heap.size C may → Calls Tryz.prog 9 #[.pointer none, spv i A C] w fun e w' => e = .returned (.tuple #[.int .i64 0, .int .i64 1]) ∧ Below w.heap.size w w'
def AllRoom (Fr : Nat → World → Nat → Prop) (Dg : Nat → World → Nat → Int → (Nat → Bool) → Prop) : Prop := ∀ {B w zb} (n : Nat) (A C : Value) (on may : List (BitVec 256)), spB ⟨n, on, may⟩ = true → n ≤ 3 → SetsAt w w.heap.size A on → SetsAt w w.heap.size C may → Fr B w zb → Calls Tryz.prog 9 #[.pointer (some ⟨zb, 0, none⟩), spv n A C] w fun e w' => ((∃ id : Int, e = .returned (.tuple #[.int .i64 id, .int .i64 0]) ∧ Dg B w' zb id (famP ⟨n, on, may⟩)) ∨ e = .returned (.tuple #[.int .i64 0, .int .i64 5])) ∧ Below B w w'
set_option maxHeartbeats 4000000 in
set_option maxRecDepth 100000 in
theorem room11_great (HK : Knows11) (i : Int) (b : BitVec 8) (A C : Value) (on may : List (BitVec 256)) (w : World) (hA : SetsAt w w.heap.size A on) (hC : SetsAt w w.heap.size C may) (hg : (decide (20 < on.length) || decide (20 < may.length)) = true) :
    Calls Tryz.prog 4 #[spv i A C, .int .u8 b.toNat] w fun e w' => e = .returned (.bool true) ∧ Below w.heap.size w w' := by
  have HR := fun w1 (hb : Below w.heap.size w w1) => rspec_any i A C on may w1 ((hA.below hb).more hb.size) ((hC.below hb).more hb.size)
  have HX := fun w1 (hb : Below w.heap.size w w1) => great10_any i A C on may w1 ((hA.below hb).more hb.size) ((hC.below hb).more hb.size)
  rw [hg] at HX
  obtain ⟨A, ac, rfl, -, -⟩ := hA
  obtain ⟨C, cc, rfl, -, -⟩ := hC
  have hs := heap_alloc_new w (spb i (.slice A on.length ac) (.slice C may.length cc))
  have hb := below_alloc1 w (spb i (.slice A on.length ac) (.slice C may.length cc))
  clear HR hg
  have HX1 := HX _ hb
  clear HX
  unfold spv spb at *
  go_enter Tryz.func4, Tryz.ntmps4
  go_upto_region 1 with (fail)
  generalize w.alloc _ = W at *
  obtain ⟨s0, s1, s2, -⟩ := now3 hs rfl
  go_wp2_with fail
  refine HX1.mono ?_
  rintro e w1 ⟨rfl, hb1⟩
  have hs1 := keep_blk hb1 hs
  have hB1 := hb.trans (hb1.mono hb.size)
  clear HX1 s0 s1 s2 hb1
  go_wp2_with fail
  refine (HK _).mono ?_
  rintro e w9 ⟨rfl, hb9⟩
  have hB9 := hB1.trans (hb9.mono hB1.size)
  clear HK
  go_wp2
  go_ret
  exact ⟨rfl, hB9⟩
set_option maxHeartbeats 4000000 in
set_option maxRecDepth 100000 in
theorem room11_no (HK : Knows11) (i : Int) (b : BitVec 8) (A C : Value) (on may : List (BitVec 256)) (w : World) (hA : SetsAt w w.heap.size A on) (hC : SetsAt w w.heap.size C may) (hg : (decide (20 < on.length) || decide (20 < may.length)) = false) (ho : spB ⟨i, on, may⟩ = false) :
    Calls Tryz.prog 4 #[spv i A C, .int .u8 b.toNat] w fun e w' => e = .returned (.bool true) ∧ Below w.heap.size w w' := by
  have HR := fun w1 (hb : Below w.heap.size w w1) => rspec_any i A C on may w1 ((hA.below hb).more hb.size) ((hC.below hb).more hb.size)
  have HX := fun w1 (hb : Below w.heap.size w w1) => great10_any i A C on may w1 ((hA.below hb).more hb.size) ((hC.below hb).more hb.size)
  rw [hg] at HX
  rw [ho] at HR
  obtain ⟨A, ac, rfl, -, -⟩ := hA
  obtain ⟨C, cc, rfl, -, -⟩ := hC
  have hs := heap_alloc_new w (spb i (.slice A on.length ac) (.slice C may.length cc))
  have hb := below_alloc1 w (spb i (.slice A on.length ac) (.slice C may.length cc))
  clear hg ho
  have HX1 := HX _ hb
  clear HX
  unfold spv spb at *
  go_enter Tryz.func4, Tryz.ntmps4
  go_upto_region 1 with (fail)
  generalize w.alloc _ = W at *
  obtain ⟨s0, s1, s2, -⟩ := now3 hs rfl
  go_wp2_with fail
  refine HX1.mono ?_
  rintro e w1 ⟨rfl, hb1⟩
  have hs1 := keep_blk hb1 hs
  have hB1 := hb.trans (hb1.mono hb.size)
  clear HX1 s0 s1 s2 hb1
  obtain ⟨s0, s1, s2, -⟩ := now3 hs1 rfl
  have HR1 := HR w1 hB1
  go_wp2_with fail
  refine HR1.mono ?_
  rintro e w2 ⟨rfl, hb2⟩
  have hs2 := keep_blk hb2 hs1
  have hB2 := hB1.trans (hb2.mono hB1.size)
  clear HR HR1 s0 s1 s2 hs1 hb2 hB1
  go_wp2_with fail
  refine (HK _).mono ?_
  rintro e w9 ⟨rfl, hb9⟩
  have hB9 := hB2.trans (hb9.mono hB2.size)
  clear HK
  go_wp2
  go_ret
  exact ⟨rfl, hB9⟩
set_option maxHeartbeats 4000000 in
set_option maxRecDepth 100000 in
theorem room11_big (HK : Knows11) (i : Int) (b : BitVec 8) (A C : Value) (on may : List (BitVec 256)) (w : World) (hA : SetsAt w w.heap.size A on) (hC : SetsAt w w.heap.size C may) (hg : (decide (20 < on.length) || decide (20 < may.length)) = false) (ho : spB ⟨i, on, may⟩ = true) (h3 : 3 < i) :
    Calls Tryz.prog 4 #[spv i A C, .int .u8 b.toNat] w fun e w' => e = .returned (.bool true) ∧ Below w.heap.size w w' := by
  have HR := fun w1 (hb : Below w.heap.size w w1) => rspec_any i A C on may w1 ((hA.below hb).more hb.size) ((hC.below hb).more hb.size)
  have HX := fun w1 (hb : Below w.heap.size w w1) => great10_any i A C on may w1 ((hA.below hb).more hb.size) ((hC.below hb).more hb.size)
  rw [hg] at HX
  rw [ho] at HR
  have d4 : decide (3 < i) = true := decide_eq_true h3
  obtain ⟨A, ac, rfl, -, -⟩ := hA
  obtain ⟨C, cc, rfl, -, -⟩ := hC
  have hs := heap_alloc_new w (spb i (.slice A on.length ac) (.slice C may.length cc))
  have hb := below_alloc1 w (spb i (.slice A on.length ac) (.slice C may.length cc))
  clear hg ho
  have HX1 := HX _ hb
  clear HX
  unfold spv spb at *
  go_enter Tryz.func4, Tryz.ntmps4
  go_upto_region 1 with (fail)
  generalize w.alloc _ = W at *
  obtain ⟨s0, s1, s2, -⟩ := now3 hs rfl
  go_wp2_with fail
  refine HX1.mono ?_
  rintro e w1 ⟨rfl, hb1⟩
  have hs1 := keep_blk hb1 hs
  have hB1 := hb.trans (hb1.mono hb.size)
  clear HX1 s0 s1 s2 hb1
  obtain ⟨s0, s1, s2, -⟩ := now3 hs1 rfl
  have HR1 := HR w1 hB1
  go_wp2_with fail
  refine HR1.mono ?_
  rintro e w2 ⟨rfl, hb2⟩
  have hs2 := keep_blk hb2 hs1
  have hB2 := hB1.trans (hb2.mono hB1.size)
  clear HR HR1 s0 s1 s2 hs1 hb2 hB1
  obtain ⟨s0, s1, s2, -⟩ := now3 hs2 rfl
  go_wp2_with fail
  refine (HK _).mono ?_
  rintro e w9 ⟨rfl, hb9⟩
  have hB9 := hB2.trans (hb9.mono hB2.size)
  clear HK
  go_wp2
  go_ret
  exact ⟨rfl, hB9⟩
set_option maxHeartbeats 4000000 in
set_option maxRecDepth 100000 in
theorem room11_yes {Fr : Nat → World → Nat → Prop} {Dg : Nat → World → Nat → Int → (Nat → Bool) → Prop} (HD : DgOk Fr Dg) (b : BitVec 8) {FrR : Nat → World → Nat → Prop} (HNw : NewRoom FrR b) (HG : AllRoom FrR Dg) (HNo : AllNone) (HAm : AllM) (HK : Knows11) (n : Nat) (A C : Value) (on may : List (BitVec 256)) (w : World) (hA : SetsAt w w.heap.size A on) (hC : SetsAt w w.heap.size C may) (hg : (decide (20 < on.length) || decide (20 < may.length)) = false) (ho : spB ⟨n, on, may⟩ = true) (h3 : n ≤ 3) (h48 : on.length ≤ 8) (hl4 : on.length ≤ 4) (hl : on.length = may.length) :
    Calls Tryz.prog 4 #[spv n A C, .int .u8 b.toNat] w fun e w' => e = .returned (.bool true) ∧ Below w.heap.size w w' := by
  have HR := fun w1 (hb : Below w.heap.size w w1) => rspec_any n A C on may w1 ((hA.below hb).more hb.size) ((hC.below hb).more hb.size)
  have HX := fun w1 (hb : Below w.heap.size w w1) => great10_any n A C on may w1 ((hA.below hb).more hb.size) ((hC.below hb).more hb.size)
  rw [hg] at HX
  rw [ho] at HR
  have d4 : decide ((3 : Int) < (n : Int)) = false := decide_eq_false (by omega)
  have HP := fun {w1 : World} {B zb : Nat} (hb : Below w.heap.size w w1) (hf : FrR B w1 zb) => HG n A C on may ho h3 ((hA.below hb).more hb.size) ((hC.below hb).more hb.size) hf
  have HL := fun w1 (hb : Below w.heap.size w w1) => all10_yes HAm ho w1 ((hA.below hb).more hb.size) ((hC.below hb).more hb.size)
  have HNn := fun w1 (hb : Below w.heap.size w w1) => HNo n A C on may ((hA.below hb).more hb.size) ((hC.below hb).more hb.size) (w := w1)
  have hdk := @DgOk.dgB _ _ HD
  have HLi := @DgOk.list _ _ HD
  have HM := Lib.hid (fun v w hz => rmembers11_any v (rowsP ⟨n, on, may⟩) (by have := rowsP_few (s := ⟨n, on, may⟩) rfl (by omega) h48 hl; omega) w hz)
  have hfew := rowsP_few (s := ⟨n, on, may⟩) rfl (by omega) h48 hl
  have hfr := Lib.hid (fun r hs hm => fam_row (l := memsR (rowsP ⟨n, on, may⟩)) (r := r) (memsR_small _) hs hm)
  have hct := Lib.hid (fun r hs hm => row_count (l := memsR (rowsP ⟨n, on, may⟩)) (r := r) (rowsP_mems (s := ⟨n, on, may⟩) rfl hl4) hs hm)
  have hml := Lib.hid (memsR_len (rowsP ⟨n, on, may⟩))
  have hfc : Hid (famP ⟨n, on, may⟩ = rowF (memsR (rowsP ⟨n, on, may⟩))) := Lib.hid rfl
  obtain ⟨A, ac, rfl, -, -⟩ := hA
  obtain ⟨C, cc, rfl, -, -⟩ := hC
  have hs := heap_alloc_new w (spb n (.slice A on.length ac) (.slice C may.length cc))
  have hb := below_alloc1 w (spb n (.slice A on.length ac) (.slice C may.length cc))
  clear HD HG HAm HNo hg ho h48 hl4 hl
  generalize famP ⟨n, on, may⟩ = F at *
  generalize rowsP ⟨n, on, may⟩ = R at *
  have HX1 := HX _ hb
  clear HX
  unfold spv spb at *
  go_enter Tryz.func4, Tryz.ntmps4
  go_upto_region 1 with (fail)
  generalize w.alloc _ = W at *
  obtain ⟨s0, s1, s2, -⟩ := now3 hs rfl
  go_wp2_with fail
  refine HX1.mono ?_
  rintro e w1 ⟨rfl, hb1⟩
  have hs1 := keep_blk hb1 hs
  have hB1 := hb.trans (hb1.mono hb.size)
  clear HX1 s0 s1 s2 hb1
  obtain ⟨s0, s1, s2, -⟩ := now3 hs1 rfl
  have HR1 := HR w1 hB1
  go_wp2_with fail
  refine HR1.mono ?_
  rintro e w2 ⟨rfl, hb2⟩
  have hs2 := keep_blk hb2 hs1
  have hB2 := hB1.trans (hb2.mono hB1.size)
  clear HR HR1 s0 s1 s2 hs1 hb2 hB1
  obtain ⟨s0, s1, s2, -⟩ := now3 hs2 rfl
  have hW2 : w.heap.size < w2.heap.size := size_of_block hs2
  go_wp2_with fail
  refine (HNw _).mono ?_
  rintro e w3 ⟨zb, rfl, hf3, hb3⟩
  have hs3 := keep_blk hb3 hs2
  have hB3 := hB2.trans (hb3.mono hB2.size)
  clear HNw s0 s1 s2 hs2 hb3
  obtain ⟨s0, s1, s2, -⟩ := now3 hs3 rfl
  have HP3 := HP hB3 hf3
  clear HP
  go_wp2_with fail
  refine HP3.mono ?_
  rintro e w4 ⟨⟨id, rfl, hd4⟩ | rfl, hb4⟩
  · have hs4 := (hb4.block _ hW2).trans hs3
    have hB4 := hB3.trans (hb4.mono hB2.size)
    clear HP3 s0 s1 s2 hs3 hf3 hB3 hb4
    obtain ⟨s0, s1, s2, -⟩ := now3 hs4 rfl
    have HL4 := HL w4 hB4
    clear HL
    go_wp2_with fail
    refine HL4.mono ?_
    rintro e w5 ⟨lv, rfl, hC5, hb5⟩
    have hd5 := hdk hd4 hb5
    have hs5 := keep_blk hb5 hs4
    have hB5 := hB4.trans (hb5.mono hB4.size)
    clear HL4 s0 s1 s2 hs4 hd4 hB4 hb5
    have hcF : cF 24 F ≤ R.length := by
      rw [hfc.out, ← hml.out]
      exact cF_row_le _
    have HL5 := HLi hd5 (by omega)
    clear HLi
    obtain ⟨A5, c5, rfl⟩ := rws_form hC5
    go_wp2_with fail
    refine HL5.mono ?_
    rintro e w61 ⟨u, rfl, hu, hb61⟩
    have hR61 := (hC5.below hb61).more hb61.size
    have hd61 := hdk hd5 hb61
    have hs61 := keep_blk hb61 hs5
    have hB61 := hB5.trans (hb61.mono hB5.size)
    clear HL5 hC5 hd5 hB5 hs5 hb61
    obtain ⟨s0, s1, s2, -⟩ := now3 hs61 rfl
    have HN61 := HNn w61 hB61
    clear HNn
    obtain ⟨ua0, uc0, eu0, hu1, hu2⟩ := hu
    subst eu0
    have hu : IntsAt w61 w61.heap.size (.slice ua0 (nI (famL 24 F)).length uc0) (nI (famL 24 F)) := ⟨ua0, uc0, rfl, hu1, hu2⟩
    clear hu1 hu2
    go_wp2_with fail
    refine HN61.mono ?_
    rintro e w6 ⟨rfl, hb6⟩
    have hR6 := (hR61.below hb6).more hb6.size
    have hd6 := hdk hd61 hb6
    have hB6 := hB61.trans (hb6.mono hB61.size)
    replace hu := (hu.below hb6).more hb6.size
    clear HN61 hR61 hd61 hB61 hs61 hb6 s0 s1 s2
    have HM6 := HM.out _ w6 hR6
    clear HM hR6
    go_wp2_with fail
    refine HM6.mono ?_
    rintro e w7 ⟨A7, c7, r7, rfl, hi7, hs7, hm7, -, hb7⟩
    have hd7 := hdk hd6 hb7
    have hB7 := hB6.trans (hb7.mono hB6.size)
    have hu7 := (hu.below hb7).more hb7.size
    have hrow := hfr.out r7 hs7 hm7
    rw [← hfc.out] at hrow
    have hlen7 : r7.length = R.length := by rw [hct.out r7 hs7 hm7, hml.out]
    have hcnt : cF 24 F = R.length := by rw [← famL_len, hrow]; exact hlen7
    rw [hrow] at hu7
    have HE := rsame8_any w7 _ _ (nI r7) (nI r7) hu7 hi7
    rw [show decide (nI r7 = nI r7) = true from decide_eq_true rfl, nI_len] at HE
    have hul : (nI (famL 24 F)).length = r7.length := by rw [nI_len, hrow]
    clear HM6 hd6 hB6 hb7 hu7 hi7 hrow hm7 hs7 hu hfr hct hml hfc
    rw [hul]
    have hcntH := Lib.hid hcnt
    clear hul hlen7 hcnt hcF
    go_wp2_with fail
    refine HE.mono ?_
    rintro e w8 ⟨rfl, hb8⟩
    have hB8 := hB7.trans (hb8.mono hB7.size)
    clear HE hd7 hB7 hb8
    go_wp2_with fail
    refine (HK _).mono ?_
    rintro e w11 ⟨rfl, hb11⟩
    have hB11 := hB8.trans (hb11.mono hB8.size)
    clear HK
    go_wp2
    go_ret
    exact ⟨rfl, hB11⟩
  · have hB4 := hB3.trans (hb4.mono hB2.size)
    clear HP3 s0 s1 s2 hs3 hf3 hB3 hb4 HL HNn HLi hdk HM hfr hct hml hfc
    go_wp2_with fail
    refine (HK _).mono ?_
    rintro e w11 ⟨rfl, hb11⟩
    have hB11 := hB4.trans (hb11.mono hB4.size)
    clear HK
    go_wp2
    go_ret
    exact ⟨rfl, hB11⟩
theorem taggedRoom_any {Fr : Nat → World → Nat → Prop} {Dg : Nat → World → Nat → Int → (Nat → Bool) → Prop} (HD : DgOk Fr Dg) (b : BitVec 8) {FrR : Nat → World → Nat → Prop} (HNw : NewRoom FrR b) (HG : AllRoom FrR Dg) (HNo : AllNone) (HAm : AllM) (HK : Knows11) (i : Int) (A C : Value) (on may : List (BitVec 256)) (w : World) (hA : SetsAt w w.heap.size A on) (hC : SetsAt w w.heap.size C may) :
    Calls Tryz.prog 4 #[spv i A C, .int .u8 b.toNat] w fun e w' => e = .returned (.bool true) ∧ Below w.heap.size w w' := by
  cases hg : (decide (20 < on.length) || decide (20 < may.length))
  · cases ho : spB ⟨i, on, may⟩
    · exact room11_no HK i b A C on may w hA hC hg ho
    · obtain ⟨⟨i0, i8⟩, ⟨l1, l4⟩, hl⟩ := (headS_iff _).1 (sp_iff.1 ho).1
      simp only at i0 i8 l1 l4 hl
      by_cases h3 : 3 < i
      · exact room11_big HK i b A C on may w hA hC hg ho h3
      · obtain ⟨n, rfl⟩ : ∃ n : Nat, i = n := ⟨i.toNat, by omega⟩
        exact room11_yes HD b HNw HG HNo HAm HK n A C on may w hA hC hg ho (by omega) (by omega) l4 hl
  · exact room11_great HK i b A C on may w hA hC hg
end Go.Proofs.YtehpccanjlaokaaGreat
