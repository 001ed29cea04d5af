/- The statements of layer 11, walked over what the package answers: what the family of all prime rows has, with much room and with little. -/
import Derived.Test.YtehpccanjlaokaaGreatGQxQuLaw11b
import Derived.Test.YtehpccanjlaokaaGreatGQ36
import Derived.Test.YtehpccanjlaokaaGreatGQ21
namespace Go.Proofs.YtehpccanjlaokaaGreat
open Go.RowKit Go.Joins

/-- All prime rows of a spec. -/
noncomputable def rowsP (s : Sp) : List Rw := rwL (primR s)
noncomputable def famP (s : Sp) : Nat → Bool := rowF (memsR (rowsP s))
theorem count_in {N : Nat} {Q : Nat → Bool} {l : List Nat} (hn : l.Nodup) (h : ∀ x ∈ l, x < N ∧ Q x = true) : l.length ≤ ((List.range N).filter Q).length := by
  have hp : (((List.range N).filter fun x => decide (x ∈ l))).Perm l := (List.perm_ext_iff_of_nodup (List.Pairwise.filter _ (List.nodup_range)) hn).2 fun x => by
    rw [List.mem_filter, List.mem_range, decide_eq_true_iff]
    exact ⟨fun hx => hx.2, fun hx => ⟨(h x hx).1, hx⟩⟩
  rw [← hp.length_eq, ← List.countP_eq_length_filter, ← List.countP_eq_length_filter]
  exact List.countP_mono_left fun x _ hx => (h x (of_decide_eq_true hx)).2
theorem rowsP_nodup (s : Sp) : (rowsP s).Nodup := by
  unfold rowsP rwL
  refine map_nodup (fun a ha b hb e => ?_) ((rwU_srt _ _).imp fun h e => by omega)
  rw [← key_rwK ((rwU_mem _ _ a).1 ha).1, e, key_rwK ((rwU_mem _ _ b).1 hb).1]
theorem rowsP_right {s : Sp} {n : Nat} (hn : s.i = n) {x : Rw} (hx : x ∈ rowsP s) : rightB x.m x.v n = true ∧ primR s x = true := by
  have hp := rwL_mem.1 hx
  obtain ⟨-, -, h⟩ := rwB_iff.1 (rowin_right (prim_in hp))
  rw [hn] at h
  exact ⟨h, hp⟩
/-- There are few prime rows of four inputs. -/
theorem rowsP_few {s : Sp} {n : Nat} (hn : s.i = n) (h6 : n ≤ 6) (h4 : s.on.length ≤ 8) (hl : s.on.length = s.may.length) : (rowsP s).length ≤ 729 := by
  rw [← few6, ← List.length_map (f := fun x : Rw => keyC x.m x.v)]
  refine count_in (map_nodup (fun a ha b hb e => ?_) (rowsP_nodup s)) fun k hk => ?_
  · have h1 := ((prim_com hn (by omega) h4 hl a).1 (rowsP_right hn ha).2).1
    have h2 := ((prim_com hn (by omega) h4 hl b).1 (rowsP_right hn hb).2).1
    have em : a.m = b.m := by rw [← kM_key a.m a.v, e, kM_key]
    have ev : a.v = b.v := by rw [← kV_key a.m a.v, e, kV_key]
    rw [em, ev, ← h2] at h1
    cases a; cases b
    simp only at em ev h1
    rw [em, ev, h1]
  · obtain ⟨x, hx, rfl⟩ := List.mem_map.1 hk
    have hr := (rowsP_right hn hx).1
    obtain ⟨a, b, c, d⟩ := (rightB_iff _ _ _).1 hr
    obtain ⟨-, l1, l2, -, -⟩ := right_lows hr
    have hp : 2 ^ n ≤ 2 ^ 6 := Nat.pow_le_pow_right (by decide) h6
    refine ⟨by unfold keyC; omega, ?_⟩
    rw [kM_key, kV_key]
    exact (rightB_iff _ _ _).2 ⟨by omega, by omega, fun i hi => c i (by have : (6 : Int).toNat = 6 := rfl; omega), d⟩
theorem rowsP_mems {s : Sp} {n : Nat} (hn : s.i = n) (h4 : s.on.length ≤ 4) : (memsR (rowsP s)).Nodup := by
  unfold memsR
  refine map_nodup (fun a ha b hb e => ?_) (rowsP_nodup s)
  have fa := rowsP_right hn ha
  have fb := rowsP_right hn hb
  have ra := ((rightB_iff _ _ _).1 fa.1).2.2.2
  have rb := ((rightB_iff _ _ _).1 fb.1).2.2.2
  have low : ∀ x : Rw, primR s x = true → x.o &&& 15#8 = x.o := fun x hx => by
    have h := (rowin_low hn (prim_in hx)).2.2.1
    have h2 : 2 ^ s.on.length ≤ 2 ^ 4 := Nat.pow_le_pow_right (by decide) h4
    apply BitVec.eq_of_toNat_eq
    rw [BitVec.toNat_and, show (15#8 : BitVec 8).toNat = 2 ^ 4 - 1 from rfl, Nat.and_two_pow_sub_one_eq_mod, Nat.mod_eq_of_lt (by omega)]
  have em : a.m = b.m := by rw [← row_m a.m a.v a.o, e, row_m]
  have ev : a.v = b.v := by
    have := congrArg rmV e
    rw [row_v, row_v, BitVec.and_comm, ra, BitVec.and_comm, rb] at this
    exact this
  have eo : a.o = b.o := by
    have := congrArg rmO e
    rw [row_o, row_o, low a fa.2, low b fb.2] at this
    exact this
  cases a; cases b
  simp only at em ev eo
  rw [em, ev, eo]
theorem memsR_small (l : List Rw) : ∀ x ∈ memsR l, x < 16777216 := by
  intro x hx
  unfold memsR at hx
  obtain ⟨y, -, rfl⟩ := List.mem_map.1 hx
  have := memB_lt y.m y.v y.o
  omega
/-- What is asked of what makes the families of all prime rows. -/
def AllBad (Fr : Nat → World → Nat → Prop) : Prop := ∀ {B w zb} (i : Int) (A C : Value) (on may : List (BitVec 256)), spB ⟨i, on, may⟩ = false → SetsAt w w.heap.size A on → SetsAt w w.heap.size C may → Fr B w zb → Calls Tryz.prog 9 #[.pointer (some ⟨zb, 0, none⟩), spv i A C] w fun e w' => e = .returned (.tuple #[.int .i64 0, .int .i64 1]) ∧ Below B w w'
def AllGood (Fr : Nat → World → Nat → Prop) (Dg : Nat → World → Nat → Int → (Nat → Bool) → Prop) : Prop := ∀ {B w zb} (n : Nat) (A C : Value) (on may : List (BitVec 256)), spB ⟨n, on, may⟩ = true → n ≤ 4 → SetsAt w w.heap.size A on → SetsAt w w.heap.size C may → Fr B w zb → Calls Tryz.prog 9 #[.pointer (some ⟨zb, 0, none⟩), spv n A C] w fun e w' => ∃ id : Int, e = .returned (.tuple #[.int .i64 id, .int .i64 0]) ∧ Dg B w' zb id (famP ⟨n, on, may⟩) ∧ Below B w w'
set_option maxHeartbeats 4000000 in
set_option maxRecDepth 100000 in
theorem all11_great {Fr : Nat → World → Nat → Prop} {Dg : Nat → World → Nat → Int → (Nat → Bool) → Prop} (HD : DgOk Fr Dg) (HK : Knows11) (i : Int) (A C : Value) (on may : List (BitVec 256)) (w : World) (hA : SetsAt w w.heap.size A on) (hC : SetsAt w w.heap.size C may) (hg : (decide (20 < on.length) || decide (20 < may.length)) = true) :
    Calls Tryz.prog 3 #[spv i A C] w fun e w' => e = .returned (.bool true) ∧ Below w.heap.size w w' := by
  have HN := HD.new
  have hfk := @DgOk.frB _ _ HD
  have HR := fun w1 (hb : Below w.heap.size w w1) => rspec_any i A C on may w1 ((hA.below hb).more hb.size) ((hC.below hb).more hb.size)
  have HX := fun w1 (hb : Below w.heap.size w w1) => great10_any i A C on may w1 ((hA.below hb).more hb.size) ((hC.below hb).more hb.size)
  rw [hg] at HX
  obtain ⟨A, ac, rfl, -, -⟩ := hA
  obtain ⟨C, cc, rfl, -, -⟩ := hC
  have hs := heap_alloc_new w (spb i (.slice A on.length ac) (.slice C may.length cc))
  have hb := below_alloc1 w (spb i (.slice A on.length ac) (.slice C may.length cc))
  clear HD hg
  generalize spB ⟨i, on, may⟩ = q at *
  unfold spv spb at *
  go_enter Tryz.func3, Tryz.ntmps3
  go_upto_region 1 with (fail)
  generalize w.alloc _ = W at *
  go_wp2_with fail
  refine (HN _).mono ?_
  rintro e w1 ⟨zb, rfl, hf, hb1⟩
  have hs1 := keep_blk hb1 hs
  have hWx := size_of_block hs
  have hB1 := hb.trans (hb1.mono hb.size)
  clear HN hs
  obtain ⟨s0, s1, s2, -⟩ := now3 hs1 rfl
  have HR1 := HR w1 hB1
  go_wp2_with fail
  refine HR1.mono ?_
  rintro e w2 ⟨rfl, hb2⟩
  have hs2 := keep_blk hb2 hs1
  have hB2 := hB1.trans (hb2.mono hB1.size)
  have hW2 := hb1.trans (hb2.mono hb1.size)
  have hf2 := hfk hf hb2
  clear HR HR1 s0 s1 s2 hs1 hb1 hb2 hf hB1
  obtain ⟨s0, s1, s2, -⟩ := now3 hs2 rfl
  have HX2 := HX w2 hB2
  go_wp2_with fail
  refine HX2.mono ?_
  rintro e w3 ⟨rfl, hb3⟩
  have hs3 := keep_blk hb3 hs2
  have hB3 := hB2.trans (hb3.mono hB2.size)
  have hW3 := hW2.trans (hb3.mono hW2.size)
  have hf3 := hfk hf2 hb3
  clear HX HX2 s0 s1 s2 hs2 hb3 hf2 hB2 hW2 hfk
  obtain ⟨s0, s1, s2, -⟩ := now3 hs3 rfl
  clear hf3
  go_wp2_with fail
  refine (HK _).mono ?_
  rintro e w9 ⟨rfl, hb9⟩
  have hB9 := hB3.trans (hb9.mono hB3.size)
  clear HK
  go_wp2
  go_ret
  exact ⟨rfl, hB9⟩
set_option maxHeartbeats 4000000 in
set_option maxRecDepth 100000 in
theorem all11_big {Fr : Nat → World → Nat → Prop} {Dg : Nat → World → Nat → Int → (Nat → Bool) → Prop} (HD : DgOk Fr Dg) (HK : Knows11) (i : Int) (A C : Value) (on may : List (BitVec 256)) (w : World) (hA : SetsAt w w.heap.size A on) (hC : SetsAt w w.heap.size C may) (hg : (decide (20 < on.length) || decide (20 < may.length)) = false) (ho : spB ⟨i, on, may⟩ = true) (h4 : 4 < i) :
    Calls Tryz.prog 3 #[spv i A C] w fun e w' => e = .returned (.bool true) ∧ Below w.heap.size w w' := by
  have HN := HD.new
  have hfk := @DgOk.frB _ _ HD
  have HR := fun w1 (hb : Below w.heap.size w w1) => rspec_any i A C on may w1 ((hA.below hb).more hb.size) ((hC.below hb).more hb.size)
  have HX := fun w1 (hb : Below w.heap.size w w1) => great10_any i A C on may w1 ((hA.below hb).more hb.size) ((hC.below hb).more hb.size)
  rw [hg] at HX
  rw [ho] at HR
  have d4 : decide (4 < i) = true := decide_eq_true h4
  obtain ⟨A, ac, rfl, -, -⟩ := hA
  obtain ⟨C, cc, rfl, -, -⟩ := hC
  have hs := heap_alloc_new w (spb i (.slice A on.length ac) (.slice C may.length cc))
  have hb := below_alloc1 w (spb i (.slice A on.length ac) (.slice C may.length cc))
  clear HD hg ho
  unfold spv spb at *
  go_enter Tryz.func3, Tryz.ntmps3
  go_upto_region 1 with (fail)
  generalize w.alloc _ = W at *
  go_wp2_with fail
  refine (HN _).mono ?_
  rintro e w1 ⟨zb, rfl, hf, hb1⟩
  have hs1 := keep_blk hb1 hs
  have hWx := size_of_block hs
  have hB1 := hb.trans (hb1.mono hb.size)
  clear HN hs
  obtain ⟨s0, s1, s2, -⟩ := now3 hs1 rfl
  have HR1 := HR w1 hB1
  go_wp2_with fail
  refine HR1.mono ?_
  rintro e w2 ⟨rfl, hb2⟩
  have hs2 := keep_blk hb2 hs1
  have hB2 := hB1.trans (hb2.mono hB1.size)
  have hW2 := hb1.trans (hb2.mono hb1.size)
  have hf2 := hfk hf hb2
  clear HR HR1 s0 s1 s2 hs1 hb1 hb2 hf hB1
  obtain ⟨s0, s1, s2, -⟩ := now3 hs2 rfl
  have HX2 := HX w2 hB2
  go_wp2_with fail
  refine HX2.mono ?_
  rintro e w3 ⟨rfl, hb3⟩
  have hs3 := keep_blk hb3 hs2
  have hB3 := hB2.trans (hb3.mono hB2.size)
  have hW3 := hW2.trans (hb3.mono hW2.size)
  have hf3 := hfk hf2 hb3
  clear HX HX2 s0 s1 s2 hs2 hb3 hf2 hB2 hW2 hfk
  obtain ⟨s0, s1, s2, -⟩ := now3 hs3 rfl
  clear hf3
  go_wp2_with fail
  refine (HK _).mono ?_
  rintro e w9 ⟨rfl, hb9⟩
  have hB9 := hB3.trans (hb9.mono hB3.size)
  clear HK
  go_wp2
  go_ret
  exact ⟨rfl, hB9⟩
set_option maxHeartbeats 4000000 in
set_option maxRecDepth 100000 in
theorem all11_no {Fr : Nat → World → Nat → Prop} {Dg : Nat → World → Nat → Int → (Nat → Bool) → Prop} (HD : DgOk Fr Dg) (HB : AllBad Fr) (HK : Knows11) (i : Int) (A C : Value) (on may : List (BitVec 256)) (w : World) (hA : SetsAt w w.heap.size A on) (hC : SetsAt w w.heap.size C may) (hg : (decide (20 < on.length) || decide (20 < may.length)) = false) (ho : spB ⟨i, on, may⟩ = false) :
    Calls Tryz.prog 3 #[spv i A C] w fun e w' => e = .returned (.bool true) ∧ Below w.heap.size w w' := by
  have HN := HD.new
  have hfk := @DgOk.frB _ _ HD
  have HR := fun w1 (hb : Below w.heap.size w w1) => rspec_any i A C on may w1 ((hA.below hb).more hb.size) ((hC.below hb).more hb.size)
  have HX := fun w1 (hb : Below w.heap.size w w1) => great10_any i A C on may w1 ((hA.below hb).more hb.size) ((hC.below hb).more hb.size)
  rw [hg] at HX
  rw [ho] at HR
  have HP := fun {w1 : World} {B zb : Nat} (hb : Below w.heap.size w w1) (hf : Fr B w1 zb) => HB i A C on may ho ((hA.below hb).more hb.size) ((hC.below hb).more hb.size) hf
  obtain ⟨A, ac, rfl, -, -⟩ := hA
  obtain ⟨C, cc, rfl, -, -⟩ := hC
  have hs := heap_alloc_new w (spb i (.slice A on.length ac) (.slice C may.length cc))
  have hb := below_alloc1 w (spb i (.slice A on.length ac) (.slice C may.length cc))
  clear HD HB hg ho
  unfold spv spb at *
  go_enter Tryz.func3, Tryz.ntmps3
  go_upto_region 1 with (fail)
  generalize w.alloc _ = W at *
  go_wp2_with fail
  refine (HN _).mono ?_
  rintro e w1 ⟨zb, rfl, hf, hb1⟩
  have hs1 := keep_blk hb1 hs
  have hWx := size_of_block hs
  have hB1 := hb.trans (hb1.mono hb.size)
  clear HN hs
  obtain ⟨s0, s1, s2, -⟩ := now3 hs1 rfl
  have HR1 := HR w1 hB1
  go_wp2_with fail
  refine HR1.mono ?_
  rintro e w2 ⟨rfl, hb2⟩
  have hs2 := keep_blk hb2 hs1
  have hB2 := hB1.trans (hb2.mono hB1.size)
  have hW2 := hb1.trans (hb2.mono hb1.size)
  have hf2 := hfk hf hb2
  clear HR HR1 s0 s1 s2 hs1 hb1 hb2 hf hB1
  obtain ⟨s0, s1, s2, -⟩ := now3 hs2 rfl
  have HX2 := HX w2 hB2
  go_wp2_with fail
  refine HX2.mono ?_
  rintro e w3 ⟨rfl, hb3⟩
  have hs3 := keep_blk hb3 hs2
  have hB3 := hB2.trans (hb3.mono hB2.size)
  have hW3 := hW2.trans (hb3.mono hW2.size)
  have hf3 := hfk hf2 hb3
  clear HX HX2 s0 s1 s2 hs2 hb3 hf2 hB2 hW2 hfk
  obtain ⟨s0, s1, s2, -⟩ := now3 hs3 rfl
  have HP3 := HP hB3 hf3
  clear HP
  go_wp2_with fail
  refine HP3.mono ?_
  rintro e w4 ⟨rfl, hb4⟩
  have hB4 := hB3.trans (hb4.mono hb.size)
  clear HP3 s0 s1 s2 hs3 hf3 hb4
  go_wp2_with fail
  refine (HK _).mono ?_
  rintro e w9 ⟨rfl, hb9⟩
  have hB9 := hB4.trans (hb9.mono hB4.size)
  clear HK
  go_wp2
  go_ret
  exact ⟨rfl, hB9⟩
theorem rws_form {w : World} {B : Nat} {v : Value} {rs : List Rw} (h : RwsAt w B v rs) : ∃ A c, v = .slice A rs.length c := by
  obtain ⟨A, c, e, -, -⟩ := h
  exact ⟨A, c, e⟩
theorem all10_yes (HA : AllM) {i : Int} {A C : Value} {on may : List (BitVec 256)} (ho : spB ⟨i, on, may⟩ = true) (w : World) (hA : SetsAt w w.heap.size A on) (hC : SetsAt w w.heap.size C may) :
    Calls Tryz.prog 10 #[spv i A C] w fun e w' => ∃ v, e = .returned (.tuple #[v, .int .i64 0]) ∧ RwsAt w' w'.heap.size v (rowsP ⟨i, on, may⟩) ∧ Below w.heap.size w w' := by
  have := HA i A C on may w hA hC
  rwa [if_pos ho, if_pos ho] at this
set_option maxHeartbeats 4000000 in
set_option maxRecDepth 100000 in
theorem all11_yes {Fr : Nat → World → Nat → Prop} {Dg : Nat → World → Nat → Int → (Nat → Bool) → Prop} (HD : DgOk Fr Dg) (HG : AllGood Fr Dg) (HAm : AllM) (HK : Knows11) (n : Nat) (A C : Value) (on may : List (BitVec 256)) (w : World) (hA : SetsAt w w.heap.size A on) (hC : SetsAt w w.heap.size C may) (hg : (decide (20 < on.length) || decide (20 < may.length)) = false) (ho : spB ⟨n, on, may⟩ = true) (h4 : n ≤ 4) (h48 : on.length ≤ 8) (hl4 : on.length ≤ 4) (hl : on.length = may.length) :
    Calls Tryz.prog 3 #[spv n A C] w fun e w' => e = .returned (.bool true) ∧ Below w.heap.size w w' := by
  have HN := HD.new
  have hfk := @DgOk.frB _ _ HD
  have HR := fun w1 (hb : Below w.heap.size w w1) => rspec_any n A C on may w1 ((hA.below hb).more hb.size) ((hC.below hb).more hb.size)
  have HX := fun w1 (hb : Below w.heap.size w w1) => great10_any n A C on may w1 ((hA.below hb).more hb.size) ((hC.below hb).more hb.size)
  rw [hg] at HX
  rw [ho] at HR
  have d4 : decide ((4 : Int) < (n : Int)) = false := decide_eq_false (by omega)
  have HP := fun {w1 : World} {B zb : Nat} (hb : Below w.heap.size w w1) (hf : Fr B w1 zb) => HG n A C on may ho h4 ((hA.below hb).more hb.size) ((hC.below hb).more hb.size) hf
  have HL := fun w1 (hb : Below w.heap.size w w1) => all10_yes HAm ho w1 ((hA.below hb).more hb.size) ((hC.below hb).more hb.size)
  have hdk := @DgOk.dgB _ _ HD
  have HLi := @DgOk.list _ _ HD
  have HCo := @DgOk.count _ _ HD
  have HM := Lib.hid (fun v w hz => rmembers11_any v (rowsP ⟨n, on, may⟩) (by have := rowsP_few (s := ⟨n, on, may⟩) rfl (by omega) h48 hl; omega) w hz)
  have hfew := rowsP_few (s := ⟨n, on, may⟩) rfl (by omega) h48 hl
  have hfr := Lib.hid (fun r hs hm => fam_row (l := memsR (rowsP ⟨n, on, may⟩)) (r := r) (memsR_small _) hs hm)
  have hct := Lib.hid (fun r hs hm => row_count (l := memsR (rowsP ⟨n, on, may⟩)) (r := r) (rowsP_mems (s := ⟨n, on, may⟩) rfl hl4) hs hm)
  have hml := Lib.hid (memsR_len (rowsP ⟨n, on, may⟩))
  have hfc : Hid (famP ⟨n, on, may⟩ = rowF (memsR (rowsP ⟨n, on, may⟩))) := Lib.hid rfl
  obtain ⟨A, ac, rfl, -, -⟩ := hA
  obtain ⟨C, cc, rfl, -, -⟩ := hC
  have hs := heap_alloc_new w (spb n (.slice A on.length ac) (.slice C may.length cc))
  have hb := below_alloc1 w (spb n (.slice A on.length ac) (.slice C may.length cc))
  clear HD HG HAm hg ho h48 hl4 hl
  generalize famP ⟨n, on, may⟩ = F at *
  generalize rowsP ⟨n, on, may⟩ = R at *
  unfold spv spb at *
  go_enter Tryz.func3, Tryz.ntmps3
  go_upto_region 1 with (fail)
  generalize w.alloc _ = W at *
  go_wp2_with fail
  refine (HN _).mono ?_
  rintro e w1 ⟨zb, rfl, hf, hb1⟩
  have hs1 := keep_blk hb1 hs
  have hWx := size_of_block hs
  have hB1 := hb.trans (hb1.mono hb.size)
  clear HN hs
  obtain ⟨s0, s1, s2, -⟩ := now3 hs1 rfl
  have HR1 := HR w1 hB1
  go_wp2_with fail
  refine HR1.mono ?_
  rintro e w2 ⟨rfl, hb2⟩
  have hs2 := keep_blk hb2 hs1
  have hB2 := hB1.trans (hb2.mono hB1.size)
  have hW2 := hb1.trans (hb2.mono hb1.size)
  have hf2 := hfk hf hb2
  clear HR HR1 s0 s1 s2 hs1 hb1 hb2 hf hB1
  obtain ⟨s0, s1, s2, -⟩ := now3 hs2 rfl
  have HX2 := HX w2 hB2
  go_wp2_with fail
  refine HX2.mono ?_
  rintro e w3 ⟨rfl, hb3⟩
  have hs3 := keep_blk hb3 hs2
  have hB3 := hB2.trans (hb3.mono hB2.size)
  have hW3 := hW2.trans (hb3.mono hW2.size)
  have hf3 := hfk hf2 hb3
  clear HX HX2 s0 s1 s2 hs2 hb3 hf2 hB2 hW2 hfk
  obtain ⟨s0, s1, s2, -⟩ := now3 hs3 rfl
  have HP3 := HP hB3 hf3
  clear HP
  go_wp2_with fail
  refine HP3.mono ?_
  rintro e w4 ⟨id, rfl, hd4, hb4⟩
  have hs4 := (hb4.block _ hWx).trans hs3
  have hB4 := hB3.trans (hb4.mono hb.size)
  clear HP3 s0 s1 s2 hs3 hf3 hB3 hb4
  obtain ⟨s0, s1, s2, -⟩ := now3 hs4 rfl
  have HL4 := HL w4 hB4
  clear HL
  go_wp2_with fail
  refine HL4.mono ?_
  rintro e w5 ⟨lv, rfl, hC5, hb5⟩
  have hd5 := hdk hd4 hb5
  have hs5 := keep_blk hb5 hs4
  have hB5 := hB4.trans (hb5.mono hB4.size)
  clear HL4 s0 s1 s2 hs4 hd4 hB4 hb5
  have hcF : cF 24 F ≤ R.length := by
    rw [hfc.out, ← hml.out]
    exact cF_row_le _
  have HL5 := HLi hd5 (by omega)
  clear HLi
  obtain ⟨A5, c5, rfl⟩ := rws_form hC5
  go_wp2_with fail
  refine HL5.mono ?_
  rintro e w6 ⟨u, rfl, hu, hb6⟩
  have hR6 := (hC5.below hb6).more hb6.size
  have hd6 := hdk hd5 hb6
  have hs6 := keep_blk hb6 hs5
  have hB6 := hB5.trans (hb6.mono hB5.size)
  clear HL5 hC5 hd5 hB5 hs5 hb6
  have HM6 := HM.out _ w6 hR6
  clear HM hR6
  have hu0 := hu
  obtain ⟨ua, uc, eu, -, -⟩ := hu0
  subst eu
  go_wp2_with fail
  refine HM6.mono ?_
  rintro e w7 ⟨A7, c7, r7, rfl, hi7, hs7, hm7, -, hb7⟩
  have hd7 := hdk hd6 hb7
  have hB7 := hB6.trans (hb7.mono hB6.size)
  have hu7 := (hu.below hb7).more hb7.size
  have hrow := hfr.out r7 hs7 hm7
  rw [← hfc.out] at hrow
  have hlen7 : r7.length = R.length := by rw [hct.out r7 hs7 hm7, hml.out]
  have hcnt : cF 24 F = R.length := by rw [← famL_len, hrow]; exact hlen7
  rw [hrow] at hu7
  have HE := rsame8_any w7 _ _ (nI r7) (nI r7) hu7 hi7
  rw [show decide (nI r7 = nI r7) = true from decide_eq_true rfl, nI_len] at HE
  have hul : (nI (famL 24 F)).length = r7.length := by rw [nI_len, hrow]
  clear HM6 hd6 hB6 hb7 hu7 hi7 hrow hm7 hs7 hu hfr hct hml hfc
  rw [hul]
  have hcntH := Lib.hid hcnt
  clear hul hlen7 hcnt hcF
  go_wp2_with fail
  refine HE.mono ?_
  rintro e w8 ⟨rfl, hb8⟩
  have hB8 := hB7.trans (hb8.mono hB7.size)
  have HC8 := HCo (hdk hd7 hb8)
  rw [hcntH.out] at HC8
  clear HE hd7 hB7 hb8 HCo hdk
  go_wp2_with fail
  refine HC8.mono ?_
  rintro e w9 ⟨rfl, hb9⟩
  have hB10 := hB8.trans (hb9.mono hB8.size)
  have he : (((R.length : Nat) : Int) == ((R.length : Nat) : Int)) = true := by simp
  clear HC8 hB8 hb9
  go_wp2_with fail
  refine (HK _).mono ?_
  rintro e w11 ⟨rfl, hb11⟩
  have hB11 := hB10.trans (hb11.mono hB10.size)
  clear HK
  go_wp2
  go_ret
  exact ⟨rfl, hB11⟩
theorem taggedAll_any {Fr : Nat → World → Nat → Prop} {Dg : Nat → World → Nat → Int → (Nat → Bool) → Prop} (HD : DgOk Fr Dg) (HB : AllBad Fr) (HG : AllGood Fr Dg) (HAm : AllM) (HK : Knows11) (i : Int) (A C : Value) (on may : List (BitVec 256)) (w : World) (hA : SetsAt w w.heap.size A on) (hC : SetsAt w w.heap.size C may) :
    Calls Tryz.prog 3 #[spv i A C] w fun e w' => e = .returned (.bool true) ∧ Below w.heap.size w w' := by
  cases hg : (decide (20 < on.length) || decide (20 < may.length))
  · cases ho : spB ⟨i, on, may⟩
    · exact all11_no HD HB HK i A C on may w hA hC hg ho
    · obtain ⟨⟨i0, i8⟩, ⟨l1, l4⟩, hl⟩ := (headS_iff _).1 (sp_iff.1 ho).1
      simp only at i0 i8 l1 l4 hl
      by_cases h4 : 4 < i
      · exact all11_big HD HK i A C on may w hA hC hg ho h4
      · obtain ⟨n, rfl⟩ : ∃ n : Nat, i = n := ⟨i.toNat, by omega⟩
        exact all11_yes HD HG HAm HK n A C on may w hA hC hg ho (by omega) (by omega) l4 hl
  · exact all11_great HD HK i A C on may w hA hC hg
end Go.Proofs.YtehpccanjlaokaaGreat
