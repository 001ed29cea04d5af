/- ZddOne. -/
import Derived.Test.YtkkdfpmjmommcaaZkn08
namespace Go.Proofs.Ytkkdfpmjmommcaa
open Go.RowKit Go.Joins

theorem cF_op2o (k : Nat) (F G : Nat → Bool) : cF 24 (op2F k F G) ≤ cF 24 F + cF 24 G := by
  refine Nat.le_trans (cF_le 24 (fun n h => ?_)) (cF_or 24 F G)
  unfold op2F op2 at h
  split at h
  · exact h
  · split at h
    · rw [Bool.and_eq_true] at h; rw [h.1, Bool.true_or]
    · rw [Bool.and_eq_true] at h; rw [h.1, Bool.true_or]
theorem cF_op40o (k : Nat) {l r : List Nat} (h1 : l.length ≤ 40) (h2 : r.length ≤ 40) : cF 24 (op2F k (rowF l) (rowF r)) ≤ 100000 := by
  have := cF_op2o k (rowF l) (rowF r)
  have := cF_row_le (D := 24) l
  have := cF_row_le (D := 24) r
  omega
set_option maxHeartbeats 1000000 in
theorem one8_great (w : World) (v u : Value) (zs ys : List Int) (hz : IntsAt w w.heap.size v zs) (hy : IntsAt w w.heap.size u ys) (hg : (decide (40 < zs.length) || decide (40 < ys.length)) = true) :
    Calls Try.prog 8 #[v, u] w fun e w' => e = .returned (.bool true) ∧ Below w.heap.size w w' := by
  have HG := great8_any w v u zs ys hz hy
  rw [hg] at HG
  have HK := fun w => knows8_any w
  clear hz hy
  go_enter Try.func8, Try.ntmps8
  go_wp2_with fail
  refine HG.mono ?_
  rintro e w1 ⟨rfl, rfl⟩
  clear HG
  go_wp2_with fail
  refine (HK _).mono ?_
  rintro e w2 ⟨rfl, hb2⟩
  clear HK
  go_wp2
  go_ret
  exact ⟨rfl, hb2⟩
theorem le40o {zs ys : List Int} (hg : (decide (40 < zs.length) || decide (40 < ys.length)) = false) : zs.length ≤ 40 ∧ ys.length ≤ 40 := by
  rw [Bool.or_eq_false_iff, decide_eq_false_iff_not, decide_eq_false_iff_not] at hg
  omega
set_option maxHeartbeats 1000000 in
set_option maxRecDepth 100000 in
theorem one8_no (w : World) (v u : Value) (zs ys : List Int) (p q : Bool) (hz : IntsAt w w.heap.size v zs) (hy : IntsAt w w.heap.size u ys) (hg : (decide (40 < zs.length) || decide (40 < ys.length)) = false) (hp : zs.all memB = p) (hq : ys.all memB = q) (hpq : (p && q) = false) :
    Calls Try.prog 8 #[v, u] w fun e w' => e = .returned (.bool true) ∧ Below w.heap.size w w' := by
  have HG := great8_any w v u zs ys hz hy
  rw [hg] at HG
  have HS := start8_any w v u zs ys p q hp hq hz hy (le40o hg).1 (le40o hg).2
  have HK := fun w => knows8_any w
  clear hz hy hg
  go_enter Try.func8, Try.ntmps8
  go_wp2_with fail
  refine HG.mono ?_
  rintro e w1 ⟨rfl, rfl⟩
  clear HG
  go_wp2_with fail
  refine HS.mono ?_
  rintro e w2 ⟨zb, ab, bm, v2, full2, S2, a, b, rfl, hb2, -⟩
  clear HS
  rw [hpq]
  go_wp2_with fail
  refine (HK _).mono ?_
  rintro e w3 ⟨rfl, hb3⟩
  clear HK
  go_wp2
  go_ret
  exact ⟨rfl, hb2.trans (hb3.mono hb2.size)⟩
/-- What an operation of two families gives, where there is room. -/
def Made8 (N : Nat → Prop) (w : World) (zb ab bm : Nat) (S : St) (F : Nat → Bool) (K : Nat) (e : Ending) (w' : World) : Prop :=
  ∃ (v : Value) (full : Nat) (T : St) (id : Int), e = .returned (.tuple #[.int .i64 id, .int .i64 0]) ∧ ZdAt w' N zb ab bm v 20000 full T ∧ Kz no8 (· = bm) N w w' ∧ Ext S T ∧ Held T id F ∧ cnt T ≤ cnt S + K
theorem union8 {N : Nat → Prop} {w : World} {zb ab bm : Nat} {v : Value} {full : Nat} {S : St} {a b : Int} {F G : Nat → Bool} (h : ZdAt w N zb ab bm v 20000 full S) (ha : Held S a F) (hb : Held S b G) (hF : cF 24 F ≤ 40) (hc : cnt S ≤ 18000) :
    Calls Try.prog 19 #[.pointer (some ⟨zb, 0, none⟩), .int .i64 a, .int .i64 b] w (Made8 N w zb ab bm S (op2F 0 F G) 960) := by
  have za := ha.zn
  have HU := zUnion_any h a b ha.1 hb.1 (by omega)
  rw [ha.2, hb.2] at HU
  refine HU.mono ?_
  intro e w' hM
  obtain ⟨v', full', T, id, h1, h2, h3, h4, h5, h6⟩ := made_ok hM (by omega)
  exact ⟨v', full', T, id, h1, h2, h3, h4, h5, by omega⟩
theorem meet8 {N : Nat → Prop} {w : World} {zb ab bm : Nat} {v : Value} {full : Nat} {S : St} {a b : Int} {F G : Nat → Bool} (h : ZdAt w N zb ab bm v 20000 full S) (ha : Held S a F) (hb : Held S b G) (hF : cF 24 F ≤ 40) (hc : cnt S ≤ 18000) :
    Calls Try.prog 20 #[.pointer (some ⟨zb, 0, none⟩), .int .i64 a, .int .i64 b] w (Made8 N w zb ab bm S (op2F 1 F G) 960) := by
  have za := ha.zn
  have HU := zMeet_any h a b ha.1 hb.1 (by omega)
  rw [ha.2, hb.2] at HU
  refine HU.mono ?_
  intro e w' hM
  obtain ⟨v', full', T, id, h1, h2, h3, h4, h5, h6⟩ := made_ok hM (by omega)
  exact ⟨v', full', T, id, h1, h2, h3, h4, h5, by omega⟩
theorem less8 {N : Nat → Prop} {w : World} {zb ab bm : Nat} {v : Value} {full : Nat} {S : St} {a b : Int} {F G : Nat → Bool} (h : ZdAt w N zb ab bm v 20000 full S) (ha : Held S a F) (hb : Held S b G) (hF : cF 24 F ≤ 40) (hc : cnt S ≤ 18000) :
    Calls Try.prog 21 #[.pointer (some ⟨zb, 0, none⟩), .int .i64 a, .int .i64 b] w (Made8 N w zb ab bm S (op2F 2 F G) 960) := by
  have za := ha.zn
  have HU := zLess_any h a b ha.1 hb.1 (by omega)
  rw [ha.2, hb.2] at HU
  refine HU.mono ?_
  intro e w' hM
  obtain ⟨v', full', T, id, h1, h2, h3, h4, h5, h6⟩ := made_ok hM (by omega)
  exact ⟨v', full', T, id, h1, h2, h3, h4, h5, by omega⟩
theorem held_eq {S : St} {a b : Int} {F : Nat → Bool} (hZ : ZSt S) (ha : Held S a F) (hb : Held S b F) : a = b := (z_eq hZ ha.1 hb.1).1 (ha.2.trans hb.2.symm)
theorem op0_comm (F G : Nat → Bool) : op2F 0 F G = op2F 0 G F := funext fun n => show (F n || G n) = (G n || F n) by cases F n <;> cases G n <;> rfl
theorem op_less_meet (F G : Nat → Bool) : op2F 0 (op2F 2 F G) (op2F 1 F G) = F := funext fun n => show ((F n && !G n) || (F n && G n)) = F n by cases F n <;> cases G n <;> rfl
theorem op_or_less (F G : Nat → Bool) : op2F 0 F (op2F 2 G F) = op2F 0 F G := funext fun n => show (F n || (G n && !F n)) = (F n || G n) by cases F n <;> cases G n <;> rfl
theorem cF_less (F G : Nat → Bool) : cF 24 (op2F 2 F G) ≤ cF 24 F := cF_le 24 fun n h => by
  have h' : (F n && !G n) = true := h
  rw [Bool.and_eq_true] at h'
  exact h'.1
theorem rows_eq {l r : List Nat} (hl : ∀ x ∈ l, x < 16777216) (hr : ∀ x ∈ r, x < 16777216) (h : famL 24 (rowF l) = famL 24 (rowF r)) : rowF l = rowF r := by
  have hm : ∀ x, x ∈ famL 24 (rowF l) ↔ x ∈ famL 24 (rowF r) := fun x => by rw [h]
  refine rowF_same fun x => ?_
  have := hm x
  rw [famL_mem, famL_mem] at this
  unfold rowF at this
  rw [decide_eq_true_iff, decide_eq_true_iff] at this
  exact ⟨fun hx => (this.1 ⟨hl x hx, hx⟩).2, fun hx => (this.2 ⟨hr x hx, hx⟩).2⟩
theorem nI_eq {a b : List Nat} : nI a = nI b ↔ a = b := ⟨nI_inj, fun h => by rw [h]⟩
set_option maxHeartbeats 4000000 in
set_option maxRecDepth 100000 in
theorem one8_yes (w : World) (v u : Value) (zs ys : List Int) (hz : IntsAt w w.heap.size v zs) (hy : IntsAt w w.heap.size u ys) (hg : (decide (40 < zs.length) || decide (40 < ys.length)) = false) (hp : zs.all memB = true) (hq : ys.all memB = true) :
    Calls Try.prog 8 #[v, u] w fun e w' => e = .returned (.bool true) ∧ Below w.heap.size w w' := by
  have HG := great8_any w v u zs ys hz hy
  rw [hg] at HG
  have HS := start8_any w v u zs ys true true hp hq hz hy (le40o hg).1 (le40o hg).2
  have HK := fun w => knows8_any w
  obtain ⟨hzn, hlt⟩ := nats_good hp
  obtain ⟨hyn, hlt2⟩ := nats_good hq
  have hl40 : (natsOf zs).length ≤ 40 := by rw [natsOf_len]; exact (le40o hg).1
  have hl40' : (natsOf ys).length ≤ 40 := by rw [natsOf_len]; exact (le40o hg).2
  have HR := fun w1 (hb : Below w.heap.size w w1) => rof8_any v (natsOf zs) (by omega) w1 (by rw [← hzn]; exact (hz.below hb).more hb.size)
  have HRy := fun w1 (hb : Below w.heap.size w w1) => rof8_any u (natsOf ys) (by omega) w1 (by rw [← hyn]; exact (hy.below hb).more hb.size)
  have hcF := cF_row_le (D := 24) (natsOf zs)
  have hcG := cF_row_le (D := 24) (natsOf ys)
  have hlz := natsOf_len zs
  have hly := natsOf_len ys
  clear hz hy hg hzn hyn
  go_enter Try.func8, Try.ntmps8
  go_wp2_with fail
  refine HG.mono ?_
  rintro e w1 ⟨rfl, rfl⟩
  clear HG
  go_wp2_with fail
  refine HS.mono ?_
  rintro e w2 ⟨zb, ab, bm, v2, full2, S, a, b, rfl, hb2, hok⟩
  obtain ⟨hd2, ha, hbb, hcn⟩ := hok rfl rfl
  clear HS hok
  rw [Bool.true_and]
  have HR2 := HR w2 hb2
  clear HR
  go_wp2_with fail
  refine HR2.mono ?_
  rintro e w3 ⟨A, c, r, rfl, -, -, hr3, hsr, hmr, -, -, hb3⟩
  have hB3 := hb2.trans (hb3.mono hb2.size)
  have hrow := row_fam hlt hsr hmr
  have HR3 := HRy w3 hB3
  clear HR2 HRy
  go_wp2_with fail
  refine HR3.mono ?_
  rintro e w4 ⟨A4, c4, r4, rfl, -, -, hs4, hsr4, hmr4, -, -, hb4⟩
  have hB4 := hB3.trans (hb4.mono hB3.size)
  have hrow4 := row_fam hlt2 hsr4 hmr4
  have HE := rsame8_any w4 _ _ (nI r) (nI r4) ((hr3.below hb4).more hb4.size) hs4
  have hd4 := (hd2.below hb3).below hb4
  have hab : decide (nI r = nI r4) = decide (a = b) := by
    rw [Bool.eq_iff_iff, decide_eq_true_iff, decide_eq_true_iff, nI_eq, ← hrow, ← hrow4]
    constructor
    · intro h
      exact held_eq hd4.zst ha (by rw [rows_eq hlt hlt2 h]; exact hbb)
    · intro h
      have e1 := ha.2
      rw [h, hbb.2] at e1
      rw [e1]
  rw [hab] at HE
  have hcS : cnt S ≤ 1920 := by omega
  clear HR3 hr3 hs4 hsr hmr hsr4 hmr4 hrow hrow4 hab hlt hlt2 hcn hd2 hb2 hb3 hB3
  go_wp2_with fail
  refine HE.mono ?_
  rintro e w5 ⟨rfl, hb5⟩
  have hB5 := hB4.trans (hb5.mono hB4.size)
  have hd5 := hd4.below hb5
  have HU := union8 hd5 ha hbb (by omega) (by omega)
  clear HE hd4 hb4 hb5 hB4
  go_wp2_with fail
  refine HU.mono ?_
  rintro e w6 ⟨v6, full6, S6, u6, rfl, hd6, hk6, hx6, hu6, hc6⟩
  have hV5 := hd5.zst.vst
  have hB6 := hB5.trans (hk6.below hB5.size)
  have ha6 := ha.ext hV5 hx6
  have hb6 := hbb.ext hV5 hx6
  have HU2 := union8 hd6 hb6 ha6 (by omega) (by omega)
  clear HU hd5 hk6 hx6 ha hbb hB5 hV5
  go_wp2_with fail
  refine HU2.mono ?_
  rintro e w7 ⟨v7, full7, S7, u7, rfl, hd7, hk7, hx7, hu7, hc7⟩
  have hV6 := hd6.zst.vst
  have hB7 := hB6.trans (hk7.below hB6.size)
  have ha7 := ha6.ext hV6 hx7
  have hb7 := hb6.ext hV6 hx7
  have hu67 := hu6.ext hV6 hx7
  obtain rfl : u6 = u7 := held_eq hd7.zst hu67 (by rw [op0_comm]; exact hu7)
  have HM := meet8 hd7 ha7 hb7 (by omega) (by omega)
  clear HU2 hd6 hk7 hx7 ha6 hb6 hB6 hV6 hu6 hu7
  go_wp2_with fail
  refine HM.mono ?_
  rintro e w8 ⟨v8, full8, S8, m8, rfl, hd8, hk8, hx8, hm8, hc8⟩
  have hV7 := hd7.zst.vst
  have hB8 := hB7.trans (hk8.below hB7.size)
  have ha8 := ha7.ext hV7 hx8
  have hb8 := hb7.ext hV7 hx8
  have hu8 := hu67.ext hV7 hx8
  have HL := less8 hd8 ha8 hb8 (by omega) (by omega)
  clear HM hd7 hk8 hx8 ha7 hb7 hB7 hV7 hu67
  go_wp2_with fail
  refine HL.mono ?_
  rintro e w9 ⟨v9, full9, S9, l9, rfl, hd9, hk9, hx9, hl9, hc9⟩
  have hV8 := hd8.zst.vst
  have hB9 := hB8.trans (hk9.below hB8.size)
  have ha9 := ha8.ext hV8 hx9
  have hb9 := hb8.ext hV8 hx9
  have hu9 := hu8.ext hV8 hx9
  have hm9 := hm8.ext hV8 hx9
  have HL2 := less8 hd9 hb9 ha9 (by omega) (by omega)
  clear HL hd8 hk9 hx9 ha8 hb8 hB8 hV8 hu8 hm8
  go_wp2_with fail
  refine HL2.mono ?_
  rintro e w10 ⟨v10, full10, S10, k10, rfl, hd10, hk10, hx10, hk10', hc10⟩
  have hV9 := hd9.zst.vst
  have hB10 := hB9.trans (hk10.below hB9.size)
  have ha10 := ha9.ext hV9 hx10
  have hu10 := hu9.ext hV9 hx10
  have hm10 := hm9.ext hV9 hx10
  have hl10 := hl9.ext hV9 hx10
  have hcl := cF_less (rowF (natsOf zs)) (rowF (natsOf ys))
  have HW := union8 hd10 hl10 hm10 (by omega) (by omega)
  rw [op_less_meet] at HW
  clear HL2 hd9 hk10 hx10 ha9 hb9 hB9 hV9 hu9 hm9 hl9 hcl
  go_wp2_with fail
  refine HW.mono ?_
  rintro e w11 ⟨v11, full11, S11, w11', rfl, hd11, hk11, hx11, hw11, hc11⟩
  have hV10 := hd10.zst.vst
  have hB11 := hB10.trans (hk11.below hB10.size)
  have ha11 := ha10.ext hV10 hx11
  have hu11 := hu10.ext hV10 hx11
  have hk11' := hk10'.ext hV10 hx11
  obtain rfl : a = w11' := held_eq hd11.zst ha11 hw11
  have HX := union8 hd11 ha11 hk11' (by omega) (by omega)
  rw [op_or_less] at HX
  clear HW hd10 hk11 hx11 ha10 hB10 hV10 hu10 hm10 hl10 hk10' hw11
  go_wp2_with fail
  refine HX.mono ?_
  rintro e w12 ⟨v12, full12, S12, x12, rfl, hd12, hk12, hx12, hx12', hc12⟩
  have hV11 := hd11.zst.vst
  have hB12 := hB11.trans (hk12.below hB11.size)
  have hu12 := hu11.ext hV11 hx12
  obtain rfl : u6 = x12 := held_eq hd12.zst hu12 hx12'
  clear HX hd11 hk12 hx12 hB11 hV11 hu11 hu12 hx12' hd12 hcF hcG hk11' ha11
  have hbe : (a == b) = decide (a = b) := rfl
  generalize hte : decide (a = b) = te at *
  go_wp2_with fail
  refine (HK _).mono ?_
  rintro e w19 ⟨rfl, hb19⟩
  go_wp2
  go_ret
  exact ⟨rfl, hB12.trans (hb19.mono hB12.size)⟩
end Go.Proofs.Ytkkdfpmjmommcaa
