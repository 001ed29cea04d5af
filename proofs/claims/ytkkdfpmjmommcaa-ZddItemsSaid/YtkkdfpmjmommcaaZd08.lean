/- ZddDoes. -/
import Derived.Test.YtkkdfpmjmommcaaZkn08
namespace Go.Proofs.Ytkkdfpmjmommcaa
open Go.RowKit Go.Joins

theorem IntsAt.kzF {C M N : Nat → Prop} {B n c : Nat} {A : Option Addr} {w w' : World} (h : Kz C M N w w') {zs : List Int} (hz : IntsAt w B (.slice A n c) zs) (hB : B ≤ w.heap.size) (hN : ∀ g off, A = some (⟨g, off, none⟩ : Addr) → g < B → N g) : IntsAt w' B (.slice A n c) zs := by
  obtain ⟨A0, c0, e0, hl, hr⟩ := hz
  injection e0 with e1 e2 e3
  subst e1
  subst e2
  subst e3
  refine ⟨A, c, rfl, hl, fun h0 => ?_⟩
  obtain ⟨b, off, rfl, hb, hcell⟩ := hr h0
  have hk := h.prot b (hN b off rfl hb) (Nat.lt_of_lt_of_le hb hB)
  refine ⟨b, off, rfl, hb, fun j x hx => ?_⟩
  rw [World.cell?_of_block (w := w) (a := ⟨b, off + j, none⟩) hk]
  exact hcell j x hx
/-- 'append' at the operation, where it is known how it runs. -/
theorem wpList_append8 (w : World) {ops : Array Oper} {rest : List Oper} {o : Oper} {a : Act} {Q : Exit → Act → World → Prop}
    (hg : o.guard = none) (s x : Operand) (hop : o.op = .call { callee := .builtin .append, args := #[s, x], argTypes := #[22, 22] }) (V v v' : Value) (w' : World) (hs : a.eval s = V) (hx : a.eval x = v)
    (hrun : (Builtin.append_ #[22, 22] o.type #[V, v]).run Try.prog w = .ok v' w') (hK : wpList Try.prog ops Q rest (a.put o.dst v') w') : wpList Try.prog ops Q (o :: rest) a w := by
  refine wpList_plain hg fun K' hK' => ?_
  unfold Oper.wp execOp
  simp [hop, resolve, invoke, builtin, hs, hx, hrun, Result.andThen]
  exact hK' _ _ hK
set_option maxRecDepth 100000 in
/-- 'append(o, v...)' for a row of the call's own. -/
theorem append8 {w : World} {B : Nat} {V v : Value} {xs l : List Nat} (ty : TypeId) (hown : w.ownsRow B 3 1 V xs.length (intsV xs)) (hB : B ≤ w.heap.size) (hz : IntsAt w w.heap.size v (nI l)) (h1 : xs.length ≤ 1000) (h2 : l.length ≤ 1000) :
    ∃ v' w', (Builtin.append_ #[22, 22] ty #[V, v]).run Try.prog w = .ok v' w' ∧ w'.ownsRow B 3 1 v' (xs ++ l).length (intsV (xs ++ l)) ∧ Below B w w' := by
  obtain ⟨i0, hi0, hz0, hz1, hz2⟩ := info_parts Try.infoInt
  obtain ⟨A, c, rfl, hl, hc⟩ := hz
  rw [nI_len] at hl hc ⊢
  cases A with
  | none =>
    have h0 : l = [] := by
      cases l with
      | nil => rfl
      | cons x r => obtain ⟨b, off, e, _⟩ := hc (by simp); cases e
    subst h0
    refine ⟨V, w, ?_, by rw [List.append_nil]; exact hown, Below.refl _ _⟩
    rcases hown.2 with ⟨rfl, h⟩ | ⟨g, cap, cur, rfl, _, _, hnc, _⟩
    · simp [Builtin.append_, run_underlying Try.underlying22, sizeOf, typeInfo, hi0, Builtin.lenOf, Builtin.firstCells]
    · simp [Builtin.append_, run_underlying Try.underlying22, sizeOf, typeInfo, hi0, Builtin.lenOf, Builtin.firstCells, hnc, storeCells]
  | some a =>
    obtain ⟨v', w', hrun, ho, hg, -⟩ := run_append_own (P := Try.prog) w B 22 ty 3 i0 (.int .i64 0) 1 8 Try.underlying22 hi0 hz0 hz1 hz2 rfl (by decide) V xs.length (intsV xs) hown a l.length c (intsV l) (by unfold intsV; simp)
      (fun j u hj => by
        rw [intsV_nI, List.getElem?_map] at hj
        cases hx : (nI l)[j]? with
        | none => rw [hx] at hj; cases hj
        | some x =>
          rw [hx, Option.map_some] at hj
          have hjl := (List.getElem?_eq_some_iff.1 hx).1
          rw [nI_len] at hjl
          obtain ⟨b, off, e, hb, hcell⟩ := hc (by omega)
          injection e with e
          subst e
          rw [Addr.add_lit, hcell j x hx]
          exact hj)
      (fun u hu => by rw [intsV_nI] at hu; obtain ⟨x, _, rfl⟩ := List.mem_map.1 hu; rfl) (by unfold maxLen; omega) (by omega) hB
    refine ⟨v', w', hrun, ?_, (Below.refl B w).grown hg hB (fun k hk => (hown.lt k hk).1)⟩
    rw [List.length_append]
    have e : intsV (xs ++ l) = intsV xs ++ intsV l := by unfold intsV; rw [List.map_append]
    rw [e]
    exact ho
theorem own_nil8 (w : World) : (w.alloc (.cells #[] 3 (0, 0))).ownsRow w.heap.size 3 1 (.slice (some ⟨w.heap.size, 0, none⟩) 0 0) ([] : List Nat).length (intsV []) := World.ownsRow_made w #[] 0 (Nat.le_refl _) (Nat.zero_le _) rfl
/-- 'append(append([]int{}, f...), g...)'. -/
theorem append8_two {w : World} {v u : Value} {l r : List Nat} (ty : TypeId) (hz : IntsAt w w.heap.size v (nI l)) (hy : IntsAt w w.heap.size u (nI r)) (h1 : l.length ≤ 40) (h2 : r.length ≤ 40) :
    ∃ v1 w1 v2 w2, (Builtin.append_ #[22, 22] ty #[.slice (some ⟨w.heap.size, 0, none⟩) 0 0, v]).run Try.prog (w.alloc (.cells #[] 3 (0, 0))) = .ok v1 w1 ∧ (Builtin.append_ #[22, 22] ty #[v1, u]).run Try.prog w1 = .ok v2 w2 ∧
      IntsAt w2 w2.heap.size v2 (nI (l ++ r)) ∧ Below w.heap.size w w2 := by
  have hB := below_alloc1 w (.cells #[] 3 (0, 0))
  obtain ⟨v1, w1, e1, o1, b1⟩ := append8 ty (own_nil8 w) (by simp) ((hz.below hB).more hB.size) (by decide) (by omega)
  have hB1 := hB.trans b1
  obtain ⟨v2, w2, e2, o2, b2⟩ := append8 ty o1 hB1.size ((hy.below hB1).more hB1.size) (by rw [List.nil_append]; omega) (by omega)
  rw [List.nil_append] at o2
  exact ⟨v1, w1, v2, w2, e1, e2, own_nI o2, hB1.trans b2⟩
theorem cF_op2 (k : Nat) (F G : Nat → Bool) : cF 24 (op2F k F G) ≤ cF 24 F + cF 24 G := by
  refine Nat.le_trans (cF_le 24 (fun n h => ?_)) (cF_or 24 F G)
  unfold op2F op2 at h
  split at h
  · exact h
  · split at h
    · rw [Bool.and_eq_true] at h; rw [h.1, Bool.true_or]
    · rw [Bool.and_eq_true] at h; rw [h.1, Bool.true_or]
theorem cF_op40 (k : Nat) {l r : List Nat} (h1 : l.length ≤ 40) (h2 : r.length ≤ 40) : cF 24 (op2F k (rowF l) (rowF r)) ≤ 100000 := by
  have := cF_op2 k (rowF l) (rowF r)
  have := cF_row_le (D := 24) l
  have := cF_row_le (D := 24) r
  omega
theorem row_or {l r r11 : List Nat} (hl : ∀ x ∈ l, x < 16777216) (hr : ∀ x ∈ r, x < 16777216) (hs : srtN r11) (hm : ∀ x, x ∈ r11 ↔ x ∈ l ++ r) : famL 24 (op2F 0 (rowF l) (rowF r)) = r11 :=
  famL_eq hs fun x => by
    show x ∈ r11 ↔ x < 2 ^ 24 ∧ (decide (x ∈ l) || decide (x ∈ r)) = true
    rw [hm, List.mem_append, Bool.or_eq_true, decide_eq_true_iff, decide_eq_true_iff]
    exact ⟨fun h => ⟨h.elim (fun a => hl x a) (fun a => hr x a), h⟩, fun h => h.2⟩
theorem row_pick1 {F G : Nat → Bool} {r r4 : List Nat} (h1 : famL 24 F = r) (h2 : famL 24 G = r4) : (r.filter fun x => decide (x ∈ r4) == true) = famL 24 (op2F 1 F G) := by
  rw [← h1, ← h2, pick_row]
  exact congrArg (famL 24) (funext fun n => show (F n && (G n == true)) = (F n && G n) by cases F n <;> cases G n <;> rfl)
theorem row_pick2 {F G : Nat → Bool} {r r4 : List Nat} (h1 : famL 24 F = r) (h2 : famL 24 G = r4) : (r.filter fun x => decide (x ∈ r4) == false) = famL 24 (op2F 2 F G) := by
  rw [← h1, ← h2, pick_row]
  exact congrArg (famL 24) (funext fun n => show (F n && (G n == false)) = (F n && !G n) by cases F n <;> cases G n <;> rfl)
set_option maxHeartbeats 1000000 in
theorem does8_great (w : World) (v u : Value) (zs ys : List Int) (hz : IntsAt w w.heap.size v zs) (hy : IntsAt w w.heap.size u ys) (hg : (decide (40 < zs.length) || decide (40 < ys.length)) = true) :
    Calls Try.prog 4 #[v, u] w fun e w' => e = .returned (.bool true) ∧ Below w.heap.size w w' := by
  have HG := great8_any w v u zs ys hz hy
  rw [hg] at HG
  have HK := fun w => knows8_any w
  clear hz hy
  go_enter Try.func4, Try.ntmps4
  go_wp2_with fail
  refine HG.mono ?_
  rintro e w1 ⟨rfl, rfl⟩
  clear HG
  go_wp2_with fail
  refine (HK _).mono ?_
  rintro e w2 ⟨rfl, hb2⟩
  clear HK
  go_wp2
  go_ret
  exact ⟨rfl, hb2⟩
theorem le40 {zs ys : List Int} (hg : (decide (40 < zs.length) || decide (40 < ys.length)) = false) : zs.length ≤ 40 ∧ ys.length ≤ 40 := by
  rw [Bool.or_eq_false_iff, decide_eq_false_iff_not, decide_eq_false_iff_not] at hg
  omega
set_option maxHeartbeats 1000000 in
set_option maxRecDepth 100000 in
theorem does8_no (w : World) (v u : Value) (zs ys : List Int) (p q : Bool) (hz : IntsAt w w.heap.size v zs) (hy : IntsAt w w.heap.size u ys) (hg : (decide (40 < zs.length) || decide (40 < ys.length)) = false) (hp : zs.all memB = p) (hq : ys.all memB = q) (hpq : (p && q) = false) :
    Calls Try.prog 4 #[v, u] w fun e w' => e = .returned (.bool true) ∧ Below w.heap.size w w' := by
  have HG := great8_any w v u zs ys hz hy
  rw [hg] at HG
  have HS := start8_any w v u zs ys p q hp hq hz hy (le40 hg).1 (le40 hg).2
  have HK := fun w => knows8_any w
  clear hz hy hg
  go_enter Try.func4, Try.ntmps4
  go_wp2_with fail
  refine HG.mono ?_
  rintro e w1 ⟨rfl, rfl⟩
  clear HG
  go_wp2_with fail
  refine HS.mono ?_
  rintro e w2 ⟨zb, ab, bm, v2, full2, S2, a, b, rfl, hb2, -⟩
  clear HS
  rw [hpq]
  go_wp2_with fail
  refine (HK _).mono ?_
  rintro e w3 ⟨rfl, hb3⟩
  clear HK
  go_wp2
  go_ret
  exact ⟨rfl, hb2.trans (hb3.mono hb2.size)⟩
set_option maxHeartbeats 4000000 in
set_option maxRecDepth 100000 in
theorem does8_yes (w : World) (v u : Value) (zs ys : List Int) (hz : IntsAt w w.heap.size v zs) (hy : IntsAt w w.heap.size u ys) (hg : (decide (40 < zs.length) || decide (40 < ys.length)) = false) (hp : zs.all memB = true) (hq : ys.all memB = true) :
    Calls Try.prog 4 #[v, u] w fun e w' => e = .returned (.bool true) ∧ Below w.heap.size w w' := by
  have HG := great8_any w v u zs ys hz hy
  rw [hg] at HG
  have HS := start8_any w v u zs ys true true hp hq hz hy (le40 hg).1 (le40 hg).2
  have HK := fun w => knows8_any w
  obtain ⟨hzn, hlt⟩ := nats_good hp
  obtain ⟨hyn, hlt2⟩ := nats_good hq
  have hl40 : (natsOf zs).length ≤ 40 := by rw [natsOf_len]; exact (le40 hg).1
  have hl40' : (natsOf ys).length ≤ 40 := by rw [natsOf_len]; exact (le40 hg).2
  have HR := fun w1 (hb : Below w.heap.size w w1) => rof8_any v (natsOf zs) (by omega) w1 (by rw [← hzn]; exact (hz.below hb).more hb.size)
  have HRy := fun w1 (hb : Below w.heap.size w w1) => rof8_any u (natsOf ys) (by omega) w1 (by rw [← hyn]; exact (hy.below hb).more hb.size)
  have hzz := Lib.hid hz
  have hyy := Lib.hid hy
  clear hz hy hg
  go_enter Try.func4, Try.ntmps4
  go_wp2_with fail
  refine HG.mono ?_
  rintro e w1 ⟨rfl, rfl⟩
  clear HG
  go_wp2_with fail
  refine HS.mono ?_
  rintro e w2 ⟨zb, ab, bm, v2, full2, S, a, b, rfl, hb2, hok⟩
  obtain ⟨hd2, ha, hbb, hcn⟩ := hok rfl rfl
  clear HS hok
  rw [Bool.true_and]
  have HR2 := HR w2 hb2
  clear HR
  go_wp2_with fail
  refine HR2.mono ?_
  rintro e w3 ⟨A, c, r, rfl, hrc, hrn, hr3, hsr, hmr, hrl, hrf, hb3⟩
  have hB3 := hb2.trans (hb3.mono hb2.size)
  have hrow := row_fam hlt hsr hmr
  have HR3 := HRy w3 hB3
  clear HR2 HRy
  go_wp2_with fail
  refine HR3.mono ?_
  rintro e w4 ⟨A4, c4, r4, rfl, -, -, hs4, hsr4, hmr4, hrl4, hrf4, hb4⟩
  have hB4 := hB3.trans (hb4.mono hB3.size)
  have hrow4 := row_fam hlt2 hsr4 hmr4
  have hr4 := (hr3.below hb4).more hb4.size
  have hd4 := hd2.grow (hb3.trans (hb4.mono hb3.size))
  have hN4 : ∀ k, k < w.heap.size → (k < w.heap.size ∨ (w2.heap.size ≤ k ∧ k < w4.heap.size)) := fun k hk => .inl hk
  have hfx : ∀ g off, A = some (⟨g, off, none⟩ : Addr) → g < w4.heap.size → (g < w.heap.size ∨ (w2.heap.size ≤ g ∧ g < w4.heap.size)) := fun g off hg hlt => .inr ⟨hrf g off hg, hlt⟩
  have hfy : ∀ g off, A4 = some (⟨g, off, none⟩ : Addr) → g < w4.heap.size → (g < w.heap.size ∨ (w2.heap.size ≤ g ∧ g < w4.heap.size)) := fun g off hg hlt => .inr ⟨Nat.le_trans hb3.size (hrf4 g off hg), hlt⟩
  have za : zn S a ≤ 40 := by rw [ha.zn]; have := cF_row_le (D := 24) (natsOf zs); omega
  have zb' : zn S b ≤ 40 := by rw [hbb.zn]; have := cF_row_le (D := 24) (natsOf ys); omega
  have hcS : cnt S ≤ 1920 := by have := natsOf_len zs; have := natsOf_len ys; omega
  have HU := zUnion_any hd4 a b ha.1 hbb.1 (by omega)
  rw [ha.2, hbb.2] at HU
  clear HR3 hd2 hr3 hsr hmr hsr4 hmr4 hcn hB3 hb2 hb3 hb4
  go_wp2_with fail
  refine HU.mono ?_
  intro e w5 hM
  obtain ⟨v5, full5, S5, un, rfl, hd5, hk5, hx5, hh5, hc5⟩ := made_ok hM (by omega)
  have hB5 := hB4.trans (hk5.belowN hN4 hB4.size)
  have hr5 := hr4.kzF hk5 (Nat.le_refl _) hfx
  have hy5 := hs4.kzF hk5 (Nat.le_refl _) hfy
  have hs5 := hk5.size
  have ha5 := ha.ext hd4.zst.vst hx5
  have hb5 := hbb.ext hd4.zst.vst hx5
  have za5 : zn S5 a ≤ 40 := by rw [ha5.zn]; have := cF_row_le (D := 24) (natsOf zs); omega
  have hc5' : cnt S5 ≤ 3000 := by omega
  have HM := zMeet_any hd5 a b ha5.1 hb5.1 (by omega)
  rw [ha5.2, hb5.2] at HM
  clear HU hM hd4 hr4 hs4 hk5 ha hbb za zb' hcS hB4 hc5 hx5
  go_wp2_with fail
  refine HM.mono ?_
  intro e w6 hM
  obtain ⟨v6, full6, S6, me, rfl, hd6, hk6, hx6, hh6, hc6⟩ := made_ok hM (by omega)
  have hB6 := hB5.trans (hk6.belowN hN4 hB5.size)
  have hr6 := hr5.kzF hk6 hs5 hfx
  have hy6 := hy5.kzF hk6 hs5 hfy
  have hs6 := Nat.le_trans hs5 hk6.size
  have ha6 := ha5.ext hd5.zst.vst hx6
  have hb6 := hb5.ext hd5.zst.vst hx6
  have hu6 := hh5.ext hd5.zst.vst hx6
  have za6 : zn S6 a ≤ 40 := by rw [ha6.zn]; have := cF_row_le (D := 24) (natsOf zs); omega
  have hc6' : cnt S6 ≤ 4000 := by omega
  have HL := zLess_any hd6 a b ha6.1 hb6.1 (by omega)
  rw [ha6.2, hb6.2] at HL
  clear HM hM hd5 hr5 hy5 hk6 ha5 hb5 za5 hc5' hB5 hc6 hx6 hh5 hs5
  go_wp2_with fail
  refine HL.mono ?_
  intro e w7 hM
  obtain ⟨v7, full7, S7, le, rfl, hd7, hk7, hx7, hh7, hc7⟩ := made_ok hM (by omega)
  have hB7 := hB6.trans (hk7.belowN hN4 hB6.size)
  have hr7 := (hr6.kzF hk7 hs6 hfx).more (Nat.le_trans hs6 hk7.size)
  have hy7 := (hy6.kzF hk7 hs6 hfy).more (Nat.le_trans hs6 hk7.size)
  have hu7 := hu6.ext hd6.zst.vst hx7
  have hm7 := hh6.ext hd6.zst.vst hx7
  clear HL hM hd6 hr6 hy6 hk7 ha6 hb6 za6 hc6' hB6 hc7 hx7 hh6 hu6 hs6 hN4
  have HL1 := list8_ok hd7 hu7 (cF_op40 0 hl40 hl40')
  go_wp2_with fail
  refine HL1.mono ?_
  rintro e w8 ⟨u8, rfl, hI8, -, hb8⟩
  have hB8 := hB7.trans (hb8.mono hB7.size)
  obtain ⟨v9, w9, v10, w10, run9, run10, hI10, hb10⟩ := append8_two (w := w8) 22 ((hzz.out.below hB8).more hB8.size |> fun h => hzn ▸ h) ((hyy.out.below hB8).more hB8.size |> fun h => hyn ▸ h) hl40 hl40'
  clear HL1 hzn hyn hzz hyy
  go_wp2_with (at_builtin; first | refine wpList_append8 _ rfl _ _ rfl (.slice (some ⟨w8.heap.size, 0, none⟩) 0 0) v v9 w9 rfl rfl run9 ?_ | refine wpList_append8 _ rfl _ _ rfl v9 u v10 w10 rfl rfl run10 ?_)
  have hd8 := hd7.below hb8
  have hb8' := hb8.mono (Nat.le_refl _)
  have hR11 := rof8_any v10 (natsOf zs ++ natsOf ys) (by rw [List.length_append]; omega) w10 hI10
  have h810 := hb10
  have hB10 := hB8.trans (hb10.mono hB8.size)
  clear run9 run10 hI10
  go_wp2_with fail
  refine hR11.mono ?_
  rintro e w11 ⟨A11, c11, r11, rfl, -, -, hI11, hs11, hm11, -, -, hb11⟩
  have h811 := h810.trans (hb11.mono h810.size)
  have hor := row_or hlt hlt2 hs11 hm11
  have HE := rsame8_any w11 u8 _ _ (nI r11) ((hI8.below h811).more h811.size) hI11
  rw [hor, show decide (nI r11 = nI r11) = true from decide_eq_true rfl] at HE
  obtain ⟨A8, c8, rfl, -, -⟩ := hI8
  have hB11 := hB8.trans (h811.mono hB8.size)
  clear hR11 hor hs11 hm11 hlt hlt2 hb10 hB10
  go_wp2_with fail
  refine HE.mono ?_
  rintro e w12 ⟨rfl, hb12⟩
  have h712 := (hb8.trans (h811.mono hb8.size)).trans (hb12.mono (Nat.le_trans hb8.size h811.size))
  have hB12 := hB11.trans (hb12.mono hB11.size)
  have HL2 := list8_ok (hd7.below h712) hm7 (cF_op40 1 hl40 hl40')
  clear HE h810 h811 hb11 hb12 hB11 hb8 hb8' hB8 hd8
  go_wp2_with fail
  refine HL2.mono ?_
  rintro e w13 ⟨u13, rfl, hI13, -, hb13⟩
  have h713 := h712.trans (hb13.mono h712.size)
  have hB13 := hB12.trans (hb13.mono hB12.size)
  have HP := rpick8_any (.slice A r.length c) (.slice A4 r4.length c4) r r4 true (by omega) w13 ((hr7.below h713).more h713.size) ((hy7.below h713).more h713.size)
  rw [row_pick1 hrow hrow4] at HP
  clear HL2 h712 hB12 hb13
  go_wp2_with fail
  refine HP.mono ?_
  rintro e w14 ⟨u14, rfl, hI14, hb14⟩
  have HE := rsame8_any w14 u13 u14 _ _ ((hI13.below hb14).more hb14.size) hI14
  rw [decide_eq_true rfl] at HE
  have h714 := h713.trans (hb14.mono h713.size)
  have hB14 := hB13.trans (hb14.mono hB13.size)
  obtain ⟨A13, c13, rfl, -, -⟩ := hI13
  obtain ⟨A14, c14, rfl, -, -⟩ := hI14
  clear HP h713 hB13 hb14
  go_wp2_with fail
  refine HE.mono ?_
  rintro e w15 ⟨rfl, hb15⟩
  have h715 := h714.trans (hb15.mono h714.size)
  have hB15 := hB14.trans (hb15.mono hB14.size)
  have HL3 := list8_ok (hd7.below h715) hh7 (cF_op40 2 hl40 hl40')
  clear HE h714 hB14 hb15
  go_wp2_with fail
  refine HL3.mono ?_
  rintro e w16 ⟨u16, rfl, hI16, -, hb16⟩
  have h716 := h715.trans (hb16.mono h715.size)
  have hB16 := hB15.trans (hb16.mono hB15.size)
  have HP := rpick8_any (.slice A r.length c) (.slice A4 r4.length c4) r r4 false (by omega) w16 ((hr7.below h716).more h716.size) ((hy7.below h716).more h716.size)
  rw [row_pick2 hrow hrow4] at HP
  clear HL3 h715 hB15 hb16
  go_wp2_with fail
  refine HP.mono ?_
  rintro e w17 ⟨u17, rfl, hI17, hb17⟩
  have HE := rsame8_any w17 u16 u17 _ _ ((hI16.below hb17).more hb17.size) hI17
  rw [decide_eq_true rfl] at HE
  have hB17 := hB16.trans (hb17.mono hB16.size)
  obtain ⟨A16, c16, rfl, -, -⟩ := hI16
  obtain ⟨A17, c17, rfl, -, -⟩ := hI17
  clear HP h716 hB16 hb17 hr7 hy7 hrow hrow4 hh7 hm7 hu7 hd7
  go_wp2_with fail
  refine HE.mono ?_
  rintro e w18 ⟨rfl, hb18⟩
  have hB18 := hB17.trans (hb18.mono hB17.size)
  clear HE hB17 hb18
  go_wp2_with fail
  refine (HK _).mono ?_
  rintro e w19 ⟨rfl, hb19⟩
  go_wp2
  go_ret
  exact ⟨rfl, hB18.trans (hb19.mono hB18.size)⟩
end Go.Proofs.Ytkkdfpmjmommcaa
