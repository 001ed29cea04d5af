/- The document's Cover of layer 12. -/
import Derived.Test.YtnddepijbbchiaaRhe12
namespace Go.Proofs.Ytnddepijbbchiaa
open Go.RowKit Go.Joins

theorem wpList_appendC {ops : Array Oper} {rest : List Oper} {o : Oper} {a : Act} {Q : Exit → Act → World → Prop} {w : World}
    (hg : o.guard = none) (s x : Operand) (hop : o.op = .call { callee := .builtin .append, args := #[s, x], argTypes := #[33, 33] }) (V v v' : Value) (w' : World) (hs : a.eval s = V) (hx : a.eval x = v)
    (hrun : (Builtin.append_ #[33, 33] o.type #[V, v]).run Try.prog w = .ok v' w') (hK : wpList Try.prog ops Q rest (a.put o.dst v') w') : wpList Try.prog ops Q (o :: rest) a w := by
  refine wpList_plain hg fun K' hK' => ?_
  unfold Oper.wp execOp
  simp [hop, resolve, invoke, builtin, hs, hx, hrun, Result.andThen]
  exact hK' _ _ hK
theorem cbsV_len (cs : List Cb) : (cbsV cs).length = cs.length * 2 := by
  induction cs with
  | nil => rfl
  | cons x l ih => show (bvv x.m :: bvv x.v :: cbsV l).length = _; simp [ih]; omega
theorem cbsV_app (a b : List Cb) : cbsV (a ++ b) = cbsV a ++ cbsV b := by unfold cbsV; simp
theorem cbsV_one (cs : List Cb) : ∀ u ∈ cbsV cs, u.oneCell' = true := by
  intro u hu
  unfold cbsV at hu
  obtain ⟨x, -, hx⟩ := List.mem_flatMap.1 hu
  simp only [List.mem_cons, List.not_mem_nil, or_false] at hx
  rcases hx with rfl | rfl <;> rfl
theorem cbs_cells {w : World} {B : Nat} {b off : Nat} {cs : List Cb} (h : ∀ j x, cs[j]? = some x → w.cell? ⟨b, off + j * 2, none⟩ = some (bvv x.m) ∧ w.cell? ⟨b, off + j * 2 + 1, none⟩ = some (bvv x.v)) (_ : b < B) :
    ∀ (j : Nat) (u : Value), (cbsV cs)[j]? = some u → w.cell? ((⟨b, off, none⟩ : Addr).add j) = some u := by
  intro j u hu
  have hj := (List.getElem?_eq_some_iff.1 hu).1
  rw [cbsV_len] at hj
  obtain ⟨x, hx⟩ : ∃ x, cs[j / 2]? = some x := ⟨_, List.getElem?_eq_getElem (by omega)⟩
  obtain ⟨e0, e1⟩ := cbsV_at cs (j / 2) x hx
  obtain ⟨c0, c1⟩ := h _ x hx
  rw [Addr.add_lit]
  rcases Nat.mod_two_eq_zero_or_one j with e | e
  · have ej : j / 2 * 2 = j := by omega
    rw [ej] at e0 c0
    rw [e0] at hu
    rw [c0, hu]
  · have ej : j / 2 * 2 + 1 = j := by omega
    have ej2 : off + j / 2 * 2 + 1 = off + j := by omega
    rw [ej] at e1
    rw [ej2] at c1
    rw [e1] at hu
    rw [c1, hu]
set_option maxRecDepth 100000 in
/-- 'append(o, v...)' of cubes for a row of the call's own. -/
theorem appendC {w : World} {B : Nat} {V v : Value} {xs l : List Cb} (ty : TypeId) (hown : w.ownsRow B 44 2 V xs.length (cbsV xs)) (hB : B ≤ w.heap.size) (hz : CbsAt w w.heap.size v l) (h1 : xs.length ≤ 1000000) (h2 : l.length ≤ 1000000) :
    ∃ v' w', (Builtin.append_ #[33, 33] ty #[V, v]).run Try.prog w = .ok v' w' ∧ w'.ownsRow B 44 2 v' (xs ++ l).length (cbsV (xs ++ l)) ∧ Below B w w' := by
  obtain ⟨i0, hi0, hz0, hz1, hz2⟩ := info_parts Try.infoCube9
  obtain ⟨A, c, rfl, hl, hc⟩ := hz
  cases A with
  | none =>
    have h0 : l = [] := by
      cases l with
      | nil => rfl
      | cons x r => obtain ⟨b, off, e, _⟩ := hc (by simp); cases e
    subst h0
    refine ⟨V, w, ?_, by rw [List.append_nil]; exact hown, Below.refl _ _⟩
    rcases hown.2 with ⟨rfl, h⟩ | ⟨g, cap, cur, rfl, _, _, hnc, _⟩
    · simp [Builtin.append_, run_underlying Try.underlying33, sizeOf, typeInfo, hi0, Builtin.lenOf, Builtin.firstCells]
    · simp [Builtin.append_, run_underlying Try.underlying33, sizeOf, typeInfo, hi0, Builtin.lenOf, Builtin.firstCells, hnc, storeCells]
  | some a =>
    obtain ⟨v', w', hrun, ho, hg, -⟩ := run_append_own (P := Try.prog) w B 33 ty 44 i0 (.agg #[.int .u8 0, .int .u8 0]) 2 2 Try.underlying33 hi0 hz0 hz1 hz2 rfl (by decide) V xs.length (cbsV xs) hown a l.length c (cbsV l) (cbsV_len l)
      (fun j u hj => by
        have hjl := (List.getElem?_eq_some_iff.1 hj).1
        rw [cbsV_len] at hjl
        obtain ⟨b, off, e, hb, hcell⟩ := hc (by omega)
        injection e with e
        subst e
        exact cbs_cells hcell hb j u hj)
      (cbsV_one l) (by unfold maxLen; omega) (by omega) hB
    refine ⟨v', w', hrun, ?_, (Below.refl B w).grown hg hB (fun k hk => (hown.lt k hk).1)⟩
    rw [List.length_append, cbsV_app]
    exact ho

theorem iso_len (n : Nat) : ∀ (f : Nat) (on may : Nat → Bool) (i : Nat), (isoF n f on may i).length ≤ 3 ^ f
  | 0, _, _, _ => by unfold isoF; simp
  | f + 1, on, may, i => by
    unfold isoF
    have p := Nat.one_le_pow (f + 1) 3 (by decide)
    by_cases h1 : emptyF on = true
    · rw [if_pos h1]; simp
    · rw [if_neg h1]
      by_cases h2 : fullF n may = true
      · rw [if_pos h2]; simpa using p
      · rw [if_neg h2]
        simp only [List.length_append, List.length_map]
        have a := iso_len n f (fun p => sideF on i false p && !sideF may i true p) (sideF may i false) (i + 1)
        have b := iso_len n f (fun p => sideF on i true p && !sideF may i false p) (sideF may i true) (i + 1)
        have c := iso_len n f (fun p => (sideF on i false p && !heldF (isoF n f (fun p => sideF on i false p && !sideF may i true p) (sideF may i false) (i + 1)) p) || (sideF on i true p && !heldF (isoF n f (fun p => sideF on i true p && !sideF may i false p) (sideF may i true) (i + 1)) p)) (fun p => sideF may i false p && sideF may i true p) (i + 1)
        rw [Nat.pow_succ]
        omega
theorem right_sub {x : Cb} {n : Nat} (h : rightB x.m x.v n = true) : x.v &&& x.m = x.v := by
  obtain ⟨-, -, -, h3⟩ := (rightB_iff _ _ _).1 h
  exact h3
theorem full_eq (n : Nat) (hn : n ≤ 8) (may : Nat → Bool) : ((List.range 256).all fun p => !(decide (p < 2 ^ n) && !may p)) = fullF n may := by
  have h8 : 2 ^ n ≤ 256 := Nat.pow_le_pow_right (n := 2) (by decide) hn
  unfold fullF
  rw [Bool.eq_iff_iff, List.all_eq_true, List.all_eq_true]
  constructor
  · intro h p hp
    have hp := List.mem_range.1 hp
    have := h p (List.mem_range.2 (by omega))
    rw [decide_eq_true hp] at this
    simpa using this
  · intro h p hp
    by_cases k : p < 2 ^ n
    · rw [h p (List.mem_range.2 k)]; simp
    · rw [decide_eq_false k]; rfl
theorem heldN_rest {n i : Nat} {on may : Nat → Bool} (h : Iso n i on may) (hi : i < n) (a b : List Cb) (p : Nat) :
    ((sideF on i false p && !heldN n a p) || (sideF on i true p && !heldN n b p)) = ((sideF on i false p && !heldF a p) || (sideF on i true p && !heldF b p)) := by
  unfold heldN
  by_cases k : p < 2 ^ n
  · rw [decide_eq_true k, Bool.true_and, Bool.true_and]
  · have z : ∀ c, sideF on i c p = false := fun c => by
      rw [Bool.eq_false_iff]
      intro hp
      exact k (sb12_back hi (h.low _ (h.sub _ hp)))
    rw [z, z]; rfl

theorem cbs_one (w : World) : CbsAt (w.alloc (.cells #[.int .u8 0, .int .u8 0] 44)) (w.alloc (.cells #[.int .u8 0, .int .u8 0] 44)).heap.size (.slice (some ⟨w.heap.size, 0, none⟩) 1 1) [⟨0, 0⟩] := by
  refine ⟨_, 1, rfl, by decide, fun _ => ⟨w.heap.size, 0, rfl, by simp, fun j x hx => ?_⟩⟩
  have hj := (List.getElem?_eq_some_iff.1 hx).1
  have e : j = 0 := by simp at hj; omega
  subst e
  injection hx with hx
  subst hx
  obtain ⟨a0, a1, -⟩ := now2 (heap_alloc_new w (.cells #[.int .u8 0, .int .u8 0] 44)) rfl
  exact ⟨a0, a1⟩
set_option maxHeartbeats 4000000 in
set_option maxRecDepth 1000000 in
theorem cover12_any (n : Nat) (hn : n ≤ 8) : ∀ (f : Nat), f ≤ 9 → ∀ (on may : Nat → Bool) (i : Nat), n < f + i → Iso n i on may → ∀ (bo co bm cm : Nat) (w : World), FlAt w bo on → FlAt w bm may →
    Calls Try.prog 16 #[.slice (some ⟨bo, 0, none⟩) 256 co, .slice (some ⟨bm, 0, none⟩) 256 cm, .int .i64 n, .int .i64 i] w fun e w' => ∃ v, e = .returned v ∧ CbsAt w' w'.heap.size v (isoF n f on may i) ∧ Below w.heap.size w w'
  | 0, _, on, may, i, hf, h, _, _, _, _, _, _, _ => absurd h.le (by omega)
  | f + 1, hf9, on, may, i, hf, h, bo, co, bm, cm, w, hO, hM => by
    have IH := cover12_any n hn f (by omega)
    have honl : ∀ p, on p = true → p < 256 := fun p hp => Nat.lt_of_lt_of_le (h.low p (h.sub p hp)) (Nat.pow_le_pow_right (n := 2) (by decide) h.n8)
    have HEm := fun A b c w hA => empty12_any A b c w hA
    have HAl := fun w => all12_any n hn w
    have HL := fun A B ba ca bb cb w hA hB => less12_any A B ba ca bb cb w hA hB
    unfold isoF
    by_cases he : emptyF on = true
    · rw [if_pos he]
      have HE1 := HEm on bo co w hO
      rw [show ((List.range 256).all fun p => !on p) = true from he] at HE1
      clear IH HEm HAl HL
      go_enter Try.func16, Try.ntmps16
      go_wp2_with fail
      refine HE1.mono ?_
      rintro e w1 ⟨rfl, hb1⟩
      go_wp2
      go_ret
      exact ⟨_, rfl, cbs_nil _ _, hb1⟩
    · rw [if_neg he]
      have HE1 := HEm on bo co w hO
      rw [show ((List.range 256).all fun p => !on p) = false from Bool.eq_false_iff.2 he] at HE1
      have hfl := full_eq n hn may
      by_cases hu : fullF n may = true
      · rw [if_pos hu]
        rw [hu] at hfl
        clear IH
        go_enter Try.func16, Try.ntmps16
        go_wp2_with fail
        refine HE1.mono ?_
        rintro e w1 ⟨rfl, hb1⟩
        go_wp2_with fail
        refine (HAl _).mono ?_
        rintro e w2 ⟨b2, rfl, l2, f2, B2⟩
        have k2 := hb1.trans (B2.mono hb1.size)
        go_wp2_with fail
        refine (HL _ may _ _ _ _ _ f2 (hM.below k2 hM.1)).mono ?_
        rintro e w3 ⟨b3, rfl, l3, f3, B3⟩
        have k3 := k2.trans (B3.mono k2.size)
        have HE3 := HEm _ b3 256 w3 f3
        rw [hfl] at HE3
        go_wp2_with fail
        refine HE3.mono ?_
        rintro e w4 ⟨rfl, hb4⟩
        have k4 := k3.trans (hb4.mono k3.size)
        clear HEm HAl HL HE1 HE3 hfl
        go_wp2
        go_ret
        refine ⟨_, rfl, cbs_one w4, k4.trans ((below_alloc1 w4 _).mono k4.size)⟩
      · rw [if_neg hu]
        have hi := fullF_no h (Classical.byContradiction fun hn => he ((emptyF_iff honl).2 fun p => by
          rw [Bool.eq_false_iff]
          exact fun hp => hn ⟨p, hp⟩) : ∃ p, on p = true).choose_spec (Bool.eq_false_iff.2 hu)
        rw [Bool.eq_false_iff.2 hu] at hfl
        have hi8 : i < 8 := by omega
        have HS := fun A ba ca one w hA => side12_any A ba ca i hi8 one w hA
        have e1 : ((i + 1 : Nat) : Int) = (i : Int) + 1 := rfl
        have hha := iso_half h hi false
        have hhb := iso_half h hi true
        rw [Bool.not_false] at hha
        rw [Bool.not_true] at hhb
        have hIa := iso_is n f _ _ (i + 1) (by omega) hha
        have hIb := iso_is n f _ _ (i + 1) (by omega) hhb
        have hhc := iso_rest h hi hIa hIb
        have IHa := IH _ _ (i + 1) (by omega) hha
        have IHb := IH _ _ (i + 1) (by omega) hhb
        have IHc := IH _ _ (i + 1) (by omega) hhc
        have na := iso_len n f (fun p => sideF on i false p && !sideF may i true p) (sideF may i false) (i + 1)
        have nb := iso_len n f (fun p => sideF on i true p && !sideF may i false p) (sideF may i true) (i + 1)
        have hva := fun x hx => right_sub (hIa.right x hx)
        have hvb := fun x hx => right_sub (hIb.right x hx)
        dsimp only
        generalize isoF n f (fun p => sideF on i false p && !sideF may i true p) (sideF may i false) (i + 1) = a at *
        generalize isoF n f (fun p => sideF on i true p && !sideF may i false p) (sideF may i true) (i + 1) = b at *
        have nc := iso_len n f (fun p => (sideF on i false p && !heldF a p) || (sideF on i true p && !heldF b p)) (fun p => sideF may i false p && sideF may i true p) (i + 1)
        generalize isoF n f (fun p => (sideF on i false p && !heldF a p) || (sideF on i true p && !heldF b p)) (fun p => sideF may i false p && sideF may i true p) (i + 1) = c at *
        have h3 : 3 ^ f ≤ 6561 := Nat.pow_le_pow_right (n := 3) (by decide) (show f ≤ 8 by omega)
        have lenA : a.length ≤ 6561 := by omega
        have lenB : b.length ≤ 6561 := by omega
        have lenC : c.length ≤ 6561 := by omega
        have HH := fun cs v w h => held12_any cs n hn v w h
        have HEi := fun A B ba ca bb cb w hA hB => either12_any A B ba ca bb cb w hA hB
        have HBo := fun A B ba ca bb cb w hA hB => both12_any A B ba ca bb cb w hA hB
        have W0 := fun v w h => with12_any a hva i hi8 false v w h (by omega)
        have W1 := fun v w h => with12_any b hvb i hi8 true v w h (by omega)
        simp only [Bool.false_eq_true, if_false] at W0
        simp only [if_true] at W1
        rw [e1] at IHa IHb IHc
        clear hn IH hIa hIb hha hhb hhc hva hvb na nb nc h3
        go_enter Try.func16, Try.ntmps16
        go_wp2_with fail
        refine HE1.mono ?_
        rintro e w1 ⟨rfl, hb1⟩
        go_wp2_with fail
        refine (HAl _).mono ?_
        rintro e w2 ⟨b2, rfl, l2, f2, B2⟩
        have k2 := hb1.trans (B2.mono hb1.size)
        go_wp2_with fail
        refine (HL _ may _ _ _ _ _ f2 (hM.below k2 hM.1)).mono ?_
        rintro e w3 ⟨b3, rfl, l3, f3, B3⟩
        have k3 := k2.trans (B3.mono k2.size)
        have HE3 := HEm _ b3 256 w3 f3
        rw [hfl] at HE3
        go_wp2_with fail
        refine HE3.mono ?_
        rintro e w4 ⟨rfl, hb4⟩
        have k4 := k3.trans (hb4.mono k3.size)
        have hO4 := hO.below k4 hO.1
        have hM4 := hM.below k4 hM.1
        have s4 := k4.size
        clear HEm HAl HE1 HE3 hfl hb1 B2 k2 B3 k3 hb4 f2 f3 l2 l3 hO hM
        -- the walk
        go_wp2_with fail
        have HH5 := HS on bo co false _ hO4
        refine HH5.mono ?_
        rintro e w5 ⟨bo0, rfl, -, o0, B5⟩
        have k5 := k4.trans (B5.mono k4.size)
        replace hO4 := hO4.below B5 hO4.1
        replace hM4 := hM4.below B5 hM4.1
        clear HH5 B5 k4
        go_wp2_with fail
        have HH6 := HS on bo co true _ hO4
        refine HH6.mono ?_
        rintro e w6 ⟨bo1, rfl, -, o1, B6⟩
        have k6 := k5.trans (B6.mono k5.size)
        replace hO4 := hO4.below B6 hO4.1
        replace hM4 := hM4.below B6 hM4.1
        replace o0 := o0.below B6 o0.1
        clear HH6 B6 k5
        clear hO4
        go_wp2_with fail
        have HH7 := HS may bm cm false _ hM4
        refine HH7.mono ?_
        rintro e w7 ⟨bm0, rfl, -, m0, B7⟩
        have k7 := k6.trans (B7.mono k6.size)
        replace hM4 := hM4.below B7 hM4.1
        replace o0 := o0.below B7 o0.1
        replace o1 := o1.below B7 o1.1
        clear HH7 B7 k6
        go_wp2_with fail
        have HH8 := HS may bm cm true _ hM4
        refine HH8.mono ?_
        rintro e w8 ⟨bm1, rfl, -, m1, B8⟩
        have k8 := k7.trans (B8.mono k7.size)
        replace hM4 := hM4.below B8 hM4.1
        replace o0 := o0.below B8 o0.1
        replace o1 := o1.below B8 o1.1
        replace m0 := m0.below B8 m0.1
        clear HH8 B8 k7
        clear hM4 HS
        go_wp2_with fail
        have HH9 := HL _ _ bo0 256 bm1 256 _ o0 m1
        refine HH9.mono ?_
        rintro e w9 ⟨b9, rfl, -, f9, B9⟩
        have k9 := k8.trans (B9.mono k8.size)
        replace o0 := o0.below B9 o0.1
        replace o1 := o1.below B9 o1.1
        replace m0 := m0.below B9 m0.1
        replace m1 := m1.below B9 m1.1
        clear HH9 B9 k8
        go_wp2_with fail
        have HH10 := IHa b9 256 bm0 256 _ f9 m0
        refine HH10.mono ?_
        rintro e w10 ⟨va, rfl, ca, B10⟩
        have k10 := k9.trans (B10.mono k9.size)
        replace o0 := o0.below B10 o0.1
        replace o1 := o1.below B10 o1.1
        replace m0 := m0.below B10 m0.1
        replace m1 := m1.below B10 m1.1
        replace f9 := f9.below B10 f9.1
        clear HH10 B10 k9
        clear f9 IHa
        go_wp2_with fail
        have HH11 := HL _ _ bo1 256 bm0 256 _ o1 m0
        refine HH11.mono ?_
        rintro e w11 ⟨b11, rfl, -, f11, B11⟩
        have k11 := k10.trans (B11.mono k10.size)
        replace o0 := o0.below B11 o0.1
        replace o1 := o1.below B11 o1.1
        replace m0 := m0.below B11 m0.1
        replace m1 := m1.below B11 m1.1
        replace ca := (ca.below B11).more B11.size
        clear HH11 B11 k10
        go_wp2_with fail
        have HH12 := IHb b11 256 bm1 256 _ f11 m1
        refine HH12.mono ?_
        rintro e w12 ⟨vb, rfl, cb2, B12⟩
        have k12 := k11.trans (B12.mono k11.size)
        replace o0 := o0.below B12 o0.1
        replace o1 := o1.below B12 o1.1
        replace m0 := m0.below B12 m0.1
        replace m1 := m1.below B12 m1.1
        replace ca := (ca.below B12).more B12.size
        replace f11 := f11.below B12 f11.1
        clear HH12 B12 k11
        clear f11 IHb
        go_wp2_with fail
        have HH13 := HH a va _ ca
        refine HH13.mono ?_
        rintro e w13 ⟨b13, rfl, -, f13, B13⟩
        have k13 := k12.trans (B13.mono k12.size)
        replace o0 := o0.below B13 o0.1
        replace o1 := o1.below B13 o1.1
        replace m0 := m0.below B13 m0.1
        replace m1 := m1.below B13 m1.1
        replace ca := (ca.below B13).more B13.size
        replace cb2 := (cb2.below B13).more B13.size
        clear HH13 B13 k12
        go_wp2_with fail
        have HH14 := HL _ _ bo0 256 b13 256 _ o0 f13
        refine HH14.mono ?_
        rintro e w14 ⟨b14, rfl, -, f14, B14⟩
        have k14 := k13.trans (B14.mono k13.size)
        replace o0 := o0.below B14 o0.1
        replace o1 := o1.below B14 o1.1
        replace m0 := m0.below B14 m0.1
        replace m1 := m1.below B14 m1.1
        replace ca := (ca.below B14).more B14.size
        replace cb2 := (cb2.below B14).more B14.size
        replace f13 := f13.below B14 f13.1
        clear HH14 B14 k13
        clear o0 f13
        go_wp2_with fail
        have HH15 := HH b vb _ cb2
        refine HH15.mono ?_
        rintro e w15 ⟨b15, rfl, -, f15, B15⟩
        have k15 := k14.trans (B15.mono k14.size)
        replace o1 := o1.below B15 o1.1
        replace m0 := m0.below B15 m0.1
        replace m1 := m1.below B15 m1.1
        replace ca := (ca.below B15).more B15.size
        replace cb2 := (cb2.below B15).more B15.size
        replace f14 := f14.below B15 f14.1
        clear HH15 B15 k14
        go_wp2_with fail
        have HH16 := HL _ _ bo1 256 b15 256 _ o1 f15
        refine HH16.mono ?_
        rintro e w16 ⟨b16, rfl, -, f16, B16⟩
        have k16 := k15.trans (B16.mono k15.size)
        replace o1 := o1.below B16 o1.1
        replace m0 := m0.below B16 m0.1
        replace m1 := m1.below B16 m1.1
        replace ca := (ca.below B16).more B16.size
        replace cb2 := (cb2.below B16).more B16.size
        replace f14 := f14.below B16 f14.1
        replace f15 := f15.below B16 f15.1
        clear HH16 B16 k15
        clear o1 f15
        go_wp2_with fail
        have HH17 := HEi _ _ b14 256 b16 256 _ f14 f16
        refine HH17.mono ?_
        rintro e w17 ⟨b17, rfl, -, f17, B17⟩
        have k17 := k16.trans (B17.mono k16.size)
        replace m0 := m0.below B17 m0.1
        replace m1 := m1.below B17 m1.1
        replace ca := (ca.below B17).more B17.size
        replace cb2 := (cb2.below B17).more B17.size
        replace f14 := f14.below B17 f14.1
        replace f16 := f16.below B17 f16.1
        clear HH17 B17 k16
        clear f14 f16
        replace f17 := f17.ext (fun p _ => heldN_rest h hi a b p)
        go_wp2_with fail
        have HH18 := HBo _ _ bm0 256 bm1 256 _ m0 m1
        refine HH18.mono ?_
        rintro e w18 ⟨b18, rfl, -, f18, B18⟩
        have k18 := k17.trans (B18.mono k17.size)
        replace m0 := m0.below B18 m0.1
        replace m1 := m1.below B18 m1.1
        replace ca := (ca.below B18).more B18.size
        replace cb2 := (cb2.below B18).more B18.size
        replace f17 := f17.below B18 f17.1
        clear HH18 B18 k17
        clear m0 m1
        go_wp2_with fail
        have HH19 := IHc b17 256 b18 256 _ f17 f18
        refine HH19.mono ?_
        rintro e w19 ⟨vc, rfl, cc, B19⟩
        have k19 := k18.trans (B19.mono k18.size)
        replace ca := (ca.below B19).more B19.size
        replace cb2 := (cb2.below B19).more B19.size
        replace f17 := f17.below B19 f17.1
        replace f18 := f18.below B19 f18.1
        clear HH19 B19 k18
        clear f17 f18 IHc
        have s19 := k19.size
        go_wp2_with fail
        have HH20 := W0 va _ ca
        refine HH20.mono ?_
        rintro e w20 ⟨vx, rfl, ox, B20⟩
        have k20 := k19.trans (B20.mono k19.size)
        replace ca := (ca.below B20).more B20.size
        replace cb2 := (cb2.below B20).more B20.size
        replace cc := cc.below B20
        have l20 := B20.size
        clear HH20 B20 k19
        clear ca
        go_wp2_with fail
        have HH21 := W1 vb _ cb2
        refine HH21.mono ?_
        rintro e w21 ⟨vy, rfl, oy, B21⟩
        have k21 := k20.trans (B21.mono k20.size)
        replace cb2 := (cb2.below B21).more B21.size
        replace ox := owns_below ox B21
        replace cc := cc.below (B21.mono l20)
        have l21 := Nat.le_trans l20 B21.size
        clear HH21 B21 k20
        clear cb2
        have ly : (b.map fun x => lit12 x i true).length = b.length := List.length_map _
        have lz : (a.map fun x => lit12 x i false).length = a.length := List.length_map _
        rw [← lz] at ox
        rw [← ly] at oy
        have cy := own_cbs oy
        obtain ⟨v22, w22, r22, o22, b22⟩ := appendC 33 ox l21 cy (by omega) (by omega)
        have l22 := Nat.le_trans l21 b22.size
        replace cc := (cc.below b22).more l22
        obtain ⟨v23, w23, r23, o23, b23⟩ := appendC 33 o22 l22 cc (by rw [List.length_append]; omega) (by omega)
        have k23 := (k21.trans (b22.mono s19)).trans (b23.mono s19)
        have cz := own_cbs o23
        clear ox oy cy o22 o23 b22 b23 cc lz ly
        go_wp2_with (at_builtin; first | refine wpList_appendC rfl _ _ rfl vx vy v22 w22 rfl rfl r22 ?_ | refine wpList_appendC rfl _ _ rfl v22 vc v23 w23 rfl rfl r23 ?_)
        go_ret
        exact ⟨_, rfl, cz, k23⟩
end Go.Proofs.Ytnddepijbbchiaa
