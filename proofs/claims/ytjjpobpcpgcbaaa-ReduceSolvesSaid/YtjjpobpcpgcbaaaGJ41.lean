/- ReduceSolves, over what the packages answer. -/
import Derived.Test.YtjjpobpcpgcbaaaGJ36
import Derived.Test.YtjjpobpcpgcbaaaGJ38
import Derived.Test.YtjjpobpcpgcbaaaGJ37
import Derived.Test.YtjjpobpcpgcbaaaGJ12
namespace Go.Proofs.Ytjjpobpcpgcbaaa
open Go.RowKit Go.Joins

theorem red_len {m b : Nat} : ∀ (f : Nat) (t : Int → Bool) (ls : List (List Int)), (∀ l, l ∈ ls → l.length ≤ b) → ∀ l, l ∈ (redP m f t ls).2 → l.length ≤ b
  | 0, t, ls, h => h
  | f + 1, t, ls, h => by
    unfold redP
    split
    · exact red_len f _ _ fun l hl => h l (List.mem_filter.1 hl).1
    · split
      · exact red_len f _ _ fun l hl => h l (List.mem_of_mem_eraseIdx hl)
      · split
        · refine red_len f _ _ fun l hl => ?_
          obtain ⟨r, hr, rfl⟩ := List.mem_map.1 hl
          exact Nat.le_trans (List.length_filter_le _ _) (h r hr)
        · exact h
theorem red_small {n : Int} {ls : List (List Int)} (h : gr14 n ls = false) : gr14 n (redL n ls).2 = false := by
  obtain ⟨h1, h2, h3⟩ := gr14_no h
  have h4 : (redL n ls).2.length ≤ ls.length := red_many _ _ _
  have h5 : ∀ l, l ∈ (redL n ls).2 → l.length ≤ 100 := red_len _ _ _ (great_rows h1)
  unfold gr14 greatM
  rw [Bool.or_eq_false_iff, Bool.or_eq_false_iff, Bool.or_eq_false_iff, Bool.and_eq_false_iff, decide_eq_false_iff_not, decide_eq_false_iff_not, decide_eq_false_iff_not, decide_eq_false_iff_not, List.any_eq_false]
  refine ⟨⟨⟨fun l hl => ?_, by omega⟩, by omega⟩, by omega⟩
  have := h5 l hl
  simp only [decide_eq_true_iff]
  omega
theorem tak_stays {n : Int} {ls : List (List Int)} : takL n (redL n ls).2 = [] := by
  unfold takL
  rw [red_stays]
  simp
theorem red_solves {n : Int} {ls : List (List Int)} {cols : List Int} (hr : rightM n ls = true) (h : solvesM (redL n ls).2 cols = true) : solvesM ls (takL n ls ++ cols) = true := by
  obtain ⟨h1, h2, h3⟩ := right_iff.1 hr
  have hl : ∀ r, r ∈ ls → ∀ c, c ∈ r → 0 ≤ c ∧ c < (n.toNat : Int) := fun r hr c hc => by
    have := (h3 r hr).1 c hc
    omega
  rw [solves_all] at h ⊢
  have hI : RedI n.toNat ls (redL n ls).1 (redL n ls).2 := red_inv _ _ _ (red_start hl)
  have hU := hI.up (fun x => decide (x ∈ cols)) fun r hr => by
    obtain ⟨c, hc, hm⟩ := h r hr
    exact ⟨c, hc, decide_eq_true hm⟩
  intro x hx
  obtain ⟨c, hc, hT⟩ := hU x hx
  refine ⟨c, hc, List.mem_append.2 ?_⟩
  rw [Bool.or_eq_true, decide_eq_true_iff] at hT
  rcases hT with hT | hT
  · refine .inl ?_
    obtain ⟨p0, p1⟩ := hl x hx c hc
    obtain ⟨k, rfl⟩ := Int.eq_ofNat_of_zero_le p0
    exact List.mem_map.2 ⟨k, List.mem_filter.2 ⟨List.mem_range.2 (by omega), hT⟩, rfl⟩
  · exact .inr hT
theorem tak_many {n : Int} {ls : List (List Int)} : (takL n ls).length ≤ n.toNat := by
  unfold takL
  rw [List.length_map]
  exact Nat.le_trans (List.length_filter_le _ _) (by simp)
/-- A guarded 'append' that is wanted. -/
theorem step_runG {ops : Array Oper} {o : Oper} {a : Act} {w : World} {K : Act → World → Prop} {Q : Exit → Act → World → Prop} {E : Prop} (hw : Region.wanted o (yielded ops a.tmps) = true) (s x : Operand)
    (ho : o.op = .call { callee := .builtin .append, args := #[s, x], argTypes := #[38, 38] }) (V v v' : Value) (w' : World) (hs : a.eval s = V) (hx : a.eval x = v)
    (hrun : (Builtin.append_ #[38, 38] o.type #[V, v]).run Try.prog w = .ok v' w') (h : K (a.put o.dst v') w') :
    if Region.wanted o (yielded ops a.tmps) = true then Oper.wp Try.prog o a w K Q else E := by
  rw [if_pos hw]
  unfold Oper.wp execOp
  simp [ho, resolve, invoke, builtin, hs, hx, hrun, Result.andThen]
  exact h
set_option maxHeartbeats 8000000 in
set_option maxRecDepth 100000 in
theorem reduceSolves_any (HK : Knows14) (HR : ReduceGood) (HN : ReduceBad) (HS : SolvesV) (n : Int) (L u : Value) (ls : List (List Int)) (cols : List Int) (w : World) (hL : MatAt w w.heap.size L ls) (hcap : CapM w L) (hu : IntsAt w w.heap.size u cols) :
    Calls Try.prog 6 #[mtv n L, u] w fun e w' => e = .returned (.bool true) ∧ Below w.heap.size w w' := by
  have hB := below_alloc1 w (mtb n L)
  have hbm : (w.alloc (mtb n L)).heap[w.heap.size]? = some (mtb n L) := heap_alloc_new _ _
  have HG := great14_any n L ls _ ((hL.below hB).more hB.size)
  have HL := fun W (hb : Below w.heap.size w W) => (hL.below hb).more hb.size
  have HU := fun W (hb : Below w.heap.size w W) => (hu.below hb).more hb.size
  have hcapH := Lib.hid hcap
  clear hcap
  obtain ⟨A, c, rfl, hlen, -⟩ := hL
  obtain ⟨A2, c2, rfl, hlu, -⟩ := hu
  unfold mtb at hB hbm HG
  unfold mtv at *
  obtain ⟨m0, m1, -⟩ := now2 hbm rfl
  go_enter Try.func6, Try.ntmps6
  go_wp2_with fail
  refine HG.mono ?_
  rintro e w1 ⟨rfl, hc⟩
  clear m0 m1
  replace hB := hB.trans (hc.mono hB.size)
  replace hbm := keep_blk hc hbm
  clear hc HG
  obtain ⟨m0, m1, -⟩ := now2 hbm rfl
  cases hg : gr14 n ls
  · by_cases hm : 100 < cols.length
    · have hmd : decide ((100 : Int) < (cols.length : Int)) = true := decide_eq_true (by omega)
      go_wp2_with fail
      refine (HK _).mono ?_
      rintro e w2 ⟨rfl, hc⟩
      replace hB := hB.trans (hc.mono hB.size)
      clear hc
      go_wp2
      go_ret
      exact ⟨rfl, hB⟩
    · have hmd : decide ((100 : Int) < (cols.length : Int)) = false := decide_eq_false (by omega)
      cases hr : rightM n ls
      · have D := HN n _ ls _ (HL _ hB) (hcapH.out.below hB) hg hr
        unfold mtv at D
        go_wp2_with fail
        refine D.mono ?_
        rintro e w2 ⟨A1, c1, A3, c3, rfl, hc⟩
        have hA := below_alloc1 w2 (.cells #[.int .i64 0, .slice A3 0 c3] 24 (0, 0))
        replace hB := hB.trans ((hc.trans (hA.mono hc.size)).mono hB.size)
        clear D hc hA m0 m1 hbm
        go_wp2_with fail
        refine (HK _).mono ?_
        rintro e w3 ⟨rfl, hc⟩
        replace hB := hB.trans (hc.mono hB.size)
        clear hc
        go_wp2
        go_ret
        exact ⟨rfl, hB⟩
      · have D := HR n _ ls _ (HL _ hB) (hcapH.out.below hB) hg hr
        unfold mtv at D
        have hrr := red_right hr
        have hgg := red_small hg
        have hsv := Lib.hid (fun h => red_solves (cols := cols) hr h)
        have hst : (redL n (redL n ls).2).2 = (redL n ls).2 := by rw [red_stays]
        have htk : takL n (redL n ls).2 = [] := tak_stays
        have hTl : (takL n ls).length ≤ 100 := by
          obtain ⟨-, -, q⟩ := gr14_no hg
          obtain ⟨q0, q1, -⟩ := right_iff.1 hr
          exact Nat.le_trans tak_many (by omega)
        have D2 := fun r W hM hcp => HR n r (redL n ls).2 W hM hcp hgg hrr
        rw [hst, htk] at D2
        unfold mtv at D2
        have S1 := fun r W hM hu => HS n r (.slice A2 cols.length c2) (redL n ls).2 cols W hM hu
        have S2 := fun v W hM hv => HS n (.slice A ls.length c) v ls (takL n ls ++ cols) W hM hv
        rw [hrr] at S1
        rw [hr] at S2
        unfold mtv at S1 S2
        clear hgg hst htk hg hr hrr
        generalize takL n ls = T at *
        generalize (redL n ls).2 = RL at *
        go_wp2_with fail
        refine D.mono ?_
        rintro e w2 ⟨t, r, rfl, ht, hM, hcr, hc⟩
        replace hB := hB.trans (hc.mono hB.size)
        replace hbm := keep_blk hc hbm
        obtain ⟨Ar, cr, rfl, -, -⟩ := id hM
        obtain ⟨At, ct, rfl, -, -⟩ := id ht
        have hA := below_alloc1 w2 (.cells #[.int .i64 n, .slice Ar RL.length cr] 24 (0, 0))
        have hbr := heap_alloc_new w2 (.cells #[.int .i64 n, .slice Ar RL.length cr] 24 (0, 0))
        replace hbm := keep_blk hA hbm
        replace hB := hB.trans (hA.mono hB.size)
        replace hM := (hM.below hA).more hA.size
        replace hcr := hcr.below hA
        replace ht := (ht.below hA).more hA.size
        clear D hc hA m0 m1
        go_upto_region 6 with (fail)
        generalize w2.alloc _ = w3 at *
        obtain ⟨r0, r1, -⟩ := box2 hbr rfl
        obtain ⟨m0, m1, -⟩ := box2 hbm rfl
        refine wp_region_held_tail 11 (fun W_ => Below w3.heap.size w3 W_) (by kernel_rfl) (by kernel_rfl) (Below.refl _ w3).drew (fun hF hHeld => ?_)
        refine takeL13 (i := 0) (v := ?_) hF rfl (by kernel_rfl) (by kernel_rfl) (by kernel_rfl) (fun _ _ _ h => h) (Or.inl ⟨by rfl, ?_⟩) (by assumption) ?_
        rotate_left 1
        · intro w_ hSw
          have q0 := r0 ⟨w_, hSw⟩
          have q1 := r1 ⟨w_, hSw⟩
          dsimp only at q0 q1
          go_simp
          try with_reducible rfl
        try simp only [Act.put, List.setIfInBounds_toArray, List.set_cons_zero, List.set_cons_succ]
        refine takeL13 (i := 1) (v := ?_) hF rfl (by kernel_rfl) (by kernel_rfl) (by kernel_rfl) (fun _ _ _ h => h) (Or.inl ⟨by rfl, ?_⟩) (by assumption) ?_
        rotate_left 1
        · intro w_ hSw
          go_simp
          try with_reducible rfl
        try simp only [Act.put, List.setIfInBounds_toArray, List.set_cons_zero, List.set_cons_succ]
        refine oneL13 (i := 2) (by kernel_rfl) (by kernel_rfl) rfl (fun _ hK => ?_)
        go_simp
        refine (S1 _ _ ((hM.below hHeld).more hHeld.size) (HU _ (hB.trans (hHeld.mono hB.size)))).mono ?_
        rw [Bool.true_and]
        rintro e w4 ⟨rfl, hc⟩
        have hHa := hHeld.trans (hc.mono hHeld.size)
        try go_simp
        refine hK.out _ _ hHa (fun hHeld => ?_)
        clear hK hc
        try simp only [Act.put, List.setIfInBounds_toArray, List.set_cons_zero, List.set_cons_succ]
        clear S1
        cases hs : solvesM RL cols
        · refine takeL13 (i := 3) (v := ?_) hF rfl (by kernel_rfl) (by kernel_rfl) (by kernel_rfl) (fun _ _ _ h => h) (Or.inl ⟨by rfl, ?_⟩) (by assumption) ?_
          rotate_left 1
          · intro w_ hSw
            go_simp
            try with_reducible rfl
          try simp only [Act.put, List.setIfInBounds_toArray, List.set_cons_zero, List.set_cons_succ]
          refine takeL13 (i := 4) (v := undef) hF rfl (by kernel_rfl) (by kernel_rfl) (by kernel_rfl) (fun _ _ _ h => h) (Or.inr ⟨by rfl, rfl⟩) (by assumption) ?_
          try simp only [Act.put, List.setIfInBounds_toArray, List.set_cons_zero, List.set_cons_succ]
          refine takeL13 (i := 5) (v := undef) hF rfl (by kernel_rfl) (by kernel_rfl) (by kernel_rfl) (fun _ _ _ h => h) (Or.inr ⟨by rfl, rfl⟩) (by assumption) ?_
          try simp only [Act.put, List.setIfInBounds_toArray, List.set_cons_zero, List.set_cons_succ]
          refine takeL13 (i := 6) (v := undef) hF rfl (by kernel_rfl) (by kernel_rfl) (by kernel_rfl) (fun _ _ _ h => h) (Or.inr ⟨by rfl, rfl⟩) (by assumption) ?_
          try simp only [Act.put, List.setIfInBounds_toArray, List.set_cons_zero, List.set_cons_succ]
          refine takeL13 (i := 7) (v := undef) hF rfl (by kernel_rfl) (by kernel_rfl) (by kernel_rfl) (fun _ _ _ h => h) (Or.inr ⟨by rfl, rfl⟩) (by assumption) ?_
          try simp only [Act.put, List.setIfInBounds_toArray, List.set_cons_zero, List.set_cons_succ]
          refine takeL13 (i := 8) (v := undef) hF rfl (by kernel_rfl) (by kernel_rfl) (by kernel_rfl) (fun _ _ _ h => h) (Or.inr ⟨by rfl, rfl⟩) (by assumption) ?_
          try simp only [Act.put, List.setIfInBounds_toArray, List.set_cons_zero, List.set_cons_succ]
          refine takeL13 (i := 9) (v := undef) hF rfl (by kernel_rfl) (by kernel_rfl) (by kernel_rfl) (fun _ _ _ h => h) (Or.inr ⟨by rfl, rfl⟩) (by assumption) ?_
          try simp only [Act.put, List.setIfInBounds_toArray, List.set_cons_zero, List.set_cons_succ]
          refine takeL13 (i := 10) (v := undef) hF rfl (by kernel_rfl) (by kernel_rfl) (by kernel_rfl) (fun _ _ _ h => h) (Or.inr ⟨by rfl, rfl⟩) (by assumption) ?_
          try simp only [Act.put, List.setIfInBounds_toArray, List.set_cons_zero, List.set_cons_succ]
          refine ⟨by kernel_rfl, ?_⟩
          simp only [List.drop_succ_cons, List.drop_zero]
          replace hB := hB.trans (hHa.mono hB.size)
          replace hM := (hM.below hHa).more hHa.size
          replace hcr := hcr.below hHa
          replace hbr := keep_blk hHa hbr
          clear m0 m1 r0 r1 hHeld hHa S2 hsv ht HL HU hbm
          obtain ⟨r0, r1, -⟩ := now2 hbr rfl
          have D := D2 _ _ hM hcr
          clear D2
          go_wp2_with fail
          refine D.mono ?_
          rintro e w5 ⟨t2, s2, rfl, ht2, hM2, -, hc⟩
          replace hB := hB.trans (hc.mono hB.size)
          replace hM := (hM.below hc).more hc.size
          replace hbr := keep_blk hc hbr
          obtain ⟨As, cs, rfl, -, -⟩ := id hM2
          obtain ⟨Aq, cq, rfl, -, -⟩ := ht2
          have hA := below_alloc1 w5 (.cells #[.int .i64 n, .slice As RL.length cs] 24 (0, 0))
          have hbs := heap_alloc_new w5 (.cells #[.int .i64 n, .slice As RL.length cs] 24 (0, 0))
          replace hB := hB.trans (hA.mono hB.size)
          replace hM := (hM.below hA).more hA.size
          replace hM2 := (hM2.below hA).more hA.size
          replace hbr := keep_blk hA hbr
          clear D hc hA r0 r1
          go_upto_region 9 with (fail)
          generalize w5.alloc _ = w8 at *
          obtain ⟨r0, r1, -⟩ := now2 hbr rfl
          obtain ⟨s0, s1, -⟩ := now2 hbs rfl
          have D := rsameRows13_any _ _ _ _ _ hM2 hM
          rw [decide_eq_true rfl] at D
          go_wp2_with fail
          refine D.mono ?_
          rintro e w9 ⟨rfl, hc⟩
          replace hB := hB.trans (hc.mono hB.size)
          clear D hc r0 r1 s0 s1 hbr hbs hM hM2
          go_wp2_with fail
          refine (HK _).mono ?_
          rintro e w10 ⟨rfl, hc⟩
          replace hB := hB.trans (hc.mono hB.size)
          clear hc
          go_wp2
          go_ret
          exact ⟨rfl, hB⟩
        · have hsol := hsv.out hs
          have hHu := HU _ (hB.trans (hHa.mono hB.size))
          have hHt := (ht.below hHa).more hHa.size
          have hA4 := below_alloc1 w4 (.cells #[] 3 (0, 0))
          obtain ⟨v1, wa, e1, o1, b1⟩ := append13 38 (own_nil13 w4) (by simp) ((hHt.below hA4).more hA4.size) (by decide) (by omega)
          have hA5 := hA4.trans b1
          obtain ⟨v2, wb, e2, o2, b2⟩ := append13 38 o1 hA5.size ((hHu.below hA5).more hA5.size) (by rw [List.nil_append]; omega) (by omega)
          rw [List.nil_append] at o2
          have hz2 := own_intI o2
          have hA6 := hA5.trans b2
          have k4 := hHa.trans (hA4.mono hHa.size)
          have k5 := hHa.trans (hA5.mono hHa.size)
          have k6 := hHa.trans (hA6.mono hHa.size)
          clear o1 o2 b1 b2 hA4 hA5 hA6 hHu hHt
          refine takeL13 (i := 3) (v := ?_) hF rfl (by kernel_rfl) (by kernel_rfl) (by kernel_rfl) (fun _ _ _ h => h) (Or.inl ⟨by rfl, ?_⟩) (by assumption) ?_
          rotate_left 1
          · intro w_ hSw
            go_simp
            try with_reducible rfl
          try simp only [Act.put, List.setIfInBounds_toArray, List.set_cons_zero, List.set_cons_succ]
          refine takeL13 (i := 4) (v := ?_) hF rfl (by kernel_rfl) (by kernel_rfl) (by kernel_rfl) (fun _ _ _ h => h) (Or.inl ⟨by rfl, ?_⟩) (by assumption) ?_
          rotate_left 1
          · intro w_ hSw
            have q0 := m0 ⟨w_, hSw⟩
            have q1 := m1 ⟨w_, hSw⟩
            dsimp only at q0 q1
            go_simp
            try with_reducible rfl
          try simp only [Act.put, List.setIfInBounds_toArray, List.set_cons_zero, List.set_cons_succ]
          refine takeL13 (i := 6) (v := ?_) hF rfl (by kernel_rfl) (by kernel_rfl) (by kernel_rfl) (fun _ _ _ h => h) (Or.inl ⟨by rfl, ?_⟩) (by assumption) ?_
          rotate_left 1
          · intro w_ hSw
            go_simp
            try with_reducible rfl
          try simp only [Act.put, List.setIfInBounds_toArray, List.set_cons_zero, List.set_cons_succ]
          refine takeL13 (i := 8) (v := ?_) hF rfl (by kernel_rfl) (by kernel_rfl) (by kernel_rfl) (fun _ _ _ h => h) (Or.inl ⟨by rfl, ?_⟩) (by assumption) ?_
          rotate_left 1
          · intro w_ hSw
            go_simp
            try with_reducible rfl
          try simp only [Act.put, List.setIfInBounds_toArray, List.set_cons_zero, List.set_cons_succ]
          refine oneL13 (i := 5) (by kernel_rfl) (by kernel_rfl) rfl (fun _ hK => ?_)
          go_simp
          refine hK.out _ _ k4 (fun hHeld => ?_)
          clear hK
          try simp only [Act.put, List.setIfInBounds_toArray, List.set_cons_zero, List.set_cons_succ]
          refine oneL13 (i := 7) (by kernel_rfl) (by kernel_rfl) rfl (fun _ hK => ?_)
          refine step_runG (by rfl) _ _ rfl _ _ v1 wa rfl rfl e1 ?_
          refine hK.out _ _ k5 (fun hHeld => ?_)
          clear hK
          try simp only [Act.put, List.setIfInBounds_toArray, List.set_cons_zero, List.set_cons_succ]
          refine oneL13 (i := 9) (by kernel_rfl) (by kernel_rfl) rfl (fun _ hK => ?_)
          refine step_runG (by rfl) _ _ rfl _ _ v2 wb rfl rfl e2 ?_
          refine hK.out _ _ k6 (fun hHeld => ?_)
          clear hK
          try simp only [Act.put, List.setIfInBounds_toArray, List.set_cons_zero, List.set_cons_succ]
          refine oneL13 (i := 10) (by kernel_rfl) (by kernel_rfl) rfl (fun _ hK => ?_)
          go_simp
          refine (S2 _ _ (HL _ (hB.trans (k6.mono hB.size))) hz2).mono ?_
          rw [Bool.true_and, hsol]
          rintro e w5 ⟨rfl, hc⟩
          replace hHa := k6.trans (hc.mono k6.size)
          try go_simp
          refine hK.out _ _ hHa (fun hHeld => ?_)
          clear hK hc k4 k5 k6 e1 e2 hz2
          try simp only [Act.put, List.setIfInBounds_toArray, List.set_cons_zero, List.set_cons_succ]
          refine ⟨by kernel_rfl, ?_⟩
          simp only [List.drop_succ_cons, List.drop_zero]
          replace hB := hB.trans (hHa.mono hB.size)
          replace hM := (hM.below hHa).more hHa.size
          replace hcr := hcr.below hHa
          replace hbr := keep_blk hHa hbr
          clear m0 m1 r0 r1 hHeld hHa S2 hsv ht HL HU hbm
          obtain ⟨r0, r1, -⟩ := now2 hbr rfl
          have D := D2 _ _ hM hcr
          clear D2
          go_wp2_with fail
          refine D.mono ?_
          rintro e w6 ⟨t2, s2, rfl, ht2, hM2, -, hc⟩
          replace hB := hB.trans (hc.mono hB.size)
          replace hM := (hM.below hc).more hc.size
          replace hbr := keep_blk hc hbr
          obtain ⟨As, cs, rfl, -, -⟩ := id hM2
          obtain ⟨Aq, cq, rfl, -, -⟩ := ht2
          have hA := below_alloc1 w6 (.cells #[.int .i64 n, .slice As RL.length cs] 24 (0, 0))
          have hbs := heap_alloc_new w6 (.cells #[.int .i64 n, .slice As RL.length cs] 24 (0, 0))
          replace hB := hB.trans (hA.mono hB.size)
          replace hM := (hM.below hA).more hA.size
          replace hM2 := (hM2.below hA).more hA.size
          replace hbr := keep_blk hA hbr
          clear D hc hA r0 r1
          go_upto_region 9 with (fail)
          generalize w6.alloc _ = w8 at *
          obtain ⟨r0, r1, -⟩ := now2 hbr rfl
          obtain ⟨s0, s1, -⟩ := now2 hbs rfl
          have D := rsameRows13_any _ _ _ _ _ hM2 hM
          rw [decide_eq_true rfl] at D
          go_wp2_with fail
          refine D.mono ?_
          rintro e w9 ⟨rfl, hc⟩
          replace hB := hB.trans (hc.mono hB.size)
          clear D hc r0 r1 s0 s1 hbr hbs hM hM2
          go_wp2_with fail
          refine (HK _).mono ?_
          rintro e w10 ⟨rfl, hc⟩
          replace hB := hB.trans (hc.mono hB.size)
          clear hc
          go_wp2
          go_ret
          exact ⟨rfl, hB⟩
  · go_wp2_with fail
    refine (HK _).mono ?_
    rintro e w2 ⟨rfl, hc⟩
    replace hB := hB.trans (hc.mono hB.size)
    clear hc
    go_wp2
    go_ret
    exact ⟨rfl, hB⟩
end Go.Proofs.Ytjjpobpcpgcbaaa
