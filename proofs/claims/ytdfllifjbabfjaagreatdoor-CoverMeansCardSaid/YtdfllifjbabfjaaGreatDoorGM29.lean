/- The document's own Covers of layer 4, for every spec that is right and all rows. -/
import Derived.Test.YtdfllifjbabfjaaGreatDoorGM28
import Derived.Test.YtdfllifjbabfjaaGreatDoorGM26
namespace Go.Proofs.YtdfllifjbabfjaaGreatDoor
open Go.RowKit Go.Joins

theorem allB_lowc (n p : Nat) (hn : n ≤ 8) : (allB n).getLsbD p = decide (p < 2 ^ n) := by
  unfold allB
  rw [bvOf_bit]
  by_cases h : p < 2 ^ n
  · have h2 : 2 ^ n ≤ 2 ^ 8 := Nat.pow_le_pow_right (by decide) hn
    simp [h, show p < 256 by omega]
  · simp [h]

theorem mayB_all {s : Sp} {rs : List Rw} (h : ∀ (j : Nat) (x : Rw), rs[j]? = some x → rwB x s.i s.on.length = true) : mayB s rs = true := by
  unfold mayB
  rw [Bool.and_eq_true, List.all_eq_true, List.all_eq_true]
  constructor
  · intro x hx
    obtain ⟨j, hj⟩ := List.mem_iff_getElem?.1 hx
    exact (Bool.and_eq_true_iff.1 (show (outsB x.o _ && rightB x.m x.v s.i) = true from h j x hj)).2
  · intro x hx
    obtain ⟨j, hj⟩ := List.mem_iff_getElem?.1 hx
    exact (Bool.and_eq_true_iff.1 (show (outsB x.o s.on.length && rightB x.m x.v s.i) = true from h j x hj)).1
theorem mayB_not {s : Sp} {rs : List Rw} {j : Nat} {x : Rw} (hx : rs[j]? = some x) (h : rwB x s.i s.on.length = false) : mayB s rs = false := by
  rw [Bool.eq_false_iff]
  intro hm
  unfold mayB at hm
  obtain ⟨h1, h2⟩ := Bool.and_eq_true_iff.1 hm
  have e1 := List.all_eq_true.1 h1 x (List.mem_of_getElem? hx)
  have e2 := List.all_eq_true.1 h2 x (List.mem_of_getElem? hx)
  unfold rwB at h
  rw [e1, e2] at h
  simp at h
theorem co_points {X Y P : BitVec 256} {i : Nat} {f : Nat → Bool} (hX : X &&& ~~~Y = 0) (hY : Y &&& ~~~(allB i) = 0) (hi : i ≤ 8) (hP : ∀ p, P.getLsbD p = (decide (p < 2 ^ i) && f p)) :
    (decide (X &&& ~~~P = 0) && decide (P &&& ~~~Y = 0)) = true ↔ ∀ p, p < 2 ^ i → (X.getLsbD p = true → f p = true) ∧ (f p = true → Y.getLsbD p = true) := by
  have hXY := (less_zero X Y).1 hX
  have hYA := (less_zero Y (allB i)).1 hY
  rw [Bool.and_eq_true, decide_eq_true_eq, decide_eq_true_eq, less_zero, less_zero]
  constructor
  · rintro ⟨h1, h2⟩ p hp
    have p8 := two_pow_8 hi hp
    have a1 := h1 p p8
    have a2 := h2 p p8
    rw [hP, decide_eq_true hp, Bool.true_and] at a1 a2
    constructor
    · intro hx; rw [hx] at a1; simpa using a1
    · intro hf; rw [hf] at a2; simpa using a2
  · intro h
    constructor
    · intro p p8
      rw [hP]
      cases hx : X.getLsbD p
      · rfl
      · have b1 := hXY p p8
        rw [hx] at b1
        have hy : Y.getLsbD p = true := by simpa using b1
        have b2 := hYA p p8
        rw [hy, allB_lowc i p hi] at b2
        have hp : p < 2 ^ i := by simpa using b2
        rw [decide_eq_true hp, (h p hp).1 hx]; rfl
    · intro p p8
      rw [hP]
      by_cases hp : p < 2 ^ i
      · rw [decide_eq_true hp, Bool.true_and]
        cases hf : f p
        · rfl
        · rw [(h p hp).2 hf]; rfl
      · rw [decide_eq_false hp]; rfl
theorem sides_of {i : Nat} {on may : List (BitVec 256)} (hs : spB ⟨i, on, may⟩ = true) {j : Nat} {X Y : BitVec 256} (hX : on[j]? = some X) (hY : may[j]? = some Y) : X &&& ~~~Y = 0 ∧ Y &&& ~~~(allB i) = 0 := by
  have h1 := (Bool.and_eq_true_iff.1 (show (headS ⟨i, on, may⟩ && _) = true from hs)).2
  have hj : j < on.length := (List.getElem?_eq_some_iff.1 hX).1
  have h2 := range_all.1 h1 j hj
  unfold sideB at h2
  simp only [getD_of hX, getD_of hY, Int.toNat_natCast] at h2
  obtain ⟨h3, h4⟩ := Bool.and_eq_true_iff.1 h2
  exact ⟨of_decide_eq_true h3, of_decide_eq_true h4⟩
set_option maxHeartbeats 8000000 in
set_option maxRecDepth 100000 in
theorem rcovers_any (i : Nat) (A C L : Value) (on may : List (BitVec 256)) (rs : List Rw) (w : World) (hA : SetsAt w w.heap.size A on) (hC : SetsAt w w.heap.size C may) (hL : RwsAt w w.heap.size L rs) (hs : spB ⟨i, on, may⟩ = true) :
    Calls Tryz.prog 16 #[spv i A C, L] w fun e w' => e = .returned (.bool (coversB ⟨i, on, may⟩ rs)) ∧ Below w.heap.size w w' := by
  have hh := (headS_iff _).1 (Bool.and_eq_true_iff.1 (show (headS ⟨i, on, may⟩ && _) = true from hs)).1
  have hi : i ≤ 8 := by have := hh.1.2; show i ≤ 8; simp only at this; omega
  have h4 : on.length ≤ 4 := hh.2.1.2
  have he : on.length = may.length := hh.2.2
  have hmay := Lib.hid (mayB_all (s := ⟨i, on, may⟩) (rs := rs))
  have hmno := Lib.hid (fun (j : Nat) (x : Rw) (hx : rs[j]? = some x) h => coversB_not_may (mayB_not (s := ⟨i, on, may⟩) hx h))
  have hyes := Lib.hid (coversB_all (s := ⟨i, on, may⟩) (rs := rs))
  have hno := Lib.hid (fun j hj h => coversB_not (s := ⟨i, on, may⟩) (rs := rs) (j := j) hj h)
  have hco : Hid (∀ j X Y, on[j]? = some X → may[j]? = some Y → (coB ⟨i, on, may⟩ rs j = true ↔ ∀ p, p < 2 ^ i → (X.getLsbD p = true → covB rs p j = true) ∧ (covB rs p j = true → Y.getLsbD p = true))) := Lib.hid (by
    intro j X Y hX hY
    unfold coB
    simp only [getD_of hX, getD_of hY, Int.toNat_natCast]
    obtain ⟨s1, s2⟩ := sides_of hs hX hY
    exact co_points s1 s2 hi (fun p => ptsR_bit rs i j p hi))
  have h2i : Hid (2 ^ i ≤ 256) := Lib.hid (Nat.le_trans (Nat.pow_le_pow_right (by decide) hi) (by decide : (2 : Nat) ^ 8 ≤ 256))
  have HMay := fun x w => rmay_any x i on.length w
  have HSz := fun w => size_any4 i hi w
  have HCv := fun (p j : Nat) (hp : p < 256) (hj : j < 4) w1 (hb : Below w.heap.size w w1) => covered_any L rs p j hp (by omega) w1 ((hL.below hb).more hb.size)
  have HFl := fun S w => flags_any2 S w
  generalize hN : 2 ^ i = N at hco h2i HSz
  generalize coversB ⟨i, on, may⟩ rs = R at *
  have hB0 := below_alloc1 w (spb i A C)
  have hs0 := heap_alloc_new w (spb i A C)
  obtain ⟨A, ac, rfl, la, hA⟩ := hA
  obtain ⟨C, cc, rfl, lc, hC⟩ := hC
  obtain ⟨L, lc', rfl, ll, hLc⟩ := hL
  have heN := Lib.hid he
  have h4N := Lib.hid h4
  unfold spv spb at *
  clear hh h4 he hN hs
  go_enter Tryz.func16, Tryz.ntmps16
  go_wp2
  go_loopw [5] (fun t wr => ∃ j : Nat, j ≤ rs.length ∧ t = .int .i64 j ∧ Hid (∀ (q : Nat) (x : Rw), q < j → rs[q]? = some x → rwB x i on.length = true) ∧ Below w.heap.size w wr ∧ wr.heap[w.heap.size]? = some (.cells #[Value.int .i64 i, .slice A on.length ac, .slice C may.length cc] 24 (0, 0))) (fun t _ => rs.length - (intOf t).toNat)
  case atStart => exact ⟨0, by omega, rfl, Lib.hid (fun q x hq => by omega), hB0, hs0⟩
  case round =>
    clear hB0 hs0
    obtain ⟨j, hj, rfl, hH, hb, hsp⟩ := hrel
    obtain ⟨s0, s1, s2, -⟩ := now3 hsp rfl
    by_cases hlt : j < rs.length
    · obtain ⟨b, off, rfl, hBb, hc⟩ := hLc (by omega)
      obtain ⟨x, hx⟩ : ∃ x, rs[j]? = some x := ⟨_, List.getElem?_eq_getElem hlt⟩
      obtain ⟨c0, c1, c2⟩ := hc j x hx
      have d0 := (hb.cell (p := ⟨b, off + j * 3, none⟩) hBb).trans c0
      have d1 := (hb.cell (p := ⟨b, off + j * 3 + 1, none⟩) hBb).trans c1
      have d2 := (hb.cell (p := ⟨b, off + j * 3 + 2, none⟩) hBb).trans c2
      have HM := HMay x
      have hn1 := Lib.hid (hmno.out j x hx)
      have hy1 : Hid (rwB x i on.length = true → ∀ (q : Nat) (y : Rw), q < j + 1 → rs[q]? = some y → rwB y i on.length = true) := Lib.hid (fun h q y hq hy => by
        by_cases e : q = j
        · subst e; rw [hx] at hy; cases hy; exact h
        · exact hH.out q y (by omega) hy)
      generalize rwB x i on.length = r at *
      unfold rwv bvv at *
      clear hc c0 c1 c2 hA hC hx HMay hmay hmno hyes hno hco h2i HSz HCv HFl hLc hH
      cases r
      · have hR := Lib.hid (hn1.out rfl)
        clear hn1 hy1
        go_upto_region 4 with (fail)
        obtain ⟨S0, S1, S2, -⟩ := box3 hsp rfl
        have D0 := fun x : After wr => After.cell x d0
        have D1 := fun x : After wr => After.cell x d1
        have D2 := fun x : After wr => After.cell x d2
        refine wp_region_after (by kernel_rfl) (by kernel_rfl) ?_
        repeat (first | go_big_quiet_step ((go_at_call 38; exact Calls.after_of (HM _))))
        refine wpQuiet_nil ?_
        intro x
        have hBw := hb.trans (x.2.mono hb.size)
        have hsw := x.same hsp
        clear HM hb hsp S0 S1 S2 D0 D1 D2 d0 d1 d2 s0 s1 s2
        go_wp2
        go_ret
        exact ⟨by rw [hR.out]; rfl, hBw⟩
      · have hy2 := Lib.hid (hy1.out rfl)
        clear hn1 hy1
        go_upto_region 4 with (fail)
        obtain ⟨S0, S1, S2, -⟩ := box3 hsp rfl
        have D0 := fun x : After wr => After.cell x d0
        have D1 := fun x : After wr => After.cell x d1
        have D2 := fun x : After wr => After.cell x d2
        refine wp_region_after (by kernel_rfl) (by kernel_rfl) ?_
        repeat (first | go_big_quiet_step ((go_at_call 38; exact Calls.after_of (HM _))))
        refine wpQuiet_nil ?_
        intro x
        have hBw := hb.trans (x.2.mono hb.size)
        have hsw := x.same hsp
        clear HM hb hsp S0 S1 S2 D0 D1 D2 d0 d1 d2 s0 s1 s2
        go_wp2
        go_roundw
        case rel => exact ⟨j + 1, by omega, by go_num, hy2, hBw, hsw⟩
        case measure => simp [intOf]; omega
    · have e : j = rs.length := by omega
      subst e
      have hmB := Lib.hid (hmay.out (fun q x hx => hH.out q x (by have := (List.getElem?_eq_some_iff.1 hx).1; omega) hx))
      have hyes' := Lib.hid (hyes.out hmB.out)
      clear hLc HMay hmay hmno hyes hH hmB
      go_wp2
      go_loopw [6, 7, 8, 9, 10] (fun t _ _ _ _ wr => ∃ j : Nat, j ≤ on.length ∧ t = .int .i64 j ∧ Hid (∀ q, q < j → coB ⟨i, on, may⟩ rs q = true) ∧ Below w.heap.size w wr ∧ wr.heap[w.heap.size]? = some (.cells #[Value.int .i64 i, .slice A on.length ac, .slice C may.length cc] 24 (0, 0))) (fun t _ _ _ _ _ => on.length - (intOf t).toNat)
      case atStart => exact ⟨0, by omega, rfl, Lib.hid (fun q hq => by omega), hb, hsp⟩
      case round =>
        clear hb hsp s0 s1 s2
        obtain ⟨j, hj, rfl, hH, hb, hsp⟩ := hrel
        obtain ⟨s0, s1, s2, -⟩ := now3 hsp rfl
        by_cases hlt : j < on.length
        · skip
          obtain ⟨b, off, rfl, hBb, hc⟩ := hA (by omega)
          obtain ⟨b2, off2, rfl, hBb2, hc2⟩ := hC (by have := heN.out; omega)
          obtain ⟨X, hX⟩ : ∃ X, on[j]? = some X := ⟨_, List.getElem?_eq_getElem hlt⟩
          obtain ⟨Y, hY⟩ : ∃ Y, may[j]? = some Y := ⟨_, List.getElem?_eq_getElem (by have := heN.out; omega)⟩
          have hlt2 : (j : Int) < may.length := by have := heN.out; omega
          obtain ⟨x0, x1, x2, x3⟩ := hc j X hX
          obtain ⟨y0, y1, y2, y3⟩ := hc2 j Y hY
          unfold wv at x0 x1 x2 x3 y0 y1 y2 y3
          have hcx0 := fun W (hW : Below w.heap.size w W) => (hW.cell (p := ⟨b, off + j * 4, none⟩) hBb).trans x0
          have hcx1 := fun W (hW : Below w.heap.size w W) => (hW.cell (p := ⟨b, off + j * 4 + 1, none⟩) hBb).trans x1
          have hcx2 := fun W (hW : Below w.heap.size w W) => (hW.cell (p := ⟨b, off + j * 4 + 2, none⟩) hBb).trans x2
          have hcx3 := fun W (hW : Below w.heap.size w W) => (hW.cell (p := ⟨b, off + j * 4 + 3, none⟩) hBb).trans x3
          have hcy0 := fun W (hW : Below w.heap.size w W) => (hW.cell (p := ⟨b2, off2 + j * 4, none⟩) hBb2).trans y0
          have hcy1 := fun W (hW : Below w.heap.size w W) => (hW.cell (p := ⟨b2, off2 + j * 4 + 1, none⟩) hBb2).trans y1
          have hcy2 := fun W (hW : Below w.heap.size w W) => (hW.cell (p := ⟨b2, off2 + j * 4 + 2, none⟩) hBb2).trans y2
          have hcy3 := fun W (hW : Below w.heap.size w W) => (hW.cell (p := ⟨b2, off2 + j * 4 + 3, none⟩) hBb2).trans y3
          clear hc hc2 x0 x1 x2 x3 y0 y1 y2 y3 hA hC
          have hcj := Lib.hid (hco.out j X Y hX hY)
          have hFX := fun w => HFl X w
          have hFY := fun w => HFl Y w
          have hHj := fun (p : Nat) (hp : p < 256) w1 (hb : Below w.heap.size w w1) => HCv p j hp (by have := h4N.out; omega) w1 hb
          unfold sv wv at hFX hFY
          clear hX hY hco HFl HCv
          go_upto_region 9 with (fail)
          clear s0 s1 s2
          refine wp_region_held_tail 12 (fun w' => w'.heap[w.heap.size]? = some (.cells #[Value.int .i64 i, .slice (some ⟨b, off, none⟩) on.length ac, .slice (some ⟨b2, off2, none⟩) may.length cc] 24 (0, 0)) ∧ w'.cell? ⟨b, off + j * 4, none⟩ = some (.int .u64 (wd X 0).toNat) ∧ w'.cell? ⟨b, off + j * 4 + 1, none⟩ = some (.int .u64 (wd X 1).toNat) ∧ w'.cell? ⟨b, off + j * 4 + 2, none⟩ = some (.int .u64 (wd X 2).toNat) ∧ w'.cell? ⟨b, off + j * 4 + 3, none⟩ = some (.int .u64 (wd X 3).toNat) ∧ w'.cell? ⟨b2, off2 + j * 4, none⟩ = some (.int .u64 (wd Y 0).toNat) ∧ w'.cell? ⟨b2, off2 + j * 4 + 1, none⟩ = some (.int .u64 (wd Y 1).toNat) ∧ w'.cell? ⟨b2, off2 + j * 4 + 2, none⟩ = some (.int .u64 (wd Y 2).toNat) ∧ w'.cell? ⟨b2, off2 + j * 4 + 3, none⟩ = some (.int .u64 (wd Y 3).toNat)) (by kernel_rfl) (by kernel_rfl) (⟨hsp, hcx0 _ (hb.drew), hcx1 _ (hb.drew), hcx2 _ (hb.drew), hcx3 _ (hb.drew), hcy0 _ (hb.drew), hcy1 _ (hb.drew), hcy2 _ (hb.drew), hcy3 _ (hb.drew)⟩) (fun hF hHeld => ?_)
          refine HeadH.takeL (i := 0) (v := ?_) hF rfl (by kernel_rfl) (by kernel_rfl) (by kernel_rfl) (fun _ _ _ h => h) (Or.inl ⟨by rfl, ?_⟩) (by assumption) ?_
          rotate_left 1
          · intro w_ hSw
            obtain ⟨k1, _, _, _, _, _, _, _, _⟩ := hSw
            obtain ⟨_, _, _, -⟩ := now3 k1 rfl
            go_simp
            try with_reducible rfl
          try simp only [Act.put, List.setIfInBounds_toArray, List.set_cons_zero, List.set_cons_succ]
          refine HeadH.takeL (i := 1) (v := ?_) hF rfl (by kernel_rfl) (by kernel_rfl) (by kernel_rfl) (fun _ _ _ h => h) (Or.inl ⟨by rfl, ?_⟩) (by assumption) ?_
          rotate_left 1
          · intro w_ hSw
            obtain ⟨k1, _, _, _, _, _, _, _, _⟩ := hSw
            obtain ⟨_, _, _, -⟩ := now3 k1 rfl
            go_simp
            try with_reducible rfl
          try simp only [Act.put, List.setIfInBounds_toArray, List.set_cons_zero, List.set_cons_succ]
          refine HeadH.takeL (i := 2) (v := ?_) hF rfl (by kernel_rfl) (by kernel_rfl) (by kernel_rfl) (fun _ _ _ h => h) (Or.inl ⟨by rfl, ?_⟩) (by assumption) ?_
          rotate_left 1
          · intro w_ hSw
            obtain ⟨k1, _, _, _, _, _, _, _, _⟩ := hSw
            obtain ⟨_, _, _, -⟩ := now3 k1 rfl
            go_simp
            try with_reducible rfl
          try simp only [Act.put, List.setIfInBounds_toArray, List.set_cons_zero, List.set_cons_succ]
          refine HeadH.takeL (i := 3) (v := ?_) hF rfl (by kernel_rfl) (by kernel_rfl) (by kernel_rfl) (fun _ _ _ h => h) (Or.inl ⟨by rfl, ?_⟩) (by assumption) ?_
          rotate_left 1
          · intro w_ hSw
            obtain ⟨k1, _, _, _, _, _, _, _, _⟩ := hSw
            obtain ⟨_, _, _, -⟩ := now3 k1 rfl
            go_simp
            try with_reducible rfl
          try simp only [Act.put, List.setIfInBounds_toArray, List.set_cons_zero, List.set_cons_succ]
          refine HeadH.takeL (i := 4) (v := ?_) hF rfl (by kernel_rfl) (by kernel_rfl) (by kernel_rfl) (fun _ _ _ h => h) (Or.inl ⟨by rfl, ?_⟩) (by assumption) ?_
          rotate_left 1
          · intro w_ hSw
            obtain ⟨k1, _, _, _, _, _, _, _, _⟩ := hSw
            obtain ⟨_, _, _, -⟩ := now3 k1 rfl
            go_simp
            try with_reducible rfl
          try simp only [Act.put, List.setIfInBounds_toArray, List.set_cons_zero, List.set_cons_succ]
          refine HeadH.takeL (i := 6) (v := ?_) hF rfl (by kernel_rfl) (by kernel_rfl) (by kernel_rfl) (fun _ _ _ h => h) (Or.inl ⟨by rfl, ?_⟩) (by assumption) ?_
          rotate_left 1
          · intro w_ hSw
            obtain ⟨k1, _, _, _, _, _, _, _, _⟩ := hSw
            obtain ⟨_, _, _, -⟩ := now3 k1 rfl
            go_simp
            try with_reducible rfl
          try simp only [Act.put, List.setIfInBounds_toArray, List.set_cons_zero, List.set_cons_succ]
          refine HeadH.takeL (i := 7) (v := ?_) hF rfl (by kernel_rfl) (by kernel_rfl) (by kernel_rfl) (fun _ _ _ h => h) (Or.inl ⟨by rfl, ?_⟩) (by assumption) ?_
          rotate_left 1
          · intro w_ hSw
            obtain ⟨k1, _, _, _, _, _, _, _, _⟩ := hSw
            obtain ⟨_, _, _, -⟩ := now3 k1 rfl
            go_simp
            try with_reducible rfl
          try simp only [Act.put, List.setIfInBounds_toArray, List.set_cons_zero, List.set_cons_succ]
          refine HeadH.takeL (i := 8) (v := ?_) hF rfl (by kernel_rfl) (by kernel_rfl) (by kernel_rfl) (fun _ _ _ h => h) (Or.inl ⟨by rfl, ?_⟩) (by assumption) ?_
          rotate_left 1
          · intro w_ hSw
            obtain ⟨k1, _, _, _, _, _, _, _, _⟩ := hSw
            obtain ⟨_, _, _, -⟩ := now3 k1 rfl
            go_simp
            try with_reducible rfl
          try simp only [Act.put, List.setIfInBounds_toArray, List.set_cons_zero, List.set_cons_succ]
          refine HeadH.takeL (i := 9) (v := ?_) hF rfl (by kernel_rfl) (by kernel_rfl) (by kernel_rfl) (fun _ _ _ h => h) (Or.inl ⟨by rfl, ?_⟩) (by assumption) ?_
          rotate_left 1
          · intro w_ hSw
            obtain ⟨k1, _, _, _, _, _, _, _, _⟩ := hSw
            obtain ⟨_, _, _, -⟩ := now3 k1 rfl
            go_simp
            try with_reducible rfl
          try simp only [Act.put, List.setIfInBounds_toArray, List.set_cons_zero, List.set_cons_succ]
          refine HeadH.takeL (i := 10) (v := ?_) hF rfl (by kernel_rfl) (by kernel_rfl) (by kernel_rfl) (fun _ _ _ h => h) (Or.inl ⟨by rfl, ?_⟩) (by assumption) ?_
          rotate_left 1
          · intro w_ hSw
            obtain ⟨k1, _, _, _, _, _, _, _, _⟩ := hSw
            obtain ⟨_, _, _, -⟩ := now3 k1 rfl
            go_simp
            try with_reducible rfl
          try simp only [Act.put, List.setIfInBounds_toArray, List.set_cons_zero, List.set_cons_succ]
          refine HeadH.oneL (i := 5) (by kernel_rfl) (by kernel_rfl) rfl (fun _ hK => ?_)
          go_simp
          refine (hFX _).mono ?_
          rintro e wa ⟨bx, cx, rfl, hlo1, hhi1, hc1, hba⟩
          have hBa : Below wr.heap.size wr wa := (Below.refl _ _).drew.trans hba
          have hBwa := hb.trans (hBa.mono hb.size)
          have hsa := keep_blk hBa hsp
          refine hK.out _ _ ⟨hsa, hcx0 _ (hBwa), hcx1 _ (hBwa), hcx2 _ (hBwa), hcx3 _ (hBwa), hcy0 _ (hBwa), hcy1 _ (hBwa), hcy2 _ (hBwa), hcy3 _ (hBwa)⟩ (fun hHeld => ?_)
          clear hK
          try simp only [Act.put, List.setIfInBounds_toArray, List.set_cons_zero, List.set_cons_succ]
          refine HeadH.oneL (i := 11) (by kernel_rfl) (by kernel_rfl) rfl (fun _ hK => ?_)
          go_simp
          refine (hFY _).mono ?_
          rintro e wb ⟨bx2, cx2, rfl, hlo2, hhi2, hc2, hbb⟩
          have hBwb := hBwa.trans (hbb.mono hBwa.size)
          have hsb := keep_blk hbb hsa
          have hXc := fun p hp => (hbb.cell (p := ⟨bx, p, none⟩) hhi1).trans (hc1 p hp)
          refine hK.out _ _ ⟨hsb, hcx0 _ (hBwb), hcx1 _ (hBwb), hcx2 _ (hBwb), hcx3 _ (hBwb), hcy0 _ (hBwb), hcy1 _ (hBwb), hcy2 _ (hBwb), hcy3 _ (hBwb)⟩ (fun hHeld => ?_)
          clear hK
          try simp only [Act.put, List.setIfInBounds_toArray, List.set_cons_zero, List.set_cons_succ]
          have hhi1' : bx < wb.heap.size := Nat.lt_of_lt_of_le hhi1 hbb.size
          refine ⟨by kernel_rfl, ?_⟩
          simp only [List.drop_succ_cons, List.drop_zero]
          clear hHeld hcx0 hcx1 hcx2 hcx3 hcy0 hcy1 hcy2 hcy3 hFX hFY hsa hba hbb hBa hsp hc1 hlo1 hlo2 hhi1
          go_wp2
          go_loopw [9, 10] (fun t _ wx => ∃ p : Nat, p ≤ N ∧ t = .int .i64 p ∧ Hid (∀ q, q < p → (X.getLsbD q = true → covB rs q j = true) ∧ (covB rs q j = true → Y.getLsbD q = true)) ∧ Below wb.heap.size wb wx) (fun t _ _ => N - (intOf t).toNat)
          case atStart => exact ⟨0, by omega, rfl, Lib.hid (fun q hq => by omega), Below.refl _ _⟩
          case round =>
            obtain ⟨p, hp, rfl, hP, hbx⟩ := hrel
            have hBx := hBwb.trans (hbx.mono hBwb.size)
            have hsx := keep_blk hbx hsb
            obtain ⟨s0, s1, s2, -⟩ := now3 hsx rfl
            have h256 := h2i.out
            by_cases hpl : p < N
            · go_wp2_with fail
              refine (HSz _).mono ?_
              rintro e wy ⟨rfl, hby⟩
              have hBy := hBx.trans (hby.mono hBx.size)
              have hbyb := hbx.trans (hby.mono hbx.size)
              have HCp := hHj p (by omega) wy hBy
              clear s0 s1 s2 hsx hBx hbx hby
              go_wp2_with fail
              refine HCp.mono ?_
              rintro e wz ⟨rfl, hbz⟩
              have hBz := hBy.trans (hbz.mono hBy.size)
              have hbzb := hbyb.trans (hbz.mono hbyb.size)
              have hx := (hbzb.cell (p := ⟨bx, p, none⟩) hhi1').trans (hXc p (by omega))
              have hy := (hbzb.cell (p := ⟨bx2, p, none⟩) hhi2).trans (hc2 p (by omega))
              have hfl : Hid (¬ ((X.getLsbD p = true → covB rs p j = true) ∧ (covB rs p j = true → Y.getLsbD p = true)) → R = false) := Lib.hid (fun h => hno.out j hlt (by
                rw [Bool.eq_false_iff]
                exact fun hh => h (hcj.out.1 hh p hpl)))
              have hnx : Hid (((X.getLsbD p = true → covB rs p j = true) ∧ (covB rs p j = true → Y.getLsbD p = true)) → ∀ q, q < p + 1 → (X.getLsbD q = true → covB rs q j = true) ∧ (covB rs q j = true → Y.getLsbD q = true)) := Lib.hid (fun h q hq => by
                by_cases e : q = p
                · subst e; exact h
                · exact hP.out q (by omega))
              have hp256 : p < 256 := by omega
              clear HCp hBy hbyb hbz hP hXc hc2 hno hcj h256 hHj HSz hsb
              generalize X.getLsbD p = xp at *
              generalize Y.getLsbD p = yp at *
              generalize covB rs p j = cp at *
              cases cp
              · cases xp
                · have hP2 := Lib.hid (hnx.out ⟨by simp, by simp⟩)
                  clear hnx hfl
                  go_wp2
                  go_roundw
                  case rel => exact ⟨p + 1, by omega, by go_num, hP2, hbzb⟩
                  case measure => simp [intOf]; omega
                · have hR := Lib.hid (hfl.out (by simp))
                  clear hnx hfl
                  go_wp2
                  go_ret
                  exact ⟨by rw [hR.out]; rfl, hBz⟩
              · cases yp
                · have hR := Lib.hid (hfl.out (by simp))
                  clear hnx hfl
                  cases xp
                  · go_wp2
                    go_ret
                    exact ⟨by rw [hR.out]; rfl, hBz⟩
                  · go_wp2
                    go_ret
                    exact ⟨by rw [hR.out]; rfl, hBz⟩
                · have hP2 := Lib.hid (hnx.out ⟨by simp, by simp⟩)
                  clear hnx hfl
                  cases xp
                  · go_wp2
                    go_roundw
                    case rel => exact ⟨p + 1, by omega, by go_num, hP2, hbzb⟩
                    case measure => simp [intOf]; omega
                  · go_wp2
                    go_roundw
                    case rel => exact ⟨p + 1, by omega, by go_num, hP2, hbzb⟩
                    case measure => simp [intOf]; omega
            · have e : p = N := by omega
              have hR := Lib.hid (hcj.out.2 (fun q hq => hP.out q (by rw [e]; exact hq)))
              clear hP hcj hXc hc2 hHj hno hyes'
              go_wp2_with fail
              refine (HSz _).mono ?_
              rintro e wy ⟨rfl, hby⟩
              have hBy := hBx.trans (hby.mono hBx.size)
              have hsy := keep_blk hby hsx
              clear s0 s1 s2 hsx hBx hbx hby HSz hsb
              go_wp2
              go_roundw
              case rel => exact ⟨j + 1, by omega, by go_num, Lib.hid (fun q hq => by
                by_cases e : q = j
                · subst e; exact hR.out
                · exact hH.out q (by omega)), hBy, hsy⟩
              case measure => simp [intOf]; omega
        · have e : j = on.length := by omega
          have hR := Lib.hid (hyes'.out (fun q hq => hH.out q (by rw [e]; exact hq)))
          clear hyes' hno hco hA hC
          go_wp2
          go_ret
          exact ⟨by rw [hR.out]; rfl, hb⟩
end Go.Proofs.YtdfllifjbabfjaaGreatDoor
