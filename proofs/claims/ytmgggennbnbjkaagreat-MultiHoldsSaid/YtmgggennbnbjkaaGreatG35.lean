/- Package prime: the first level. slices.BinarySearchFunc at a slice of cubes that rises. -/
import Derived.Test.YtmgggennbnbjkaaGreatG34
import Derived.Test.YtmgggennbnbjkaaGreatG22
import Derived.Test.YtmgggennbnbjkaaGreatG20
import Derived.Deep.RegionHeld3
namespace Go.Proofs.YtmgggennbnbjkaaGreat
open Go.RowKit Go.Joins
open Go.Maps (Keyed)

theorem allB_low9 (n p : Nat) (hn : n ≤ 8) : (allB n).getLsbD p = decide (p < 2 ^ n) := by
  unfold allB
  rw [bvOf_bit]
  by_cases h : p < 2 ^ n
  · have h2 : 2 ^ n ≤ 2 ^ 8 := Nat.pow_le_pow_right (by decide) hn
    simp [h, show p < 256 by omega]
  · simp [h]
theorem full_shift (n : Nat) (hn : n ≤ 8) (w : World) : (Op.shift BinOp.shr IntKind.u8 255 IntKind.i64 (IntKind.i64.wrap (8 - (n : Int)))).run Tryz.prog w = .ok (.int .u8 ((BitVec.ofNat 8 (2 ^ n - 1)).toNat : Int)) w := by
  rcases (by omega : n = 0 ∨ n = 1 ∨ n = 2 ∨ n = 3 ∨ n = 4 ∨ n = 5 ∨ n = 6 ∨ n = 7 ∨ n = 8) with rfl | rfl | rfl | rfl | rfl | rfl | rfl | rfl | rfl <;> kernel_rfl
theorem low_wrap (p : Nat) : IntKind.u8.wrap (p : Int) = ((BitVec.ofNat 8 p).toNat : Int) := by
  rw [IntKind.wrap_u8, BitVec.toNat_ofNat]
  omega
theorem pts_get (S : BitVec 256) {j p : Nat} (h : (pts S)[j]? = some p) : p < 256 ∧ S.getLsbD p = true := by
  have := List.mem_of_getElem? h
  unfold pts at this
  rw [List.mem_filter, List.mem_range] at this
  exact this
theorem pts_has (S : BitVec 256) {p : Nat} (hp : p < 256) (h : S.getLsbD p = true) : ∃ j : Nat, (pts S)[j]? = some p := by
  have : p ∈ pts S := by unfold pts; rw [List.mem_filter, List.mem_range]; exact ⟨hp, h⟩
  exact List.getElem?_of_mem this
/-- The cubes of the first i points. -/
def SgF (S : BitVec 256) (n i : Nat) (m v : BitVec 8) : Prop := m = BitVec.ofNat 8 (2 ^ n - 1) ∧ ∃ j p, j < i ∧ (pts S)[j]? = some p ∧ v = BitVec.ofNat 8 p
theorem sgF_zero (S : BitVec 256) (n : Nat) (m v : BitVec 8) : False ↔ SgF S n 0 m v := ⟨False.elim, fun ⟨_, j, _, h, _⟩ => by omega⟩
theorem sgF_next (S : BitVec 256) (n i p : Nat) (h : (pts S)[i]? = some p) (m v : BitVec 8) : (SgF S n i m v ∨ (m = BitVec.ofNat 8 (2 ^ n - 1) ∧ v = BitVec.ofNat 8 p)) ↔ SgF S n (i + 1) m v := by
  constructor
  · rintro (⟨e, j, q, h1, h2, h3⟩ | ⟨e1, e2⟩)
    · exact ⟨e, j, q, by omega, h2, h3⟩
    · exact ⟨e1, i, p, by omega, h, e2⟩
  · rintro ⟨e, j, q, h1, h2, h3⟩
    by_cases hj : j < i
    · exact Or.inl ⟨e, j, q, hj, h2, h3⟩
    · obtain rfl : j = i := by omega
      rw [h] at h2
      injection h2 with h2
      subst h2
      exact Or.inr ⟨e, h3⟩
theorem sgF_all {S : BitVec 256} {n : Nat} (hn : n ≤ 8) (hS : S &&& ~~~(allB n) = 0) (m v : BitVec 8) : SgF S n (pts S).length m v ↔ Lv S n 0 m v := by
  rw [lv_zero hn]
  constructor
  · rintro ⟨e, j, p, -, h2, h3⟩
    obtain ⟨-, hp⟩ := pts_get S h2
    have := (and_not_zero _ _).1 hS p hp
    rw [allB_low9 n p hn] at this
    exact ⟨e, p, by simpa using this, hp, h3⟩
  · rintro ⟨e, p, hp, hS', h3⟩
    have h2 : 2 ^ n ≤ 2 ^ 8 := Nat.pow_le_pow_right (by decide) hn
    obtain ⟨j, hj⟩ := pts_has S (show p < 256 by omega) hS'
    exact ⟨e, j, p, (List.getElem?_eq_some_iff.1 hj).1, hj, h3⟩
set_option maxHeartbeats 4000000 in
set_option maxRecDepth 100000 in
theorem single_any (S : BitVec 256) (n : Nat) (hn : n ≤ 8) (w : World) :
    Calls Tryz.prog 41 #[sv S, .int .i64 n] w fun e w' => ∃ b D, e = .returned (.map (some b)) ∧ w.heap.size ≤ b ∧ MpAt w' b 256 256 (SgF S n (pts S).length) D ∧ Below w.heap.size w w' := by
  have HL := fun w => list_any S w
  have hpl : (pts S).length ≤ 256 := by unfold pts; exact Nat.le_trans (List.length_filter_le _ _) (by simp)
  have hx := heap_alloc_new w (.cells (sa S) 41)
  have hb := below_alloc1 w (.cells (sa S) 41)
  have hmm := @run_makeMap Tryz.prog
  have hget := Lib.hid (fun (j p : Nat) => pts_get S (j := j) (p := p))
  have hnx := Lib.hid (fun i p h => sgF_next S n i p h)
  unfold sv sa wv at *
  go_enter Tryz.func41, Tryz.ntmps41
  go_upto_region 1 with (fail)
  generalize w.alloc _ = W at *
  go_upto_region 2 with (fail)
  have hM : MpAt (W.alloc (.map #[] 0)) W.heap.size 0 0 (SgF S n 0) (.map []) := (MpAt.made W).same (sgF_zero S n) (Nat.le_refl _) (Nat.le_refl _)
  have hx2 := keep_alloc (x := .map #[] 0) hx
  have hb2 := hb.trans ((below_alloc1 W (.map #[] 0)).mono hb.size)
  have hbs : w.heap.size ≤ W.heap.size := hb.size
  clear hx hb
  generalize W.alloc _ = W2 at *
  generalize W.heap.size = mb at *
  obtain ⟨x0, x1, x2, x3, -⟩ := now4 hx2 rfl
  go_wp2_with fail
  refine (HL _).mono ?_
  rintro e w3 ⟨L, rfl, hown, hb3⟩
  have hM3 := hM.keep (hb3.block mb hM.lt)
  have hb4 := hb2.trans (hb3.mono hb2.size)
  have hmlow := hM.lt
  clear HL x0 x1 x2 x3 hx2 hM hb2
  obtain ⟨A, c, rfl⟩ := own_form hown
  have hcell : Hid (∀ (j p : Nat), (pts S)[j]? = some p → ∃ g, A = some ⟨g, 0, none⟩ ∧ g ≠ mb ∧ w3.cell? ⟨g, j, none⟩ = some (.int .i64 p) ∧ W2.heap.size ≤ g ∧ g < w3.heap.size) := Lib.hid fun j p hj => by
    have hjl := (List.getElem?_eq_some_iff.1 hj).1
    obtain ⟨g, c', e⟩ := ownsRow_form hown (by omega)
    injection e with e _ _
    subst e
    have hg := hown.lt g rfl
    refine ⟨g, rfl, by omega, ?_, hg.1, hg.2⟩
    rw [hown.cellAt j (by omega)]
    simp [intsV, hj]
  clear hown
  generalize hN : (pts S).length = N at *
  have hNo := Lib.hid hN
  clear hN
  go_wp2_with fail
  go_loopw [12] (fun t wr => ∃ (i : Nat) (D : DataW Unit), i ≤ N ∧ t = .int .i64 i ∧ MpAt wr mb i i (SgF S n i) D ∧ Off (· = mb) w3 wr) (fun t _ => N - (intOf t).toNat)
  case atStart => exact ⟨0, _, Nat.zero_le _, rfl, hM3, Off.refl _ _⟩
  case round =>
    clear hM3
    obtain ⟨i, D, hi, rfl, hM, hO⟩ := hrel
    by_cases hlt : i < N
    · have d1 : decide ((i : Int) < (N : Int)) = true := decide_eq_true (by omega)
      obtain ⟨p, hp⟩ : ∃ p, (pts S)[i]? = some p := ⟨_, List.getElem?_eq_getElem (by rw [hNo.out]; exact hlt)⟩
      obtain ⟨g, rfl, hgm, hc, hg1, hg2⟩ := hcell.out i p hp
      have hc' : wr.cell? ⟨g, i, none⟩ = some (.int .i64 p) := (World.cell?_of_block (hO.block g hg2 hgm)).trans hc
      obtain ⟨hp256, -⟩ := hget.out i p hp
      have hn0 : ¬ (i : Int) < 0 := by omega
      have hnl : (i : Int) < (N : Int) := by omega
      have hst := Lib.hid (hnx.out i p hp)
      clear hp hc hnx
      have hsh := full_shift n hn
      have hwp := low_wrap p
      go_upto_region 5 with (fail)
      generalize BitVec.ofNat 8 (2 ^ n - 1) = M at *
      generalize BitVec.ofNat 8 p = V at *
      refine wp_region_held_drew (S := fun _ => True) rfl trivial (fun _ => ?_)
      obtain ⟨X0, hX0⟩ : ∃ X0, X0 = wr.drew := ⟨_, rfl⟩
      have hM0 : MpAt X0 mb i i (SgF S n i) D := hM.keep (by rw [hX0]; rfl)
      have hO0 : Off (· = mb) w3 X0 := by rw [hX0]; exact hO.drew
      rw [← hX0]
      clear hX0 hM hO hc'
      obtain ⟨cn, v0, st, w1, hcT, r1, r2, r3, w5, D', r4, hM5, ht5⟩ := hM0.count (by omega) (by omega) M V
      unfold cv bvv at r1 r2 r3
      unfold goInt at r2 r4
      have hO5 := hO0.grown ht5.grown (Or.inl rfl)
      have hM6 := hM5.same hst.out (Nat.le_refl _) (Nat.le_refl _)
      have hcw : IntKind.i64.wrap ((cn : Int) + 1) = (cn : Int) + 1 := by rw [IntKind.wrap_i64]; omega
      clear hM5 ht5 hst hM0 hO0
      refine wpAnyH_take (i := 0) (oi := _) (v := ?_) rfl (by kernel_rfl) (by kernel_rfl) (by kernel_rfl) (fun _ _ _ h => h) (Or.inl ⟨by rfl, ?_⟩) trivial ?_
      rotate_left 1
      · intro w_ hSw
        go_simp
        try with_reducible rfl
      try simp only [Act.put, List.setIfInBounds_toArray]
      refine wpAnyH_take (i := 1) (oi := _) (v := ?_) rfl (by kernel_rfl) (by kernel_rfl) (by kernel_rfl) (fun _ _ _ h => h) (Or.inl ⟨by rfl, ?_⟩) trivial ?_
      rotate_left 1
      · intro w_ hSw
        go_simp
        try with_reducible rfl
      try simp only [Act.put]
      refine wpAnyH_take (i := 2) (oi := _) (v := ?_) rfl (by kernel_rfl) (by kernel_rfl) (by kernel_rfl) (fun _ _ _ h => h) (Or.inl ⟨by rfl, ?_⟩) trivial ?_
      rotate_left 1
      · intro w_ hSw
        go_simp
        try with_reducible rfl
      try simp only [Act.put]
      refine wpAnyH_take (i := 3) (oi := _) (v := ?_) rfl (by kernel_rfl) (by kernel_rfl) (by kernel_rfl) (fun _ _ _ h => h) (Or.inl ⟨by rfl, ?_⟩) trivial ?_
      rotate_left 1
      · intro w_ hSw
        go_simp
        try with_reducible rfl
      try simp only [Act.put]
      refine wpAnyH_take (i := 4) (oi := _) (v := ?_) rfl (by kernel_rfl) (by kernel_rfl) (by kernel_rfl) (fun _ _ _ h => h) (Or.inl ⟨by rfl, ?_⟩) trivial ?_
      rotate_left 1
      · intro w_ hSw
        go_simp
        try with_reducible rfl
      try simp only [Act.put]
      refine wpAnyH_take (i := 5) (oi := _) (v := ?_) rfl (by kernel_rfl) (by kernel_rfl) (by kernel_rfl) (fun _ _ _ h => h) (Or.inl ⟨by rfl, ?_⟩) trivial ?_
      rotate_left 1
      · intro w_ hSw
        go_simp
        try with_reducible rfl
      try simp only [Act.put]
      refine wpAnyH_take (i := 6) (oi := _) (v := ?_) rfl (by kernel_rfl) (by kernel_rfl) (by kernel_rfl) (fun _ _ _ h => h) (Or.inl ⟨by rfl, ?_⟩) trivial ?_
      rotate_left 1
      · intro w_ hSw
        go_simp
        try with_reducible rfl
      try simp only [Act.put]
      refine wpAnyH_ready (rs := [7, 9]) (by kernel_rfl) (by simp) ?_
      refine AllReadyH.cons (o := _) rfl (fun _ hK => ?_) ?_
      · go_simp
        refine hK.out _ _ trivial (fun _ => ?_)
        clear hK
        try simp only [Act.put, List.setIfInBounds_toArray, List.set_cons_zero, List.set_cons_succ]
        refine wpAnyH_take (i := 8) (oi := _) (v := ?_) rfl (by kernel_rfl) (by kernel_rfl) (by kernel_rfl) (fun _ _ _ h => h) (Or.inl ⟨by rfl, ?_⟩) trivial ?_
        rotate_left 1
        · intro w_ hSw
          go_simp
          try with_reducible rfl
        try simp only [Act.put, List.setIfInBounds_toArray]
        refine wpAnyH_ready (rs := [9]) (by kernel_rfl) (by simp) ?_
        refine AllReadyH.cons (o := _) rfl (fun _ hK => ?_) AllReadyH.nil
        go_simp
        refine hK.out _ _ trivial (fun _ => ?_)
        clear hK
        try simp only [Act.put, List.setIfInBounds_toArray, List.set_cons_zero, List.set_cons_succ]
        refine wpAnyH_take (i := 10) (oi := _) (v := ?_) rfl (by kernel_rfl) (by kernel_rfl) (by kernel_rfl) (fun _ _ _ h => h) (Or.inl ⟨by rfl, ?_⟩) trivial ?_
        rotate_left 1
        · intro w_ hSw
          go_simp
          try with_reducible rfl
        try simp only [Act.put, List.setIfInBounds_toArray]
        refine wpAnyH_ready (rs := [11]) (by kernel_rfl) (by simp) ?_
        refine AllReadyH.cons (o := _) rfl (fun _ hK => ?_) AllReadyH.nil
        go_simp
        refine hK.out _ _ trivial (fun _ => ?_)
        clear hK
        try simp only [Act.put, List.setIfInBounds_toArray, List.set_cons_zero, List.set_cons_succ]
        refine wpAnyH_done (by kernel_rfl) ?_ _
        go_wp2
        go_roundw
        case rel => exact ⟨i + 1, D', by omega, by go_num, hM6, hO5⟩
        case measure => simp [intOf]; omega
      · refine AllReadyH.cons (o := _) rfl (fun _ hK => ?_) AllReadyH.nil
        go_simp
        refine hK.out _ _ trivial (fun _ => ?_)
        clear hK
        try simp only [Act.put, List.setIfInBounds_toArray, List.set_cons_zero, List.set_cons_succ]
        refine wpAnyH_take (i := 10) (oi := _) (v := ?_) rfl (by kernel_rfl) (by kernel_rfl) (by kernel_rfl) (fun _ _ _ h => h) (Or.inl ⟨by rfl, ?_⟩) trivial ?_
        rotate_left 1
        · intro w_ hSw
          go_simp
          try with_reducible rfl
        try simp only [Act.put, List.setIfInBounds_toArray]
        refine wpAnyH_ready (rs := [7]) (by kernel_rfl) (by simp) ?_
        refine AllReadyH.cons (o := _) rfl (fun _ hK => ?_) AllReadyH.nil
        go_simp
        refine hK.out _ _ trivial (fun _ => ?_)
        clear hK
        try simp only [Act.put, List.setIfInBounds_toArray, List.set_cons_zero, List.set_cons_succ]
        refine wpAnyH_take (i := 8) (oi := _) (v := ?_) rfl (by kernel_rfl) (by kernel_rfl) (by kernel_rfl) (fun _ _ _ h => h) (Or.inl ⟨by rfl, ?_⟩) trivial ?_
        rotate_left 1
        · intro w_ hSw
          go_simp
          try with_reducible rfl
        try simp only [Act.put, List.setIfInBounds_toArray]
        refine wpAnyH_ready (rs := [11]) (by kernel_rfl) (by simp) ?_
        refine AllReadyH.cons (o := _) rfl (fun _ hK => ?_) AllReadyH.nil
        go_simp
        refine hK.out _ _ trivial (fun _ => ?_)
        clear hK
        try simp only [Act.put, List.setIfInBounds_toArray, List.set_cons_zero, List.set_cons_succ]
        refine wpAnyH_done (by kernel_rfl) ?_ _
        go_wp2
        go_roundw
        case rel => exact ⟨i + 1, D', by omega, by go_num, hM6, hO5⟩
        case measure => simp [intOf]; omega
    · obtain rfl : i = N := by omega
      have d1 : decide ((i : Int) < (i : Int)) = false := decide_eq_false (by omega)
      go_wp2
      go_ret
      refine ⟨mb, D, rfl, hbs, ?_, hb4.trans ((hO.below (B := w.heap.size) hb4.size (fun k hk => by subst hk; exact hbs)))⟩
      exact hM.same (fun _ _ => by rw [hNo.out]) (by omega) (by omega)
end Go.Proofs.YtmgggennbnbjkaaGreat
namespace Go.Proofs.YtmgggennbnbjkaaGreat
open Go.RowKit Go.Joins

theorem rise_len {N : Nat} : ∀ {ks : List Nat} {lo : Nat}, ks.Pairwise (· < ·) → (∀ x ∈ ks, lo ≤ x ∧ x < N) → ks.length ≤ N - lo
  | [], _, _, _ => by simp
  | a :: ks, lo, hp, h => by
    rw [List.pairwise_cons] at hp
    have ha := h a List.mem_cons_self
    have ih := rise_len (lo := a + 1) hp.2 fun x hx => ⟨hp.1 x hx, (h x (List.mem_cons_of_mem _ hx)).2⟩
    rw [List.length_cons]
    omega
theorem cmpI_lt (a b : Nat) : decide (cmpI a b < 0) = decide (a < b) := by
  unfold cmpI
  split
  · simp [*]
  · split <;> simp [*]
/-- What stands in a row of keys ahead of a place, and from it on. -/
def LoK (ks : List Nat) (i x : Nat) : Prop := ∀ j y, j < i → ks[j]? = some y → y < x
def HiK (ks : List Nat) (i x : Nat) : Prop := ∀ j y, i ≤ j → ks[j]? = some y → x ≤ y
theorem lo_next {ks : List Nat} {h x y : Nat} (hp : ks.Pairwise (· < ·)) (hh : ks[h]? = some y) (hy : y < x) : LoK ks (h + 1) x := fun j z hj hz => by
  rcases Nat.lt_or_ge j h with k | k
  · have := (List.pairwise_iff_getElem.1 hp) j h (List.getElem?_eq_some_iff.1 hz).1 (List.getElem?_eq_some_iff.1 hh).1 k
    rw [(List.getElem?_eq_some_iff.1 hz).2, (List.getElem?_eq_some_iff.1 hh).2] at this
    omega
  · obtain rfl : j = h := by omega
    rw [hz] at hh
    injection hh with e
    omega
theorem hi_next {ks : List Nat} {h x y : Nat} (hp : ks.Pairwise (· < ·)) (hh : ks[h]? = some y) (hy : ¬ y < x) : HiK ks h x := fun j z hj hz => by
  rcases Nat.lt_or_ge h j with k | k
  · have := (List.pairwise_iff_getElem.1 hp) h j (List.getElem?_eq_some_iff.1 hh).1 (List.getElem?_eq_some_iff.1 hz).1 k
    rw [(List.getElem?_eq_some_iff.1 hz).2, (List.getElem?_eq_some_iff.1 hh).2] at this
    omega
  · obtain rfl : j = h := by omega
    rw [hz] at hh
    injection hh with e
    omega
set_option maxHeartbeats 2000000 in
set_option maxRecDepth 100000 in
theorem bsearch_any (m v : BitVec 8) (ks : List Nat) (hp : ks.Pairwise (· < ·)) (hk : ∀ x ∈ ks, x < 65536) (V : Value) (w : World) (hC : CbsAt w w.heap.size V (ks.map cbK)) :
    Calls Tryz.prog 38 #[V, cv m v, .func (.func 39) #[] #[]] w fun e w' =>
      ∃ (i : Nat) (b : Value), e = .returned (.tuple #[.int .i64 i, b]) ∧ i ≤ ks.length ∧ LoK ks i (keyC m v) ∧ HiK ks i (keyC m v) ∧ Below w.heap.size w w' := by
  have hlen : ks.length ≤ 65536 := rise_len (lo := 0) hp fun x hx => ⟨Nat.zero_le _, hk x hx⟩
  obtain ⟨A, c, rfl, -, hc⟩ := hC
  rw [List.length_map] at *
  have HC := fun m1 v1 w => pcompare_any m1 v1 m v w
  have hcell : Hid (∀ (j y : Nat), ks[j]? = some y → ∃ b off, A = some ⟨b, off, none⟩ ∧ b < w.heap.size ∧ y < 65536 ∧ w.cell? ⟨b, off + j * 2, none⟩ = some (bvv (kM y)) ∧ w.cell? ⟨b, off + j * 2 + 1, none⟩ = some (bvv (kV y))) := Lib.hid fun j y hj => by
    have hjl := (List.getElem?_eq_some_iff.1 hj).1
    obtain ⟨b, off, e, hb, h⟩ := hc (by omega)
    obtain ⟨x0, x1⟩ := h j (cbK y) (by rw [List.getElem?_map, hj]; rfl)
    exact ⟨b, off, e, hb, hk y (List.mem_of_getElem? hj), x0, x1⟩
  have hP := Lib.hid hp
  have hz := heap_alloc_new w (cb m v)
  have hb0 := below_alloc1 w (cb m v)
  clear hc hk hp
  generalize hX : keyC m v = X at *
  clear hX
  unfold cv cb bvv at *
  go_enter Tryz.func38, Tryz.ntmps38
  go_upto_region 1 with (fail)
  generalize w.alloc _ = W at *
  go_wp2
  go_loopw [9, 10] (fun t u wr => ∃ i j : Nat, t = .int .i64 i ∧ u = .int .i64 j ∧ i ≤ j ∧ j ≤ ks.length ∧ Hid (LoK ks i X) ∧ Hid (HiK ks j X) ∧ wr.heap[w.heap.size]? = some (.cells #[.int .u8 m.toNat, .int .u8 v.toNat] 26 (0, 0)) ∧ Below w.heap.size w wr) (fun t u _ => (intOf u).toNat - (intOf t).toNat)
  case atStart => exact ⟨0, ks.length, rfl, rfl, Nat.zero_le _, Nat.le_refl _, Lib.hid fun j y hj => by omega, Lib.hid fun j y hj hy => by have := (List.getElem?_eq_some_iff.1 hy).1; omega, hz, hb0⟩
  case round =>
    clear hz hb0
    obtain ⟨i, j, rfl, rfl, hij, hjl, hlo, hhi, hz, hb0⟩ := hrel
    by_cases hlt : i < j
    · have d1 : decide ((i : Int) < (j : Int)) = true := decide_eq_true (by omega)
      go_upto_region 5 with (fail)
      obtain ⟨h, hh, hih, hhj⟩ : ∃ h : Nat, ((i : Int) + (j : Int)) / 2 = h ∧ i ≤ h ∧ h < j := ⟨(i + j) / 2, by omega, by omega, by omega⟩
      simp only [hh]
      clear hh
      obtain ⟨y, hy⟩ : ∃ y, ks[h]? = some y := ⟨_, List.getElem?_eq_getElem (by omega)⟩
      obtain ⟨b, off, rfl, hbw, hy6, hc0, hc1⟩ := hcell.out h y hy
      have e0 := fun x : After wr => After.cell x ((hb0.cell (p := ⟨b, off + h * 2, none⟩) hbw).trans hc0)
      have e1 := fun x : After wr => After.cell x ((hb0.cell (p := ⟨b, off + h * 2 + 1, none⟩) hbw).trans hc1)
      have HCy := fun w => HC (kM y) (kV y) w
      rw [key_kk hy6] at HCy
      have hd := cmpI_lt y X
      have hn0 : ¬ (h : Int) < 0 := by omega
      have hnl : (h : Int) < (ks.length : Int) := by omega
      have hyy := Lib.hid hy
      have k1 : Hid (y < X → LoK ks (h + 1) X) := Lib.hid fun hlt => lo_next hP.out hy hlt
      have k2 : Hid (¬ y < X → HiK ks h X) := Lib.hid fun hlt => hi_next hP.out hy hlt
      clear hc0 hc1 hy HC
      generalize cmpI y X = r at *
      obtain ⟨z0, z1, -⟩ := box2 hz rfl
      refine wp_region_after (by kernel_rfl) (by kernel_rfl) ?_
      repeat (first | go_big_quiet_step ((go_at_call 39; exact Calls.after_of (HCy _))))
      refine wpQuiet_nil ?_
      intro z
      have hz2 := z.same hz
      have hb2 := hb0.trans (z.2.mono hb0.size)
      clear e0 e1 HCy z0 z1 hz hb0
      generalize z.1 = w2 at *
      clear z
      by_cases hyX : y < X
      · have hr : decide (r < 0) = true := by rw [hd]; exact decide_eq_true hyX
        have k1' := k1.out hyX
        clear k1 k2 hd
        go_wp2
        go_roundw
        case rel => exact ⟨h + 1, j, by go_num, rfl, by omega, hjl, Lib.hid k1', hhi, hz2, hb2⟩
        case measure => simp [intOf]; omega
      · have hr : decide (r < 0) = false := by rw [hd]; exact decide_eq_false hyX
        have k2' := k2.out hyX
        clear k1 k2 hd
        go_wp2
        go_roundw
        case rel => exact ⟨i, h, rfl, rfl, hih, by omega, hlo, Lib.hid k2', hz2, hb2⟩
        case measure => simp [intOf]; omega
    · obtain rfl : i = j := by omega
      have d1 : decide ((i : Int) < (i : Int)) = false := decide_eq_false (by omega)
      by_cases hin : i < ks.length
      · have d2 : decide ((i : Int) < (ks.length : Int)) = true := decide_eq_true (by omega)
        obtain ⟨y, hy⟩ : ∃ y, ks[i]? = some y := ⟨_, List.getElem?_eq_getElem (by omega)⟩
        obtain ⟨b, off, rfl, hbw, hy6, hc0, hc1⟩ := hcell.out i y hy
        have e0 := fun x : After wr => After.cell x ((hb0.cell (p := ⟨b, off + i * 2, none⟩) hbw).trans hc0)
        have e1 := fun x : After wr => After.cell x ((hb0.cell (p := ⟨b, off + i * 2 + 1, none⟩) hbw).trans hc1)
        have HCy := fun w => HC (kM y) (kV y) w
        rw [key_kk hy6] at HCy
        have hn0 : ¬ (i : Int) < 0 := by omega
        have hnl : (i : Int) < (ks.length : Int) := by omega
        clear hc0 hc1 HC hy
        generalize cmpI y X = r at *
        obtain ⟨z0, z1, -⟩ := box2 hz rfl
        go_upto_region 8 with (fail)
        refine wp_region_after (by kernel_rfl) (by kernel_rfl) ?_
        repeat (first | go_big_quiet_step ((go_at_call 39; exact Calls.after_of (HCy _))))
        refine wpQuiet_nil ?_
        intro z
        go_wp2
        go_ret2
        first | exact ⟨i, _, rfl, hjl, hlo.out, hhi.out, hb0.trans (z.2.mono hb0.size)⟩ | exact ⟨i, ⟨_, rfl⟩, hjl, hlo.out, hhi.out, hb0.trans (z.2.mono hb0.size)⟩
      · have d2 : decide ((i : Int) < (ks.length : Int)) = false := decide_eq_false (by omega)
        clear HC
        obtain ⟨z0, z1, -⟩ := box2 hz rfl
        go_upto_region 8 with (fail)
        refine wp_region_after (by kernel_rfl) (by kernel_rfl) ?_
        repeat (first | go_big_quiet_step (fail))
        refine wpQuiet_nil ?_
        intro z
        go_wp2
        go_ret2
        first | exact ⟨i, _, rfl, hjl, hlo.out, hhi.out, hb0.trans (z.2.mono hb0.size)⟩ | exact ⟨i, ⟨_, rfl⟩, hjl, hlo.out, hhi.out, hb0.trans (z.2.mono hb0.size)⟩
end Go.Proofs.YtmgggennbnbjkaaGreat
