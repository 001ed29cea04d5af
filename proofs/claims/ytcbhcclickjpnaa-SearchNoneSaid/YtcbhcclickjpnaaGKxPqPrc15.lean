/- priced of the package search: a bill that is right. -/
import Derived.Test.YtcbhcclickjpnaaGK29
import Derived.Laws.CopyRow
namespace Go.Proofs.Ytcbhcclickjpnaa
open Go.RowKit Go.Joins

theorem Try.sizeInt15 : (Try.prog.info? 3).map (·.size) = some 1 := by kernel_rfl
/-- copy of one row of numbers onto another one. -/
theorem copy15 {w : World} {bp bq n B : Nat} {f g : Nat → Int} (hp : w.heap[bp]? = some (celO 3 n fun p => .int .i64 (f p))) (hq : w.heap[bq]? = some (celO 3 n fun p => .int .i64 (g p))) (hB : B ≤ bp) :
    ∃ W v, (∀ ty, (Builtin.copy_ #[30, 30] ty #[.slice (some ⟨bp, 0, none⟩) n n, .slice (some ⟨bq, 0, none⟩) n n]).run Try.prog w = .ok v W) ∧ W.heap[bp]? = some (celO 3 n fun p => .int .i64 (g p)) ∧ (∀ b, b ≠ bp → W.heap[b]? = w.heap[b]?) ∧ W.heap.size = w.heap.size ∧ ∀ a, Below B a w → Below B a W := by
  have hcl : (celA n fun p => Value.int .i64 (g p)).toList.length = n := by unfold celA; simp
  have hfl : (celA n fun p => Value.int .i64 (f p)).toList.length = n := by unfold celA; simp
  have hfs : (celA n fun p => Value.int .i64 (f p)).size = n := by rw [← Array.length_toList]; exact hfl
  refine ⟨w.setRow bp ((celA n fun p => Value.int .i64 (f p)).toList.take 0 ++ (celA n fun p => Value.int .i64 (g p)).toList ++ (celA n fun p => Value.int .i64 (f p)).toList.drop (0 + (celA n fun p => Value.int .i64 (g p)).toList.length)).toArray, goInt (celA n fun p => Value.int .i64 (g p)).toList.length, fun ty => ?_, ?_, fun b hb => setRow_other w bp b _ (fun e => hb e), by simp, fun a h => ?_⟩
  · exact Go.run_copy_row (P := Try.prog) w 30 30 ty 3 bp 0 n n ⟨bq, 0, none⟩ n n (celA n fun p => Value.int .i64 (f p)) 3 (celA n fun p => Value.int .i64 (g p)).toList Try.underlying30 Try.sizeInt15 hp (by rw [hcl]; exact (Nat.min_self n).symm)
      (fun j v hj => by
        have hjl := (List.getElem?_eq_some_iff.1 hj).1
        rw [hcl] at hjl
        rw [Addr.add_lit, (cel_cell hq (by omega)).1]
        have e : (celA n fun p => Value.int .i64 (g p)).toList[j]? = some (.int .i64 (g j)) := by rw [Array.getElem?_toList]; exact celA_get _ hjl
        rw [e] at hj
        rw [Nat.zero_add]
        exact hj) (by rw [hcl, hfs]; omega)
      (fun v hv => by
        unfold celA at hv
        simp at hv
        obtain ⟨j, -, rfl⟩ := hv
        rfl)
  · rw [setRow_heap w bp _ _ _ _ hp]
    unfold celO
    congr 2
    apply Array.toList_inj.1
    show _ ++ _ ++ _ = _
    rw [List.take_zero, List.nil_append, List.drop_of_length_le (by rw [hcl, hfl]; omega), List.append_nil]
  · exact ⟨h.os, h.tape, h.output, by rw [show (w.setRow bp _).heap.size = w.heap.size by simp]; exact h.size, fun k hk => (setRow_other w bp k _ (by omega)).trans (h.block k hk)⟩
/-- What priced knows. -/
structure PrM (w1 W : World) (lo bx bz bp bq g n : Nat) (ls : List (List Int)) (l6 : Int) (u6 : List Int) (a7 : Int) (f7 : Nat → Int) (ps : List Int) : Prop where
  bil : BillOk n ls l6 u6
  b6 : BilM W bx bp n l6 (fun p => u6.getD p 0)
  b7 : BilM W bz bq n a7 f7
  pr : IntB W g ps
  pok : PrOk ps
  pl : ps.length = ls.length
  bel : Below lo w1 W
theorem PrM.below {w1 W W' : World} {lo bx bz bp bq g n : Nat} {ls : List (List Int)} {l6 : Int} {u6 : List Int} {a7 : Int} {f7 : Nat → Int} {ps : List Int} (h : PrM w1 W lo bx bz bp bq g n ls l6 u6 a7 f7 ps) (hb : Below W.heap.size W W') (hlo : lo ≤ W.heap.size) : PrM w1 W' lo bx bz bp bq g n ls l6 u6 a7 f7 ps :=
  ⟨h.bil, h.b6.below hb, h.b7.below hb, h.pr.same (hb.block g h.pr.lt), h.pok, h.pl, h.bel.trans (hb.mono hlo)⟩
theorem PrM.sum {w1 W W' : World} {lo bx bz bp bq g n : Nat} {ls : List (List Int)} {l6 : Int} {u6 : List Int} {a7 b7 : Int} {f7 g7 : Nat → Int} {ps : List Int} (h : PrM w1 W lo bx bz bp bq g n ls l6 u6 a7 f7 ps) (hS : SumI W bz bq W') (hb : BilM W' bz bq n b7 g7)
    (hxz : bx ≠ bz) (hpq : bp ≠ bq) (hgz : g ≠ bz) (hgq : g ≠ bq) (hlz : lo ≤ bz) (hlq : lo ≤ bq) (hlo : lo ≤ W.heap.size) : PrM w1 W' lo bx bz bp bq g n ls l6 u6 b7 g7 ps :=
  ⟨h.bil, ⟨(hS.same bx (size_of_block h.b6.box) hxz (blkne15 h.b6.box h.b7.up (by decide))).trans h.b6.box, (hS.same bp (size_of_block h.b6.up) (blkne15 h.b6.up h.b7.box (by decide)) hpq).trans h.b6.up⟩, hb, h.pr.same (hS.same g h.pr.lt hgz hgq), h.pok, h.pl, h.bel.trans (hS.bel lo hlz hlq hlo)⟩
theorem PrM.move {w1 W W' : World} {lo bx bz bp bq g n : Nat} {ls : List (List Int)} {l6 : Int} {u6 : List Int} {a7 : Int} {f7 : Nat → Int} {ps qs : List Int} (h : PrM w1 W lo bx bz bp bq g n ls l6 u6 a7 f7 ps) (hS : SumI W g g W') (hq : IntB W' g qs) (hqo : PrOk qs) (hql : qs.length = ps.length)
    (hgx : g ≠ bx) (hgz : g ≠ bz) (hgp : g ≠ bp) (hgq : g ≠ bq) (hlg : lo ≤ g) (hlo : lo ≤ W.heap.size) : PrM w1 W' lo bx bz bp bq g n ls l6 u6 a7 f7 qs :=
  ⟨h.bil, ⟨(hS.same bx (size_of_block h.b6.box) hgx.symm hgx.symm).trans h.b6.box, (hS.same bp (size_of_block h.b6.up) hgp.symm hgp.symm).trans h.b6.up⟩, ⟨(hS.same bz (size_of_block h.b7.box) hgz.symm hgz.symm).trans h.b7.box, (hS.same bq (size_of_block h.b7.up) hgq.symm hgq.symm).trans h.b7.up⟩, hq, hqo, by rw [hql]; exact h.pl, h.bel.trans (hS.bel lo hlg hlg hlo)⟩
theorem tdiv_bound15 {a D : Int} (h1 : -(256 * D) ≤ a) (h2 : a ≤ 256 * D) : -D ≤ a.tdiv 256 ∧ a.tdiv 256 ≤ D := by
  by_cases h : 0 ≤ a
  · rw [Int.tdiv_eq_ediv_of_nonneg h]
    omega
  · obtain ⟨b, rfl⟩ : ∃ b, a = -b := ⟨-a, by omega⟩
    rw [Int.neg_tdiv, Int.tdiv_eq_ediv_of_nonneg (show 0 ≤ b by omega)]
    omega
theorem len_bound15 {x X : Int} {L : Nat} (hL : L ≤ 256) (hX : 0 ≤ X) (h1 : -X ≤ x) (h2 : x ≤ X) : -(256 * X) ≤ x * (L : Int) ∧ x * (L : Int) ≤ 256 * X := by
  have a := Int.mul_le_mul_of_nonneg_right h1 (show (0 : Int) ≤ (L : Int) by omega)
  have b := Int.mul_le_mul_of_nonneg_right h2 (show (0 : Int) ≤ (L : Int) by omega)
  have c := Int.mul_le_mul_of_nonneg_left (show (L : Int) ≤ 256 by omega) hX
  constructor
  · have : -X * (L : Int) = -(X * L) := Int.neg_mul _ _
    omega
  · omega
set_option maxHeartbeats 8000000 in
set_option maxRecDepth 100000 in
theorem priced15_any (n : Nat) (V : Value) (ls : List (List Int)) (most : Int) (w : World) (hV : MatAt w w.heap.size V ls) (hn : n ≤ 100) (hls : ls.length ≤ 100) (hr : rightM n ls = true) (hne : ∀ r, r ∈ ls → r ≠ []) (h0 : ls ≠ []) (hm : -1000000000000 ≤ most ∧ most ≤ 1000000000000) :
    Calls Try.prog 56 #[mtv n V, .int .i64 most] w fun e w' => ∃ least up ub, e = .returned (.agg #[.int .i64 least, .slice (some ⟨ub, 0, none⟩) n n]) ∧ BillOk n ls least up ∧ w.heap.size ≤ ub ∧ w'.heap[ub]? = some (celO 3 n fun p => .int .i64 (up.getD p 0)) ∧ Below w.heap.size w w' := by
  have hB0 := two_below14 w (mtb n V) (.cells #[.int .i64 0, .slice none 0 0] 77 (0, 0))
  have ht := two_made14 w (mtb n V) (.cells #[.int .i64 0, .slice none 0 0] 77 (0, 0))
  have hsz : ((w.alloc (mtb n V)).alloc (.cells #[.int .i64 0, .slice none 0 0] 77 (0, 0))).heap.size = w.heap.size + 2 := by simp
  obtain ⟨hn0', hn4, hri⟩ := right_iff.1 hr
  have HF := fair15_any n V ls _ ((hV.below hB0).more hB0.size) (by omega) (by omega) hri hne
  have hVN : MatN w (fun b => b < w.heap.size) V ls := hV.toN (fun b h => h)
  have hVH := Lib.hid hV
  have hmk := fun w => make_ints14 n (by omega) w
  obtain ⟨A, c, rfl, hl, -⟩ := hV
  unfold mtv at *
  unfold mtb at *
  obtain ⟨m0, m1, -⟩ := now2 ht.1 rfl
  have hriH := Lib.hid hri
  have hneH := Lib.hid hne
  have h0H := Lib.hid h0
  have hlow := Lib.hid (low_of hr)
  clear hr hri hne h0
  go_enter Try.func56, Try.ntmps56
  go_wp2_with fail
  generalize (w.alloc _).alloc _ = w0 at *
  refine HF.mono ?_
  rintro e w1 ⟨P, ps, rfl, hown, hpl, hpo, hb1⟩
  have hB1 := hB0.trans (hb1.mono hB0.size)
  have hmb := keep_blk hb1 ht.1
  have hrb := keep_blk hb1 ht.2
  have hps0 : 0 < ps.length := by rw [hpl]; exact List.length_pos_iff.2 h0H.out
  obtain ⟨g, cp, rfl, hg, hpB⟩ := own_intB15 hown hps0
  have hplH := Lib.hid hpl
  have hs1 := hb1.size
  have hgl := hpB.lt
  clear HF m0 m1 hB0 hown hpl ht hb1
  obtain ⟨m0, m1, -⟩ := now2 hmb rfl
  obtain ⟨a0, a1, -⟩ := box2 hmb rfl
  have hg2 : w.heap.size + 2 ≤ g := by omega
  go_wp2
  go_cut [6, 7] from 12 to 19 (fun s6 s7 wc => ∃ bx bz bp bq : Nat, s6 = .pointer (some ⟨bx, 0, none⟩) ∧ s7 = .pointer (some ⟨bz, 0, none⟩) ∧ wc.heap[bx]? = some (.cells #[.int .i64 0, .slice (some ⟨bp, 0, none⟩) n n] 77 (0, 0)) ∧ wc.heap[bz]? = some (.cells #[.int .i64 0, .slice (some ⟨bq, 0, none⟩) n n] 77 (0, 0)) ∧
    wc.heap[bp]? = some (celO 3 n fun _ => .int .i64 0) ∧ wc.heap[bq]? = some (celO 3 n fun _ => .int .i64 0) ∧ w1.heap.size ≤ bx ∧ w1.heap.size ≤ bz ∧ w1.heap.size ≤ bp ∧ w1.heap.size ≤ bq ∧ bx ≠ bz ∧ bp ≠ bq ∧ Below w1.heap.size w1 wc)
  case first =>
    clear hmb hrb hpB hVN hVH
    refine wp_region_held_drew (S := fun W_ => Below w1.heap.size w1 W_) rfl (Below.refl _ w1).drew (fun hHeld => ?_)
    obtain ⟨X0, hX0⟩ : ∃ X0, X0 = w1.drew := ⟨_, rfl⟩
    rw [← hX0] at hHeld ⊢
    clear hX0
    refine wpAnyH_take (i := 0) (oi := _) (v := ?_) rfl (by kernel_rfl) (by kernel_rfl) (by kernel_rfl) (fun _ _ _ h => h) (Or.inl ⟨by rfl, ?_⟩) (by assumption) ?_
    rotate_left 1
    · intro w_ hSw
      go_simp
      try with_reducible rfl
    try simp only [Act.put, List.setIfInBounds_toArray]
    refine wpAnyH_take (i := 1) (oi := _) (v := ?_) rfl (by kernel_rfl) (by kernel_rfl) (by kernel_rfl) (fun _ _ _ h => h) (Or.inl ⟨by rfl, ?_⟩) (by assumption) ?_
    rotate_left 1
    · intro w_ hSw
      have q_a0 := a0 ⟨w_, hSw⟩
      have q_a1 := a1 ⟨w_, hSw⟩
      dsimp only at q_a0 q_a1
      go_simp
      try with_reducible rfl
    try simp only [Act.put]
    refine wpAnyH_take (i := 4) (oi := _) (v := ?_) rfl (by kernel_rfl) (by kernel_rfl) (by kernel_rfl) (fun _ _ _ h => h) (Or.inl ⟨by rfl, ?_⟩) (by assumption) ?_
    rotate_left 1
    · intro w_ hSw
      go_simp
      try with_reducible rfl
    try simp only [Act.put]
    refine wpAnyH_take (i := 5) (oi := _) (v := ?_) rfl (by kernel_rfl) (by kernel_rfl) (by kernel_rfl) (fun _ _ _ h => h) (Or.inl ⟨by rfl, ?_⟩) (by assumption) ?_
    rotate_left 1
    · intro w_ hSw
      have q_a0 := a0 ⟨w_, hSw⟩
      have q_a1 := a1 ⟨w_, hSw⟩
      dsimp only at q_a0 q_a1
      go_simp
      try with_reducible rfl
    try simp only [Act.put]
    refine wpAnyH_ready (rs := [2, 6, 8, 9]) (by kernel_rfl) (by simp) ?_
    refine AllReadyH.cons (o := _) rfl (fun _ hK => ?_) ?_
    · go_simp
      have np := heap_alloc_new X0 (celO 3 n fun _ => .int .i64 0)
      have hal := hHeld.alloc hHeld.size (celO 3 n fun _ => .int .i64 0)
      have lp := hHeld.size
      generalize X0.heap.size = bp at *
      generalize X0.alloc (celO 3 n fun _ => .int .i64 0) = X1 at *
      refine hK.out _ _ hal (fun hHeld => ?_)
      clear hal
      clear hK
      try simp only [Act.put, List.setIfInBounds_toArray, List.set_cons_zero, List.set_cons_succ]
      refine wpAnyH_take (i := 3) (oi := _) (v := ?_) rfl (by kernel_rfl) (by kernel_rfl) (by kernel_rfl) (fun _ _ _ h => h) (Or.inl ⟨by rfl, ?_⟩) (by assumption) ?_
      rotate_left 1
      · intro w_ hSw
        go_simp
        try with_reducible rfl
      try simp only [Act.put, List.setIfInBounds_toArray]
      refine wpAnyH_ready (rs := [6, 8, 9]) (by kernel_rfl) (by simp) ?_
      refine AllReadyH.cons (o := _) rfl (fun _ hK => ?_) ?_
      · go_simp
        have nq := heap_alloc_new X1 (celO 3 n fun _ => .int .i64 0)
        have hal := hHeld.alloc hHeld.size (celO 3 n fun _ => .int .i64 0)
        have lq := hHeld.size
        have dpq := size_of_block np
        replace np := keep_alloc (x := celO 3 n fun _ => .int .i64 0) np
        generalize X1.heap.size = bq at *
        generalize X1.alloc (celO 3 n fun _ => .int .i64 0) = X2 at *
        refine hK.out _ _ hal (fun hHeld => ?_)
        clear hal
        clear hK
        try simp only [Act.put, List.setIfInBounds_toArray, List.set_cons_zero, List.set_cons_succ]
        refine wpAnyH_take (i := 7) (oi := _) (v := ?_) rfl (by kernel_rfl) (by kernel_rfl) (by kernel_rfl) (fun _ _ _ h => h) (Or.inl ⟨by rfl, ?_⟩) (by assumption) ?_
        rotate_left 1
        · intro w_ hSw
          go_simp
          try with_reducible rfl
        try simp only [Act.put, List.setIfInBounds_toArray]
        refine wpAnyH_ready (rs := [8, 9]) (by kernel_rfl) (by simp) ?_
        refine AllReadyH.cons (o := _) rfl (fun _ hK => ?_) ?_
        · go_simp
          have nx := heap_alloc_new X2 (.cells #[.int .i64 0, .slice none 0 0] 77 (0, 0))
          have hal := hHeld.alloc hHeld.size (.cells #[.int .i64 0, .slice none 0 0] 77 (0, 0))
          have lx := hHeld.size
          have dpx := size_of_block np
          replace np := keep_alloc (x := .cells #[.int .i64 0, .slice none 0 0] 77 (0, 0)) np
          have dqx := size_of_block nq
          replace nq := keep_alloc (x := .cells #[.int .i64 0, .slice none 0 0] 77 (0, 0)) nq
          generalize X2.heap.size = bx at *
          generalize X2.alloc (.cells #[.int .i64 0, .slice none 0 0] 77 (0, 0)) = X3 at *
          refine hK.out _ _ hal (fun hHeld => ?_)
          clear hal
          clear hK
          try simp only [Act.put, List.setIfInBounds_toArray, List.set_cons_zero, List.set_cons_succ]
          refine wpAnyH_ready (rs := [9]) (by kernel_rfl) (by simp) ?_
          refine AllReadyH.cons (o := _) rfl (fun _ hK => ?_) AllReadyH.nil
          go_simp
          have nz := heap_alloc_new X3 (.cells #[.int .i64 0, .slice none 0 0] 77 (0, 0))
          have hal := hHeld.alloc hHeld.size (.cells #[.int .i64 0, .slice none 0 0] 77 (0, 0))
          have lz := hHeld.size
          have dpz := size_of_block np
          replace np := keep_alloc (x := .cells #[.int .i64 0, .slice none 0 0] 77 (0, 0)) np
          have dqz := size_of_block nq
          replace nq := keep_alloc (x := .cells #[.int .i64 0, .slice none 0 0] 77 (0, 0)) nq
          have dxz := size_of_block nx
          replace nx := keep_alloc (x := .cells #[.int .i64 0, .slice none 0 0] 77 (0, 0)) nx
          generalize X3.heap.size = bz at *
          generalize X3.alloc (.cells #[.int .i64 0, .slice none 0 0] 77 (0, 0)) = X4 at *
          refine hK.out _ _ hal (fun hHeld => ?_)
          clear hal
          clear hK
          try simp only [Act.put, List.setIfInBounds_toArray, List.set_cons_zero, List.set_cons_succ]
          refine wpAnyH_ready (rs := [10]) (by kernel_rfl) (by simp) ?_
          refine AllReadyH.cons (o := _) rfl (fun _ hK => ?_) AllReadyH.nil
          obtain ⟨y0, y1, yf⟩ := now2 nx rfl
          go_simp
          clear y0 y1 yf
          refine hK.out _ _ ((hHeld.setCell (by show w1.heap.size ≤ bx; omega) _).setCell (by show w1.heap.size ≤ bx; omega) _) (fun hHeld => ?_)
          replace np := keep_set (a := ⟨bx, 1, none⟩) (u := .slice (some ⟨bp, 0, none⟩) n n) (by show bp ≠ bx; omega) (keep_set (a := ⟨bx, 0, none⟩) (u := .int .i64 0) (by show bp ≠ bx; omega) np)
          replace nq := keep_set (a := ⟨bx, 1, none⟩) (u := .slice (some ⟨bp, 0, none⟩) n n) (by show bq ≠ bx; omega) (keep_set (a := ⟨bx, 0, none⟩) (u := .int .i64 0) (by show bq ≠ bx; omega) nq)
          replace nz := keep_set (a := ⟨bx, 1, none⟩) (u := .slice (some ⟨bp, 0, none⟩) n n) (by show bz ≠ bx; omega) (keep_set (a := ⟨bx, 0, none⟩) (u := .int .i64 0) (by show bz ≠ bx; omega) nz)
          replace nx := put2 (x0 := .int .i64 0) (x1 := .slice (some ⟨bp, 0, none⟩) n n) nx
          generalize (X4.setCell ⟨bx, 0, none⟩ (.int .i64 0)).setCell ⟨bx, 1, none⟩ (.slice (some ⟨bp, 0, none⟩) n n) = X5 at *
          clear hK
          try simp only [Act.put, List.setIfInBounds_toArray, List.set_cons_zero, List.set_cons_succ]
          refine wpAnyH_ready (rs := [11]) (by kernel_rfl) (by simp) ?_
          refine AllReadyH.cons (o := _) rfl (fun _ hK => ?_) AllReadyH.nil
          obtain ⟨y0, y1, yf⟩ := now2 nz rfl
          go_simp
          clear y0 y1 yf
          refine hK.out _ _ ((hHeld.setCell (by show w1.heap.size ≤ bz; omega) _).setCell (by show w1.heap.size ≤ bz; omega) _) (fun hHeld => ?_)
          replace np := keep_set (a := ⟨bz, 1, none⟩) (u := .slice (some ⟨bq, 0, none⟩) n n) (by show bp ≠ bz; omega) (keep_set (a := ⟨bz, 0, none⟩) (u := .int .i64 0) (by show bp ≠ bz; omega) np)
          replace nq := keep_set (a := ⟨bz, 1, none⟩) (u := .slice (some ⟨bq, 0, none⟩) n n) (by show bq ≠ bz; omega) (keep_set (a := ⟨bz, 0, none⟩) (u := .int .i64 0) (by show bq ≠ bz; omega) nq)
          replace nx := keep_set (a := ⟨bz, 1, none⟩) (u := .slice (some ⟨bq, 0, none⟩) n n) (by show bx ≠ bz; omega) (keep_set (a := ⟨bz, 0, none⟩) (u := .int .i64 0) (by show bx ≠ bz; omega) nx)
          replace nz := put2 (x0 := .int .i64 0) (x1 := .slice (some ⟨bq, 0, none⟩) n n) nz
          generalize (X5.setCell ⟨bz, 0, none⟩ (.int .i64 0)).setCell ⟨bz, 1, none⟩ (.slice (some ⟨bq, 0, none⟩) n n) = X6 at *
          clear hK
          try simp only [Act.put, List.setIfInBounds_toArray, List.set_cons_zero, List.set_cons_succ]
          refine wpAnyH_done (by kernel_rfl) ?_ _
          go_wp2_with fail
          go_meet
          exact ⟨bx, bz, bp, bq, rfl, rfl, nx, nz, np, nq, lx, lz, lp, lq, by omega, by omega, hHeld⟩
        refine AllReadyH.cons (o := _) rfl (fun _ hK => ?_) AllReadyH.nil
        go_simp
        have nz := heap_alloc_new X2 (.cells #[.int .i64 0, .slice none 0 0] 77 (0, 0))
        have hal := hHeld.alloc hHeld.size (.cells #[.int .i64 0, .slice none 0 0] 77 (0, 0))
        have lz := hHeld.size
        have dpz := size_of_block np
        replace np := keep_alloc (x := .cells #[.int .i64 0, .slice none 0 0] 77 (0, 0)) np
        have dqz := size_of_block nq
        replace nq := keep_alloc (x := .cells #[.int .i64 0, .slice none 0 0] 77 (0, 0)) nq
        generalize X2.heap.size = bz at *
        generalize X2.alloc (.cells #[.int .i64 0, .slice none 0 0] 77 (0, 0)) = X3 at *
        refine hK.out _ _ hal (fun hHeld => ?_)
        clear hal
        clear hK
        try simp only [Act.put, List.setIfInBounds_toArray, List.set_cons_zero, List.set_cons_succ]
        refine wpAnyH_ready (rs := [8]) (by kernel_rfl) (by simp) ?_
        refine AllReadyH.cons (o := _) rfl (fun _ hK => ?_) AllReadyH.nil
        go_simp
        have nx := heap_alloc_new X3 (.cells #[.int .i64 0, .slice none 0 0] 77 (0, 0))
        have hal := hHeld.alloc hHeld.size (.cells #[.int .i64 0, .slice none 0 0] 77 (0, 0))
        have lx := hHeld.size
        have dpx := size_of_block np
        replace np := keep_alloc (x := .cells #[.int .i64 0, .slice none 0 0] 77 (0, 0)) np
        have dqx := size_of_block nq
        replace nq := keep_alloc (x := .cells #[.int .i64 0, .slice none 0 0] 77 (0, 0)) nq
        have dzx := size_of_block nz
        replace nz := keep_alloc (x := .cells #[.int .i64 0, .slice none 0 0] 77 (0, 0)) nz
        generalize X3.heap.size = bx at *
        generalize X3.alloc (.cells #[.int .i64 0, .slice none 0 0] 77 (0, 0)) = X4 at *
        refine hK.out _ _ hal (fun hHeld => ?_)
        clear hal
        clear hK
        try simp only [Act.put, List.setIfInBounds_toArray, List.set_cons_zero, List.set_cons_succ]
        refine wpAnyH_ready (rs := [10]) (by kernel_rfl) (by simp) ?_
        refine AllReadyH.cons (o := _) rfl (fun _ hK => ?_) AllReadyH.nil
        obtain ⟨y0, y1, yf⟩ := now2 nx rfl
        go_simp
        clear y0 y1 yf
        refine hK.out _ _ ((hHeld.setCell (by show w1.heap.size ≤ bx; omega) _).setCell (by show w1.heap.size ≤ bx; omega) _) (fun hHeld => ?_)
        replace np := keep_set (a := ⟨bx, 1, none⟩) (u := .slice (some ⟨bp, 0, none⟩) n n) (by show bp ≠ bx; omega) (keep_set (a := ⟨bx, 0, none⟩) (u := .int .i64 0) (by show bp ≠ bx; omega) np)
        replace nq := keep_set (a := ⟨bx, 1, none⟩) (u := .slice (some ⟨bp, 0, none⟩) n n) (by show bq ≠ bx; omega) (keep_set (a := ⟨bx, 0, none⟩) (u := .int .i64 0) (by show bq ≠ bx; omega) nq)
        replace nz := keep_set (a := ⟨bx, 1, none⟩) (u := .slice (some ⟨bp, 0, none⟩) n n) (by show bz ≠ bx; omega) (keep_set (a := ⟨bx, 0, none⟩) (u := .int .i64 0) (by show bz ≠ bx; omega) nz)
        replace nx := put2 (x0 := .int .i64 0) (x1 := .slice (some ⟨bp, 0, none⟩) n n) nx
        generalize (X4.setCell ⟨bx, 0, none⟩ (.int .i64 0)).setCell ⟨bx, 1, none⟩ (.slice (some ⟨bp, 0, none⟩) n n) = X5 at *
        clear hK
        try simp only [Act.put, List.setIfInBounds_toArray, List.set_cons_zero, List.set_cons_succ]
        refine wpAnyH_ready (rs := [11]) (by kernel_rfl) (by simp) ?_
        refine AllReadyH.cons (o := _) rfl (fun _ hK => ?_) AllReadyH.nil
        obtain ⟨y0, y1, yf⟩ := now2 nz rfl
        go_simp
        clear y0 y1 yf
        refine hK.out _ _ ((hHeld.setCell (by show w1.heap.size ≤ bz; omega) _).setCell (by show w1.heap.size ≤ bz; omega) _) (fun hHeld => ?_)
        replace np := keep_set (a := ⟨bz, 1, none⟩) (u := .slice (some ⟨bq, 0, none⟩) n n) (by show bp ≠ bz; omega) (keep_set (a := ⟨bz, 0, none⟩) (u := .int .i64 0) (by show bp ≠ bz; omega) np)
        replace nq := keep_set (a := ⟨bz, 1, none⟩) (u := .slice (some ⟨bq, 0, none⟩) n n) (by show bq ≠ bz; omega) (keep_set (a := ⟨bz, 0, none⟩) (u := .int .i64 0) (by show bq ≠ bz; omega) nq)
        replace nx := keep_set (a := ⟨bz, 1, none⟩) (u := .slice (some ⟨bq, 0, none⟩) n n) (by show bx ≠ bz; omega) (keep_set (a := ⟨bz, 0, none⟩) (u := .int .i64 0) (by show bx ≠ bz; omega) nx)
        replace nz := put2 (x0 := .int .i64 0) (x1 := .slice (some ⟨bq, 0, none⟩) n n) nz
        generalize (X5.setCell ⟨bz, 0, none⟩ (.int .i64 0)).setCell ⟨bz, 1, none⟩ (.slice (some ⟨bq, 0, none⟩) n n) = X6 at *
        clear hK
        try simp only [Act.put, List.setIfInBounds_toArray, List.set_cons_zero, List.set_cons_succ]
        refine wpAnyH_done (by kernel_rfl) ?_ _
        go_wp2_with fail
        go_meet
        exact ⟨bx, bz, bp, bq, rfl, rfl, nx, nz, np, nq, lx, lz, lp, lq, by omega, by omega, hHeld⟩
      refine AllReadyH.cons (o := _) rfl (fun _ hK => ?_) ?_
      · go_simp
        have nx := heap_alloc_new X1 (.cells #[.int .i64 0, .slice none 0 0] 77 (0, 0))
        have hal := hHeld.alloc hHeld.size (.cells #[.int .i64 0, .slice none 0 0] 77 (0, 0))
        have lx := hHeld.size
        have dpx := size_of_block np
        replace np := keep_alloc (x := .cells #[.int .i64 0, .slice none 0 0] 77 (0, 0)) np
        generalize X1.heap.size = bx at *
        generalize X1.alloc (.cells #[.int .i64 0, .slice none 0 0] 77 (0, 0)) = X2 at *
        refine hK.out _ _ hal (fun hHeld => ?_)
        clear hal
        clear hK
        try simp only [Act.put, List.setIfInBounds_toArray, List.set_cons_zero, List.set_cons_succ]
        refine wpAnyH_ready (rs := [6, 9]) (by kernel_rfl) (by simp) ?_
        refine AllReadyH.cons (o := _) rfl (fun _ hK => ?_) ?_
        · go_simp
          have nq := heap_alloc_new X2 (celO 3 n fun _ => .int .i64 0)
          have hal := hHeld.alloc hHeld.size (celO 3 n fun _ => .int .i64 0)
          have lq := hHeld.size
          have dpq := size_of_block np
          replace np := keep_alloc (x := celO 3 n fun _ => .int .i64 0) np
          have dxq := size_of_block nx
          replace nx := keep_alloc (x := celO 3 n fun _ => .int .i64 0) nx
          generalize X2.heap.size = bq at *
          generalize X2.alloc (celO 3 n fun _ => .int .i64 0) = X3 at *
          refine hK.out _ _ hal (fun hHeld => ?_)
          clear hal
          clear hK
          try simp only [Act.put, List.setIfInBounds_toArray, List.set_cons_zero, List.set_cons_succ]
          refine wpAnyH_take (i := 7) (oi := _) (v := ?_) rfl (by kernel_rfl) (by kernel_rfl) (by kernel_rfl) (fun _ _ _ h => h) (Or.inl ⟨by rfl, ?_⟩) (by assumption) ?_
          rotate_left 1
          · intro w_ hSw
            go_simp
            try with_reducible rfl
          try simp only [Act.put, List.setIfInBounds_toArray]
          refine wpAnyH_ready (rs := [9]) (by kernel_rfl) (by simp) ?_
          refine AllReadyH.cons (o := _) rfl (fun _ hK => ?_) AllReadyH.nil
          go_simp
          have nz := heap_alloc_new X3 (.cells #[.int .i64 0, .slice none 0 0] 77 (0, 0))
          have hal := hHeld.alloc hHeld.size (.cells #[.int .i64 0, .slice none 0 0] 77 (0, 0))
          have lz := hHeld.size
          have dpz := size_of_block np
          replace np := keep_alloc (x := .cells #[.int .i64 0, .slice none 0 0] 77 (0, 0)) np
          have dxz := size_of_block nx
          replace nx := keep_alloc (x := .cells #[.int .i64 0, .slice none 0 0] 77 (0, 0)) nx
          have dqz := size_of_block nq
          replace nq := keep_alloc (x := .cells #[.int .i64 0, .slice none 0 0] 77 (0, 0)) nq
          generalize X3.heap.size = bz at *
          generalize X3.alloc (.cells #[.int .i64 0, .slice none 0 0] 77 (0, 0)) = X4 at *
          refine hK.out _ _ hal (fun hHeld => ?_)
          clear hal
          clear hK
          try simp only [Act.put, List.setIfInBounds_toArray, List.set_cons_zero, List.set_cons_succ]
          refine wpAnyH_ready (rs := [10]) (by kernel_rfl) (by simp) ?_
          refine AllReadyH.cons (o := _) rfl (fun _ hK => ?_) AllReadyH.nil
          obtain ⟨y0, y1, yf⟩ := now2 nx rfl
          go_simp
          clear y0 y1 yf
          refine hK.out _ _ ((hHeld.setCell (by show w1.heap.size ≤ bx; omega) _).setCell (by show w1.heap.size ≤ bx; omega) _) (fun hHeld => ?_)
          replace np := keep_set (a := ⟨bx, 1, none⟩) (u := .slice (some ⟨bp, 0, none⟩) n n) (by show bp ≠ bx; omega) (keep_set (a := ⟨bx, 0, none⟩) (u := .int .i64 0) (by show bp ≠ bx; omega) np)
          replace nq := keep_set (a := ⟨bx, 1, none⟩) (u := .slice (some ⟨bp, 0, none⟩) n n) (by show bq ≠ bx; omega) (keep_set (a := ⟨bx, 0, none⟩) (u := .int .i64 0) (by show bq ≠ bx; omega) nq)
          replace nz := keep_set (a := ⟨bx, 1, none⟩) (u := .slice (some ⟨bp, 0, none⟩) n n) (by show bz ≠ bx; omega) (keep_set (a := ⟨bx, 0, none⟩) (u := .int .i64 0) (by show bz ≠ bx; omega) nz)
          replace nx := put2 (x0 := .int .i64 0) (x1 := .slice (some ⟨bp, 0, none⟩) n n) nx
          generalize (X4.setCell ⟨bx, 0, none⟩ (.int .i64 0)).setCell ⟨bx, 1, none⟩ (.slice (some ⟨bp, 0, none⟩) n n) = X5 at *
          clear hK
          try simp only [Act.put, List.setIfInBounds_toArray, List.set_cons_zero, List.set_cons_succ]
          refine wpAnyH_ready (rs := [11]) (by kernel_rfl) (by simp) ?_
          refine AllReadyH.cons (o := _) rfl (fun _ hK => ?_) AllReadyH.nil
          obtain ⟨y0, y1, yf⟩ := now2 nz rfl
          go_simp
          clear y0 y1 yf
          refine hK.out _ _ ((hHeld.setCell (by show w1.heap.size ≤ bz; omega) _).setCell (by show w1.heap.size ≤ bz; omega) _) (fun hHeld => ?_)
          replace np := keep_set (a := ⟨bz, 1, none⟩) (u := .slice (some ⟨bq, 0, none⟩) n n) (by show bp ≠ bz; omega) (keep_set (a := ⟨bz, 0, none⟩) (u := .int .i64 0) (by show bp ≠ bz; omega) np)
          replace nx := keep_set (a := ⟨bz, 1, none⟩) (u := .slice (some ⟨bq, 0, none⟩) n n) (by show bx ≠ bz; omega) (keep_set (a := ⟨bz, 0, none⟩) (u := .int .i64 0) (by show bx ≠ bz; omega) nx)
          replace nq := keep_set (a := ⟨bz, 1, none⟩) (u := .slice (some ⟨bq, 0, none⟩) n n) (by show bq ≠ bz; omega) (keep_set (a := ⟨bz, 0, none⟩) (u := .int .i64 0) (by show bq ≠ bz; omega) nq)
          replace nz := put2 (x0 := .int .i64 0) (x1 := .slice (some ⟨bq, 0, none⟩) n n) nz
          generalize (X5.setCell ⟨bz, 0, none⟩ (.int .i64 0)).setCell ⟨bz, 1, none⟩ (.slice (some ⟨bq, 0, none⟩) n n) = X6 at *
          clear hK
          try simp only [Act.put, List.setIfInBounds_toArray, List.set_cons_zero, List.set_cons_succ]
          refine wpAnyH_done (by kernel_rfl) ?_ _
          go_wp2_with fail
          go_meet
          exact ⟨bx, bz, bp, bq, rfl, rfl, nx, nz, np, nq, lx, lz, lp, lq, by omega, by omega, hHeld⟩
        refine AllReadyH.cons (o := _) rfl (fun _ hK => ?_) AllReadyH.nil
        go_simp
        have nz := heap_alloc_new X2 (.cells #[.int .i64 0, .slice none 0 0] 77 (0, 0))
        have hal := hHeld.alloc hHeld.size (.cells #[.int .i64 0, .slice none 0 0] 77 (0, 0))
        have lz := hHeld.size
        have dpz := size_of_block np
        replace np := keep_alloc (x := .cells #[.int .i64 0, .slice none 0 0] 77 (0, 0)) np
        have dxz := size_of_block nx
        replace nx := keep_alloc (x := .cells #[.int .i64 0, .slice none 0 0] 77 (0, 0)) nx
        generalize X2.heap.size = bz at *
        generalize X2.alloc (.cells #[.int .i64 0, .slice none 0 0] 77 (0, 0)) = X3 at *
        refine hK.out _ _ hal (fun hHeld => ?_)
        clear hal
        clear hK
        try simp only [Act.put, List.setIfInBounds_toArray, List.set_cons_zero, List.set_cons_succ]
        refine wpAnyH_ready (rs := [6, 10]) (by kernel_rfl) (by simp) ?_
        refine AllReadyH.cons (o := _) rfl (fun _ hK => ?_) ?_
        · go_simp
          have nq := heap_alloc_new X3 (celO 3 n fun _ => .int .i64 0)
          have hal := hHeld.alloc hHeld.size (celO 3 n fun _ => .int .i64 0)
          have lq := hHeld.size
          have dpq := size_of_block np
          replace np := keep_alloc (x := celO 3 n fun _ => .int .i64 0) np
          have dxq := size_of_block nx
          replace nx := keep_alloc (x := celO 3 n fun _ => .int .i64 0) nx
          have dzq := size_of_block nz
          replace nz := keep_alloc (x := celO 3 n fun _ => .int .i64 0) nz
          generalize X3.heap.size = bq at *
          generalize X3.alloc (celO 3 n fun _ => .int .i64 0) = X4 at *
          refine hK.out _ _ hal (fun hHeld => ?_)
          clear hal
          clear hK
          try simp only [Act.put, List.setIfInBounds_toArray, List.set_cons_zero, List.set_cons_succ]
          refine wpAnyH_take (i := 7) (oi := _) (v := ?_) rfl (by kernel_rfl) (by kernel_rfl) (by kernel_rfl) (fun _ _ _ h => h) (Or.inl ⟨by rfl, ?_⟩) (by assumption) ?_
          rotate_left 1
          · intro w_ hSw
            go_simp
            try with_reducible rfl
          try simp only [Act.put, List.setIfInBounds_toArray]
          refine wpAnyH_ready (rs := [10]) (by kernel_rfl) (by simp) ?_
          refine AllReadyH.cons (o := _) rfl (fun _ hK => ?_) AllReadyH.nil
          obtain ⟨y0, y1, yf⟩ := now2 nx rfl
          go_simp
          clear y0 y1 yf
          refine hK.out _ _ ((hHeld.setCell (by show w1.heap.size ≤ bx; omega) _).setCell (by show w1.heap.size ≤ bx; omega) _) (fun hHeld => ?_)
          replace np := keep_set (a := ⟨bx, 1, none⟩) (u := .slice (some ⟨bp, 0, none⟩) n n) (by show bp ≠ bx; omega) (keep_set (a := ⟨bx, 0, none⟩) (u := .int .i64 0) (by show bp ≠ bx; omega) np)
          replace nz := keep_set (a := ⟨bx, 1, none⟩) (u := .slice (some ⟨bp, 0, none⟩) n n) (by show bz ≠ bx; omega) (keep_set (a := ⟨bx, 0, none⟩) (u := .int .i64 0) (by show bz ≠ bx; omega) nz)
          replace nq := keep_set (a := ⟨bx, 1, none⟩) (u := .slice (some ⟨bp, 0, none⟩) n n) (by show bq ≠ bx; omega) (keep_set (a := ⟨bx, 0, none⟩) (u := .int .i64 0) (by show bq ≠ bx; omega) nq)
          replace nx := put2 (x0 := .int .i64 0) (x1 := .slice (some ⟨bp, 0, none⟩) n n) nx
          generalize (X4.setCell ⟨bx, 0, none⟩ (.int .i64 0)).setCell ⟨bx, 1, none⟩ (.slice (some ⟨bp, 0, none⟩) n n) = X5 at *
          clear hK
          try simp only [Act.put, List.setIfInBounds_toArray, List.set_cons_zero, List.set_cons_succ]
          refine wpAnyH_ready (rs := [11]) (by kernel_rfl) (by simp) ?_
          refine AllReadyH.cons (o := _) rfl (fun _ hK => ?_) AllReadyH.nil
          obtain ⟨y0, y1, yf⟩ := now2 nz rfl
          go_simp
          clear y0 y1 yf
          refine hK.out _ _ ((hHeld.setCell (by show w1.heap.size ≤ bz; omega) _).setCell (by show w1.heap.size ≤ bz; omega) _) (fun hHeld => ?_)
          replace np := keep_set (a := ⟨bz, 1, none⟩) (u := .slice (some ⟨bq, 0, none⟩) n n) (by show bp ≠ bz; omega) (keep_set (a := ⟨bz, 0, none⟩) (u := .int .i64 0) (by show bp ≠ bz; omega) np)
          replace nx := keep_set (a := ⟨bz, 1, none⟩) (u := .slice (some ⟨bq, 0, none⟩) n n) (by show bx ≠ bz; omega) (keep_set (a := ⟨bz, 0, none⟩) (u := .int .i64 0) (by show bx ≠ bz; omega) nx)
          replace nq := keep_set (a := ⟨bz, 1, none⟩) (u := .slice (some ⟨bq, 0, none⟩) n n) (by show bq ≠ bz; omega) (keep_set (a := ⟨bz, 0, none⟩) (u := .int .i64 0) (by show bq ≠ bz; omega) nq)
          replace nz := put2 (x0 := .int .i64 0) (x1 := .slice (some ⟨bq, 0, none⟩) n n) nz
          generalize (X5.setCell ⟨bz, 0, none⟩ (.int .i64 0)).setCell ⟨bz, 1, none⟩ (.slice (some ⟨bq, 0, none⟩) n n) = X6 at *
          clear hK
          try simp only [Act.put, List.setIfInBounds_toArray, List.set_cons_zero, List.set_cons_succ]
          refine wpAnyH_done (by kernel_rfl) ?_ _
          go_wp2_with fail
          go_meet
          exact ⟨bx, bz, bp, bq, rfl, rfl, nx, nz, np, nq, lx, lz, lp, lq, by omega, by omega, hHeld⟩
        refine AllReadyH.cons (o := _) rfl (fun _ hK => ?_) AllReadyH.nil
        obtain ⟨y0, y1, yf⟩ := now2 nx rfl
        go_simp
        clear y0 y1 yf
        refine hK.out _ _ ((hHeld.setCell (by show w1.heap.size ≤ bx; omega) _).setCell (by show w1.heap.size ≤ bx; omega) _) (fun hHeld => ?_)
        replace np := keep_set (a := ⟨bx, 1, none⟩) (u := .slice (some ⟨bp, 0, none⟩) n n) (by show bp ≠ bx; omega) (keep_set (a := ⟨bx, 0, none⟩) (u := .int .i64 0) (by show bp ≠ bx; omega) np)
        replace nz := keep_set (a := ⟨bx, 1, none⟩) (u := .slice (some ⟨bp, 0, none⟩) n n) (by show bz ≠ bx; omega) (keep_set (a := ⟨bx, 0, none⟩) (u := .int .i64 0) (by show bz ≠ bx; omega) nz)
        replace nx := put2 (x0 := .int .i64 0) (x1 := .slice (some ⟨bp, 0, none⟩) n n) nx
        generalize (X3.setCell ⟨bx, 0, none⟩ (.int .i64 0)).setCell ⟨bx, 1, none⟩ (.slice (some ⟨bp, 0, none⟩) n n) = X4 at *
        clear hK
        try simp only [Act.put, List.setIfInBounds_toArray, List.set_cons_zero, List.set_cons_succ]
        refine wpAnyH_ready (rs := [6]) (by kernel_rfl) (by simp) ?_
        refine AllReadyH.cons (o := _) rfl (fun _ hK => ?_) AllReadyH.nil
        go_simp
        have nq := heap_alloc_new X4 (celO 3 n fun _ => .int .i64 0)
        have hal := hHeld.alloc hHeld.size (celO 3 n fun _ => .int .i64 0)
        have lq := hHeld.size
        have dpq := size_of_block np
        replace np := keep_alloc (x := celO 3 n fun _ => .int .i64 0) np
        have dxq := size_of_block nx
        replace nx := keep_alloc (x := celO 3 n fun _ => .int .i64 0) nx
        have dzq := size_of_block nz
        replace nz := keep_alloc (x := celO 3 n fun _ => .int .i64 0) nz
        generalize X4.heap.size = bq at *
        generalize X4.alloc (celO 3 n fun _ => .int .i64 0) = X5 at *
        refine hK.out _ _ hal (fun hHeld => ?_)
        clear hal
        clear hK
        try simp only [Act.put, List.setIfInBounds_toArray, List.set_cons_zero, List.set_cons_succ]
        refine wpAnyH_take (i := 7) (oi := _) (v := ?_) rfl (by kernel_rfl) (by kernel_rfl) (by kernel_rfl) (fun _ _ _ h => h) (Or.inl ⟨by rfl, ?_⟩) (by assumption) ?_
        rotate_left 1
        · intro w_ hSw
          go_simp
          try with_reducible rfl
        try simp only [Act.put, List.setIfInBounds_toArray]
        refine wpAnyH_ready (rs := [11]) (by kernel_rfl) (by simp) ?_
        refine AllReadyH.cons (o := _) rfl (fun _ hK => ?_) AllReadyH.nil
        obtain ⟨y0, y1, yf⟩ := now2 nz rfl
        go_simp
        clear y0 y1 yf
        refine hK.out _ _ ((hHeld.setCell (by show w1.heap.size ≤ bz; omega) _).setCell (by show w1.heap.size ≤ bz; omega) _) (fun hHeld => ?_)
        replace np := keep_set (a := ⟨bz, 1, none⟩) (u := .slice (some ⟨bq, 0, none⟩) n n) (by show bp ≠ bz; omega) (keep_set (a := ⟨bz, 0, none⟩) (u := .int .i64 0) (by show bp ≠ bz; omega) np)
        replace nx := keep_set (a := ⟨bz, 1, none⟩) (u := .slice (some ⟨bq, 0, none⟩) n n) (by show bx ≠ bz; omega) (keep_set (a := ⟨bz, 0, none⟩) (u := .int .i64 0) (by show bx ≠ bz; omega) nx)
        replace nq := keep_set (a := ⟨bz, 1, none⟩) (u := .slice (some ⟨bq, 0, none⟩) n n) (by show bq ≠ bz; omega) (keep_set (a := ⟨bz, 0, none⟩) (u := .int .i64 0) (by show bq ≠ bz; omega) nq)
        replace nz := put2 (x0 := .int .i64 0) (x1 := .slice (some ⟨bq, 0, none⟩) n n) nz
        generalize (X5.setCell ⟨bz, 0, none⟩ (.int .i64 0)).setCell ⟨bz, 1, none⟩ (.slice (some ⟨bq, 0, none⟩) n n) = X6 at *
        clear hK
        try simp only [Act.put, List.setIfInBounds_toArray, List.set_cons_zero, List.set_cons_succ]
        refine wpAnyH_done (by kernel_rfl) ?_ _
        go_wp2_with fail
        go_meet
        exact ⟨bx, bz, bp, bq, rfl, rfl, nx, nz, np, nq, lx, lz, lp, lq, by omega, by omega, hHeld⟩
      refine AllReadyH.cons (o := _) rfl (fun _ hK => ?_) AllReadyH.nil
      go_simp
      have nz := heap_alloc_new X1 (.cells #[.int .i64 0, .slice none 0 0] 77 (0, 0))
      have hal := hHeld.alloc hHeld.size (.cells #[.int .i64 0, .slice none 0 0] 77 (0, 0))
      have lz := hHeld.size
      have dpz := size_of_block np
      replace np := keep_alloc (x := .cells #[.int .i64 0, .slice none 0 0] 77 (0, 0)) np
      generalize X1.heap.size = bz at *
      generalize X1.alloc (.cells #[.int .i64 0, .slice none 0 0] 77 (0, 0)) = X2 at *
      refine hK.out _ _ hal (fun hHeld => ?_)
      clear hal
      clear hK
      try simp only [Act.put, List.setIfInBounds_toArray, List.set_cons_zero, List.set_cons_succ]
      refine wpAnyH_ready (rs := [6, 8]) (by kernel_rfl) (by simp) ?_
      refine AllReadyH.cons (o := _) rfl (fun _ hK => ?_) ?_
      · go_simp
        have nq := heap_alloc_new X2 (celO 3 n fun _ => .int .i64 0)
        have hal := hHeld.alloc hHeld.size (celO 3 n fun _ => .int .i64 0)
        have lq := hHeld.size
        have dpq := size_of_block np
        replace np := keep_alloc (x := celO 3 n fun _ => .int .i64 0) np
        have dzq := size_of_block nz
        replace nz := keep_alloc (x := celO 3 n fun _ => .int .i64 0) nz
        generalize X2.heap.size = bq at *
        generalize X2.alloc (celO 3 n fun _ => .int .i64 0) = X3 at *
        refine hK.out _ _ hal (fun hHeld => ?_)
        clear hal
        clear hK
        try simp only [Act.put, List.setIfInBounds_toArray, List.set_cons_zero, List.set_cons_succ]
        refine wpAnyH_take (i := 7) (oi := _) (v := ?_) rfl (by kernel_rfl) (by kernel_rfl) (by kernel_rfl) (fun _ _ _ h => h) (Or.inl ⟨by rfl, ?_⟩) (by assumption) ?_
        rotate_left 1
        · intro w_ hSw
          go_simp
          try with_reducible rfl
        try simp only [Act.put, List.setIfInBounds_toArray]
        refine wpAnyH_ready (rs := [8]) (by kernel_rfl) (by simp) ?_
        refine AllReadyH.cons (o := _) rfl (fun _ hK => ?_) AllReadyH.nil
        go_simp
        have nx := heap_alloc_new X3 (.cells #[.int .i64 0, .slice none 0 0] 77 (0, 0))
        have hal := hHeld.alloc hHeld.size (.cells #[.int .i64 0, .slice none 0 0] 77 (0, 0))
        have lx := hHeld.size
        have dpx := size_of_block np
        replace np := keep_alloc (x := .cells #[.int .i64 0, .slice none 0 0] 77 (0, 0)) np
        have dzx := size_of_block nz
        replace nz := keep_alloc (x := .cells #[.int .i64 0, .slice none 0 0] 77 (0, 0)) nz
        have dqx := size_of_block nq
        replace nq := keep_alloc (x := .cells #[.int .i64 0, .slice none 0 0] 77 (0, 0)) nq
        generalize X3.heap.size = bx at *
        generalize X3.alloc (.cells #[.int .i64 0, .slice none 0 0] 77 (0, 0)) = X4 at *
        refine hK.out _ _ hal (fun hHeld => ?_)
        clear hal
        clear hK
        try simp only [Act.put, List.setIfInBounds_toArray, List.set_cons_zero, List.set_cons_succ]
        refine wpAnyH_ready (rs := [10]) (by kernel_rfl) (by simp) ?_
        refine AllReadyH.cons (o := _) rfl (fun _ hK => ?_) AllReadyH.nil
        obtain ⟨y0, y1, yf⟩ := now2 nx rfl
        go_simp
        clear y0 y1 yf
        refine hK.out _ _ ((hHeld.setCell (by show w1.heap.size ≤ bx; omega) _).setCell (by show w1.heap.size ≤ bx; omega) _) (fun hHeld => ?_)
        replace np := keep_set (a := ⟨bx, 1, none⟩) (u := .slice (some ⟨bp, 0, none⟩) n n) (by show bp ≠ bx; omega) (keep_set (a := ⟨bx, 0, none⟩) (u := .int .i64 0) (by show bp ≠ bx; omega) np)
        replace nz := keep_set (a := ⟨bx, 1, none⟩) (u := .slice (some ⟨bp, 0, none⟩) n n) (by show bz ≠ bx; omega) (keep_set (a := ⟨bx, 0, none⟩) (u := .int .i64 0) (by show bz ≠ bx; omega) nz)
        replace nq := keep_set (a := ⟨bx, 1, none⟩) (u := .slice (some ⟨bp, 0, none⟩) n n) (by show bq ≠ bx; omega) (keep_set (a := ⟨bx, 0, none⟩) (u := .int .i64 0) (by show bq ≠ bx; omega) nq)
        replace nx := put2 (x0 := .int .i64 0) (x1 := .slice (some ⟨bp, 0, none⟩) n n) nx
        generalize (X4.setCell ⟨bx, 0, none⟩ (.int .i64 0)).setCell ⟨bx, 1, none⟩ (.slice (some ⟨bp, 0, none⟩) n n) = X5 at *
        clear hK
        try simp only [Act.put, List.setIfInBounds_toArray, List.set_cons_zero, List.set_cons_succ]
        refine wpAnyH_ready (rs := [11]) (by kernel_rfl) (by simp) ?_
        refine AllReadyH.cons (o := _) rfl (fun _ hK => ?_) AllReadyH.nil
        obtain ⟨y0, y1, yf⟩ := now2 nz rfl
        go_simp
        clear y0 y1 yf
        refine hK.out _ _ ((hHeld.setCell (by show w1.heap.size ≤ bz; omega) _).setCell (by show w1.heap.size ≤ bz; omega) _) (fun hHeld => ?_)
        replace np := keep_set (a := ⟨bz, 1, none⟩) (u := .slice (some ⟨bq, 0, none⟩) n n) (by show bp ≠ bz; omega) (keep_set (a := ⟨bz, 0, none⟩) (u := .int .i64 0) (by show bp ≠ bz; omega) np)
        replace nq := keep_set (a := ⟨bz, 1, none⟩) (u := .slice (some ⟨bq, 0, none⟩) n n) (by show bq ≠ bz; omega) (keep_set (a := ⟨bz, 0, none⟩) (u := .int .i64 0) (by show bq ≠ bz; omega) nq)
        replace nx := keep_set (a := ⟨bz, 1, none⟩) (u := .slice (some ⟨bq, 0, none⟩) n n) (by show bx ≠ bz; omega) (keep_set (a := ⟨bz, 0, none⟩) (u := .int .i64 0) (by show bx ≠ bz; omega) nx)
        replace nz := put2 (x0 := .int .i64 0) (x1 := .slice (some ⟨bq, 0, none⟩) n n) nz
        generalize (X5.setCell ⟨bz, 0, none⟩ (.int .i64 0)).setCell ⟨bz, 1, none⟩ (.slice (some ⟨bq, 0, none⟩) n n) = X6 at *
        clear hK
        try simp only [Act.put, List.setIfInBounds_toArray, List.set_cons_zero, List.set_cons_succ]
        refine wpAnyH_done (by kernel_rfl) ?_ _
        go_wp2_with fail
        go_meet
        exact ⟨bx, bz, bp, bq, rfl, rfl, nx, nz, np, nq, lx, lz, lp, lq, by omega, by omega, hHeld⟩
      refine AllReadyH.cons (o := _) rfl (fun _ hK => ?_) AllReadyH.nil
      go_simp
      have nx := heap_alloc_new X2 (.cells #[.int .i64 0, .slice none 0 0] 77 (0, 0))
      have hal := hHeld.alloc hHeld.size (.cells #[.int .i64 0, .slice none 0 0] 77 (0, 0))
      have lx := hHeld.size
      have dpx := size_of_block np
      replace np := keep_alloc (x := .cells #[.int .i64 0, .slice none 0 0] 77 (0, 0)) np
      have dzx := size_of_block nz
      replace nz := keep_alloc (x := .cells #[.int .i64 0, .slice none 0 0] 77 (0, 0)) nz
      generalize X2.heap.size = bx at *
      generalize X2.alloc (.cells #[.int .i64 0, .slice none 0 0] 77 (0, 0)) = X3 at *
      refine hK.out _ _ hal (fun hHeld => ?_)
      clear hal
      clear hK
      try simp only [Act.put, List.setIfInBounds_toArray, List.set_cons_zero, List.set_cons_succ]
      refine wpAnyH_ready (rs := [6, 10]) (by kernel_rfl) (by simp) ?_
      refine AllReadyH.cons (o := _) rfl (fun _ hK => ?_) ?_
      · go_simp
        have nq := heap_alloc_new X3 (celO 3 n fun _ => .int .i64 0)
        have hal := hHeld.alloc hHeld.size (celO 3 n fun _ => .int .i64 0)
        have lq := hHeld.size
        have dpq := size_of_block np
        replace np := keep_alloc (x := celO 3 n fun _ => .int .i64 0) np
        have dzq := size_of_block nz
        replace nz := keep_alloc (x := celO 3 n fun _ => .int .i64 0) nz
        have dxq := size_of_block nx
        replace nx := keep_alloc (x := celO 3 n fun _ => .int .i64 0) nx
        generalize X3.heap.size = bq at *
        generalize X3.alloc (celO 3 n fun _ => .int .i64 0) = X4 at *
        refine hK.out _ _ hal (fun hHeld => ?_)
        clear hal
        clear hK
        try simp only [Act.put, List.setIfInBounds_toArray, List.set_cons_zero, List.set_cons_succ]
        refine wpAnyH_take (i := 7) (oi := _) (v := ?_) rfl (by kernel_rfl) (by kernel_rfl) (by kernel_rfl) (fun _ _ _ h => h) (Or.inl ⟨by rfl, ?_⟩) (by assumption) ?_
        rotate_left 1
        · intro w_ hSw
          go_simp
          try with_reducible rfl
        try simp only [Act.put, List.setIfInBounds_toArray]
        refine wpAnyH_ready (rs := [10]) (by kernel_rfl) (by simp) ?_
        refine AllReadyH.cons (o := _) rfl (fun _ hK => ?_) AllReadyH.nil
        obtain ⟨y0, y1, yf⟩ := now2 nx rfl
        go_simp
        clear y0 y1 yf
        refine hK.out _ _ ((hHeld.setCell (by show w1.heap.size ≤ bx; omega) _).setCell (by show w1.heap.size ≤ bx; omega) _) (fun hHeld => ?_)
        replace np := keep_set (a := ⟨bx, 1, none⟩) (u := .slice (some ⟨bp, 0, none⟩) n n) (by show bp ≠ bx; omega) (keep_set (a := ⟨bx, 0, none⟩) (u := .int .i64 0) (by show bp ≠ bx; omega) np)
        replace nz := keep_set (a := ⟨bx, 1, none⟩) (u := .slice (some ⟨bp, 0, none⟩) n n) (by show bz ≠ bx; omega) (keep_set (a := ⟨bx, 0, none⟩) (u := .int .i64 0) (by show bz ≠ bx; omega) nz)
        replace nq := keep_set (a := ⟨bx, 1, none⟩) (u := .slice (some ⟨bp, 0, none⟩) n n) (by show bq ≠ bx; omega) (keep_set (a := ⟨bx, 0, none⟩) (u := .int .i64 0) (by show bq ≠ bx; omega) nq)
        replace nx := put2 (x0 := .int .i64 0) (x1 := .slice (some ⟨bp, 0, none⟩) n n) nx
        generalize (X4.setCell ⟨bx, 0, none⟩ (.int .i64 0)).setCell ⟨bx, 1, none⟩ (.slice (some ⟨bp, 0, none⟩) n n) = X5 at *
        clear hK
        try simp only [Act.put, List.setIfInBounds_toArray, List.set_cons_zero, List.set_cons_succ]
        refine wpAnyH_ready (rs := [11]) (by kernel_rfl) (by simp) ?_
        refine AllReadyH.cons (o := _) rfl (fun _ hK => ?_) AllReadyH.nil
        obtain ⟨y0, y1, yf⟩ := now2 nz rfl
        go_simp
        clear y0 y1 yf
        refine hK.out _ _ ((hHeld.setCell (by show w1.heap.size ≤ bz; omega) _).setCell (by show w1.heap.size ≤ bz; omega) _) (fun hHeld => ?_)
        replace np := keep_set (a := ⟨bz, 1, none⟩) (u := .slice (some ⟨bq, 0, none⟩) n n) (by show bp ≠ bz; omega) (keep_set (a := ⟨bz, 0, none⟩) (u := .int .i64 0) (by show bp ≠ bz; omega) np)
        replace nx := keep_set (a := ⟨bz, 1, none⟩) (u := .slice (some ⟨bq, 0, none⟩) n n) (by show bx ≠ bz; omega) (keep_set (a := ⟨bz, 0, none⟩) (u := .int .i64 0) (by show bx ≠ bz; omega) nx)
        replace nq := keep_set (a := ⟨bz, 1, none⟩) (u := .slice (some ⟨bq, 0, none⟩) n n) (by show bq ≠ bz; omega) (keep_set (a := ⟨bz, 0, none⟩) (u := .int .i64 0) (by show bq ≠ bz; omega) nq)
        replace nz := put2 (x0 := .int .i64 0) (x1 := .slice (some ⟨bq, 0, none⟩) n n) nz
        generalize (X5.setCell ⟨bz, 0, none⟩ (.int .i64 0)).setCell ⟨bz, 1, none⟩ (.slice (some ⟨bq, 0, none⟩) n n) = X6 at *
        clear hK
        try simp only [Act.put, List.setIfInBounds_toArray, List.set_cons_zero, List.set_cons_succ]
        refine wpAnyH_done (by kernel_rfl) ?_ _
        go_wp2_with fail
        go_meet
        exact ⟨bx, bz, bp, bq, rfl, rfl, nx, nz, np, nq, lx, lz, lp, lq, by omega, by omega, hHeld⟩
      refine AllReadyH.cons (o := _) rfl (fun _ hK => ?_) AllReadyH.nil
      obtain ⟨y0, y1, yf⟩ := now2 nx rfl
      go_simp
      clear y0 y1 yf
      refine hK.out _ _ ((hHeld.setCell (by show w1.heap.size ≤ bx; omega) _).setCell (by show w1.heap.size ≤ bx; omega) _) (fun hHeld => ?_)
      replace np := keep_set (a := ⟨bx, 1, none⟩) (u := .slice (some ⟨bp, 0, none⟩) n n) (by show bp ≠ bx; omega) (keep_set (a := ⟨bx, 0, none⟩) (u := .int .i64 0) (by show bp ≠ bx; omega) np)
      replace nz := keep_set (a := ⟨bx, 1, none⟩) (u := .slice (some ⟨bp, 0, none⟩) n n) (by show bz ≠ bx; omega) (keep_set (a := ⟨bx, 0, none⟩) (u := .int .i64 0) (by show bz ≠ bx; omega) nz)
      replace nx := put2 (x0 := .int .i64 0) (x1 := .slice (some ⟨bp, 0, none⟩) n n) nx
      generalize (X3.setCell ⟨bx, 0, none⟩ (.int .i64 0)).setCell ⟨bx, 1, none⟩ (.slice (some ⟨bp, 0, none⟩) n n) = X4 at *
      clear hK
      try simp only [Act.put, List.setIfInBounds_toArray, List.set_cons_zero, List.set_cons_succ]
      refine wpAnyH_ready (rs := [6]) (by kernel_rfl) (by simp) ?_
      refine AllReadyH.cons (o := _) rfl (fun _ hK => ?_) AllReadyH.nil
      go_simp
      have nq := heap_alloc_new X4 (celO 3 n fun _ => .int .i64 0)
      have hal := hHeld.alloc hHeld.size (celO 3 n fun _ => .int .i64 0)
      have lq := hHeld.size
      have dpq := size_of_block np
      replace np := keep_alloc (x := celO 3 n fun _ => .int .i64 0) np
      have dzq := size_of_block nz
      replace nz := keep_alloc (x := celO 3 n fun _ => .int .i64 0) nz
      have dxq := size_of_block nx
      replace nx := keep_alloc (x := celO 3 n fun _ => .int .i64 0) nx
      generalize X4.heap.size = bq at *
      generalize X4.alloc (celO 3 n fun _ => .int .i64 0) = X5 at *
      refine hK.out _ _ hal (fun hHeld => ?_)
      clear hal
      clear hK
      try simp only [Act.put, List.setIfInBounds_toArray, List.set_cons_zero, List.set_cons_succ]
      refine wpAnyH_take (i := 7) (oi := _) (v := ?_) rfl (by kernel_rfl) (by kernel_rfl) (by kernel_rfl) (fun _ _ _ h => h) (Or.inl ⟨by rfl, ?_⟩) (by assumption) ?_
      rotate_left 1
      · intro w_ hSw
        go_simp
        try with_reducible rfl
      try simp only [Act.put, List.setIfInBounds_toArray]
      refine wpAnyH_ready (rs := [11]) (by kernel_rfl) (by simp) ?_
      refine AllReadyH.cons (o := _) rfl (fun _ hK => ?_) AllReadyH.nil
      obtain ⟨y0, y1, yf⟩ := now2 nz rfl
      go_simp
      clear y0 y1 yf
      refine hK.out _ _ ((hHeld.setCell (by show w1.heap.size ≤ bz; omega) _).setCell (by show w1.heap.size ≤ bz; omega) _) (fun hHeld => ?_)
      replace np := keep_set (a := ⟨bz, 1, none⟩) (u := .slice (some ⟨bq, 0, none⟩) n n) (by show bp ≠ bz; omega) (keep_set (a := ⟨bz, 0, none⟩) (u := .int .i64 0) (by show bp ≠ bz; omega) np)
      replace nx := keep_set (a := ⟨bz, 1, none⟩) (u := .slice (some ⟨bq, 0, none⟩) n n) (by show bx ≠ bz; omega) (keep_set (a := ⟨bz, 0, none⟩) (u := .int .i64 0) (by show bx ≠ bz; omega) nx)
      replace nq := keep_set (a := ⟨bz, 1, none⟩) (u := .slice (some ⟨bq, 0, none⟩) n n) (by show bq ≠ bz; omega) (keep_set (a := ⟨bz, 0, none⟩) (u := .int .i64 0) (by show bq ≠ bz; omega) nq)
      replace nz := put2 (x0 := .int .i64 0) (x1 := .slice (some ⟨bq, 0, none⟩) n n) nz
      generalize (X5.setCell ⟨bz, 0, none⟩ (.int .i64 0)).setCell ⟨bz, 1, none⟩ (.slice (some ⟨bq, 0, none⟩) n n) = X6 at *
      clear hK
      try simp only [Act.put, List.setIfInBounds_toArray, List.set_cons_zero, List.set_cons_succ]
      refine wpAnyH_done (by kernel_rfl) ?_ _
      go_wp2_with fail
      go_meet
      exact ⟨bx, bz, bp, bq, rfl, rfl, nx, nz, np, nq, lx, lz, lp, lq, by omega, by omega, hHeld⟩
    refine AllReadyH.cons (o := _) rfl (fun _ hK => ?_) ?_
    · go_simp
      have nq := heap_alloc_new X0 (celO 3 n fun _ => .int .i64 0)
      have hal := hHeld.alloc hHeld.size (celO 3 n fun _ => .int .i64 0)
      have lq := hHeld.size
      generalize X0.heap.size = bq at *
      generalize X0.alloc (celO 3 n fun _ => .int .i64 0) = X1 at *
      refine hK.out _ _ hal (fun hHeld => ?_)
      clear hal
      clear hK
      try simp only [Act.put, List.setIfInBounds_toArray, List.set_cons_zero, List.set_cons_succ]
      refine wpAnyH_take (i := 7) (oi := _) (v := ?_) rfl (by kernel_rfl) (by kernel_rfl) (by kernel_rfl) (fun _ _ _ h => h) (Or.inl ⟨by rfl, ?_⟩) (by assumption) ?_
      rotate_left 1
      · intro w_ hSw
        go_simp
        try with_reducible rfl
      try simp only [Act.put, List.setIfInBounds_toArray]
      refine wpAnyH_ready (rs := [2, 8, 9]) (by kernel_rfl) (by simp) ?_
      refine AllReadyH.cons (o := _) rfl (fun _ hK => ?_) ?_
      · go_simp
        have np := heap_alloc_new X1 (celO 3 n fun _ => .int .i64 0)
        have hal := hHeld.alloc hHeld.size (celO 3 n fun _ => .int .i64 0)
        have lp := hHeld.size
        have dqp := size_of_block nq
        replace nq := keep_alloc (x := celO 3 n fun _ => .int .i64 0) nq
        generalize X1.heap.size = bp at *
        generalize X1.alloc (celO 3 n fun _ => .int .i64 0) = X2 at *
        refine hK.out _ _ hal (fun hHeld => ?_)
        clear hal
        clear hK
        try simp only [Act.put, List.setIfInBounds_toArray, List.set_cons_zero, List.set_cons_succ]
        refine wpAnyH_take (i := 3) (oi := _) (v := ?_) rfl (by kernel_rfl) (by kernel_rfl) (by kernel_rfl) (fun _ _ _ h => h) (Or.inl ⟨by rfl, ?_⟩) (by assumption) ?_
        rotate_left 1
        · intro w_ hSw
          go_simp
          try with_reducible rfl
        try simp only [Act.put, List.setIfInBounds_toArray]
        refine wpAnyH_ready (rs := [8, 9]) (by kernel_rfl) (by simp) ?_
        refine AllReadyH.cons (o := _) rfl (fun _ hK => ?_) ?_
        · go_simp
          have nx := heap_alloc_new X2 (.cells #[.int .i64 0, .slice none 0 0] 77 (0, 0))
          have hal := hHeld.alloc hHeld.size (.cells #[.int .i64 0, .slice none 0 0] 77 (0, 0))
          have lx := hHeld.size
          have dqx := size_of_block nq
          replace nq := keep_alloc (x := .cells #[.int .i64 0, .slice none 0 0] 77 (0, 0)) nq
          have dpx := size_of_block np
          replace np := keep_alloc (x := .cells #[.int .i64 0, .slice none 0 0] 77 (0, 0)) np
          generalize X2.heap.size = bx at *
          generalize X2.alloc (.cells #[.int .i64 0, .slice none 0 0] 77 (0, 0)) = X3 at *
          refine hK.out _ _ hal (fun hHeld => ?_)
          clear hal
          clear hK
          try simp only [Act.put, List.setIfInBounds_toArray, List.set_cons_zero, List.set_cons_succ]
          refine wpAnyH_ready (rs := [9]) (by kernel_rfl) (by simp) ?_
          refine AllReadyH.cons (o := _) rfl (fun _ hK => ?_) AllReadyH.nil
          go_simp
          have nz := heap_alloc_new X3 (.cells #[.int .i64 0, .slice none 0 0] 77 (0, 0))
          have hal := hHeld.alloc hHeld.size (.cells #[.int .i64 0, .slice none 0 0] 77 (0, 0))
          have lz := hHeld.size
          have dqz := size_of_block nq
          replace nq := keep_alloc (x := .cells #[.int .i64 0, .slice none 0 0] 77 (0, 0)) nq
          have dpz := size_of_block np
          replace np := keep_alloc (x := .cells #[.int .i64 0, .slice none 0 0] 77 (0, 0)) np
          have dxz := size_of_block nx
          replace nx := keep_alloc (x := .cells #[.int .i64 0, .slice none 0 0] 77 (0, 0)) nx
          generalize X3.heap.size = bz at *
          generalize X3.alloc (.cells #[.int .i64 0, .slice none 0 0] 77 (0, 0)) = X4 at *
          refine hK.out _ _ hal (fun hHeld => ?_)
          clear hal
          clear hK
          try simp only [Act.put, List.setIfInBounds_toArray, List.set_cons_zero, List.set_cons_succ]
          refine wpAnyH_ready (rs := [10]) (by kernel_rfl) (by simp) ?_
          refine AllReadyH.cons (o := _) rfl (fun _ hK => ?_) AllReadyH.nil
          obtain ⟨y0, y1, yf⟩ := now2 nx rfl
          go_simp
          clear y0 y1 yf
          refine hK.out _ _ ((hHeld.setCell (by show w1.heap.size ≤ bx; omega) _).setCell (by show w1.heap.size ≤ bx; omega) _) (fun hHeld => ?_)
          replace nq := keep_set (a := ⟨bx, 1, none⟩) (u := .slice (some ⟨bp, 0, none⟩) n n) (by show bq ≠ bx; omega) (keep_set (a := ⟨bx, 0, none⟩) (u := .int .i64 0) (by show bq ≠ bx; omega) nq)
          replace np := keep_set (a := ⟨bx, 1, none⟩) (u := .slice (some ⟨bp, 0, none⟩) n n) (by show bp ≠ bx; omega) (keep_set (a := ⟨bx, 0, none⟩) (u := .int .i64 0) (by show bp ≠ bx; omega) np)
          replace nz := keep_set (a := ⟨bx, 1, none⟩) (u := .slice (some ⟨bp, 0, none⟩) n n) (by show bz ≠ bx; omega) (keep_set (a := ⟨bx, 0, none⟩) (u := .int .i64 0) (by show bz ≠ bx; omega) nz)
          replace nx := put2 (x0 := .int .i64 0) (x1 := .slice (some ⟨bp, 0, none⟩) n n) nx
          generalize (X4.setCell ⟨bx, 0, none⟩ (.int .i64 0)).setCell ⟨bx, 1, none⟩ (.slice (some ⟨bp, 0, none⟩) n n) = X5 at *
          clear hK
          try simp only [Act.put, List.setIfInBounds_toArray, List.set_cons_zero, List.set_cons_succ]
          refine wpAnyH_ready (rs := [11]) (by kernel_rfl) (by simp) ?_
          refine AllReadyH.cons (o := _) rfl (fun _ hK => ?_) AllReadyH.nil
          obtain ⟨y0, y1, yf⟩ := now2 nz rfl
          go_simp
          clear y0 y1 yf
          refine hK.out _ _ ((hHeld.setCell (by show w1.heap.size ≤ bz; omega) _).setCell (by show w1.heap.size ≤ bz; omega) _) (fun hHeld => ?_)
          replace nq := keep_set (a := ⟨bz, 1, none⟩) (u := .slice (some ⟨bq, 0, none⟩) n n) (by show bq ≠ bz; omega) (keep_set (a := ⟨bz, 0, none⟩) (u := .int .i64 0) (by show bq ≠ bz; omega) nq)
          replace np := keep_set (a := ⟨bz, 1, none⟩) (u := .slice (some ⟨bq, 0, none⟩) n n) (by show bp ≠ bz; omega) (keep_set (a := ⟨bz, 0, none⟩) (u := .int .i64 0) (by show bp ≠ bz; omega) np)
          replace nx := keep_set (a := ⟨bz, 1, none⟩) (u := .slice (some ⟨bq, 0, none⟩) n n) (by show bx ≠ bz; omega) (keep_set (a := ⟨bz, 0, none⟩) (u := .int .i64 0) (by show bx ≠ bz; omega) nx)
          replace nz := put2 (x0 := .int .i64 0) (x1 := .slice (some ⟨bq, 0, none⟩) n n) nz
          generalize (X5.setCell ⟨bz, 0, none⟩ (.int .i64 0)).setCell ⟨bz, 1, none⟩ (.slice (some ⟨bq, 0, none⟩) n n) = X6 at *
          clear hK
          try simp only [Act.put, List.setIfInBounds_toArray, List.set_cons_zero, List.set_cons_succ]
          refine wpAnyH_done (by kernel_rfl) ?_ _
          go_wp2_with fail
          go_meet
          exact ⟨bx, bz, bp, bq, rfl, rfl, nx, nz, np, nq, lx, lz, lp, lq, by omega, by omega, hHeld⟩
        refine AllReadyH.cons (o := _) rfl (fun _ hK => ?_) AllReadyH.nil
        go_simp
        have nz := heap_alloc_new X2 (.cells #[.int .i64 0, .slice none 0 0] 77 (0, 0))
        have hal := hHeld.alloc hHeld.size (.cells #[.int .i64 0, .slice none 0 0] 77 (0, 0))
        have lz := hHeld.size
        have dqz := size_of_block nq
        replace nq := keep_alloc (x := .cells #[.int .i64 0, .slice none 0 0] 77 (0, 0)) nq
        have dpz := size_of_block np
        replace np := keep_alloc (x := .cells #[.int .i64 0, .slice none 0 0] 77 (0, 0)) np
        generalize X2.heap.size = bz at *
        generalize X2.alloc (.cells #[.int .i64 0, .slice none 0 0] 77 (0, 0)) = X3 at *
        refine hK.out _ _ hal (fun hHeld => ?_)
        clear hal
        clear hK
        try simp only [Act.put, List.setIfInBounds_toArray, List.set_cons_zero, List.set_cons_succ]
        refine wpAnyH_ready (rs := [8]) (by kernel_rfl) (by simp) ?_
        refine AllReadyH.cons (o := _) rfl (fun _ hK => ?_) AllReadyH.nil
        go_simp
        have nx := heap_alloc_new X3 (.cells #[.int .i64 0, .slice none 0 0] 77 (0, 0))
        have hal := hHeld.alloc hHeld.size (.cells #[.int .i64 0, .slice none 0 0] 77 (0, 0))
        have lx := hHeld.size
        have dqx := size_of_block nq
        replace nq := keep_alloc (x := .cells #[.int .i64 0, .slice none 0 0] 77 (0, 0)) nq
        have dpx := size_of_block np
        replace np := keep_alloc (x := .cells #[.int .i64 0, .slice none 0 0] 77 (0, 0)) np
        have dzx := size_of_block nz
        replace nz := keep_alloc (x := .cells #[.int .i64 0, .slice none 0 0] 77 (0, 0)) nz
        generalize X3.heap.size = bx at *
        generalize X3.alloc (.cells #[.int .i64 0, .slice none 0 0] 77 (0, 0)) = X4 at *
        refine hK.out _ _ hal (fun hHeld => ?_)
        clear hal
        clear hK
        try simp only [Act.put, List.setIfInBounds_toArray, List.set_cons_zero, List.set_cons_succ]
        refine wpAnyH_ready (rs := [10]) (by kernel_rfl) (by simp) ?_
        refine AllReadyH.cons (o := _) rfl (fun _ hK => ?_) AllReadyH.nil
        obtain ⟨y0, y1, yf⟩ := now2 nx rfl
        go_simp
        clear y0 y1 yf
        refine hK.out _ _ ((hHeld.setCell (by show w1.heap.size ≤ bx; omega) _).setCell (by show w1.heap.size ≤ bx; omega) _) (fun hHeld => ?_)
        replace nq := keep_set (a := ⟨bx, 1, none⟩) (u := .slice (some ⟨bp, 0, none⟩) n n) (by show bq ≠ bx; omega) (keep_set (a := ⟨bx, 0, none⟩) (u := .int .i64 0) (by show bq ≠ bx; omega) nq)
        replace np := keep_set (a := ⟨bx, 1, none⟩) (u := .slice (some ⟨bp, 0, none⟩) n n) (by show bp ≠ bx; omega) (keep_set (a := ⟨bx, 0, none⟩) (u := .int .i64 0) (by show bp ≠ bx; omega) np)
        replace nz := keep_set (a := ⟨bx, 1, none⟩) (u := .slice (some ⟨bp, 0, none⟩) n n) (by show bz ≠ bx; omega) (keep_set (a := ⟨bx, 0, none⟩) (u := .int .i64 0) (by show bz ≠ bx; omega) nz)
        replace nx := put2 (x0 := .int .i64 0) (x1 := .slice (some ⟨bp, 0, none⟩) n n) nx
        generalize (X4.setCell ⟨bx, 0, none⟩ (.int .i64 0)).setCell ⟨bx, 1, none⟩ (.slice (some ⟨bp, 0, none⟩) n n) = X5 at *
        clear hK
        try simp only [Act.put, List.setIfInBounds_toArray, List.set_cons_zero, List.set_cons_succ]
        refine wpAnyH_ready (rs := [11]) (by kernel_rfl) (by simp) ?_
        refine AllReadyH.cons (o := _) rfl (fun _ hK => ?_) AllReadyH.nil
        obtain ⟨y0, y1, yf⟩ := now2 nz rfl
        go_simp
        clear y0 y1 yf
        refine hK.out _ _ ((hHeld.setCell (by show w1.heap.size ≤ bz; omega) _).setCell (by show w1.heap.size ≤ bz; omega) _) (fun hHeld => ?_)
        replace nq := keep_set (a := ⟨bz, 1, none⟩) (u := .slice (some ⟨bq, 0, none⟩) n n) (by show bq ≠ bz; omega) (keep_set (a := ⟨bz, 0, none⟩) (u := .int .i64 0) (by show bq ≠ bz; omega) nq)
        replace np := keep_set (a := ⟨bz, 1, none⟩) (u := .slice (some ⟨bq, 0, none⟩) n n) (by show bp ≠ bz; omega) (keep_set (a := ⟨bz, 0, none⟩) (u := .int .i64 0) (by show bp ≠ bz; omega) np)
        replace nx := keep_set (a := ⟨bz, 1, none⟩) (u := .slice (some ⟨bq, 0, none⟩) n n) (by show bx ≠ bz; omega) (keep_set (a := ⟨bz, 0, none⟩) (u := .int .i64 0) (by show bx ≠ bz; omega) nx)
        replace nz := put2 (x0 := .int .i64 0) (x1 := .slice (some ⟨bq, 0, none⟩) n n) nz
        generalize (X5.setCell ⟨bz, 0, none⟩ (.int .i64 0)).setCell ⟨bz, 1, none⟩ (.slice (some ⟨bq, 0, none⟩) n n) = X6 at *
        clear hK
        try simp only [Act.put, List.setIfInBounds_toArray, List.set_cons_zero, List.set_cons_succ]
        refine wpAnyH_done (by kernel_rfl) ?_ _
        go_wp2_with fail
        go_meet
        exact ⟨bx, bz, bp, bq, rfl, rfl, nx, nz, np, nq, lx, lz, lp, lq, by omega, by omega, hHeld⟩
      refine AllReadyH.cons (o := _) rfl (fun _ hK => ?_) ?_
      · go_simp
        have nx := heap_alloc_new X1 (.cells #[.int .i64 0, .slice none 0 0] 77 (0, 0))
        have hal := hHeld.alloc hHeld.size (.cells #[.int .i64 0, .slice none 0 0] 77 (0, 0))
        have lx := hHeld.size
        have dqx := size_of_block nq
        replace nq := keep_alloc (x := .cells #[.int .i64 0, .slice none 0 0] 77 (0, 0)) nq
        generalize X1.heap.size = bx at *
        generalize X1.alloc (.cells #[.int .i64 0, .slice none 0 0] 77 (0, 0)) = X2 at *
        refine hK.out _ _ hal (fun hHeld => ?_)
        clear hal
        clear hK
        try simp only [Act.put, List.setIfInBounds_toArray, List.set_cons_zero, List.set_cons_succ]
        refine wpAnyH_ready (rs := [2, 9]) (by kernel_rfl) (by simp) ?_
        refine AllReadyH.cons (o := _) rfl (fun _ hK => ?_) ?_
        · go_simp
          have np := heap_alloc_new X2 (celO 3 n fun _ => .int .i64 0)
          have hal := hHeld.alloc hHeld.size (celO 3 n fun _ => .int .i64 0)
          have lp := hHeld.size
          have dqp := size_of_block nq
          replace nq := keep_alloc (x := celO 3 n fun _ => .int .i64 0) nq
          have dxp := size_of_block nx
          replace nx := keep_alloc (x := celO 3 n fun _ => .int .i64 0) nx
          generalize X2.heap.size = bp at *
          generalize X2.alloc (celO 3 n fun _ => .int .i64 0) = X3 at *
          refine hK.out _ _ hal (fun hHeld => ?_)
          clear hal
          clear hK
          try simp only [Act.put, List.setIfInBounds_toArray, List.set_cons_zero, List.set_cons_succ]
          refine wpAnyH_take (i := 3) (oi := _) (v := ?_) rfl (by kernel_rfl) (by kernel_rfl) (by kernel_rfl) (fun _ _ _ h => h) (Or.inl ⟨by rfl, ?_⟩) (by assumption) ?_
          rotate_left 1
          · intro w_ hSw
            go_simp
            try with_reducible rfl
          try simp only [Act.put, List.setIfInBounds_toArray]
          refine wpAnyH_ready (rs := [9]) (by kernel_rfl) (by simp) ?_
          refine AllReadyH.cons (o := _) rfl (fun _ hK => ?_) AllReadyH.nil
          go_simp
          have nz := heap_alloc_new X3 (.cells #[.int .i64 0, .slice none 0 0] 77 (0, 0))
          have hal := hHeld.alloc hHeld.size (.cells #[.int .i64 0, .slice none 0 0] 77 (0, 0))
          have lz := hHeld.size
          have dqz := size_of_block nq
          replace nq := keep_alloc (x := .cells #[.int .i64 0, .slice none 0 0] 77 (0, 0)) nq
          have dxz := size_of_block nx
          replace nx := keep_alloc (x := .cells #[.int .i64 0, .slice none 0 0] 77 (0, 0)) nx
          have dpz := size_of_block np
          replace np := keep_alloc (x := .cells #[.int .i64 0, .slice none 0 0] 77 (0, 0)) np
          generalize X3.heap.size = bz at *
          generalize X3.alloc (.cells #[.int .i64 0, .slice none 0 0] 77 (0, 0)) = X4 at *
          refine hK.out _ _ hal (fun hHeld => ?_)
          clear hal
          clear hK
          try simp only [Act.put, List.setIfInBounds_toArray, List.set_cons_zero, List.set_cons_succ]
          refine wpAnyH_ready (rs := [10]) (by kernel_rfl) (by simp) ?_
          refine AllReadyH.cons (o := _) rfl (fun _ hK => ?_) AllReadyH.nil
          obtain ⟨y0, y1, yf⟩ := now2 nx rfl
          go_simp
          clear y0 y1 yf
          refine hK.out _ _ ((hHeld.setCell (by show w1.heap.size ≤ bx; omega) _).setCell (by show w1.heap.size ≤ bx; omega) _) (fun hHeld => ?_)
          replace nq := keep_set (a := ⟨bx, 1, none⟩) (u := .slice (some ⟨bp, 0, none⟩) n n) (by show bq ≠ bx; omega) (keep_set (a := ⟨bx, 0, none⟩) (u := .int .i64 0) (by show bq ≠ bx; omega) nq)
          replace np := keep_set (a := ⟨bx, 1, none⟩) (u := .slice (some ⟨bp, 0, none⟩) n n) (by show bp ≠ bx; omega) (keep_set (a := ⟨bx, 0, none⟩) (u := .int .i64 0) (by show bp ≠ bx; omega) np)
          replace nz := keep_set (a := ⟨bx, 1, none⟩) (u := .slice (some ⟨bp, 0, none⟩) n n) (by show bz ≠ bx; omega) (keep_set (a := ⟨bx, 0, none⟩) (u := .int .i64 0) (by show bz ≠ bx; omega) nz)
          replace nx := put2 (x0 := .int .i64 0) (x1 := .slice (some ⟨bp, 0, none⟩) n n) nx
          generalize (X4.setCell ⟨bx, 0, none⟩ (.int .i64 0)).setCell ⟨bx, 1, none⟩ (.slice (some ⟨bp, 0, none⟩) n n) = X5 at *
          clear hK
          try simp only [Act.put, List.setIfInBounds_toArray, List.set_cons_zero, List.set_cons_succ]
          refine wpAnyH_ready (rs := [11]) (by kernel_rfl) (by simp) ?_
          refine AllReadyH.cons (o := _) rfl (fun _ hK => ?_) AllReadyH.nil
          obtain ⟨y0, y1, yf⟩ := now2 nz rfl
          go_simp
          clear y0 y1 yf
          refine hK.out _ _ ((hHeld.setCell (by show w1.heap.size ≤ bz; omega) _).setCell (by show w1.heap.size ≤ bz; omega) _) (fun hHeld => ?_)
          replace nq := keep_set (a := ⟨bz, 1, none⟩) (u := .slice (some ⟨bq, 0, none⟩) n n) (by show bq ≠ bz; omega) (keep_set (a := ⟨bz, 0, none⟩) (u := .int .i64 0) (by show bq ≠ bz; omega) nq)
          replace nx := keep_set (a := ⟨bz, 1, none⟩) (u := .slice (some ⟨bq, 0, none⟩) n n) (by show bx ≠ bz; omega) (keep_set (a := ⟨bz, 0, none⟩) (u := .int .i64 0) (by show bx ≠ bz; omega) nx)
          replace np := keep_set (a := ⟨bz, 1, none⟩) (u := .slice (some ⟨bq, 0, none⟩) n n) (by show bp ≠ bz; omega) (keep_set (a := ⟨bz, 0, none⟩) (u := .int .i64 0) (by show bp ≠ bz; omega) np)
          replace nz := put2 (x0 := .int .i64 0) (x1 := .slice (some ⟨bq, 0, none⟩) n n) nz
          generalize (X5.setCell ⟨bz, 0, none⟩ (.int .i64 0)).setCell ⟨bz, 1, none⟩ (.slice (some ⟨bq, 0, none⟩) n n) = X6 at *
          clear hK
          try simp only [Act.put, List.setIfInBounds_toArray, List.set_cons_zero, List.set_cons_succ]
          refine wpAnyH_done (by kernel_rfl) ?_ _
          go_wp2_with fail
          go_meet
          exact ⟨bx, bz, bp, bq, rfl, rfl, nx, nz, np, nq, lx, lz, lp, lq, by omega, by omega, hHeld⟩
        refine AllReadyH.cons (o := _) rfl (fun _ hK => ?_) AllReadyH.nil
        go_simp
        have nz := heap_alloc_new X2 (.cells #[.int .i64 0, .slice none 0 0] 77 (0, 0))
        have hal := hHeld.alloc hHeld.size (.cells #[.int .i64 0, .slice none 0 0] 77 (0, 0))
        have lz := hHeld.size
        have dqz := size_of_block nq
        replace nq := keep_alloc (x := .cells #[.int .i64 0, .slice none 0 0] 77 (0, 0)) nq
        have dxz := size_of_block nx
        replace nx := keep_alloc (x := .cells #[.int .i64 0, .slice none 0 0] 77 (0, 0)) nx
        generalize X2.heap.size = bz at *
        generalize X2.alloc (.cells #[.int .i64 0, .slice none 0 0] 77 (0, 0)) = X3 at *
        refine hK.out _ _ hal (fun hHeld => ?_)
        clear hal
        clear hK
        try simp only [Act.put, List.setIfInBounds_toArray, List.set_cons_zero, List.set_cons_succ]
        refine wpAnyH_ready (rs := [2]) (by kernel_rfl) (by simp) ?_
        refine AllReadyH.cons (o := _) rfl (fun _ hK => ?_) AllReadyH.nil
        go_simp
        have np := heap_alloc_new X3 (celO 3 n fun _ => .int .i64 0)
        have hal := hHeld.alloc hHeld.size (celO 3 n fun _ => .int .i64 0)
        have lp := hHeld.size
        have dqp := size_of_block nq
        replace nq := keep_alloc (x := celO 3 n fun _ => .int .i64 0) nq
        have dxp := size_of_block nx
        replace nx := keep_alloc (x := celO 3 n fun _ => .int .i64 0) nx
        have dzp := size_of_block nz
        replace nz := keep_alloc (x := celO 3 n fun _ => .int .i64 0) nz
        generalize X3.heap.size = bp at *
        generalize X3.alloc (celO 3 n fun _ => .int .i64 0) = X4 at *
        refine hK.out _ _ hal (fun hHeld => ?_)
        clear hal
        clear hK
        try simp only [Act.put, List.setIfInBounds_toArray, List.set_cons_zero, List.set_cons_succ]
        refine wpAnyH_take (i := 3) (oi := _) (v := ?_) rfl (by kernel_rfl) (by kernel_rfl) (by kernel_rfl) (fun _ _ _ h => h) (Or.inl ⟨by rfl, ?_⟩) (by assumption) ?_
        rotate_left 1
        · intro w_ hSw
          go_simp
          try with_reducible rfl
        try simp only [Act.put, List.setIfInBounds_toArray]
        refine wpAnyH_ready (rs := [10]) (by kernel_rfl) (by simp) ?_
        refine AllReadyH.cons (o := _) rfl (fun _ hK => ?_) AllReadyH.nil
        obtain ⟨y0, y1, yf⟩ := now2 nx rfl
        go_simp
        clear y0 y1 yf
        refine hK.out _ _ ((hHeld.setCell (by show w1.heap.size ≤ bx; omega) _).setCell (by show w1.heap.size ≤ bx; omega) _) (fun hHeld => ?_)
        replace nq := keep_set (a := ⟨bx, 1, none⟩) (u := .slice (some ⟨bp, 0, none⟩) n n) (by show bq ≠ bx; omega) (keep_set (a := ⟨bx, 0, none⟩) (u := .int .i64 0) (by show bq ≠ bx; omega) nq)
        replace nz := keep_set (a := ⟨bx, 1, none⟩) (u := .slice (some ⟨bp, 0, none⟩) n n) (by show bz ≠ bx; omega) (keep_set (a := ⟨bx, 0, none⟩) (u := .int .i64 0) (by show bz ≠ bx; omega) nz)
        replace np := keep_set (a := ⟨bx, 1, none⟩) (u := .slice (some ⟨bp, 0, none⟩) n n) (by show bp ≠ bx; omega) (keep_set (a := ⟨bx, 0, none⟩) (u := .int .i64 0) (by show bp ≠ bx; omega) np)
        replace nx := put2 (x0 := .int .i64 0) (x1 := .slice (some ⟨bp, 0, none⟩) n n) nx
        generalize (X4.setCell ⟨bx, 0, none⟩ (.int .i64 0)).setCell ⟨bx, 1, none⟩ (.slice (some ⟨bp, 0, none⟩) n n) = X5 at *
        clear hK
        try simp only [Act.put, List.setIfInBounds_toArray, List.set_cons_zero, List.set_cons_succ]
        refine wpAnyH_ready (rs := [11]) (by kernel_rfl) (by simp) ?_
        refine AllReadyH.cons (o := _) rfl (fun _ hK => ?_) AllReadyH.nil
        obtain ⟨y0, y1, yf⟩ := now2 nz rfl
        go_simp
        clear y0 y1 yf
        refine hK.out _ _ ((hHeld.setCell (by show w1.heap.size ≤ bz; omega) _).setCell (by show w1.heap.size ≤ bz; omega) _) (fun hHeld => ?_)
        replace nq := keep_set (a := ⟨bz, 1, none⟩) (u := .slice (some ⟨bq, 0, none⟩) n n) (by show bq ≠ bz; omega) (keep_set (a := ⟨bz, 0, none⟩) (u := .int .i64 0) (by show bq ≠ bz; omega) nq)
        replace nx := keep_set (a := ⟨bz, 1, none⟩) (u := .slice (some ⟨bq, 0, none⟩) n n) (by show bx ≠ bz; omega) (keep_set (a := ⟨bz, 0, none⟩) (u := .int .i64 0) (by show bx ≠ bz; omega) nx)
        replace np := keep_set (a := ⟨bz, 1, none⟩) (u := .slice (some ⟨bq, 0, none⟩) n n) (by show bp ≠ bz; omega) (keep_set (a := ⟨bz, 0, none⟩) (u := .int .i64 0) (by show bp ≠ bz; omega) np)
        replace nz := put2 (x0 := .int .i64 0) (x1 := .slice (some ⟨bq, 0, none⟩) n n) nz
        generalize (X5.setCell ⟨bz, 0, none⟩ (.int .i64 0)).setCell ⟨bz, 1, none⟩ (.slice (some ⟨bq, 0, none⟩) n n) = X6 at *
        clear hK
        try simp only [Act.put, List.setIfInBounds_toArray, List.set_cons_zero, List.set_cons_succ]
        refine wpAnyH_done (by kernel_rfl) ?_ _
        go_wp2_with fail
        go_meet
        exact ⟨bx, bz, bp, bq, rfl, rfl, nx, nz, np, nq, lx, lz, lp, lq, by omega, by omega, hHeld⟩
      refine AllReadyH.cons (o := _) rfl (fun _ hK => ?_) AllReadyH.nil
      go_simp
      have nz := heap_alloc_new X1 (.cells #[.int .i64 0, .slice none 0 0] 77 (0, 0))
      have hal := hHeld.alloc hHeld.size (.cells #[.int .i64 0, .slice none 0 0] 77 (0, 0))
      have lz := hHeld.size
      have dqz := size_of_block nq
      replace nq := keep_alloc (x := .cells #[.int .i64 0, .slice none 0 0] 77 (0, 0)) nq
      generalize X1.heap.size = bz at *
      generalize X1.alloc (.cells #[.int .i64 0, .slice none 0 0] 77 (0, 0)) = X2 at *
      refine hK.out _ _ hal (fun hHeld => ?_)
      clear hal
      clear hK
      try simp only [Act.put, List.setIfInBounds_toArray, List.set_cons_zero, List.set_cons_succ]
      refine wpAnyH_ready (rs := [2, 8]) (by kernel_rfl) (by simp) ?_
      refine AllReadyH.cons (o := _) rfl (fun _ hK => ?_) ?_
      · go_simp
        have np := heap_alloc_new X2 (celO 3 n fun _ => .int .i64 0)
        have hal := hHeld.alloc hHeld.size (celO 3 n fun _ => .int .i64 0)
        have lp := hHeld.size
        have dqp := size_of_block nq
        replace nq := keep_alloc (x := celO 3 n fun _ => .int .i64 0) nq
        have dzp := size_of_block nz
        replace nz := keep_alloc (x := celO 3 n fun _ => .int .i64 0) nz
        generalize X2.heap.size = bp at *
        generalize X2.alloc (celO 3 n fun _ => .int .i64 0) = X3 at *
        refine hK.out _ _ hal (fun hHeld => ?_)
        clear hal
        clear hK
        try simp only [Act.put, List.setIfInBounds_toArray, List.set_cons_zero, List.set_cons_succ]
        refine wpAnyH_take (i := 3) (oi := _) (v := ?_) rfl (by kernel_rfl) (by kernel_rfl) (by kernel_rfl) (fun _ _ _ h => h) (Or.inl ⟨by rfl, ?_⟩) (by assumption) ?_
        rotate_left 1
        · intro w_ hSw
          go_simp
          try with_reducible rfl
        try simp only [Act.put, List.setIfInBounds_toArray]
        refine wpAnyH_ready (rs := [8]) (by kernel_rfl) (by simp) ?_
        refine AllReadyH.cons (o := _) rfl (fun _ hK => ?_) AllReadyH.nil
        go_simp
        have nx := heap_alloc_new X3 (.cells #[.int .i64 0, .slice none 0 0] 77 (0, 0))
        have hal := hHeld.alloc hHeld.size (.cells #[.int .i64 0, .slice none 0 0] 77 (0, 0))
        have lx := hHeld.size
        have dqx := size_of_block nq
        replace nq := keep_alloc (x := .cells #[.int .i64 0, .slice none 0 0] 77 (0, 0)) nq
        have dzx := size_of_block nz
        replace nz := keep_alloc (x := .cells #[.int .i64 0, .slice none 0 0] 77 (0, 0)) nz
        have dpx := size_of_block np
        replace np := keep_alloc (x := .cells #[.int .i64 0, .slice none 0 0] 77 (0, 0)) np
        generalize X3.heap.size = bx at *
        generalize X3.alloc (.cells #[.int .i64 0, .slice none 0 0] 77 (0, 0)) = X4 at *
        refine hK.out _ _ hal (fun hHeld => ?_)
        clear hal
        clear hK
        try simp only [Act.put, List.setIfInBounds_toArray, List.set_cons_zero, List.set_cons_succ]
        refine wpAnyH_ready (rs := [10]) (by kernel_rfl) (by simp) ?_
        refine AllReadyH.cons (o := _) rfl (fun _ hK => ?_) AllReadyH.nil
        obtain ⟨y0, y1, yf⟩ := now2 nx rfl
        go_simp
        clear y0 y1 yf
        refine hK.out _ _ ((hHeld.setCell (by show w1.heap.size ≤ bx; omega) _).setCell (by show w1.heap.size ≤ bx; omega) _) (fun hHeld => ?_)
        replace nq := keep_set (a := ⟨bx, 1, none⟩) (u := .slice (some ⟨bp, 0, none⟩) n n) (by show bq ≠ bx; omega) (keep_set (a := ⟨bx, 0, none⟩) (u := .int .i64 0) (by show bq ≠ bx; omega) nq)
        replace nz := keep_set (a := ⟨bx, 1, none⟩) (u := .slice (some ⟨bp, 0, none⟩) n n) (by show bz ≠ bx; omega) (keep_set (a := ⟨bx, 0, none⟩) (u := .int .i64 0) (by show bz ≠ bx; omega) nz)
        replace np := keep_set (a := ⟨bx, 1, none⟩) (u := .slice (some ⟨bp, 0, none⟩) n n) (by show bp ≠ bx; omega) (keep_set (a := ⟨bx, 0, none⟩) (u := .int .i64 0) (by show bp ≠ bx; omega) np)
        replace nx := put2 (x0 := .int .i64 0) (x1 := .slice (some ⟨bp, 0, none⟩) n n) nx
        generalize (X4.setCell ⟨bx, 0, none⟩ (.int .i64 0)).setCell ⟨bx, 1, none⟩ (.slice (some ⟨bp, 0, none⟩) n n) = X5 at *
        clear hK
        try simp only [Act.put, List.setIfInBounds_toArray, List.set_cons_zero, List.set_cons_succ]
        refine wpAnyH_ready (rs := [11]) (by kernel_rfl) (by simp) ?_
        refine AllReadyH.cons (o := _) rfl (fun _ hK => ?_) AllReadyH.nil
        obtain ⟨y0, y1, yf⟩ := now2 nz rfl
        go_simp
        clear y0 y1 yf
        refine hK.out _ _ ((hHeld.setCell (by show w1.heap.size ≤ bz; omega) _).setCell (by show w1.heap.size ≤ bz; omega) _) (fun hHeld => ?_)
        replace nq := keep_set (a := ⟨bz, 1, none⟩) (u := .slice (some ⟨bq, 0, none⟩) n n) (by show bq ≠ bz; omega) (keep_set (a := ⟨bz, 0, none⟩) (u := .int .i64 0) (by show bq ≠ bz; omega) nq)
        replace np := keep_set (a := ⟨bz, 1, none⟩) (u := .slice (some ⟨bq, 0, none⟩) n n) (by show bp ≠ bz; omega) (keep_set (a := ⟨bz, 0, none⟩) (u := .int .i64 0) (by show bp ≠ bz; omega) np)
        replace nx := keep_set (a := ⟨bz, 1, none⟩) (u := .slice (some ⟨bq, 0, none⟩) n n) (by show bx ≠ bz; omega) (keep_set (a := ⟨bz, 0, none⟩) (u := .int .i64 0) (by show bx ≠ bz; omega) nx)
        replace nz := put2 (x0 := .int .i64 0) (x1 := .slice (some ⟨bq, 0, none⟩) n n) nz
        generalize (X5.setCell ⟨bz, 0, none⟩ (.int .i64 0)).setCell ⟨bz, 1, none⟩ (.slice (some ⟨bq, 0, none⟩) n n) = X6 at *
        clear hK
        try simp only [Act.put, List.setIfInBounds_toArray, List.set_cons_zero, List.set_cons_succ]
        refine wpAnyH_done (by kernel_rfl) ?_ _
        go_wp2_with fail
        go_meet
        exact ⟨bx, bz, bp, bq, rfl, rfl, nx, nz, np, nq, lx, lz, lp, lq, by omega, by omega, hHeld⟩
      refine AllReadyH.cons (o := _) rfl (fun _ hK => ?_) AllReadyH.nil
      go_simp
      have nx := heap_alloc_new X2 (.cells #[.int .i64 0, .slice none 0 0] 77 (0, 0))
      have hal := hHeld.alloc hHeld.size (.cells #[.int .i64 0, .slice none 0 0] 77 (0, 0))
      have lx := hHeld.size
      have dqx := size_of_block nq
      replace nq := keep_alloc (x := .cells #[.int .i64 0, .slice none 0 0] 77 (0, 0)) nq
      have dzx := size_of_block nz
      replace nz := keep_alloc (x := .cells #[.int .i64 0, .slice none 0 0] 77 (0, 0)) nz
      generalize X2.heap.size = bx at *
      generalize X2.alloc (.cells #[.int .i64 0, .slice none 0 0] 77 (0, 0)) = X3 at *
      refine hK.out _ _ hal (fun hHeld => ?_)
      clear hal
      clear hK
      try simp only [Act.put, List.setIfInBounds_toArray, List.set_cons_zero, List.set_cons_succ]
      refine wpAnyH_ready (rs := [2]) (by kernel_rfl) (by simp) ?_
      refine AllReadyH.cons (o := _) rfl (fun _ hK => ?_) AllReadyH.nil
      go_simp
      have np := heap_alloc_new X3 (celO 3 n fun _ => .int .i64 0)
      have hal := hHeld.alloc hHeld.size (celO 3 n fun _ => .int .i64 0)
      have lp := hHeld.size
      have dqp := size_of_block nq
      replace nq := keep_alloc (x := celO 3 n fun _ => .int .i64 0) nq
      have dzp := size_of_block nz
      replace nz := keep_alloc (x := celO 3 n fun _ => .int .i64 0) nz
      have dxp := size_of_block nx
      replace nx := keep_alloc (x := celO 3 n fun _ => .int .i64 0) nx
      generalize X3.heap.size = bp at *
      generalize X3.alloc (celO 3 n fun _ => .int .i64 0) = X4 at *
      refine hK.out _ _ hal (fun hHeld => ?_)
      clear hal
      clear hK
      try simp only [Act.put, List.setIfInBounds_toArray, List.set_cons_zero, List.set_cons_succ]
      refine wpAnyH_take (i := 3) (oi := _) (v := ?_) rfl (by kernel_rfl) (by kernel_rfl) (by kernel_rfl) (fun _ _ _ h => h) (Or.inl ⟨by rfl, ?_⟩) (by assumption) ?_
      rotate_left 1
      · intro w_ hSw
        go_simp
        try with_reducible rfl
      try simp only [Act.put, List.setIfInBounds_toArray]
      refine wpAnyH_ready (rs := [10]) (by kernel_rfl) (by simp) ?_
      refine AllReadyH.cons (o := _) rfl (fun _ hK => ?_) AllReadyH.nil
      obtain ⟨y0, y1, yf⟩ := now2 nx rfl
      go_simp
      clear y0 y1 yf
      refine hK.out _ _ ((hHeld.setCell (by show w1.heap.size ≤ bx; omega) _).setCell (by show w1.heap.size ≤ bx; omega) _) (fun hHeld => ?_)
      replace nq := keep_set (a := ⟨bx, 1, none⟩) (u := .slice (some ⟨bp, 0, none⟩) n n) (by show bq ≠ bx; omega) (keep_set (a := ⟨bx, 0, none⟩) (u := .int .i64 0) (by show bq ≠ bx; omega) nq)
      replace nz := keep_set (a := ⟨bx, 1, none⟩) (u := .slice (some ⟨bp, 0, none⟩) n n) (by show bz ≠ bx; omega) (keep_set (a := ⟨bx, 0, none⟩) (u := .int .i64 0) (by show bz ≠ bx; omega) nz)
      replace np := keep_set (a := ⟨bx, 1, none⟩) (u := .slice (some ⟨bp, 0, none⟩) n n) (by show bp ≠ bx; omega) (keep_set (a := ⟨bx, 0, none⟩) (u := .int .i64 0) (by show bp ≠ bx; omega) np)
      replace nx := put2 (x0 := .int .i64 0) (x1 := .slice (some ⟨bp, 0, none⟩) n n) nx
      generalize (X4.setCell ⟨bx, 0, none⟩ (.int .i64 0)).setCell ⟨bx, 1, none⟩ (.slice (some ⟨bp, 0, none⟩) n n) = X5 at *
      clear hK
      try simp only [Act.put, List.setIfInBounds_toArray, List.set_cons_zero, List.set_cons_succ]
      refine wpAnyH_ready (rs := [11]) (by kernel_rfl) (by simp) ?_
      refine AllReadyH.cons (o := _) rfl (fun _ hK => ?_) AllReadyH.nil
      obtain ⟨y0, y1, yf⟩ := now2 nz rfl
      go_simp
      clear y0 y1 yf
      refine hK.out _ _ ((hHeld.setCell (by show w1.heap.size ≤ bz; omega) _).setCell (by show w1.heap.size ≤ bz; omega) _) (fun hHeld => ?_)
      replace nq := keep_set (a := ⟨bz, 1, none⟩) (u := .slice (some ⟨bq, 0, none⟩) n n) (by show bq ≠ bz; omega) (keep_set (a := ⟨bz, 0, none⟩) (u := .int .i64 0) (by show bq ≠ bz; omega) nq)
      replace nx := keep_set (a := ⟨bz, 1, none⟩) (u := .slice (some ⟨bq, 0, none⟩) n n) (by show bx ≠ bz; omega) (keep_set (a := ⟨bz, 0, none⟩) (u := .int .i64 0) (by show bx ≠ bz; omega) nx)
      replace np := keep_set (a := ⟨bz, 1, none⟩) (u := .slice (some ⟨bq, 0, none⟩) n n) (by show bp ≠ bz; omega) (keep_set (a := ⟨bz, 0, none⟩) (u := .int .i64 0) (by show bp ≠ bz; omega) np)
      replace nz := put2 (x0 := .int .i64 0) (x1 := .slice (some ⟨bq, 0, none⟩) n n) nz
      generalize (X5.setCell ⟨bz, 0, none⟩ (.int .i64 0)).setCell ⟨bz, 1, none⟩ (.slice (some ⟨bq, 0, none⟩) n n) = X6 at *
      clear hK
      try simp only [Act.put, List.setIfInBounds_toArray, List.set_cons_zero, List.set_cons_succ]
      refine wpAnyH_done (by kernel_rfl) ?_ _
      go_wp2_with fail
      go_meet
      exact ⟨bx, bz, bp, bq, rfl, rfl, nx, nz, np, nq, lx, lz, lp, lq, by omega, by omega, hHeld⟩
    refine AllReadyH.cons (o := _) rfl (fun _ hK => ?_) ?_
    · go_simp
      have nx := heap_alloc_new X0 (.cells #[.int .i64 0, .slice none 0 0] 77 (0, 0))
      have hal := hHeld.alloc hHeld.size (.cells #[.int .i64 0, .slice none 0 0] 77 (0, 0))
      have lx := hHeld.size
      generalize X0.heap.size = bx at *
      generalize X0.alloc (.cells #[.int .i64 0, .slice none 0 0] 77 (0, 0)) = X1 at *
      refine hK.out _ _ hal (fun hHeld => ?_)
      clear hal
      clear hK
      try simp only [Act.put, List.setIfInBounds_toArray, List.set_cons_zero, List.set_cons_succ]
      refine wpAnyH_ready (rs := [2, 6, 9]) (by kernel_rfl) (by simp) ?_
      refine AllReadyH.cons (o := _) rfl (fun _ hK => ?_) ?_
      · go_simp
        have np := heap_alloc_new X1 (celO 3 n fun _ => .int .i64 0)
        have hal := hHeld.alloc hHeld.size (celO 3 n fun _ => .int .i64 0)
        have lp := hHeld.size
        have dxp := size_of_block nx
        replace nx := keep_alloc (x := celO 3 n fun _ => .int .i64 0) nx
        generalize X1.heap.size = bp at *
        generalize X1.alloc (celO 3 n fun _ => .int .i64 0) = X2 at *
        refine hK.out _ _ hal (fun hHeld => ?_)
        clear hal
        clear hK
        try simp only [Act.put, List.setIfInBounds_toArray, List.set_cons_zero, List.set_cons_succ]
        refine wpAnyH_take (i := 3) (oi := _) (v := ?_) rfl (by kernel_rfl) (by kernel_rfl) (by kernel_rfl) (fun _ _ _ h => h) (Or.inl ⟨by rfl, ?_⟩) (by assumption) ?_
        rotate_left 1
        · intro w_ hSw
          go_simp
          try with_reducible rfl
        try simp only [Act.put, List.setIfInBounds_toArray]
        refine wpAnyH_ready (rs := [6, 9]) (by kernel_rfl) (by simp) ?_
        refine AllReadyH.cons (o := _) rfl (fun _ hK => ?_) ?_
        · go_simp
          have nq := heap_alloc_new X2 (celO 3 n fun _ => .int .i64 0)
          have hal := hHeld.alloc hHeld.size (celO 3 n fun _ => .int .i64 0)
          have lq := hHeld.size
          have dxq := size_of_block nx
          replace nx := keep_alloc (x := celO 3 n fun _ => .int .i64 0) nx
          have dpq := size_of_block np
          replace np := keep_alloc (x := celO 3 n fun _ => .int .i64 0) np
          generalize X2.heap.size = bq at *
          generalize X2.alloc (celO 3 n fun _ => .int .i64 0) = X3 at *
          refine hK.out _ _ hal (fun hHeld => ?_)
          clear hal
          clear hK
          try simp only [Act.put, List.setIfInBounds_toArray, List.set_cons_zero, List.set_cons_succ]
          refine wpAnyH_take (i := 7) (oi := _) (v := ?_) rfl (by kernel_rfl) (by kernel_rfl) (by kernel_rfl) (fun _ _ _ h => h) (Or.inl ⟨by rfl, ?_⟩) (by assumption) ?_
          rotate_left 1
          · intro w_ hSw
            go_simp
            try with_reducible rfl
          try simp only [Act.put, List.setIfInBounds_toArray]
          refine wpAnyH_ready (rs := [9]) (by kernel_rfl) (by simp) ?_
          refine AllReadyH.cons (o := _) rfl (fun _ hK => ?_) AllReadyH.nil
          go_simp
          have nz := heap_alloc_new X3 (.cells #[.int .i64 0, .slice none 0 0] 77 (0, 0))
          have hal := hHeld.alloc hHeld.size (.cells #[.int .i64 0, .slice none 0 0] 77 (0, 0))
          have lz := hHeld.size
          have dxz := size_of_block nx
          replace nx := keep_alloc (x := .cells #[.int .i64 0, .slice none 0 0] 77 (0, 0)) nx
          have dpz := size_of_block np
          replace np := keep_alloc (x := .cells #[.int .i64 0, .slice none 0 0] 77 (0, 0)) np
          have dqz := size_of_block nq
          replace nq := keep_alloc (x := .cells #[.int .i64 0, .slice none 0 0] 77 (0, 0)) nq
          generalize X3.heap.size = bz at *
          generalize X3.alloc (.cells #[.int .i64 0, .slice none 0 0] 77 (0, 0)) = X4 at *
          refine hK.out _ _ hal (fun hHeld => ?_)
          clear hal
          clear hK
          try simp only [Act.put, List.setIfInBounds_toArray, List.set_cons_zero, List.set_cons_succ]
          refine wpAnyH_ready (rs := [10]) (by kernel_rfl) (by simp) ?_
          refine AllReadyH.cons (o := _) rfl (fun _ hK => ?_) AllReadyH.nil
          obtain ⟨y0, y1, yf⟩ := now2 nx rfl
          go_simp
          clear y0 y1 yf
          refine hK.out _ _ ((hHeld.setCell (by show w1.heap.size ≤ bx; omega) _).setCell (by show w1.heap.size ≤ bx; omega) _) (fun hHeld => ?_)
          replace np := keep_set (a := ⟨bx, 1, none⟩) (u := .slice (some ⟨bp, 0, none⟩) n n) (by show bp ≠ bx; omega) (keep_set (a := ⟨bx, 0, none⟩) (u := .int .i64 0) (by show bp ≠ bx; omega) np)
          replace nq := keep_set (a := ⟨bx, 1, none⟩) (u := .slice (some ⟨bp, 0, none⟩) n n) (by show bq ≠ bx; omega) (keep_set (a := ⟨bx, 0, none⟩) (u := .int .i64 0) (by show bq ≠ bx; omega) nq)
          replace nz := keep_set (a := ⟨bx, 1, none⟩) (u := .slice (some ⟨bp, 0, none⟩) n n) (by show bz ≠ bx; omega) (keep_set (a := ⟨bx, 0, none⟩) (u := .int .i64 0) (by show bz ≠ bx; omega) nz)
          replace nx := put2 (x0 := .int .i64 0) (x1 := .slice (some ⟨bp, 0, none⟩) n n) nx
          generalize (X4.setCell ⟨bx, 0, none⟩ (.int .i64 0)).setCell ⟨bx, 1, none⟩ (.slice (some ⟨bp, 0, none⟩) n n) = X5 at *
          clear hK
          try simp only [Act.put, List.setIfInBounds_toArray, List.set_cons_zero, List.set_cons_succ]
          refine wpAnyH_ready (rs := [11]) (by kernel_rfl) (by simp) ?_
          refine AllReadyH.cons (o := _) rfl (fun _ hK => ?_) AllReadyH.nil
          obtain ⟨y0, y1, yf⟩ := now2 nz rfl
          go_simp
          clear y0 y1 yf
          refine hK.out _ _ ((hHeld.setCell (by show w1.heap.size ≤ bz; omega) _).setCell (by show w1.heap.size ≤ bz; omega) _) (fun hHeld => ?_)
          replace nx := keep_set (a := ⟨bz, 1, none⟩) (u := .slice (some ⟨bq, 0, none⟩) n n) (by show bx ≠ bz; omega) (keep_set (a := ⟨bz, 0, none⟩) (u := .int .i64 0) (by show bx ≠ bz; omega) nx)
          replace np := keep_set (a := ⟨bz, 1, none⟩) (u := .slice (some ⟨bq, 0, none⟩) n n) (by show bp ≠ bz; omega) (keep_set (a := ⟨bz, 0, none⟩) (u := .int .i64 0) (by show bp ≠ bz; omega) np)
          replace nq := keep_set (a := ⟨bz, 1, none⟩) (u := .slice (some ⟨bq, 0, none⟩) n n) (by show bq ≠ bz; omega) (keep_set (a := ⟨bz, 0, none⟩) (u := .int .i64 0) (by show bq ≠ bz; omega) nq)
          replace nz := put2 (x0 := .int .i64 0) (x1 := .slice (some ⟨bq, 0, none⟩) n n) nz
          generalize (X5.setCell ⟨bz, 0, none⟩ (.int .i64 0)).setCell ⟨bz, 1, none⟩ (.slice (some ⟨bq, 0, none⟩) n n) = X6 at *
          clear hK
          try simp only [Act.put, List.setIfInBounds_toArray, List.set_cons_zero, List.set_cons_succ]
          refine wpAnyH_done (by kernel_rfl) ?_ _
          go_wp2_with fail
          go_meet
          exact ⟨bx, bz, bp, bq, rfl, rfl, nx, nz, np, nq, lx, lz, lp, lq, by omega, by omega, hHeld⟩
        refine AllReadyH.cons (o := _) rfl (fun _ hK => ?_) AllReadyH.nil
        go_simp
        have nz := heap_alloc_new X2 (.cells #[.int .i64 0, .slice none 0 0] 77 (0, 0))
        have hal := hHeld.alloc hHeld.size (.cells #[.int .i64 0, .slice none 0 0] 77 (0, 0))
        have lz := hHeld.size
        have dxz := size_of_block nx
        replace nx := keep_alloc (x := .cells #[.int .i64 0, .slice none 0 0] 77 (0, 0)) nx
        have dpz := size_of_block np
        replace np := keep_alloc (x := .cells #[.int .i64 0, .slice none 0 0] 77 (0, 0)) np
        generalize X2.heap.size = bz at *
        generalize X2.alloc (.cells #[.int .i64 0, .slice none 0 0] 77 (0, 0)) = X3 at *
        refine hK.out _ _ hal (fun hHeld => ?_)
        clear hal
        clear hK
        try simp only [Act.put, List.setIfInBounds_toArray, List.set_cons_zero, List.set_cons_succ]
        refine wpAnyH_ready (rs := [6, 10]) (by kernel_rfl) (by simp) ?_
        refine AllReadyH.cons (o := _) rfl (fun _ hK => ?_) ?_
        · go_simp
          have nq := heap_alloc_new X3 (celO 3 n fun _ => .int .i64 0)
          have hal := hHeld.alloc hHeld.size (celO 3 n fun _ => .int .i64 0)
          have lq := hHeld.size
          have dxq := size_of_block nx
          replace nx := keep_alloc (x := celO 3 n fun _ => .int .i64 0) nx
          have dpq := size_of_block np
          replace np := keep_alloc (x := celO 3 n fun _ => .int .i64 0) np
          have dzq := size_of_block nz
          replace nz := keep_alloc (x := celO 3 n fun _ => .int .i64 0) nz
          generalize X3.heap.size = bq at *
          generalize X3.alloc (celO 3 n fun _ => .int .i64 0) = X4 at *
          refine hK.out _ _ hal (fun hHeld => ?_)
          clear hal
          clear hK
          try simp only [Act.put, List.setIfInBounds_toArray, List.set_cons_zero, List.set_cons_succ]
          refine wpAnyH_take (i := 7) (oi := _) (v := ?_) rfl (by kernel_rfl) (by kernel_rfl) (by kernel_rfl) (fun _ _ _ h => h) (Or.inl ⟨by rfl, ?_⟩) (by assumption) ?_
          rotate_left 1
          · intro w_ hSw
            go_simp
            try with_reducible rfl
          try simp only [Act.put, List.setIfInBounds_toArray]
          refine wpAnyH_ready (rs := [10]) (by kernel_rfl) (by simp) ?_
          refine AllReadyH.cons (o := _) rfl (fun _ hK => ?_) AllReadyH.nil
          obtain ⟨y0, y1, yf⟩ := now2 nx rfl
          go_simp
          clear y0 y1 yf
          refine hK.out _ _ ((hHeld.setCell (by show w1.heap.size ≤ bx; omega) _).setCell (by show w1.heap.size ≤ bx; omega) _) (fun hHeld => ?_)
          replace np := keep_set (a := ⟨bx, 1, none⟩) (u := .slice (some ⟨bp, 0, none⟩) n n) (by show bp ≠ bx; omega) (keep_set (a := ⟨bx, 0, none⟩) (u := .int .i64 0) (by show bp ≠ bx; omega) np)
          replace nz := keep_set (a := ⟨bx, 1, none⟩) (u := .slice (some ⟨bp, 0, none⟩) n n) (by show bz ≠ bx; omega) (keep_set (a := ⟨bx, 0, none⟩) (u := .int .i64 0) (by show bz ≠ bx; omega) nz)
          replace nq := keep_set (a := ⟨bx, 1, none⟩) (u := .slice (some ⟨bp, 0, none⟩) n n) (by show bq ≠ bx; omega) (keep_set (a := ⟨bx, 0, none⟩) (u := .int .i64 0) (by show bq ≠ bx; omega) nq)
          replace nx := put2 (x0 := .int .i64 0) (x1 := .slice (some ⟨bp, 0, none⟩) n n) nx
          generalize (X4.setCell ⟨bx, 0, none⟩ (.int .i64 0)).setCell ⟨bx, 1, none⟩ (.slice (some ⟨bp, 0, none⟩) n n) = X5 at *
          clear hK
          try simp only [Act.put, List.setIfInBounds_toArray, List.set_cons_zero, List.set_cons_succ]
          refine wpAnyH_ready (rs := [11]) (by kernel_rfl) (by simp) ?_
          refine AllReadyH.cons (o := _) rfl (fun _ hK => ?_) AllReadyH.nil
          obtain ⟨y0, y1, yf⟩ := now2 nz rfl
          go_simp
          clear y0 y1 yf
          refine hK.out _ _ ((hHeld.setCell (by show w1.heap.size ≤ bz; omega) _).setCell (by show w1.heap.size ≤ bz; omega) _) (fun hHeld => ?_)
          replace nx := keep_set (a := ⟨bz, 1, none⟩) (u := .slice (some ⟨bq, 0, none⟩) n n) (by show bx ≠ bz; omega) (keep_set (a := ⟨bz, 0, none⟩) (u := .int .i64 0) (by show bx ≠ bz; omega) nx)
          replace np := keep_set (a := ⟨bz, 1, none⟩) (u := .slice (some ⟨bq, 0, none⟩) n n) (by show bp ≠ bz; omega) (keep_set (a := ⟨bz, 0, none⟩) (u := .int .i64 0) (by show bp ≠ bz; omega) np)
          replace nq := keep_set (a := ⟨bz, 1, none⟩) (u := .slice (some ⟨bq, 0, none⟩) n n) (by show bq ≠ bz; omega) (keep_set (a := ⟨bz, 0, none⟩) (u := .int .i64 0) (by show bq ≠ bz; omega) nq)
          replace nz := put2 (x0 := .int .i64 0) (x1 := .slice (some ⟨bq, 0, none⟩) n n) nz
          generalize (X5.setCell ⟨bz, 0, none⟩ (.int .i64 0)).setCell ⟨bz, 1, none⟩ (.slice (some ⟨bq, 0, none⟩) n n) = X6 at *
          clear hK
          try simp only [Act.put, List.setIfInBounds_toArray, List.set_cons_zero, List.set_cons_succ]
          refine wpAnyH_done (by kernel_rfl) ?_ _
          go_wp2_with fail
          go_meet
          exact ⟨bx, bz, bp, bq, rfl, rfl, nx, nz, np, nq, lx, lz, lp, lq, by omega, by omega, hHeld⟩
        refine AllReadyH.cons (o := _) rfl (fun _ hK => ?_) AllReadyH.nil
        obtain ⟨y0, y1, yf⟩ := now2 nx rfl
        go_simp
        clear y0 y1 yf
        refine hK.out _ _ ((hHeld.setCell (by show w1.heap.size ≤ bx; omega) _).setCell (by show w1.heap.size ≤ bx; omega) _) (fun hHeld => ?_)
        replace np := keep_set (a := ⟨bx, 1, none⟩) (u := .slice (some ⟨bp, 0, none⟩) n n) (by show bp ≠ bx; omega) (keep_set (a := ⟨bx, 0, none⟩) (u := .int .i64 0) (by show bp ≠ bx; omega) np)
        replace nz := keep_set (a := ⟨bx, 1, none⟩) (u := .slice (some ⟨bp, 0, none⟩) n n) (by show bz ≠ bx; omega) (keep_set (a := ⟨bx, 0, none⟩) (u := .int .i64 0) (by show bz ≠ bx; omega) nz)
        replace nx := put2 (x0 := .int .i64 0) (x1 := .slice (some ⟨bp, 0, none⟩) n n) nx
        generalize (X3.setCell ⟨bx, 0, none⟩ (.int .i64 0)).setCell ⟨bx, 1, none⟩ (.slice (some ⟨bp, 0, none⟩) n n) = X4 at *
        clear hK
        try simp only [Act.put, List.setIfInBounds_toArray, List.set_cons_zero, List.set_cons_succ]
        refine wpAnyH_ready (rs := [6]) (by kernel_rfl) (by simp) ?_
        refine AllReadyH.cons (o := _) rfl (fun _ hK => ?_) AllReadyH.nil
        go_simp
        have nq := heap_alloc_new X4 (celO 3 n fun _ => .int .i64 0)
        have hal := hHeld.alloc hHeld.size (celO 3 n fun _ => .int .i64 0)
        have lq := hHeld.size
        have dxq := size_of_block nx
        replace nx := keep_alloc (x := celO 3 n fun _ => .int .i64 0) nx
        have dpq := size_of_block np
        replace np := keep_alloc (x := celO 3 n fun _ => .int .i64 0) np
        have dzq := size_of_block nz
        replace nz := keep_alloc (x := celO 3 n fun _ => .int .i64 0) nz
        generalize X4.heap.size = bq at *
        generalize X4.alloc (celO 3 n fun _ => .int .i64 0) = X5 at *
        refine hK.out _ _ hal (fun hHeld => ?_)
        clear hal
        clear hK
        try simp only [Act.put, List.setIfInBounds_toArray, List.set_cons_zero, List.set_cons_succ]
        refine wpAnyH_take (i := 7) (oi := _) (v := ?_) rfl (by kernel_rfl) (by kernel_rfl) (by kernel_rfl) (fun _ _ _ h => h) (Or.inl ⟨by rfl, ?_⟩) (by assumption) ?_
        rotate_left 1
        · intro w_ hSw
          go_simp
          try with_reducible rfl
        try simp only [Act.put, List.setIfInBounds_toArray]
        refine wpAnyH_ready (rs := [11]) (by kernel_rfl) (by simp) ?_
        refine AllReadyH.cons (o := _) rfl (fun _ hK => ?_) AllReadyH.nil
        obtain ⟨y0, y1, yf⟩ := now2 nz rfl
        go_simp
        clear y0 y1 yf
        refine hK.out _ _ ((hHeld.setCell (by show w1.heap.size ≤ bz; omega) _).setCell (by show w1.heap.size ≤ bz; omega) _) (fun hHeld => ?_)
        replace nx := keep_set (a := ⟨bz, 1, none⟩) (u := .slice (some ⟨bq, 0, none⟩) n n) (by show bx ≠ bz; omega) (keep_set (a := ⟨bz, 0, none⟩) (u := .int .i64 0) (by show bx ≠ bz; omega) nx)
        replace np := keep_set (a := ⟨bz, 1, none⟩) (u := .slice (some ⟨bq, 0, none⟩) n n) (by show bp ≠ bz; omega) (keep_set (a := ⟨bz, 0, none⟩) (u := .int .i64 0) (by show bp ≠ bz; omega) np)
        replace nq := keep_set (a := ⟨bz, 1, none⟩) (u := .slice (some ⟨bq, 0, none⟩) n n) (by show bq ≠ bz; omega) (keep_set (a := ⟨bz, 0, none⟩) (u := .int .i64 0) (by show bq ≠ bz; omega) nq)
        replace nz := put2 (x0 := .int .i64 0) (x1 := .slice (some ⟨bq, 0, none⟩) n n) nz
        generalize (X5.setCell ⟨bz, 0, none⟩ (.int .i64 0)).setCell ⟨bz, 1, none⟩ (.slice (some ⟨bq, 0, none⟩) n n) = X6 at *
        clear hK
        try simp only [Act.put, List.setIfInBounds_toArray, List.set_cons_zero, List.set_cons_succ]
        refine wpAnyH_done (by kernel_rfl) ?_ _
        go_wp2_with fail
        go_meet
        exact ⟨bx, bz, bp, bq, rfl, rfl, nx, nz, np, nq, lx, lz, lp, lq, by omega, by omega, hHeld⟩
      refine AllReadyH.cons (o := _) rfl (fun _ hK => ?_) ?_
      · go_simp
        have nq := heap_alloc_new X1 (celO 3 n fun _ => .int .i64 0)
        have hal := hHeld.alloc hHeld.size (celO 3 n fun _ => .int .i64 0)
        have lq := hHeld.size
        have dxq := size_of_block nx
        replace nx := keep_alloc (x := celO 3 n fun _ => .int .i64 0) nx
        generalize X1.heap.size = bq at *
        generalize X1.alloc (celO 3 n fun _ => .int .i64 0) = X2 at *
        refine hK.out _ _ hal (fun hHeld => ?_)
        clear hal
        clear hK
        try simp only [Act.put, List.setIfInBounds_toArray, List.set_cons_zero, List.set_cons_succ]
        refine wpAnyH_take (i := 7) (oi := _) (v := ?_) rfl (by kernel_rfl) (by kernel_rfl) (by kernel_rfl) (fun _ _ _ h => h) (Or.inl ⟨by rfl, ?_⟩) (by assumption) ?_
        rotate_left 1
        · intro w_ hSw
          go_simp
          try with_reducible rfl
        try simp only [Act.put, List.setIfInBounds_toArray]
        refine wpAnyH_ready (rs := [2, 9]) (by kernel_rfl) (by simp) ?_
        refine AllReadyH.cons (o := _) rfl (fun _ hK => ?_) ?_
        · go_simp
          have np := heap_alloc_new X2 (celO 3 n fun _ => .int .i64 0)
          have hal := hHeld.alloc hHeld.size (celO 3 n fun _ => .int .i64 0)
          have lp := hHeld.size
          have dxp := size_of_block nx
          replace nx := keep_alloc (x := celO 3 n fun _ => .int .i64 0) nx
          have dqp := size_of_block nq
          replace nq := keep_alloc (x := celO 3 n fun _ => .int .i64 0) nq
          generalize X2.heap.size = bp at *
          generalize X2.alloc (celO 3 n fun _ => .int .i64 0) = X3 at *
          refine hK.out _ _ hal (fun hHeld => ?_)
          clear hal
          clear hK
          try simp only [Act.put, List.setIfInBounds_toArray, List.set_cons_zero, List.set_cons_succ]
          refine wpAnyH_take (i := 3) (oi := _) (v := ?_) rfl (by kernel_rfl) (by kernel_rfl) (by kernel_rfl) (fun _ _ _ h => h) (Or.inl ⟨by rfl, ?_⟩) (by assumption) ?_
          rotate_left 1
          · intro w_ hSw
            go_simp
            try with_reducible rfl
          try simp only [Act.put, List.setIfInBounds_toArray]
          refine wpAnyH_ready (rs := [9]) (by kernel_rfl) (by simp) ?_
          refine AllReadyH.cons (o := _) rfl (fun _ hK => ?_) AllReadyH.nil
          go_simp
          have nz := heap_alloc_new X3 (.cells #[.int .i64 0, .slice none 0 0] 77 (0, 0))
          have hal := hHeld.alloc hHeld.size (.cells #[.int .i64 0, .slice none 0 0] 77 (0, 0))
          have lz := hHeld.size
          have dxz := size_of_block nx
          replace nx := keep_alloc (x := .cells #[.int .i64 0, .slice none 0 0] 77 (0, 0)) nx
          have dqz := size_of_block nq
          replace nq := keep_alloc (x := .cells #[.int .i64 0, .slice none 0 0] 77 (0, 0)) nq
          have dpz := size_of_block np
          replace np := keep_alloc (x := .cells #[.int .i64 0, .slice none 0 0] 77 (0, 0)) np
          generalize X3.heap.size = bz at *
          generalize X3.alloc (.cells #[.int .i64 0, .slice none 0 0] 77 (0, 0)) = X4 at *
          refine hK.out _ _ hal (fun hHeld => ?_)
          clear hal
          clear hK
          try simp only [Act.put, List.setIfInBounds_toArray, List.set_cons_zero, List.set_cons_succ]
          refine wpAnyH_ready (rs := [10]) (by kernel_rfl) (by simp) ?_
          refine AllReadyH.cons (o := _) rfl (fun _ hK => ?_) AllReadyH.nil
          obtain ⟨y0, y1, yf⟩ := now2 nx rfl
          go_simp
          clear y0 y1 yf
          refine hK.out _ _ ((hHeld.setCell (by show w1.heap.size ≤ bx; omega) _).setCell (by show w1.heap.size ≤ bx; omega) _) (fun hHeld => ?_)
          replace nq := keep_set (a := ⟨bx, 1, none⟩) (u := .slice (some ⟨bp, 0, none⟩) n n) (by show bq ≠ bx; omega) (keep_set (a := ⟨bx, 0, none⟩) (u := .int .i64 0) (by show bq ≠ bx; omega) nq)
          replace np := keep_set (a := ⟨bx, 1, none⟩) (u := .slice (some ⟨bp, 0, none⟩) n n) (by show bp ≠ bx; omega) (keep_set (a := ⟨bx, 0, none⟩) (u := .int .i64 0) (by show bp ≠ bx; omega) np)
          replace nz := keep_set (a := ⟨bx, 1, none⟩) (u := .slice (some ⟨bp, 0, none⟩) n n) (by show bz ≠ bx; omega) (keep_set (a := ⟨bx, 0, none⟩) (u := .int .i64 0) (by show bz ≠ bx; omega) nz)
          replace nx := put2 (x0 := .int .i64 0) (x1 := .slice (some ⟨bp, 0, none⟩) n n) nx
          generalize (X4.setCell ⟨bx, 0, none⟩ (.int .i64 0)).setCell ⟨bx, 1, none⟩ (.slice (some ⟨bp, 0, none⟩) n n) = X5 at *
          clear hK
          try simp only [Act.put, List.setIfInBounds_toArray, List.set_cons_zero, List.set_cons_succ]
          refine wpAnyH_ready (rs := [11]) (by kernel_rfl) (by simp) ?_
          refine AllReadyH.cons (o := _) rfl (fun _ hK => ?_) AllReadyH.nil
          obtain ⟨y0, y1, yf⟩ := now2 nz rfl
          go_simp
          clear y0 y1 yf
          refine hK.out _ _ ((hHeld.setCell (by show w1.heap.size ≤ bz; omega) _).setCell (by show w1.heap.size ≤ bz; omega) _) (fun hHeld => ?_)
          replace nx := keep_set (a := ⟨bz, 1, none⟩) (u := .slice (some ⟨bq, 0, none⟩) n n) (by show bx ≠ bz; omega) (keep_set (a := ⟨bz, 0, none⟩) (u := .int .i64 0) (by show bx ≠ bz; omega) nx)
          replace nq := keep_set (a := ⟨bz, 1, none⟩) (u := .slice (some ⟨bq, 0, none⟩) n n) (by show bq ≠ bz; omega) (keep_set (a := ⟨bz, 0, none⟩) (u := .int .i64 0) (by show bq ≠ bz; omega) nq)
          replace np := keep_set (a := ⟨bz, 1, none⟩) (u := .slice (some ⟨bq, 0, none⟩) n n) (by show bp ≠ bz; omega) (keep_set (a := ⟨bz, 0, none⟩) (u := .int .i64 0) (by show bp ≠ bz; omega) np)
          replace nz := put2 (x0 := .int .i64 0) (x1 := .slice (some ⟨bq, 0, none⟩) n n) nz
          generalize (X5.setCell ⟨bz, 0, none⟩ (.int .i64 0)).setCell ⟨bz, 1, none⟩ (.slice (some ⟨bq, 0, none⟩) n n) = X6 at *
          clear hK
          try simp only [Act.put, List.setIfInBounds_toArray, List.set_cons_zero, List.set_cons_succ]
          refine wpAnyH_done (by kernel_rfl) ?_ _
          go_wp2_with fail
          go_meet
          exact ⟨bx, bz, bp, bq, rfl, rfl, nx, nz, np, nq, lx, lz, lp, lq, by omega, by omega, hHeld⟩
        refine AllReadyH.cons (o := _) rfl (fun _ hK => ?_) AllReadyH.nil
        go_simp
        have nz := heap_alloc_new X2 (.cells #[.int .i64 0, .slice none 0 0] 77 (0, 0))
        have hal := hHeld.alloc hHeld.size (.cells #[.int .i64 0, .slice none 0 0] 77 (0, 0))
        have lz := hHeld.size
        have dxz := size_of_block nx
        replace nx := keep_alloc (x := .cells #[.int .i64 0, .slice none 0 0] 77 (0, 0)) nx
        have dqz := size_of_block nq
        replace nq := keep_alloc (x := .cells #[.int .i64 0, .slice none 0 0] 77 (0, 0)) nq
        generalize X2.heap.size = bz at *
        generalize X2.alloc (.cells #[.int .i64 0, .slice none 0 0] 77 (0, 0)) = X3 at *
        refine hK.out _ _ hal (fun hHeld => ?_)
        clear hal
        clear hK
        try simp only [Act.put, List.setIfInBounds_toArray, List.set_cons_zero, List.set_cons_succ]
        refine wpAnyH_ready (rs := [2]) (by kernel_rfl) (by simp) ?_
        refine AllReadyH.cons (o := _) rfl (fun _ hK => ?_) AllReadyH.nil
        go_simp
        have np := heap_alloc_new X3 (celO 3 n fun _ => .int .i64 0)
        have hal := hHeld.alloc hHeld.size (celO 3 n fun _ => .int .i64 0)
        have lp := hHeld.size
        have dxp := size_of_block nx
        replace nx := keep_alloc (x := celO 3 n fun _ => .int .i64 0) nx
        have dqp := size_of_block nq
        replace nq := keep_alloc (x := celO 3 n fun _ => .int .i64 0) nq
        have dzp := size_of_block nz
        replace nz := keep_alloc (x := celO 3 n fun _ => .int .i64 0) nz
        generalize X3.heap.size = bp at *
        generalize X3.alloc (celO 3 n fun _ => .int .i64 0) = X4 at *
        refine hK.out _ _ hal (fun hHeld => ?_)
        clear hal
        clear hK
        try simp only [Act.put, List.setIfInBounds_toArray, List.set_cons_zero, List.set_cons_succ]
        refine wpAnyH_take (i := 3) (oi := _) (v := ?_) rfl (by kernel_rfl) (by kernel_rfl) (by kernel_rfl) (fun _ _ _ h => h) (Or.inl ⟨by rfl, ?_⟩) (by assumption) ?_
        rotate_left 1
        · intro w_ hSw
          go_simp
          try with_reducible rfl
        try simp only [Act.put, List.setIfInBounds_toArray]
        refine wpAnyH_ready (rs := [10]) (by kernel_rfl) (by simp) ?_
        refine AllReadyH.cons (o := _) rfl (fun _ hK => ?_) AllReadyH.nil
        obtain ⟨y0, y1, yf⟩ := now2 nx rfl
        go_simp
        clear y0 y1 yf
        refine hK.out _ _ ((hHeld.setCell (by show w1.heap.size ≤ bx; omega) _).setCell (by show w1.heap.size ≤ bx; omega) _) (fun hHeld => ?_)
        replace nq := keep_set (a := ⟨bx, 1, none⟩) (u := .slice (some ⟨bp, 0, none⟩) n n) (by show bq ≠ bx; omega) (keep_set (a := ⟨bx, 0, none⟩) (u := .int .i64 0) (by show bq ≠ bx; omega) nq)
        replace nz := keep_set (a := ⟨bx, 1, none⟩) (u := .slice (some ⟨bp, 0, none⟩) n n) (by show bz ≠ bx; omega) (keep_set (a := ⟨bx, 0, none⟩) (u := .int .i64 0) (by show bz ≠ bx; omega) nz)
        replace np := keep_set (a := ⟨bx, 1, none⟩) (u := .slice (some ⟨bp, 0, none⟩) n n) (by show bp ≠ bx; omega) (keep_set (a := ⟨bx, 0, none⟩) (u := .int .i64 0) (by show bp ≠ bx; omega) np)
        replace nx := put2 (x0 := .int .i64 0) (x1 := .slice (some ⟨bp, 0, none⟩) n n) nx
        generalize (X4.setCell ⟨bx, 0, none⟩ (.int .i64 0)).setCell ⟨bx, 1, none⟩ (.slice (some ⟨bp, 0, none⟩) n n) = X5 at *
        clear hK
        try simp only [Act.put, List.setIfInBounds_toArray, List.set_cons_zero, List.set_cons_succ]
        refine wpAnyH_ready (rs := [11]) (by kernel_rfl) (by simp) ?_
        refine AllReadyH.cons (o := _) rfl (fun _ hK => ?_) AllReadyH.nil
        obtain ⟨y0, y1, yf⟩ := now2 nz rfl
        go_simp
        clear y0 y1 yf
        refine hK.out _ _ ((hHeld.setCell (by show w1.heap.size ≤ bz; omega) _).setCell (by show w1.heap.size ≤ bz; omega) _) (fun hHeld => ?_)
        replace nx := keep_set (a := ⟨bz, 1, none⟩) (u := .slice (some ⟨bq, 0, none⟩) n n) (by show bx ≠ bz; omega) (keep_set (a := ⟨bz, 0, none⟩) (u := .int .i64 0) (by show bx ≠ bz; omega) nx)
        replace nq := keep_set (a := ⟨bz, 1, none⟩) (u := .slice (some ⟨bq, 0, none⟩) n n) (by show bq ≠ bz; omega) (keep_set (a := ⟨bz, 0, none⟩) (u := .int .i64 0) (by show bq ≠ bz; omega) nq)
        replace np := keep_set (a := ⟨bz, 1, none⟩) (u := .slice (some ⟨bq, 0, none⟩) n n) (by show bp ≠ bz; omega) (keep_set (a := ⟨bz, 0, none⟩) (u := .int .i64 0) (by show bp ≠ bz; omega) np)
        replace nz := put2 (x0 := .int .i64 0) (x1 := .slice (some ⟨bq, 0, none⟩) n n) nz
        generalize (X5.setCell ⟨bz, 0, none⟩ (.int .i64 0)).setCell ⟨bz, 1, none⟩ (.slice (some ⟨bq, 0, none⟩) n n) = X6 at *
        clear hK
        try simp only [Act.put, List.setIfInBounds_toArray, List.set_cons_zero, List.set_cons_succ]
        refine wpAnyH_done (by kernel_rfl) ?_ _
        go_wp2_with fail
        go_meet
        exact ⟨bx, bz, bp, bq, rfl, rfl, nx, nz, np, nq, lx, lz, lp, lq, by omega, by omega, hHeld⟩
      refine AllReadyH.cons (o := _) rfl (fun _ hK => ?_) AllReadyH.nil
      go_simp
      have nz := heap_alloc_new X1 (.cells #[.int .i64 0, .slice none 0 0] 77 (0, 0))
      have hal := hHeld.alloc hHeld.size (.cells #[.int .i64 0, .slice none 0 0] 77 (0, 0))
      have lz := hHeld.size
      have dxz := size_of_block nx
      replace nx := keep_alloc (x := .cells #[.int .i64 0, .slice none 0 0] 77 (0, 0)) nx
      generalize X1.heap.size = bz at *
      generalize X1.alloc (.cells #[.int .i64 0, .slice none 0 0] 77 (0, 0)) = X2 at *
      refine hK.out _ _ hal (fun hHeld => ?_)
      clear hal
      clear hK
      try simp only [Act.put, List.setIfInBounds_toArray, List.set_cons_zero, List.set_cons_succ]
      refine wpAnyH_ready (rs := [2, 6]) (by kernel_rfl) (by simp) ?_
      refine AllReadyH.cons (o := _) rfl (fun _ hK => ?_) ?_
      · go_simp
        have np := heap_alloc_new X2 (celO 3 n fun _ => .int .i64 0)
        have hal := hHeld.alloc hHeld.size (celO 3 n fun _ => .int .i64 0)
        have lp := hHeld.size
        have dxp := size_of_block nx
        replace nx := keep_alloc (x := celO 3 n fun _ => .int .i64 0) nx
        have dzp := size_of_block nz
        replace nz := keep_alloc (x := celO 3 n fun _ => .int .i64 0) nz
        generalize X2.heap.size = bp at *
        generalize X2.alloc (celO 3 n fun _ => .int .i64 0) = X3 at *
        refine hK.out _ _ hal (fun hHeld => ?_)
        clear hal
        clear hK
        try simp only [Act.put, List.setIfInBounds_toArray, List.set_cons_zero, List.set_cons_succ]
        refine wpAnyH_take (i := 3) (oi := _) (v := ?_) rfl (by kernel_rfl) (by kernel_rfl) (by kernel_rfl) (fun _ _ _ h => h) (Or.inl ⟨by rfl, ?_⟩) (by assumption) ?_
        rotate_left 1
        · intro w_ hSw
          go_simp
          try with_reducible rfl
        try simp only [Act.put, List.setIfInBounds_toArray]
        refine wpAnyH_ready (rs := [6, 10]) (by kernel_rfl) (by simp) ?_
        refine AllReadyH.cons (o := _) rfl (fun _ hK => ?_) ?_
        · go_simp
          have nq := heap_alloc_new X3 (celO 3 n fun _ => .int .i64 0)
          have hal := hHeld.alloc hHeld.size (celO 3 n fun _ => .int .i64 0)
          have lq := hHeld.size
          have dxq := size_of_block nx
          replace nx := keep_alloc (x := celO 3 n fun _ => .int .i64 0) nx
          have dzq := size_of_block nz
          replace nz := keep_alloc (x := celO 3 n fun _ => .int .i64 0) nz
          have dpq := size_of_block np
          replace np := keep_alloc (x := celO 3 n fun _ => .int .i64 0) np
          generalize X3.heap.size = bq at *
          generalize X3.alloc (celO 3 n fun _ => .int .i64 0) = X4 at *
          refine hK.out _ _ hal (fun hHeld => ?_)
          clear hal
          clear hK
          try simp only [Act.put, List.setIfInBounds_toArray, List.set_cons_zero, List.set_cons_succ]
          refine wpAnyH_take (i := 7) (oi := _) (v := ?_) rfl (by kernel_rfl) (by kernel_rfl) (by kernel_rfl) (fun _ _ _ h => h) (Or.inl ⟨by rfl, ?_⟩) (by assumption) ?_
          rotate_left 1
          · intro w_ hSw
            go_simp
            try with_reducible rfl
          try simp only [Act.put, List.setIfInBounds_toArray]
          refine wpAnyH_ready (rs := [10]) (by kernel_rfl) (by simp) ?_
          refine AllReadyH.cons (o := _) rfl (fun _ hK => ?_) AllReadyH.nil
          obtain ⟨y0, y1, yf⟩ := now2 nx rfl
          go_simp
          clear y0 y1 yf
          refine hK.out _ _ ((hHeld.setCell (by show w1.heap.size ≤ bx; omega) _).setCell (by show w1.heap.size ≤ bx; omega) _) (fun hHeld => ?_)
          replace nz := keep_set (a := ⟨bx, 1, none⟩) (u := .slice (some ⟨bp, 0, none⟩) n n) (by show bz ≠ bx; omega) (keep_set (a := ⟨bx, 0, none⟩) (u := .int .i64 0) (by show bz ≠ bx; omega) nz)
          replace np := keep_set (a := ⟨bx, 1, none⟩) (u := .slice (some ⟨bp, 0, none⟩) n n) (by show bp ≠ bx; omega) (keep_set (a := ⟨bx, 0, none⟩) (u := .int .i64 0) (by show bp ≠ bx; omega) np)
          replace nq := keep_set (a := ⟨bx, 1, none⟩) (u := .slice (some ⟨bp, 0, none⟩) n n) (by show bq ≠ bx; omega) (keep_set (a := ⟨bx, 0, none⟩) (u := .int .i64 0) (by show bq ≠ bx; omega) nq)
          replace nx := put2 (x0 := .int .i64 0) (x1 := .slice (some ⟨bp, 0, none⟩) n n) nx
          generalize (X4.setCell ⟨bx, 0, none⟩ (.int .i64 0)).setCell ⟨bx, 1, none⟩ (.slice (some ⟨bp, 0, none⟩) n n) = X5 at *
          clear hK
          try simp only [Act.put, List.setIfInBounds_toArray, List.set_cons_zero, List.set_cons_succ]
          refine wpAnyH_ready (rs := [11]) (by kernel_rfl) (by simp) ?_
          refine AllReadyH.cons (o := _) rfl (fun _ hK => ?_) AllReadyH.nil
          obtain ⟨y0, y1, yf⟩ := now2 nz rfl
          go_simp
          clear y0 y1 yf
          refine hK.out _ _ ((hHeld.setCell (by show w1.heap.size ≤ bz; omega) _).setCell (by show w1.heap.size ≤ bz; omega) _) (fun hHeld => ?_)
          replace nx := keep_set (a := ⟨bz, 1, none⟩) (u := .slice (some ⟨bq, 0, none⟩) n n) (by show bx ≠ bz; omega) (keep_set (a := ⟨bz, 0, none⟩) (u := .int .i64 0) (by show bx ≠ bz; omega) nx)
          replace np := keep_set (a := ⟨bz, 1, none⟩) (u := .slice (some ⟨bq, 0, none⟩) n n) (by show bp ≠ bz; omega) (keep_set (a := ⟨bz, 0, none⟩) (u := .int .i64 0) (by show bp ≠ bz; omega) np)
          replace nq := keep_set (a := ⟨bz, 1, none⟩) (u := .slice (some ⟨bq, 0, none⟩) n n) (by show bq ≠ bz; omega) (keep_set (a := ⟨bz, 0, none⟩) (u := .int .i64 0) (by show bq ≠ bz; omega) nq)
          replace nz := put2 (x0 := .int .i64 0) (x1 := .slice (some ⟨bq, 0, none⟩) n n) nz
          generalize (X5.setCell ⟨bz, 0, none⟩ (.int .i64 0)).setCell ⟨bz, 1, none⟩ (.slice (some ⟨bq, 0, none⟩) n n) = X6 at *
          clear hK
          try simp only [Act.put, List.setIfInBounds_toArray, List.set_cons_zero, List.set_cons_succ]
          refine wpAnyH_done (by kernel_rfl) ?_ _
          go_wp2_with fail
          go_meet
          exact ⟨bx, bz, bp, bq, rfl, rfl, nx, nz, np, nq, lx, lz, lp, lq, by omega, by omega, hHeld⟩
        refine AllReadyH.cons (o := _) rfl (fun _ hK => ?_) AllReadyH.nil
        obtain ⟨y0, y1, yf⟩ := now2 nx rfl
        go_simp
        clear y0 y1 yf
        refine hK.out _ _ ((hHeld.setCell (by show w1.heap.size ≤ bx; omega) _).setCell (by show w1.heap.size ≤ bx; omega) _) (fun hHeld => ?_)
        replace nz := keep_set (a := ⟨bx, 1, none⟩) (u := .slice (some ⟨bp, 0, none⟩) n n) (by show bz ≠ bx; omega) (keep_set (a := ⟨bx, 0, none⟩) (u := .int .i64 0) (by show bz ≠ bx; omega) nz)
        replace np := keep_set (a := ⟨bx, 1, none⟩) (u := .slice (some ⟨bp, 0, none⟩) n n) (by show bp ≠ bx; omega) (keep_set (a := ⟨bx, 0, none⟩) (u := .int .i64 0) (by show bp ≠ bx; omega) np)
        replace nx := put2 (x0 := .int .i64 0) (x1 := .slice (some ⟨bp, 0, none⟩) n n) nx
        generalize (X3.setCell ⟨bx, 0, none⟩ (.int .i64 0)).setCell ⟨bx, 1, none⟩ (.slice (some ⟨bp, 0, none⟩) n n) = X4 at *
        clear hK
        try simp only [Act.put, List.setIfInBounds_toArray, List.set_cons_zero, List.set_cons_succ]
        refine wpAnyH_ready (rs := [6]) (by kernel_rfl) (by simp) ?_
        refine AllReadyH.cons (o := _) rfl (fun _ hK => ?_) AllReadyH.nil
        go_simp
        have nq := heap_alloc_new X4 (celO 3 n fun _ => .int .i64 0)
        have hal := hHeld.alloc hHeld.size (celO 3 n fun _ => .int .i64 0)
        have lq := hHeld.size
        have dxq := size_of_block nx
        replace nx := keep_alloc (x := celO 3 n fun _ => .int .i64 0) nx
        have dzq := size_of_block nz
        replace nz := keep_alloc (x := celO 3 n fun _ => .int .i64 0) nz
        have dpq := size_of_block np
        replace np := keep_alloc (x := celO 3 n fun _ => .int .i64 0) np
        generalize X4.heap.size = bq at *
        generalize X4.alloc (celO 3 n fun _ => .int .i64 0) = X5 at *
        refine hK.out _ _ hal (fun hHeld => ?_)
        clear hal
        clear hK
        try simp only [Act.put, List.setIfInBounds_toArray, List.set_cons_zero, List.set_cons_succ]
        refine wpAnyH_take (i := 7) (oi := _) (v := ?_) rfl (by kernel_rfl) (by kernel_rfl) (by kernel_rfl) (fun _ _ _ h => h) (Or.inl ⟨by rfl, ?_⟩) (by assumption) ?_
        rotate_left 1
        · intro w_ hSw
          go_simp
          try with_reducible rfl
        try simp only [Act.put, List.setIfInBounds_toArray]
        refine wpAnyH_ready (rs := [11]) (by kernel_rfl) (by simp) ?_
        refine AllReadyH.cons (o := _) rfl (fun _ hK => ?_) AllReadyH.nil
        obtain ⟨y0, y1, yf⟩ := now2 nz rfl
        go_simp
        clear y0 y1 yf
        refine hK.out _ _ ((hHeld.setCell (by show w1.heap.size ≤ bz; omega) _).setCell (by show w1.heap.size ≤ bz; omega) _) (fun hHeld => ?_)
        replace nx := keep_set (a := ⟨bz, 1, none⟩) (u := .slice (some ⟨bq, 0, none⟩) n n) (by show bx ≠ bz; omega) (keep_set (a := ⟨bz, 0, none⟩) (u := .int .i64 0) (by show bx ≠ bz; omega) nx)
        replace np := keep_set (a := ⟨bz, 1, none⟩) (u := .slice (some ⟨bq, 0, none⟩) n n) (by show bp ≠ bz; omega) (keep_set (a := ⟨bz, 0, none⟩) (u := .int .i64 0) (by show bp ≠ bz; omega) np)
        replace nq := keep_set (a := ⟨bz, 1, none⟩) (u := .slice (some ⟨bq, 0, none⟩) n n) (by show bq ≠ bz; omega) (keep_set (a := ⟨bz, 0, none⟩) (u := .int .i64 0) (by show bq ≠ bz; omega) nq)
        replace nz := put2 (x0 := .int .i64 0) (x1 := .slice (some ⟨bq, 0, none⟩) n n) nz
        generalize (X5.setCell ⟨bz, 0, none⟩ (.int .i64 0)).setCell ⟨bz, 1, none⟩ (.slice (some ⟨bq, 0, none⟩) n n) = X6 at *
        clear hK
        try simp only [Act.put, List.setIfInBounds_toArray, List.set_cons_zero, List.set_cons_succ]
        refine wpAnyH_done (by kernel_rfl) ?_ _
        go_wp2_with fail
        go_meet
        exact ⟨bx, bz, bp, bq, rfl, rfl, nx, nz, np, nq, lx, lz, lp, lq, by omega, by omega, hHeld⟩
      refine AllReadyH.cons (o := _) rfl (fun _ hK => ?_) AllReadyH.nil
      go_simp
      have nq := heap_alloc_new X2 (celO 3 n fun _ => .int .i64 0)
      have hal := hHeld.alloc hHeld.size (celO 3 n fun _ => .int .i64 0)
      have lq := hHeld.size
      have dxq := size_of_block nx
      replace nx := keep_alloc (x := celO 3 n fun _ => .int .i64 0) nx
      have dzq := size_of_block nz
      replace nz := keep_alloc (x := celO 3 n fun _ => .int .i64 0) nz
      generalize X2.heap.size = bq at *
      generalize X2.alloc (celO 3 n fun _ => .int .i64 0) = X3 at *
      refine hK.out _ _ hal (fun hHeld => ?_)
      clear hal
      clear hK
      try simp only [Act.put, List.setIfInBounds_toArray, List.set_cons_zero, List.set_cons_succ]
      refine wpAnyH_take (i := 7) (oi := _) (v := ?_) rfl (by kernel_rfl) (by kernel_rfl) (by kernel_rfl) (fun _ _ _ h => h) (Or.inl ⟨by rfl, ?_⟩) (by assumption) ?_
      rotate_left 1
      · intro w_ hSw
        go_simp
        try with_reducible rfl
      try simp only [Act.put, List.setIfInBounds_toArray]
      refine wpAnyH_ready (rs := [2]) (by kernel_rfl) (by simp) ?_
      refine AllReadyH.cons (o := _) rfl (fun _ hK => ?_) AllReadyH.nil
      go_simp
      have np := heap_alloc_new X3 (celO 3 n fun _ => .int .i64 0)
      have hal := hHeld.alloc hHeld.size (celO 3 n fun _ => .int .i64 0)
      have lp := hHeld.size
      have dxp := size_of_block nx
      replace nx := keep_alloc (x := celO 3 n fun _ => .int .i64 0) nx
      have dzp := size_of_block nz
      replace nz := keep_alloc (x := celO 3 n fun _ => .int .i64 0) nz
      have dqp := size_of_block nq
      replace nq := keep_alloc (x := celO 3 n fun _ => .int .i64 0) nq
      generalize X3.heap.size = bp at *
      generalize X3.alloc (celO 3 n fun _ => .int .i64 0) = X4 at *
      refine hK.out _ _ hal (fun hHeld => ?_)
      clear hal
      clear hK
      try simp only [Act.put, List.setIfInBounds_toArray, List.set_cons_zero, List.set_cons_succ]
      refine wpAnyH_take (i := 3) (oi := _) (v := ?_) rfl (by kernel_rfl) (by kernel_rfl) (by kernel_rfl) (fun _ _ _ h => h) (Or.inl ⟨by rfl, ?_⟩) (by assumption) ?_
      rotate_left 1
      · intro w_ hSw
        go_simp
        try with_reducible rfl
      try simp only [Act.put, List.setIfInBounds_toArray]
      refine wpAnyH_ready (rs := [10]) (by kernel_rfl) (by simp) ?_
      refine AllReadyH.cons (o := _) rfl (fun _ hK => ?_) AllReadyH.nil
      obtain ⟨y0, y1, yf⟩ := now2 nx rfl
      go_simp
      clear y0 y1 yf
      refine hK.out _ _ ((hHeld.setCell (by show w1.heap.size ≤ bx; omega) _).setCell (by show w1.heap.size ≤ bx; omega) _) (fun hHeld => ?_)
      replace nz := keep_set (a := ⟨bx, 1, none⟩) (u := .slice (some ⟨bp, 0, none⟩) n n) (by show bz ≠ bx; omega) (keep_set (a := ⟨bx, 0, none⟩) (u := .int .i64 0) (by show bz ≠ bx; omega) nz)
      replace nq := keep_set (a := ⟨bx, 1, none⟩) (u := .slice (some ⟨bp, 0, none⟩) n n) (by show bq ≠ bx; omega) (keep_set (a := ⟨bx, 0, none⟩) (u := .int .i64 0) (by show bq ≠ bx; omega) nq)
      replace np := keep_set (a := ⟨bx, 1, none⟩) (u := .slice (some ⟨bp, 0, none⟩) n n) (by show bp ≠ bx; omega) (keep_set (a := ⟨bx, 0, none⟩) (u := .int .i64 0) (by show bp ≠ bx; omega) np)
      replace nx := put2 (x0 := .int .i64 0) (x1 := .slice (some ⟨bp, 0, none⟩) n n) nx
      generalize (X4.setCell ⟨bx, 0, none⟩ (.int .i64 0)).setCell ⟨bx, 1, none⟩ (.slice (some ⟨bp, 0, none⟩) n n) = X5 at *
      clear hK
      try simp only [Act.put, List.setIfInBounds_toArray, List.set_cons_zero, List.set_cons_succ]
      refine wpAnyH_ready (rs := [11]) (by kernel_rfl) (by simp) ?_
      refine AllReadyH.cons (o := _) rfl (fun _ hK => ?_) AllReadyH.nil
      obtain ⟨y0, y1, yf⟩ := now2 nz rfl
      go_simp
      clear y0 y1 yf
      refine hK.out _ _ ((hHeld.setCell (by show w1.heap.size ≤ bz; omega) _).setCell (by show w1.heap.size ≤ bz; omega) _) (fun hHeld => ?_)
      replace nx := keep_set (a := ⟨bz, 1, none⟩) (u := .slice (some ⟨bq, 0, none⟩) n n) (by show bx ≠ bz; omega) (keep_set (a := ⟨bz, 0, none⟩) (u := .int .i64 0) (by show bx ≠ bz; omega) nx)
      replace nq := keep_set (a := ⟨bz, 1, none⟩) (u := .slice (some ⟨bq, 0, none⟩) n n) (by show bq ≠ bz; omega) (keep_set (a := ⟨bz, 0, none⟩) (u := .int .i64 0) (by show bq ≠ bz; omega) nq)
      replace np := keep_set (a := ⟨bz, 1, none⟩) (u := .slice (some ⟨bq, 0, none⟩) n n) (by show bp ≠ bz; omega) (keep_set (a := ⟨bz, 0, none⟩) (u := .int .i64 0) (by show bp ≠ bz; omega) np)
      replace nz := put2 (x0 := .int .i64 0) (x1 := .slice (some ⟨bq, 0, none⟩) n n) nz
      generalize (X5.setCell ⟨bz, 0, none⟩ (.int .i64 0)).setCell ⟨bz, 1, none⟩ (.slice (some ⟨bq, 0, none⟩) n n) = X6 at *
      clear hK
      try simp only [Act.put, List.setIfInBounds_toArray, List.set_cons_zero, List.set_cons_succ]
      refine wpAnyH_done (by kernel_rfl) ?_ _
      go_wp2_with fail
      go_meet
      exact ⟨bx, bz, bp, bq, rfl, rfl, nx, nz, np, nq, lx, lz, lp, lq, by omega, by omega, hHeld⟩
    refine AllReadyH.cons (o := _) rfl (fun _ hK => ?_) AllReadyH.nil
    go_simp
    have nz := heap_alloc_new X0 (.cells #[.int .i64 0, .slice none 0 0] 77 (0, 0))
    have hal := hHeld.alloc hHeld.size (.cells #[.int .i64 0, .slice none 0 0] 77 (0, 0))
    have lz := hHeld.size
    generalize X0.heap.size = bz at *
    generalize X0.alloc (.cells #[.int .i64 0, .slice none 0 0] 77 (0, 0)) = X1 at *
    refine hK.out _ _ hal (fun hHeld => ?_)
    clear hal
    clear hK
    try simp only [Act.put, List.setIfInBounds_toArray, List.set_cons_zero, List.set_cons_succ]
    refine wpAnyH_ready (rs := [2, 6, 8]) (by kernel_rfl) (by simp) ?_
    refine AllReadyH.cons (o := _) rfl (fun _ hK => ?_) ?_
    · go_simp
      have np := heap_alloc_new X1 (celO 3 n fun _ => .int .i64 0)
      have hal := hHeld.alloc hHeld.size (celO 3 n fun _ => .int .i64 0)
      have lp := hHeld.size
      have dzp := size_of_block nz
      replace nz := keep_alloc (x := celO 3 n fun _ => .int .i64 0) nz
      generalize X1.heap.size = bp at *
      generalize X1.alloc (celO 3 n fun _ => .int .i64 0) = X2 at *
      refine hK.out _ _ hal (fun hHeld => ?_)
      clear hal
      clear hK
      try simp only [Act.put, List.setIfInBounds_toArray, List.set_cons_zero, List.set_cons_succ]
      refine wpAnyH_take (i := 3) (oi := _) (v := ?_) rfl (by kernel_rfl) (by kernel_rfl) (by kernel_rfl) (fun _ _ _ h => h) (Or.inl ⟨by rfl, ?_⟩) (by assumption) ?_
      rotate_left 1
      · intro w_ hSw
        go_simp
        try with_reducible rfl
      try simp only [Act.put, List.setIfInBounds_toArray]
      refine wpAnyH_ready (rs := [6, 8]) (by kernel_rfl) (by simp) ?_
      refine AllReadyH.cons (o := _) rfl (fun _ hK => ?_) ?_
      · go_simp
        have nq := heap_alloc_new X2 (celO 3 n fun _ => .int .i64 0)
        have hal := hHeld.alloc hHeld.size (celO 3 n fun _ => .int .i64 0)
        have lq := hHeld.size
        have dzq := size_of_block nz
        replace nz := keep_alloc (x := celO 3 n fun _ => .int .i64 0) nz
        have dpq := size_of_block np
        replace np := keep_alloc (x := celO 3 n fun _ => .int .i64 0) np
        generalize X2.heap.size = bq at *
        generalize X2.alloc (celO 3 n fun _ => .int .i64 0) = X3 at *
        refine hK.out _ _ hal (fun hHeld => ?_)
        clear hal
        clear hK
        try simp only [Act.put, List.setIfInBounds_toArray, List.set_cons_zero, List.set_cons_succ]
        refine wpAnyH_take (i := 7) (oi := _) (v := ?_) rfl (by kernel_rfl) (by kernel_rfl) (by kernel_rfl) (fun _ _ _ h => h) (Or.inl ⟨by rfl, ?_⟩) (by assumption) ?_
        rotate_left 1
        · intro w_ hSw
          go_simp
          try with_reducible rfl
        try simp only [Act.put, List.setIfInBounds_toArray]
        refine wpAnyH_ready (rs := [8]) (by kernel_rfl) (by simp) ?_
        refine AllReadyH.cons (o := _) rfl (fun _ hK => ?_) AllReadyH.nil
        go_simp
        have nx := heap_alloc_new X3 (.cells #[.int .i64 0, .slice none 0 0] 77 (0, 0))
        have hal := hHeld.alloc hHeld.size (.cells #[.int .i64 0, .slice none 0 0] 77 (0, 0))
        have lx := hHeld.size
        have dzx := size_of_block nz
        replace nz := keep_alloc (x := .cells #[.int .i64 0, .slice none 0 0] 77 (0, 0)) nz
        have dpx := size_of_block np
        replace np := keep_alloc (x := .cells #[.int .i64 0, .slice none 0 0] 77 (0, 0)) np
        have dqx := size_of_block nq
        replace nq := keep_alloc (x := .cells #[.int .i64 0, .slice none 0 0] 77 (0, 0)) nq
        generalize X3.heap.size = bx at *
        generalize X3.alloc (.cells #[.int .i64 0, .slice none 0 0] 77 (0, 0)) = X4 at *
        refine hK.out _ _ hal (fun hHeld => ?_)
        clear hal
        clear hK
        try simp only [Act.put, List.setIfInBounds_toArray, List.set_cons_zero, List.set_cons_succ]
        refine wpAnyH_ready (rs := [10]) (by kernel_rfl) (by simp) ?_
        refine AllReadyH.cons (o := _) rfl (fun _ hK => ?_) AllReadyH.nil
        obtain ⟨y0, y1, yf⟩ := now2 nx rfl
        go_simp
        clear y0 y1 yf
        refine hK.out _ _ ((hHeld.setCell (by show w1.heap.size ≤ bx; omega) _).setCell (by show w1.heap.size ≤ bx; omega) _) (fun hHeld => ?_)
        replace nz := keep_set (a := ⟨bx, 1, none⟩) (u := .slice (some ⟨bp, 0, none⟩) n n) (by show bz ≠ bx; omega) (keep_set (a := ⟨bx, 0, none⟩) (u := .int .i64 0) (by show bz ≠ bx; omega) nz)
        replace np := keep_set (a := ⟨bx, 1, none⟩) (u := .slice (some ⟨bp, 0, none⟩) n n) (by show bp ≠ bx; omega) (keep_set (a := ⟨bx, 0, none⟩) (u := .int .i64 0) (by show bp ≠ bx; omega) np)
        replace nq := keep_set (a := ⟨bx, 1, none⟩) (u := .slice (some ⟨bp, 0, none⟩) n n) (by show bq ≠ bx; omega) (keep_set (a := ⟨bx, 0, none⟩) (u := .int .i64 0) (by show bq ≠ bx; omega) nq)
        replace nx := put2 (x0 := .int .i64 0) (x1 := .slice (some ⟨bp, 0, none⟩) n n) nx
        generalize (X4.setCell ⟨bx, 0, none⟩ (.int .i64 0)).setCell ⟨bx, 1, none⟩ (.slice (some ⟨bp, 0, none⟩) n n) = X5 at *
        clear hK
        try simp only [Act.put, List.setIfInBounds_toArray, List.set_cons_zero, List.set_cons_succ]
        refine wpAnyH_ready (rs := [11]) (by kernel_rfl) (by simp) ?_
        refine AllReadyH.cons (o := _) rfl (fun _ hK => ?_) AllReadyH.nil
        obtain ⟨y0, y1, yf⟩ := now2 nz rfl
        go_simp
        clear y0 y1 yf
        refine hK.out _ _ ((hHeld.setCell (by show w1.heap.size ≤ bz; omega) _).setCell (by show w1.heap.size ≤ bz; omega) _) (fun hHeld => ?_)
        replace np := keep_set (a := ⟨bz, 1, none⟩) (u := .slice (some ⟨bq, 0, none⟩) n n) (by show bp ≠ bz; omega) (keep_set (a := ⟨bz, 0, none⟩) (u := .int .i64 0) (by show bp ≠ bz; omega) np)
        replace nq := keep_set (a := ⟨bz, 1, none⟩) (u := .slice (some ⟨bq, 0, none⟩) n n) (by show bq ≠ bz; omega) (keep_set (a := ⟨bz, 0, none⟩) (u := .int .i64 0) (by show bq ≠ bz; omega) nq)
        replace nx := keep_set (a := ⟨bz, 1, none⟩) (u := .slice (some ⟨bq, 0, none⟩) n n) (by show bx ≠ bz; omega) (keep_set (a := ⟨bz, 0, none⟩) (u := .int .i64 0) (by show bx ≠ bz; omega) nx)
        replace nz := put2 (x0 := .int .i64 0) (x1 := .slice (some ⟨bq, 0, none⟩) n n) nz
        generalize (X5.setCell ⟨bz, 0, none⟩ (.int .i64 0)).setCell ⟨bz, 1, none⟩ (.slice (some ⟨bq, 0, none⟩) n n) = X6 at *
        clear hK
        try simp only [Act.put, List.setIfInBounds_toArray, List.set_cons_zero, List.set_cons_succ]
        refine wpAnyH_done (by kernel_rfl) ?_ _
        go_wp2_with fail
        go_meet
        exact ⟨bx, bz, bp, bq, rfl, rfl, nx, nz, np, nq, lx, lz, lp, lq, by omega, by omega, hHeld⟩
      refine AllReadyH.cons (o := _) rfl (fun _ hK => ?_) AllReadyH.nil
      go_simp
      have nx := heap_alloc_new X2 (.cells #[.int .i64 0, .slice none 0 0] 77 (0, 0))
      have hal := hHeld.alloc hHeld.size (.cells #[.int .i64 0, .slice none 0 0] 77 (0, 0))
      have lx := hHeld.size
      have dzx := size_of_block nz
      replace nz := keep_alloc (x := .cells #[.int .i64 0, .slice none 0 0] 77 (0, 0)) nz
      have dpx := size_of_block np
      replace np := keep_alloc (x := .cells #[.int .i64 0, .slice none 0 0] 77 (0, 0)) np
      generalize X2.heap.size = bx at *
      generalize X2.alloc (.cells #[.int .i64 0, .slice none 0 0] 77 (0, 0)) = X3 at *
      refine hK.out _ _ hal (fun hHeld => ?_)
      clear hal
      clear hK
      try simp only [Act.put, List.setIfInBounds_toArray, List.set_cons_zero, List.set_cons_succ]
      refine wpAnyH_ready (rs := [6, 10]) (by kernel_rfl) (by simp) ?_
      refine AllReadyH.cons (o := _) rfl (fun _ hK => ?_) ?_
      · go_simp
        have nq := heap_alloc_new X3 (celO 3 n fun _ => .int .i64 0)
        have hal := hHeld.alloc hHeld.size (celO 3 n fun _ => .int .i64 0)
        have lq := hHeld.size
        have dzq := size_of_block nz
        replace nz := keep_alloc (x := celO 3 n fun _ => .int .i64 0) nz
        have dpq := size_of_block np
        replace np := keep_alloc (x := celO 3 n fun _ => .int .i64 0) np
        have dxq := size_of_block nx
        replace nx := keep_alloc (x := celO 3 n fun _ => .int .i64 0) nx
        generalize X3.heap.size = bq at *
        generalize X3.alloc (celO 3 n fun _ => .int .i64 0) = X4 at *
        refine hK.out _ _ hal (fun hHeld => ?_)
        clear hal
        clear hK
        try simp only [Act.put, List.setIfInBounds_toArray, List.set_cons_zero, List.set_cons_succ]
        refine wpAnyH_take (i := 7) (oi := _) (v := ?_) rfl (by kernel_rfl) (by kernel_rfl) (by kernel_rfl) (fun _ _ _ h => h) (Or.inl ⟨by rfl, ?_⟩) (by assumption) ?_
        rotate_left 1
        · intro w_ hSw
          go_simp
          try with_reducible rfl
        try simp only [Act.put, List.setIfInBounds_toArray]
        refine wpAnyH_ready (rs := [10]) (by kernel_rfl) (by simp) ?_
        refine AllReadyH.cons (o := _) rfl (fun _ hK => ?_) AllReadyH.nil
        obtain ⟨y0, y1, yf⟩ := now2 nx rfl
        go_simp
        clear y0 y1 yf
        refine hK.out _ _ ((hHeld.setCell (by show w1.heap.size ≤ bx; omega) _).setCell (by show w1.heap.size ≤ bx; omega) _) (fun hHeld => ?_)
        replace nz := keep_set (a := ⟨bx, 1, none⟩) (u := .slice (some ⟨bp, 0, none⟩) n n) (by show bz ≠ bx; omega) (keep_set (a := ⟨bx, 0, none⟩) (u := .int .i64 0) (by show bz ≠ bx; omega) nz)
        replace np := keep_set (a := ⟨bx, 1, none⟩) (u := .slice (some ⟨bp, 0, none⟩) n n) (by show bp ≠ bx; omega) (keep_set (a := ⟨bx, 0, none⟩) (u := .int .i64 0) (by show bp ≠ bx; omega) np)
        replace nq := keep_set (a := ⟨bx, 1, none⟩) (u := .slice (some ⟨bp, 0, none⟩) n n) (by show bq ≠ bx; omega) (keep_set (a := ⟨bx, 0, none⟩) (u := .int .i64 0) (by show bq ≠ bx; omega) nq)
        replace nx := put2 (x0 := .int .i64 0) (x1 := .slice (some ⟨bp, 0, none⟩) n n) nx
        generalize (X4.setCell ⟨bx, 0, none⟩ (.int .i64 0)).setCell ⟨bx, 1, none⟩ (.slice (some ⟨bp, 0, none⟩) n n) = X5 at *
        clear hK
        try simp only [Act.put, List.setIfInBounds_toArray, List.set_cons_zero, List.set_cons_succ]
        refine wpAnyH_ready (rs := [11]) (by kernel_rfl) (by simp) ?_
        refine AllReadyH.cons (o := _) rfl (fun _ hK => ?_) AllReadyH.nil
        obtain ⟨y0, y1, yf⟩ := now2 nz rfl
        go_simp
        clear y0 y1 yf
        refine hK.out _ _ ((hHeld.setCell (by show w1.heap.size ≤ bz; omega) _).setCell (by show w1.heap.size ≤ bz; omega) _) (fun hHeld => ?_)
        replace np := keep_set (a := ⟨bz, 1, none⟩) (u := .slice (some ⟨bq, 0, none⟩) n n) (by show bp ≠ bz; omega) (keep_set (a := ⟨bz, 0, none⟩) (u := .int .i64 0) (by show bp ≠ bz; omega) np)
        replace nx := keep_set (a := ⟨bz, 1, none⟩) (u := .slice (some ⟨bq, 0, none⟩) n n) (by show bx ≠ bz; omega) (keep_set (a := ⟨bz, 0, none⟩) (u := .int .i64 0) (by show bx ≠ bz; omega) nx)
        replace nq := keep_set (a := ⟨bz, 1, none⟩) (u := .slice (some ⟨bq, 0, none⟩) n n) (by show bq ≠ bz; omega) (keep_set (a := ⟨bz, 0, none⟩) (u := .int .i64 0) (by show bq ≠ bz; omega) nq)
        replace nz := put2 (x0 := .int .i64 0) (x1 := .slice (some ⟨bq, 0, none⟩) n n) nz
        generalize (X5.setCell ⟨bz, 0, none⟩ (.int .i64 0)).setCell ⟨bz, 1, none⟩ (.slice (some ⟨bq, 0, none⟩) n n) = X6 at *
        clear hK
        try simp only [Act.put, List.setIfInBounds_toArray, List.set_cons_zero, List.set_cons_succ]
        refine wpAnyH_done (by kernel_rfl) ?_ _
        go_wp2_with fail
        go_meet
        exact ⟨bx, bz, bp, bq, rfl, rfl, nx, nz, np, nq, lx, lz, lp, lq, by omega, by omega, hHeld⟩
      refine AllReadyH.cons (o := _) rfl (fun _ hK => ?_) AllReadyH.nil
      obtain ⟨y0, y1, yf⟩ := now2 nx rfl
      go_simp
      clear y0 y1 yf
      refine hK.out _ _ ((hHeld.setCell (by show w1.heap.size ≤ bx; omega) _).setCell (by show w1.heap.size ≤ bx; omega) _) (fun hHeld => ?_)
      replace nz := keep_set (a := ⟨bx, 1, none⟩) (u := .slice (some ⟨bp, 0, none⟩) n n) (by show bz ≠ bx; omega) (keep_set (a := ⟨bx, 0, none⟩) (u := .int .i64 0) (by show bz ≠ bx; omega) nz)
      replace np := keep_set (a := ⟨bx, 1, none⟩) (u := .slice (some ⟨bp, 0, none⟩) n n) (by show bp ≠ bx; omega) (keep_set (a := ⟨bx, 0, none⟩) (u := .int .i64 0) (by show bp ≠ bx; omega) np)
      replace nx := put2 (x0 := .int .i64 0) (x1 := .slice (some ⟨bp, 0, none⟩) n n) nx
      generalize (X3.setCell ⟨bx, 0, none⟩ (.int .i64 0)).setCell ⟨bx, 1, none⟩ (.slice (some ⟨bp, 0, none⟩) n n) = X4 at *
      clear hK
      try simp only [Act.put, List.setIfInBounds_toArray, List.set_cons_zero, List.set_cons_succ]
      refine wpAnyH_ready (rs := [6]) (by kernel_rfl) (by simp) ?_
      refine AllReadyH.cons (o := _) rfl (fun _ hK => ?_) AllReadyH.nil
      go_simp
      have nq := heap_alloc_new X4 (celO 3 n fun _ => .int .i64 0)
      have hal := hHeld.alloc hHeld.size (celO 3 n fun _ => .int .i64 0)
      have lq := hHeld.size
      have dzq := size_of_block nz
      replace nz := keep_alloc (x := celO 3 n fun _ => .int .i64 0) nz
      have dpq := size_of_block np
      replace np := keep_alloc (x := celO 3 n fun _ => .int .i64 0) np
      have dxq := size_of_block nx
      replace nx := keep_alloc (x := celO 3 n fun _ => .int .i64 0) nx
      generalize X4.heap.size = bq at *
      generalize X4.alloc (celO 3 n fun _ => .int .i64 0) = X5 at *
      refine hK.out _ _ hal (fun hHeld => ?_)
      clear hal
      clear hK
      try simp only [Act.put, List.setIfInBounds_toArray, List.set_cons_zero, List.set_cons_succ]
      refine wpAnyH_take (i := 7) (oi := _) (v := ?_) rfl (by kernel_rfl) (by kernel_rfl) (by kernel_rfl) (fun _ _ _ h => h) (Or.inl ⟨by rfl, ?_⟩) (by assumption) ?_
      rotate_left 1
      · intro w_ hSw
        go_simp
        try with_reducible rfl
      try simp only [Act.put, List.setIfInBounds_toArray]
      refine wpAnyH_ready (rs := [11]) (by kernel_rfl) (by simp) ?_
      refine AllReadyH.cons (o := _) rfl (fun _ hK => ?_) AllReadyH.nil
      obtain ⟨y0, y1, yf⟩ := now2 nz rfl
      go_simp
      clear y0 y1 yf
      refine hK.out _ _ ((hHeld.setCell (by show w1.heap.size ≤ bz; omega) _).setCell (by show w1.heap.size ≤ bz; omega) _) (fun hHeld => ?_)
      replace np := keep_set (a := ⟨bz, 1, none⟩) (u := .slice (some ⟨bq, 0, none⟩) n n) (by show bp ≠ bz; omega) (keep_set (a := ⟨bz, 0, none⟩) (u := .int .i64 0) (by show bp ≠ bz; omega) np)
      replace nx := keep_set (a := ⟨bz, 1, none⟩) (u := .slice (some ⟨bq, 0, none⟩) n n) (by show bx ≠ bz; omega) (keep_set (a := ⟨bz, 0, none⟩) (u := .int .i64 0) (by show bx ≠ bz; omega) nx)
      replace nq := keep_set (a := ⟨bz, 1, none⟩) (u := .slice (some ⟨bq, 0, none⟩) n n) (by show bq ≠ bz; omega) (keep_set (a := ⟨bz, 0, none⟩) (u := .int .i64 0) (by show bq ≠ bz; omega) nq)
      replace nz := put2 (x0 := .int .i64 0) (x1 := .slice (some ⟨bq, 0, none⟩) n n) nz
      generalize (X5.setCell ⟨bz, 0, none⟩ (.int .i64 0)).setCell ⟨bz, 1, none⟩ (.slice (some ⟨bq, 0, none⟩) n n) = X6 at *
      clear hK
      try simp only [Act.put, List.setIfInBounds_toArray, List.set_cons_zero, List.set_cons_succ]
      refine wpAnyH_done (by kernel_rfl) ?_ _
      go_wp2_with fail
      go_meet
      exact ⟨bx, bz, bp, bq, rfl, rfl, nx, nz, np, nq, lx, lz, lp, lq, by omega, by omega, hHeld⟩
    refine AllReadyH.cons (o := _) rfl (fun _ hK => ?_) ?_
    · go_simp
      have nq := heap_alloc_new X1 (celO 3 n fun _ => .int .i64 0)
      have hal := hHeld.alloc hHeld.size (celO 3 n fun _ => .int .i64 0)
      have lq := hHeld.size
      have dzq := size_of_block nz
      replace nz := keep_alloc (x := celO 3 n fun _ => .int .i64 0) nz
      generalize X1.heap.size = bq at *
      generalize X1.alloc (celO 3 n fun _ => .int .i64 0) = X2 at *
      refine hK.out _ _ hal (fun hHeld => ?_)
      clear hal
      clear hK
      try simp only [Act.put, List.setIfInBounds_toArray, List.set_cons_zero, List.set_cons_succ]
      refine wpAnyH_take (i := 7) (oi := _) (v := ?_) rfl (by kernel_rfl) (by kernel_rfl) (by kernel_rfl) (fun _ _ _ h => h) (Or.inl ⟨by rfl, ?_⟩) (by assumption) ?_
      rotate_left 1
      · intro w_ hSw
        go_simp
        try with_reducible rfl
      try simp only [Act.put, List.setIfInBounds_toArray]
      refine wpAnyH_ready (rs := [2, 8]) (by kernel_rfl) (by simp) ?_
      refine AllReadyH.cons (o := _) rfl (fun _ hK => ?_) ?_
      · go_simp
        have np := heap_alloc_new X2 (celO 3 n fun _ => .int .i64 0)
        have hal := hHeld.alloc hHeld.size (celO 3 n fun _ => .int .i64 0)
        have lp := hHeld.size
        have dzp := size_of_block nz
        replace nz := keep_alloc (x := celO 3 n fun _ => .int .i64 0) nz
        have dqp := size_of_block nq
        replace nq := keep_alloc (x := celO 3 n fun _ => .int .i64 0) nq
        generalize X2.heap.size = bp at *
        generalize X2.alloc (celO 3 n fun _ => .int .i64 0) = X3 at *
        refine hK.out _ _ hal (fun hHeld => ?_)
        clear hal
        clear hK
        try simp only [Act.put, List.setIfInBounds_toArray, List.set_cons_zero, List.set_cons_succ]
        refine wpAnyH_take (i := 3) (oi := _) (v := ?_) rfl (by kernel_rfl) (by kernel_rfl) (by kernel_rfl) (fun _ _ _ h => h) (Or.inl ⟨by rfl, ?_⟩) (by assumption) ?_
        rotate_left 1
        · intro w_ hSw
          go_simp
          try with_reducible rfl
        try simp only [Act.put, List.setIfInBounds_toArray]
        refine wpAnyH_ready (rs := [8]) (by kernel_rfl) (by simp) ?_
        refine AllReadyH.cons (o := _) rfl (fun _ hK => ?_) AllReadyH.nil
        go_simp
        have nx := heap_alloc_new X3 (.cells #[.int .i64 0, .slice none 0 0] 77 (0, 0))
        have hal := hHeld.alloc hHeld.size (.cells #[.int .i64 0, .slice none 0 0] 77 (0, 0))
        have lx := hHeld.size
        have dzx := size_of_block nz
        replace nz := keep_alloc (x := .cells #[.int .i64 0, .slice none 0 0] 77 (0, 0)) nz
        have dqx := size_of_block nq
        replace nq := keep_alloc (x := .cells #[.int .i64 0, .slice none 0 0] 77 (0, 0)) nq
        have dpx := size_of_block np
        replace np := keep_alloc (x := .cells #[.int .i64 0, .slice none 0 0] 77 (0, 0)) np
        generalize X3.heap.size = bx at *
        generalize X3.alloc (.cells #[.int .i64 0, .slice none 0 0] 77 (0, 0)) = X4 at *
        refine hK.out _ _ hal (fun hHeld => ?_)
        clear hal
        clear hK
        try simp only [Act.put, List.setIfInBounds_toArray, List.set_cons_zero, List.set_cons_succ]
        refine wpAnyH_ready (rs := [10]) (by kernel_rfl) (by simp) ?_
        refine AllReadyH.cons (o := _) rfl (fun _ hK => ?_) AllReadyH.nil
        obtain ⟨y0, y1, yf⟩ := now2 nx rfl
        go_simp
        clear y0 y1 yf
        refine hK.out _ _ ((hHeld.setCell (by show w1.heap.size ≤ bx; omega) _).setCell (by show w1.heap.size ≤ bx; omega) _) (fun hHeld => ?_)
        replace nz := keep_set (a := ⟨bx, 1, none⟩) (u := .slice (some ⟨bp, 0, none⟩) n n) (by show bz ≠ bx; omega) (keep_set (a := ⟨bx, 0, none⟩) (u := .int .i64 0) (by show bz ≠ bx; omega) nz)
        replace nq := keep_set (a := ⟨bx, 1, none⟩) (u := .slice (some ⟨bp, 0, none⟩) n n) (by show bq ≠ bx; omega) (keep_set (a := ⟨bx, 0, none⟩) (u := .int .i64 0) (by show bq ≠ bx; omega) nq)
        replace np := keep_set (a := ⟨bx, 1, none⟩) (u := .slice (some ⟨bp, 0, none⟩) n n) (by show bp ≠ bx; omega) (keep_set (a := ⟨bx, 0, none⟩) (u := .int .i64 0) (by show bp ≠ bx; omega) np)
        replace nx := put2 (x0 := .int .i64 0) (x1 := .slice (some ⟨bp, 0, none⟩) n n) nx
        generalize (X4.setCell ⟨bx, 0, none⟩ (.int .i64 0)).setCell ⟨bx, 1, none⟩ (.slice (some ⟨bp, 0, none⟩) n n) = X5 at *
        clear hK
        try simp only [Act.put, List.setIfInBounds_toArray, List.set_cons_zero, List.set_cons_succ]
        refine wpAnyH_ready (rs := [11]) (by kernel_rfl) (by simp) ?_
        refine AllReadyH.cons (o := _) rfl (fun _ hK => ?_) AllReadyH.nil
        obtain ⟨y0, y1, yf⟩ := now2 nz rfl
        go_simp
        clear y0 y1 yf
        refine hK.out _ _ ((hHeld.setCell (by show w1.heap.size ≤ bz; omega) _).setCell (by show w1.heap.size ≤ bz; omega) _) (fun hHeld => ?_)
        replace nq := keep_set (a := ⟨bz, 1, none⟩) (u := .slice (some ⟨bq, 0, none⟩) n n) (by show bq ≠ bz; omega) (keep_set (a := ⟨bz, 0, none⟩) (u := .int .i64 0) (by show bq ≠ bz; omega) nq)
        replace np := keep_set (a := ⟨bz, 1, none⟩) (u := .slice (some ⟨bq, 0, none⟩) n n) (by show bp ≠ bz; omega) (keep_set (a := ⟨bz, 0, none⟩) (u := .int .i64 0) (by show bp ≠ bz; omega) np)
        replace nx := keep_set (a := ⟨bz, 1, none⟩) (u := .slice (some ⟨bq, 0, none⟩) n n) (by show bx ≠ bz; omega) (keep_set (a := ⟨bz, 0, none⟩) (u := .int .i64 0) (by show bx ≠ bz; omega) nx)
        replace nz := put2 (x0 := .int .i64 0) (x1 := .slice (some ⟨bq, 0, none⟩) n n) nz
        generalize (X5.setCell ⟨bz, 0, none⟩ (.int .i64 0)).setCell ⟨bz, 1, none⟩ (.slice (some ⟨bq, 0, none⟩) n n) = X6 at *
        clear hK
        try simp only [Act.put, List.setIfInBounds_toArray, List.set_cons_zero, List.set_cons_succ]
        refine wpAnyH_done (by kernel_rfl) ?_ _
        go_wp2_with fail
        go_meet
        exact ⟨bx, bz, bp, bq, rfl, rfl, nx, nz, np, nq, lx, lz, lp, lq, by omega, by omega, hHeld⟩
      refine AllReadyH.cons (o := _) rfl (fun _ hK => ?_) AllReadyH.nil
      go_simp
      have nx := heap_alloc_new X2 (.cells #[.int .i64 0, .slice none 0 0] 77 (0, 0))
      have hal := hHeld.alloc hHeld.size (.cells #[.int .i64 0, .slice none 0 0] 77 (0, 0))
      have lx := hHeld.size
      have dzx := size_of_block nz
      replace nz := keep_alloc (x := .cells #[.int .i64 0, .slice none 0 0] 77 (0, 0)) nz
      have dqx := size_of_block nq
      replace nq := keep_alloc (x := .cells #[.int .i64 0, .slice none 0 0] 77 (0, 0)) nq
      generalize X2.heap.size = bx at *
      generalize X2.alloc (.cells #[.int .i64 0, .slice none 0 0] 77 (0, 0)) = X3 at *
      refine hK.out _ _ hal (fun hHeld => ?_)
      clear hal
      clear hK
      try simp only [Act.put, List.setIfInBounds_toArray, List.set_cons_zero, List.set_cons_succ]
      refine wpAnyH_ready (rs := [2]) (by kernel_rfl) (by simp) ?_
      refine AllReadyH.cons (o := _) rfl (fun _ hK => ?_) AllReadyH.nil
      go_simp
      have np := heap_alloc_new X3 (celO 3 n fun _ => .int .i64 0)
      have hal := hHeld.alloc hHeld.size (celO 3 n fun _ => .int .i64 0)
      have lp := hHeld.size
      have dzp := size_of_block nz
      replace nz := keep_alloc (x := celO 3 n fun _ => .int .i64 0) nz
      have dqp := size_of_block nq
      replace nq := keep_alloc (x := celO 3 n fun _ => .int .i64 0) nq
      have dxp := size_of_block nx
      replace nx := keep_alloc (x := celO 3 n fun _ => .int .i64 0) nx
      generalize X3.heap.size = bp at *
      generalize X3.alloc (celO 3 n fun _ => .int .i64 0) = X4 at *
      refine hK.out _ _ hal (fun hHeld => ?_)
      clear hal
      clear hK
      try simp only [Act.put, List.setIfInBounds_toArray, List.set_cons_zero, List.set_cons_succ]
      refine wpAnyH_take (i := 3) (oi := _) (v := ?_) rfl (by kernel_rfl) (by kernel_rfl) (by kernel_rfl) (fun _ _ _ h => h) (Or.inl ⟨by rfl, ?_⟩) (by assumption) ?_
      rotate_left 1
      · intro w_ hSw
        go_simp
        try with_reducible rfl
      try simp only [Act.put, List.setIfInBounds_toArray]
      refine wpAnyH_ready (rs := [10]) (by kernel_rfl) (by simp) ?_
      refine AllReadyH.cons (o := _) rfl (fun _ hK => ?_) AllReadyH.nil
      obtain ⟨y0, y1, yf⟩ := now2 nx rfl
      go_simp
      clear y0 y1 yf
      refine hK.out _ _ ((hHeld.setCell (by show w1.heap.size ≤ bx; omega) _).setCell (by show w1.heap.size ≤ bx; omega) _) (fun hHeld => ?_)
      replace nz := keep_set (a := ⟨bx, 1, none⟩) (u := .slice (some ⟨bp, 0, none⟩) n n) (by show bz ≠ bx; omega) (keep_set (a := ⟨bx, 0, none⟩) (u := .int .i64 0) (by show bz ≠ bx; omega) nz)
      replace nq := keep_set (a := ⟨bx, 1, none⟩) (u := .slice (some ⟨bp, 0, none⟩) n n) (by show bq ≠ bx; omega) (keep_set (a := ⟨bx, 0, none⟩) (u := .int .i64 0) (by show bq ≠ bx; omega) nq)
      replace np := keep_set (a := ⟨bx, 1, none⟩) (u := .slice (some ⟨bp, 0, none⟩) n n) (by show bp ≠ bx; omega) (keep_set (a := ⟨bx, 0, none⟩) (u := .int .i64 0) (by show bp ≠ bx; omega) np)
      replace nx := put2 (x0 := .int .i64 0) (x1 := .slice (some ⟨bp, 0, none⟩) n n) nx
      generalize (X4.setCell ⟨bx, 0, none⟩ (.int .i64 0)).setCell ⟨bx, 1, none⟩ (.slice (some ⟨bp, 0, none⟩) n n) = X5 at *
      clear hK
      try simp only [Act.put, List.setIfInBounds_toArray, List.set_cons_zero, List.set_cons_succ]
      refine wpAnyH_ready (rs := [11]) (by kernel_rfl) (by simp) ?_
      refine AllReadyH.cons (o := _) rfl (fun _ hK => ?_) AllReadyH.nil
      obtain ⟨y0, y1, yf⟩ := now2 nz rfl
      go_simp
      clear y0 y1 yf
      refine hK.out _ _ ((hHeld.setCell (by show w1.heap.size ≤ bz; omega) _).setCell (by show w1.heap.size ≤ bz; omega) _) (fun hHeld => ?_)
      replace nq := keep_set (a := ⟨bz, 1, none⟩) (u := .slice (some ⟨bq, 0, none⟩) n n) (by show bq ≠ bz; omega) (keep_set (a := ⟨bz, 0, none⟩) (u := .int .i64 0) (by show bq ≠ bz; omega) nq)
      replace nx := keep_set (a := ⟨bz, 1, none⟩) (u := .slice (some ⟨bq, 0, none⟩) n n) (by show bx ≠ bz; omega) (keep_set (a := ⟨bz, 0, none⟩) (u := .int .i64 0) (by show bx ≠ bz; omega) nx)
      replace np := keep_set (a := ⟨bz, 1, none⟩) (u := .slice (some ⟨bq, 0, none⟩) n n) (by show bp ≠ bz; omega) (keep_set (a := ⟨bz, 0, none⟩) (u := .int .i64 0) (by show bp ≠ bz; omega) np)
      replace nz := put2 (x0 := .int .i64 0) (x1 := .slice (some ⟨bq, 0, none⟩) n n) nz
      generalize (X5.setCell ⟨bz, 0, none⟩ (.int .i64 0)).setCell ⟨bz, 1, none⟩ (.slice (some ⟨bq, 0, none⟩) n n) = X6 at *
      clear hK
      try simp only [Act.put, List.setIfInBounds_toArray, List.set_cons_zero, List.set_cons_succ]
      refine wpAnyH_done (by kernel_rfl) ?_ _
      go_wp2_with fail
      go_meet
      exact ⟨bx, bz, bp, bq, rfl, rfl, nx, nz, np, nq, lx, lz, lp, lq, by omega, by omega, hHeld⟩
    refine AllReadyH.cons (o := _) rfl (fun _ hK => ?_) AllReadyH.nil
    go_simp
    have nx := heap_alloc_new X1 (.cells #[.int .i64 0, .slice none 0 0] 77 (0, 0))
    have hal := hHeld.alloc hHeld.size (.cells #[.int .i64 0, .slice none 0 0] 77 (0, 0))
    have lx := hHeld.size
    have dzx := size_of_block nz
    replace nz := keep_alloc (x := .cells #[.int .i64 0, .slice none 0 0] 77 (0, 0)) nz
    generalize X1.heap.size = bx at *
    generalize X1.alloc (.cells #[.int .i64 0, .slice none 0 0] 77 (0, 0)) = X2 at *
    refine hK.out _ _ hal (fun hHeld => ?_)
    clear hal
    clear hK
    try simp only [Act.put, List.setIfInBounds_toArray, List.set_cons_zero, List.set_cons_succ]
    refine wpAnyH_ready (rs := [2, 6]) (by kernel_rfl) (by simp) ?_
    refine AllReadyH.cons (o := _) rfl (fun _ hK => ?_) ?_
    · go_simp
      have np := heap_alloc_new X2 (celO 3 n fun _ => .int .i64 0)
      have hal := hHeld.alloc hHeld.size (celO 3 n fun _ => .int .i64 0)
      have lp := hHeld.size
      have dzp := size_of_block nz
      replace nz := keep_alloc (x := celO 3 n fun _ => .int .i64 0) nz
      have dxp := size_of_block nx
      replace nx := keep_alloc (x := celO 3 n fun _ => .int .i64 0) nx
      generalize X2.heap.size = bp at *
      generalize X2.alloc (celO 3 n fun _ => .int .i64 0) = X3 at *
      refine hK.out _ _ hal (fun hHeld => ?_)
      clear hal
      clear hK
      try simp only [Act.put, List.setIfInBounds_toArray, List.set_cons_zero, List.set_cons_succ]
      refine wpAnyH_take (i := 3) (oi := _) (v := ?_) rfl (by kernel_rfl) (by kernel_rfl) (by kernel_rfl) (fun _ _ _ h => h) (Or.inl ⟨by rfl, ?_⟩) (by assumption) ?_
      rotate_left 1
      · intro w_ hSw
        go_simp
        try with_reducible rfl
      try simp only [Act.put, List.setIfInBounds_toArray]
      refine wpAnyH_ready (rs := [6, 10]) (by kernel_rfl) (by simp) ?_
      refine AllReadyH.cons (o := _) rfl (fun _ hK => ?_) ?_
      · go_simp
        have nq := heap_alloc_new X3 (celO 3 n fun _ => .int .i64 0)
        have hal := hHeld.alloc hHeld.size (celO 3 n fun _ => .int .i64 0)
        have lq := hHeld.size
        have dzq := size_of_block nz
        replace nz := keep_alloc (x := celO 3 n fun _ => .int .i64 0) nz
        have dxq := size_of_block nx
        replace nx := keep_alloc (x := celO 3 n fun _ => .int .i64 0) nx
        have dpq := size_of_block np
        replace np := keep_alloc (x := celO 3 n fun _ => .int .i64 0) np
        generalize X3.heap.size = bq at *
        generalize X3.alloc (celO 3 n fun _ => .int .i64 0) = X4 at *
        refine hK.out _ _ hal (fun hHeld => ?_)
        clear hal
        clear hK
        try simp only [Act.put, List.setIfInBounds_toArray, List.set_cons_zero, List.set_cons_succ]
        refine wpAnyH_take (i := 7) (oi := _) (v := ?_) rfl (by kernel_rfl) (by kernel_rfl) (by kernel_rfl) (fun _ _ _ h => h) (Or.inl ⟨by rfl, ?_⟩) (by assumption) ?_
        rotate_left 1
        · intro w_ hSw
          go_simp
          try with_reducible rfl
        try simp only [Act.put, List.setIfInBounds_toArray]
        refine wpAnyH_ready (rs := [10]) (by kernel_rfl) (by simp) ?_
        refine AllReadyH.cons (o := _) rfl (fun _ hK => ?_) AllReadyH.nil
        obtain ⟨y0, y1, yf⟩ := now2 nx rfl
        go_simp
        clear y0 y1 yf
        refine hK.out _ _ ((hHeld.setCell (by show w1.heap.size ≤ bx; omega) _).setCell (by show w1.heap.size ≤ bx; omega) _) (fun hHeld => ?_)
        replace nz := keep_set (a := ⟨bx, 1, none⟩) (u := .slice (some ⟨bp, 0, none⟩) n n) (by show bz ≠ bx; omega) (keep_set (a := ⟨bx, 0, none⟩) (u := .int .i64 0) (by show bz ≠ bx; omega) nz)
        replace np := keep_set (a := ⟨bx, 1, none⟩) (u := .slice (some ⟨bp, 0, none⟩) n n) (by show bp ≠ bx; omega) (keep_set (a := ⟨bx, 0, none⟩) (u := .int .i64 0) (by show bp ≠ bx; omega) np)
        replace nq := keep_set (a := ⟨bx, 1, none⟩) (u := .slice (some ⟨bp, 0, none⟩) n n) (by show bq ≠ bx; omega) (keep_set (a := ⟨bx, 0, none⟩) (u := .int .i64 0) (by show bq ≠ bx; omega) nq)
        replace nx := put2 (x0 := .int .i64 0) (x1 := .slice (some ⟨bp, 0, none⟩) n n) nx
        generalize (X4.setCell ⟨bx, 0, none⟩ (.int .i64 0)).setCell ⟨bx, 1, none⟩ (.slice (some ⟨bp, 0, none⟩) n n) = X5 at *
        clear hK
        try simp only [Act.put, List.setIfInBounds_toArray, List.set_cons_zero, List.set_cons_succ]
        refine wpAnyH_ready (rs := [11]) (by kernel_rfl) (by simp) ?_
        refine AllReadyH.cons (o := _) rfl (fun _ hK => ?_) AllReadyH.nil
        obtain ⟨y0, y1, yf⟩ := now2 nz rfl
        go_simp
        clear y0 y1 yf
        refine hK.out _ _ ((hHeld.setCell (by show w1.heap.size ≤ bz; omega) _).setCell (by show w1.heap.size ≤ bz; omega) _) (fun hHeld => ?_)
        replace nx := keep_set (a := ⟨bz, 1, none⟩) (u := .slice (some ⟨bq, 0, none⟩) n n) (by show bx ≠ bz; omega) (keep_set (a := ⟨bz, 0, none⟩) (u := .int .i64 0) (by show bx ≠ bz; omega) nx)
        replace np := keep_set (a := ⟨bz, 1, none⟩) (u := .slice (some ⟨bq, 0, none⟩) n n) (by show bp ≠ bz; omega) (keep_set (a := ⟨bz, 0, none⟩) (u := .int .i64 0) (by show bp ≠ bz; omega) np)
        replace nq := keep_set (a := ⟨bz, 1, none⟩) (u := .slice (some ⟨bq, 0, none⟩) n n) (by show bq ≠ bz; omega) (keep_set (a := ⟨bz, 0, none⟩) (u := .int .i64 0) (by show bq ≠ bz; omega) nq)
        replace nz := put2 (x0 := .int .i64 0) (x1 := .slice (some ⟨bq, 0, none⟩) n n) nz
        generalize (X5.setCell ⟨bz, 0, none⟩ (.int .i64 0)).setCell ⟨bz, 1, none⟩ (.slice (some ⟨bq, 0, none⟩) n n) = X6 at *
        clear hK
        try simp only [Act.put, List.setIfInBounds_toArray, List.set_cons_zero, List.set_cons_succ]
        refine wpAnyH_done (by kernel_rfl) ?_ _
        go_wp2_with fail
        go_meet
        exact ⟨bx, bz, bp, bq, rfl, rfl, nx, nz, np, nq, lx, lz, lp, lq, by omega, by omega, hHeld⟩
      refine AllReadyH.cons (o := _) rfl (fun _ hK => ?_) AllReadyH.nil
      obtain ⟨y0, y1, yf⟩ := now2 nx rfl
      go_simp
      clear y0 y1 yf
      refine hK.out _ _ ((hHeld.setCell (by show w1.heap.size ≤ bx; omega) _).setCell (by show w1.heap.size ≤ bx; omega) _) (fun hHeld => ?_)
      replace nz := keep_set (a := ⟨bx, 1, none⟩) (u := .slice (some ⟨bp, 0, none⟩) n n) (by show bz ≠ bx; omega) (keep_set (a := ⟨bx, 0, none⟩) (u := .int .i64 0) (by show bz ≠ bx; omega) nz)
      replace np := keep_set (a := ⟨bx, 1, none⟩) (u := .slice (some ⟨bp, 0, none⟩) n n) (by show bp ≠ bx; omega) (keep_set (a := ⟨bx, 0, none⟩) (u := .int .i64 0) (by show bp ≠ bx; omega) np)
      replace nx := put2 (x0 := .int .i64 0) (x1 := .slice (some ⟨bp, 0, none⟩) n n) nx
      generalize (X3.setCell ⟨bx, 0, none⟩ (.int .i64 0)).setCell ⟨bx, 1, none⟩ (.slice (some ⟨bp, 0, none⟩) n n) = X4 at *
      clear hK
      try simp only [Act.put, List.setIfInBounds_toArray, List.set_cons_zero, List.set_cons_succ]
      refine wpAnyH_ready (rs := [6]) (by kernel_rfl) (by simp) ?_
      refine AllReadyH.cons (o := _) rfl (fun _ hK => ?_) AllReadyH.nil
      go_simp
      have nq := heap_alloc_new X4 (celO 3 n fun _ => .int .i64 0)
      have hal := hHeld.alloc hHeld.size (celO 3 n fun _ => .int .i64 0)
      have lq := hHeld.size
      have dzq := size_of_block nz
      replace nz := keep_alloc (x := celO 3 n fun _ => .int .i64 0) nz
      have dxq := size_of_block nx
      replace nx := keep_alloc (x := celO 3 n fun _ => .int .i64 0) nx
      have dpq := size_of_block np
      replace np := keep_alloc (x := celO 3 n fun _ => .int .i64 0) np
      generalize X4.heap.size = bq at *
      generalize X4.alloc (celO 3 n fun _ => .int .i64 0) = X5 at *
      refine hK.out _ _ hal (fun hHeld => ?_)
      clear hal
      clear hK
      try simp only [Act.put, List.setIfInBounds_toArray, List.set_cons_zero, List.set_cons_succ]
      refine wpAnyH_take (i := 7) (oi := _) (v := ?_) rfl (by kernel_rfl) (by kernel_rfl) (by kernel_rfl) (fun _ _ _ h => h) (Or.inl ⟨by rfl, ?_⟩) (by assumption) ?_
      rotate_left 1
      · intro w_ hSw
        go_simp
        try with_reducible rfl
      try simp only [Act.put, List.setIfInBounds_toArray]
      refine wpAnyH_ready (rs := [11]) (by kernel_rfl) (by simp) ?_
      refine AllReadyH.cons (o := _) rfl (fun _ hK => ?_) AllReadyH.nil
      obtain ⟨y0, y1, yf⟩ := now2 nz rfl
      go_simp
      clear y0 y1 yf
      refine hK.out _ _ ((hHeld.setCell (by show w1.heap.size ≤ bz; omega) _).setCell (by show w1.heap.size ≤ bz; omega) _) (fun hHeld => ?_)
      replace nx := keep_set (a := ⟨bz, 1, none⟩) (u := .slice (some ⟨bq, 0, none⟩) n n) (by show bx ≠ bz; omega) (keep_set (a := ⟨bz, 0, none⟩) (u := .int .i64 0) (by show bx ≠ bz; omega) nx)
      replace np := keep_set (a := ⟨bz, 1, none⟩) (u := .slice (some ⟨bq, 0, none⟩) n n) (by show bp ≠ bz; omega) (keep_set (a := ⟨bz, 0, none⟩) (u := .int .i64 0) (by show bp ≠ bz; omega) np)
      replace nq := keep_set (a := ⟨bz, 1, none⟩) (u := .slice (some ⟨bq, 0, none⟩) n n) (by show bq ≠ bz; omega) (keep_set (a := ⟨bz, 0, none⟩) (u := .int .i64 0) (by show bq ≠ bz; omega) nq)
      replace nz := put2 (x0 := .int .i64 0) (x1 := .slice (some ⟨bq, 0, none⟩) n n) nz
      generalize (X5.setCell ⟨bz, 0, none⟩ (.int .i64 0)).setCell ⟨bz, 1, none⟩ (.slice (some ⟨bq, 0, none⟩) n n) = X6 at *
      clear hK
      try simp only [Act.put, List.setIfInBounds_toArray, List.set_cons_zero, List.set_cons_succ]
      refine wpAnyH_done (by kernel_rfl) ?_ _
      go_wp2_with fail
      go_meet
      exact ⟨bx, bz, bp, bq, rfl, rfl, nx, nz, np, nq, lx, lz, lp, lq, by omega, by omega, hHeld⟩
    refine AllReadyH.cons (o := _) rfl (fun _ hK => ?_) AllReadyH.nil
    go_simp
    have nq := heap_alloc_new X2 (celO 3 n fun _ => .int .i64 0)
    have hal := hHeld.alloc hHeld.size (celO 3 n fun _ => .int .i64 0)
    have lq := hHeld.size
    have dzq := size_of_block nz
    replace nz := keep_alloc (x := celO 3 n fun _ => .int .i64 0) nz
    have dxq := size_of_block nx
    replace nx := keep_alloc (x := celO 3 n fun _ => .int .i64 0) nx
    generalize X2.heap.size = bq at *
    generalize X2.alloc (celO 3 n fun _ => .int .i64 0) = X3 at *
    refine hK.out _ _ hal (fun hHeld => ?_)
    clear hal
    clear hK
    try simp only [Act.put, List.setIfInBounds_toArray, List.set_cons_zero, List.set_cons_succ]
    refine wpAnyH_take (i := 7) (oi := _) (v := ?_) rfl (by kernel_rfl) (by kernel_rfl) (by kernel_rfl) (fun _ _ _ h => h) (Or.inl ⟨by rfl, ?_⟩) (by assumption) ?_
    rotate_left 1
    · intro w_ hSw
      go_simp
      try with_reducible rfl
    try simp only [Act.put, List.setIfInBounds_toArray]
    refine wpAnyH_ready (rs := [2]) (by kernel_rfl) (by simp) ?_
    refine AllReadyH.cons (o := _) rfl (fun _ hK => ?_) AllReadyH.nil
    go_simp
    have np := heap_alloc_new X3 (celO 3 n fun _ => .int .i64 0)
    have hal := hHeld.alloc hHeld.size (celO 3 n fun _ => .int .i64 0)
    have lp := hHeld.size
    have dzp := size_of_block nz
    replace nz := keep_alloc (x := celO 3 n fun _ => .int .i64 0) nz
    have dxp := size_of_block nx
    replace nx := keep_alloc (x := celO 3 n fun _ => .int .i64 0) nx
    have dqp := size_of_block nq
    replace nq := keep_alloc (x := celO 3 n fun _ => .int .i64 0) nq
    generalize X3.heap.size = bp at *
    generalize X3.alloc (celO 3 n fun _ => .int .i64 0) = X4 at *
    refine hK.out _ _ hal (fun hHeld => ?_)
    clear hal
    clear hK
    try simp only [Act.put, List.setIfInBounds_toArray, List.set_cons_zero, List.set_cons_succ]
    refine wpAnyH_take (i := 3) (oi := _) (v := ?_) rfl (by kernel_rfl) (by kernel_rfl) (by kernel_rfl) (fun _ _ _ h => h) (Or.inl ⟨by rfl, ?_⟩) (by assumption) ?_
    rotate_left 1
    · intro w_ hSw
      go_simp
      try with_reducible rfl
    try simp only [Act.put, List.setIfInBounds_toArray]
    refine wpAnyH_ready (rs := [10]) (by kernel_rfl) (by simp) ?_
    refine AllReadyH.cons (o := _) rfl (fun _ hK => ?_) AllReadyH.nil
    obtain ⟨y0, y1, yf⟩ := now2 nx rfl
    go_simp
    clear y0 y1 yf
    refine hK.out _ _ ((hHeld.setCell (by show w1.heap.size ≤ bx; omega) _).setCell (by show w1.heap.size ≤ bx; omega) _) (fun hHeld => ?_)
    replace nz := keep_set (a := ⟨bx, 1, none⟩) (u := .slice (some ⟨bp, 0, none⟩) n n) (by show bz ≠ bx; omega) (keep_set (a := ⟨bx, 0, none⟩) (u := .int .i64 0) (by show bz ≠ bx; omega) nz)
    replace nq := keep_set (a := ⟨bx, 1, none⟩) (u := .slice (some ⟨bp, 0, none⟩) n n) (by show bq ≠ bx; omega) (keep_set (a := ⟨bx, 0, none⟩) (u := .int .i64 0) (by show bq ≠ bx; omega) nq)
    replace np := keep_set (a := ⟨bx, 1, none⟩) (u := .slice (some ⟨bp, 0, none⟩) n n) (by show bp ≠ bx; omega) (keep_set (a := ⟨bx, 0, none⟩) (u := .int .i64 0) (by show bp ≠ bx; omega) np)
    replace nx := put2 (x0 := .int .i64 0) (x1 := .slice (some ⟨bp, 0, none⟩) n n) nx
    generalize (X4.setCell ⟨bx, 0, none⟩ (.int .i64 0)).setCell ⟨bx, 1, none⟩ (.slice (some ⟨bp, 0, none⟩) n n) = X5 at *
    clear hK
    try simp only [Act.put, List.setIfInBounds_toArray, List.set_cons_zero, List.set_cons_succ]
    refine wpAnyH_ready (rs := [11]) (by kernel_rfl) (by simp) ?_
    refine AllReadyH.cons (o := _) rfl (fun _ hK => ?_) AllReadyH.nil
    obtain ⟨y0, y1, yf⟩ := now2 nz rfl
    go_simp
    clear y0 y1 yf
    refine hK.out _ _ ((hHeld.setCell (by show w1.heap.size ≤ bz; omega) _).setCell (by show w1.heap.size ≤ bz; omega) _) (fun hHeld => ?_)
    replace nx := keep_set (a := ⟨bz, 1, none⟩) (u := .slice (some ⟨bq, 0, none⟩) n n) (by show bx ≠ bz; omega) (keep_set (a := ⟨bz, 0, none⟩) (u := .int .i64 0) (by show bx ≠ bz; omega) nx)
    replace nq := keep_set (a := ⟨bz, 1, none⟩) (u := .slice (some ⟨bq, 0, none⟩) n n) (by show bq ≠ bz; omega) (keep_set (a := ⟨bz, 0, none⟩) (u := .int .i64 0) (by show bq ≠ bz; omega) nq)
    replace np := keep_set (a := ⟨bz, 1, none⟩) (u := .slice (some ⟨bq, 0, none⟩) n n) (by show bp ≠ bz; omega) (keep_set (a := ⟨bz, 0, none⟩) (u := .int .i64 0) (by show bp ≠ bz; omega) np)
    replace nz := put2 (x0 := .int .i64 0) (x1 := .slice (some ⟨bq, 0, none⟩) n n) nz
    generalize (X5.setCell ⟨bz, 0, none⟩ (.int .i64 0)).setCell ⟨bz, 1, none⟩ (.slice (some ⟨bq, 0, none⟩) n n) = X6 at *
    clear hK
    try simp only [Act.put, List.setIfInBounds_toArray, List.set_cons_zero, List.set_cons_succ]
    refine wpAnyH_done (by kernel_rfl) ?_ _
    go_wp2_with fail
    go_meet
    exact ⟨bx, bz, bp, bq, rfl, rfl, nx, nz, np, nq, lx, lz, lp, lq, by omega, by omega, hHeld⟩
  case rest =>
    rename World => wB
    obtain ⟨bx, bz, bp, bq, rfl, rfl, nx, nz, np, nq, lx, lz, lp, lq, hxz, hpq, hb2⟩ := hcut
    clear a0 a1 m0 m1
    have hbel2 : Below (w.heap.size + 2) w1 wB := hb2.mono (by omega)
    have hlo : w.heap.size + 2 ≤ w1.heap.size := by omega
    have hM0 : PrM w1 wB (w.heap.size + 2) bx bz bp bq g n ls 0 (List.replicate n 0) 0 (fun _ => 0) ps :=
      ⟨bill_none hn, ⟨nx, by
        rw [np]
        exact congrArg some (celO_ext fun p hp => by rw [List.getD_eq_getElem?_getD, List.getElem?_replicate, if_pos hp]; rfl)⟩, ⟨nz, nq⟩, hpB.same (hb2.block g hgl), hpo, hplH.out, hbel2⟩
    have hmbB := (hbel2.block w.heap.size (by omega)).trans hmb
    have hBB := hB1.trans (hbel2.mono (by omega))
    have HQ := moves15_any n (.slice A ls.length c) ls wB ((hVH.out.below hBB).more hBB.size) (by omega) (fun r hr => ⟨by
      rcases ris_len (hriH.out r hr) with h | h
      · omega
      · rw [h]; decide, hneH.out r hr⟩) h0H.out
    unfold mtv at HQ
    obtain ⟨m0, m1, -⟩ := now2 hmbB rfl
    have hsB := hb2.size
    clear nx nz np nq hpB hpo hmbB hb2
    go_wp2_with fail
    refine HQ.mono ?_
    rintro e wC ⟨q, rfl, hq3, hbC⟩
    have hMC := hM0.below hbC (by omega)
    clear HQ hM0 m0 m1 hbel2 hBB
    have hgx : g ≠ bx := by omega
    have hgz : g ≠ bz := by omega
    have hgp : g ≠ bp := by omega
    have hgq : g ≠ bq := by omega
    have hlx : w.heap.size + 2 ≤ bx := by omega
    have hlz : w.heap.size + 2 ≤ bz := by omega
    have hlp : w.heap.size + 2 ≤ bp := by omega
    have hlq : w.heap.size + 2 ≤ bq := by omega
    clear lx lz lp lq hgl hs1 hsB hbC hsz
    go_wp2
    go_loopw [8, 9, 22] (fun s8 s9 t wr => ∃ (i L v : Nat) (l6 : Int) (u6 : List Int) (a7 : Int) (f7 : Nat → Int) (qs : List Int), i ≤ 300 ∧ t = .int .i64 i ∧ s8 = .int .i64 L ∧ L ≤ 256 ∧ s9 = .int .i64 v ∧ v ≤ 14 ∧ PrM w1 wr (w.heap.size + 2) bx bz bp bq g n ls l6 u6 a7 f7 qs) (fun _ _ t _ => 300 - (intOf t).toNat)
    case atStart => exact ⟨0, 256, 0, 0, _, 0, _, ps, by omega, rfl, rfl, by omega, rfl, by omega, hMC⟩
    case round =>
      clear hMC hps0
      have hplH2 := hplH
      obtain ⟨i, L, v, l6, u6, a7, f7, qs, hi, rfl, rfl, hL, rfl, hv, hM⟩ := hrel
      have hbw := hM.bel
      have hBw := hB1.trans (hbw.mono (by omega : w.heap.size ≤ w.heap.size + 2))
      have hmbW := (hbw.block w.heap.size (by omega)).trans hmb
      have hrbW := (hbw.block (w.heap.size + 1) (by omega)).trans hrb
      have hws := hbw.size
      by_cases hlt : (i : Int) < q
      · have hMo : MatN wr (fun b => b ≠ bz ∧ b ≠ bq) (.slice A ls.length c) ls := hVN.keep15 (fun b hb => hBw.block b hb) (fun b hb => by omega)
        have HS := sum15_any n bz bq g cp (.slice A ls.length c) ls qs a7 f7 wr ((hVH.out.below hBw).more hBw.size) hMo hn hls hriH.out hM.b7 hM.pr hgz hgq hM.pl hM.pok
        have hbn := bill_of hlow.out hM.pl hM.pok hn hls
        have hqo : qs.length = ls.length := hM.pl
        obtain ⟨few0, few1⟩ := hbn.few
        have hlq2 : Hid (qs.length = ps.length) := Lib.hid (by rw [hqo, hplH2.out])
        unfold mtv at HS
        obtain ⟨m0, m1, -⟩ := now2 hmbW rfl
        have hqlen := hlq2.out
        rw [hqlen] at HS
        clear hqo hqlen
        go_wp2_with fail
        refine HS.mono ?_
        rintro e w3 ⟨rfl, hB3, hS3⟩
        have hM3 := hM.sum hS3 hB3 hxz hpq hgz hgq hlz hlq (by omega)
        generalize hLP : leastP ls qs n = lp at *
        clear HS hS3 hB3 m0 m1 hMo hM hmbW hrbW hBw hbw
        have hbw := hM3.bel
        have hBw := hB1.trans (hbw.mono (by omega : w.heap.size ≤ w.heap.size + 2))
        have hmbW := (hbw.block w.heap.size (by omega)).trans hmb
        have hrbW := (hbw.block (w.heap.size + 1) (by omega)).trans hrb
        have hws3 := hbw.size
        obtain ⟨z0, z1, -⟩ := now2 hM3.b7.box rfl
        obtain ⟨x0, x1, xf⟩ := now2 hM3.b6.box rfl
        have hM3H := Lib.hid hM3
        have hbnH := Lib.hid hbn
        have hmbH := Lib.hid hmbW
        have hrbH := Lib.hid hrbW
        clear hbn hM3 hmbW hrbW
        go_upto_if 31 with (fail)
        have hgd : decide (l6 < lp) = true ∨ decide (l6 < lp) = false := by cases decide (l6 < lp) <;> simp
        go_cut [8, 9] from 32 to 45 (fun s8 s9 wc => ∃ (L v : Nat) (l6 : Int) (u6 : List Int), s8 = .int .i64 L ∧ L ≤ 256 ∧ s9 = .int .i64 v ∧ v ≤ 14 ∧ PrM w1 wc (w.heap.size + 2) bx bz bp bq g n ls l6 u6 lp (fun p => 1048576 - payU ls qs p) qs)
        case first =>
          clear hVH hVN hriH hneH h0H hlow hmk hgd
          by_cases hgt : l6 < lp
          · have hM := hM3H.out
            have hW3 : BilM (w3.setCell ⟨bx, 0, none⟩ (.int .i64 lp)) bx bp n lp (fun p => u6.getD p 0) := hM.b6.putA lp
            have hW7 : BilM (w3.setCell ⟨bx, 0, none⟩ (.int .i64 lp)) bz bq n lp (fun p => 1048576 - payU ls qs p) := ⟨keep_set (fun e => hxz e.symm) hM.b7.box, keep_set (blkne15 hM.b7.up hM.b6.box (by decide)) hM.b7.up⟩
            have hWp : IntB (w3.setCell ⟨bx, 0, none⟩ (.int .i64 lp)) g qs := hM.pr.same (Below.heap_setCell _ _ _ _ hgx)
            have hWb : Below (w.heap.size + 2) w1 (w3.setCell ⟨bx, 0, none⟩ (.int .i64 lp)) := hM.bel.setCell (p := ⟨bx, 0, none⟩) hlx _
            obtain ⟨W4, v4, hcp, hup, hoth, hsz4, hbl4⟩ := copy15 hW3.up hW7.up hlp
            have hM4 : PrM w1 W4 (w.heap.size + 2) bx bz bp bq g n ls lp (upP ls qs n) lp (fun p => 1048576 - payU ls qs p) qs :=
              ⟨hbnH.out, ⟨(hoth bx (fun e => hW3.ne e.symm)).trans hW3.box, by
                rw [hup]
                exact congrArg some (celO_ext fun p hp => by rw [List.getD_eq_getElem?_getD, up_get hp]; rfl)⟩, ⟨(hoth bz (blkne15 hW7.box hW3.up (by decide))).trans hW7.box, (hoth bq (fun e => hpq e.symm)).trans hW7.up⟩, hWp.same (hoth g hgp), hM.pok, hM.pl, hbl4 _ hWb⟩
            have hM4 := Lib.hid hM4
            have hcp := fun ty => hcp ty
            obtain ⟨y0, y1, -⟩ := now2 hW3.box rfl
            obtain ⟨t0, t1, -⟩ := now2 hW7.box rfl
            clear hM hW3 hW7 hWp hWb hup hoth hbl4 hM3H hbnH hmbH hrbH
            go_wp2
            go_meet
            exact ⟨L, 0, lp, _, rfl, hL, rfl, by omega, hM4.out⟩
          · clear hbnH hmbH hrbH
            by_cases hv15 : v = 14
            · subst hv15
              clear x0 x1 xf z0 z1
              go_wp2
              go_meet
              exact ⟨L / 2, 0, l6, u6, by go_num, by omega, rfl, by omega, hM3H.out⟩
            · have hv15' : ((v : Int) + 1 == 15) = false := by rw [beq_eq_false_iff_ne]; omega
              clear x0 x1 xf z0 z1
              go_wp2
              go_meet
              exact ⟨L, v + 1, l6, u6, rfl, hL, by go_num, by omega, hM3H.out⟩
        case rest =>
          rename World => wD
          clear hM3H hbnH hmbH hrbH x0 x1 xf z0 z1 hbw hBw hws3 hgd
          obtain ⟨L2, v2, l6, u6, rfl, hL2, rfl, hv2, hM⟩ := hcut
          have hbw := hM.bel
          have hBw := hB1.trans (hbw.mono (by omega : w.heap.size ≤ w.heap.size + 2))
          have hmbW := (hbw.block w.heap.size (by omega)).trans hmb
          have hrbW := (hbw.block (w.heap.size + 1) (by omega)).trans hrb
          have hwsD := hbw.size
          obtain ⟨m0, m1, -⟩ := now2 hmbW rfl
          obtain ⟨x0, x1, -⟩ := now2 hM.b6.box rfl
          obtain ⟨z0, z1, -⟩ := now2 hM.b7.box rfl
          by_cases hbr : most < l6
          · have hr2 := put2 (x0 := .int .i64 l6) (x1 := .slice (some ⟨bp, 0, none⟩) n n) hrbW
            have hfin : Hid (BillOk n ls l6 u6 ∧ (((wD.setCell ⟨w.heap.size + 1, 0, none⟩ (.int .i64 l6)).setCell ⟨w.heap.size + 1, 1, none⟩ (.slice (some ⟨bp, 0, none⟩) n n)).heap[bp]? = some (celO 3 n fun p => .int .i64 (u6.getD p 0))) ∧ Below w.heap.size w ((wD.setCell ⟨w.heap.size + 1, 0, none⟩ (.int .i64 l6)).setCell ⟨w.heap.size + 1, 1, none⟩ (.slice (some ⟨bp, 0, none⟩) n n))) := Lib.hid ⟨hM.bil, keep_set2 (by omega) hM.b6.up, below2 (by omega) hBw⟩
            obtain ⟨n0, n1, -⟩ := now2 hM.b6.box rfl
            obtain ⟨r0, r1, rf⟩ := now2 hrbW rfl
            obtain ⟨p0, p1, -⟩ := now2 hr2 rfl
            clear hM hr2 hrbW hmbW hBw hbw hVH hVN hriH hneH h0H hlow hmk
            go_wp2
            generalize (wD.setCell ⟨w.heap.size + 1, 0, none⟩ _).setCell _ _ = wz at *
            refine bodyPost_ret (v := .agg #[.int .i64 l6, .slice (some ⟨bp, 0, none⟩) n n]) (by simp [results, Try.results56, go_sem, p0, p1]) rfl ?_
            exact ⟨l6, u6, bp, rfl, hfin.out.1, by omega, hfin.out.2.1, hfin.out.2.2⟩
          · have hMo : MatN wD (fun b => b ≠ g) (.slice A ls.length c) ls := hVN.keep15 (fun b hb => hBw.block b hb) (fun b hb => by omega)
            obtain ⟨lb0, lb1⟩ := len_bound15 (x := most + 1048576 - lp) (X := 2100000000000) hL2 (by omega) (by omega) (by omega)
            have hx1 : IntKind.i64.wrap (most + 1048576) = most + 1048576 := by rw [IntKind.wrap_i64]; omega
            have hx2 : IntKind.i64.wrap (most + 1048576 - lp) = most + 1048576 - lp := by rw [IntKind.wrap_i64]; omega
            have hx3 : IntKind.i64.wrap ((most + 1048576 - lp) * (L2 : Int)) = (most + 1048576 - lp) * (L2 : Int) := by rw [IntKind.wrap_i64]; omega
            obtain ⟨td0, td1⟩ := tdiv_bound15 lb0 lb1
            have HM := move15_any n bz bq g cp (.slice A ls.length c) ls qs lp (((most + 1048576 - lp) * (L2 : Int)).tdiv 256) (fun p => 1048576 - payU ls qs p) wD hMo hn hls hriH.out hM.b7 hM.pr hgz hgq hM.pl hM.pok (by omega)
            rw [hlq2.out] at HM
            unfold mtv at HM
            go_wp2_with fail
            clear hx1 hx2 hx3 td0 td1 lb0 lb1
            generalize ((most + 1048576 - lp) * (L2 : Int)).tdiv 256 = byv at *
            refine HM.mono ?_
            rintro e w5 ⟨q5, ps5, rfl, hl5, ho5, hB5, hS5⟩
            have hM5 := hM.move hS5 hB5 ho5 (hl5.trans hlq2.out.symm) hgx hgz hgp hgq hg2 (by omega)
            clear HM hMo hM hS5 hB5 ho5 m0 m1 x0 x1 z0 z1 hbw hBw hmbW hrbW
            have hbw := hM5.bel
            have hBw := hB1.trans (hbw.mono (by omega : w.heap.size ≤ w.heap.size + 2))
            have hmbW := (hbw.block w.heap.size (by omega)).trans hmb
            have hrbW := (hbw.block (w.heap.size + 1) (by omega)).trans hrb
            have hws5 := hbw.size
            have hM := hM5
            cases q5
            · clear hM5
              have hr2 := put2 (x0 := .int .i64 l6) (x1 := .slice (some ⟨bp, 0, none⟩) n n) hrbW
              have hfin : Hid (BillOk n ls l6 u6 ∧ (((w5.setCell ⟨w.heap.size + 1, 0, none⟩ (.int .i64 l6)).setCell ⟨w.heap.size + 1, 1, none⟩ (.slice (some ⟨bp, 0, none⟩) n n)).heap[bp]? = some (celO 3 n fun p => .int .i64 (u6.getD p 0))) ∧ Below w.heap.size w ((w5.setCell ⟨w.heap.size + 1, 0, none⟩ (.int .i64 l6)).setCell ⟨w.heap.size + 1, 1, none⟩ (.slice (some ⟨bp, 0, none⟩) n n))) := Lib.hid ⟨hM.bil, keep_set2 (by omega) hM.b6.up, below2 (by omega) hBw⟩
              obtain ⟨n0, n1, -⟩ := now2 hM.b6.box rfl
              obtain ⟨r0, r1, rf⟩ := now2 hrbW rfl
              obtain ⟨p0, p1, -⟩ := now2 hr2 rfl
              clear hM hr2 hrbW hmbW hBw hbw hVH hVN hriH hneH h0H hlow hmk
              go_wp2
              generalize (w5.setCell ⟨w.heap.size + 1, 0, none⟩ _).setCell _ _ = wz at *
              refine bodyPost_ret (v := .agg #[.int .i64 l6, .slice (some ⟨bp, 0, none⟩) n n]) (by simp [results, Try.results56, go_sem, p0, p1]) rfl ?_
              exact ⟨l6, u6, bp, rfl, hfin.out.1, by omega, hfin.out.2.1, hfin.out.2.2⟩
            · have hM5 := Lib.hid hM5
              clear hM hbw hBw hmbW hrbW hl5
              go_wp2
              go_roundw
              case rel => exact ⟨i + 1, L2, v2, l6, u6, lp, _, ps5, by omega, by go_num, rfl, hL2, rfl, hv2, hM5.out⟩
              case measure => simp [intOf]; omega
      · have hr2 := put2 (x0 := .int .i64 l6) (x1 := .slice (some ⟨bp, 0, none⟩) n n) hrbW
        have hfin : Hid (BillOk n ls l6 u6 ∧ (((wr.setCell ⟨w.heap.size + 1, 0, none⟩ (.int .i64 l6)).setCell ⟨w.heap.size + 1, 1, none⟩ (.slice (some ⟨bp, 0, none⟩) n n)).heap[bp]? = some (celO 3 n fun p => .int .i64 (u6.getD p 0))) ∧ Below w.heap.size w ((wr.setCell ⟨w.heap.size + 1, 0, none⟩ (.int .i64 l6)).setCell ⟨w.heap.size + 1, 1, none⟩ (.slice (some ⟨bp, 0, none⟩) n n))) := Lib.hid ⟨hM.bil, keep_set2 (by omega) hM.b6.up, below2 (by omega) hBw⟩
        obtain ⟨n0, n1, -⟩ := now2 hM.b6.box rfl
        obtain ⟨r0, r1, rf⟩ := now2 hrbW rfl
        obtain ⟨p0, p1, -⟩ := now2 hr2 rfl
        clear hM hr2 hrbW hmbW hBw hbw hVH hVN hriH hneH h0H hlow hmk
        go_wp2
        generalize (wr.setCell ⟨w.heap.size + 1, 0, none⟩ _).setCell _ _ = wz at *
        refine bodyPost_ret (v := .agg #[.int .i64 l6, .slice (some ⟨bp, 0, none⟩) n n]) (by simp [results, Try.results56, go_sem, p0, p1]) rfl ?_
        exact ⟨l6, u6, bp, rfl, hfin.out.1, by omega, hfin.out.2.1, hfin.out.2.2⟩
end Go.Proofs.Ytcbhcclickjpnaa
