/- All items of both: join. -/
import Derived.Test.YtehpccanjlaokaaGreatGQ29
namespace Go.Proofs.YtehpccanjlaokaaGreat
open Go.RowKit Go.Joins

structure JBox (w : World) (x wk : Nat) (f g : Int) : Prop where
  a : w.heap[x]? = some (.cells #[.pointer (some ⟨wk, 0, none⟩)] 164 (0, 0))
  f : w.heap[x + 1]? = some (.cells #[.int .i64 f] 3 (0, 0))
  g : w.heap[x + 1 + 1]? = some (.cells #[.int .i64 g] 3 (0, 0))
theorem JBox.below {w w' : World} {x wk : Nat} {f g : Int} (k : JBox w x wk f g) (h : Below w.heap.size w w') : JBox w' x wk f g := ⟨keep_blk h k.a, keep_blk h k.f, keep_blk h k.g⟩
theorem JBox.kz {M N : Nat → Prop} {w w' : World} {x wk : Nat} {f g : Int} (k : JBox w x wk f g) (h : Kz no8 M N w w') : JBox w' x wk f g :=
  ⟨h.cells _ _ _ _ k.a (by decide) (by decide) (fun h => h), h.cells _ _ _ _ k.f (by decide) (by decide) (fun h => h), h.cells _ _ _ _ k.g (by decide) (by decide) (fun h => h)⟩
theorem JBox.new (w : World) (wk : Nat) (f g : Int) :
    JBox (((w.alloc (.cells #[.pointer (some ⟨wk, 0, none⟩)] 164 (0, 0))).alloc (.cells #[.int .i64 f] 3 (0, 0))).alloc (.cells #[.int .i64 g] 3 (0, 0))) w.heap.size wk f g :=
  ⟨heap_alloc3_a _ _ _ _, heap_alloc3_b _ _ _ _, heap_alloc3_c _ _ _ _⟩
/-- The four halves. -/
structure HBox (w : World) (x wk p1 q1 q0 p0 : Nat) (f1 g1 g0 f0 : Int) : Prop where
  a : w.heap[x]? = some (.cells #[.pointer (some ⟨wk, 0, none⟩)] 164 (0, 0))
  f1 : w.heap[p1]? = some (.cells #[.int .i64 f1] 3 (0, 0))
  g1 : w.heap[q1]? = some (.cells #[.int .i64 g1] 3 (0, 0))
  g0 : w.heap[q0]? = some (.cells #[.int .i64 g0] 3 (0, 0))
  f0 : w.heap[p0]? = some (.cells #[.int .i64 f0] 3 (0, 0))
theorem HBox.below {w w' : World} {x wk p1 q1 q0 p0 : Nat} {f1 g1 g0 f0 : Int} (k : HBox w x wk p1 q1 q0 p0 f1 g1 g0 f0) (h : Below w.heap.size w w') : HBox w' x wk p1 q1 q0 p0 f1 g1 g0 f0 := ⟨keep_blk h k.a, keep_blk h k.f1, keep_blk h k.g1, keep_blk h k.g0, keep_blk h k.f0⟩
theorem HBox.kz {M N : Nat → Prop} {w w' : World} {x wk p1 q1 q0 p0 : Nat} {f1 g1 g0 f0 : Int} (k : HBox w x wk p1 q1 q0 p0 f1 g1 g0 f0) (h : Kz no8 M N w w') : HBox w' x wk p1 q1 q0 p0 f1 g1 g0 f0 :=
  ⟨h.cells _ _ _ _ k.a (by decide) (by decide) (fun h => h), h.cells _ _ _ _ k.f1 (by decide) (by decide) (fun h => h), h.cells _ _ _ _ k.g1 (by decide) (by decide) (fun h => h), h.cells _ _ _ _ k.g0 (by decide) (by decide) (fun h => h), h.cells _ _ _ _ k.f0 (by decide) (by decide) (fun h => h)⟩
theorem zjoin110_any {C M N : Nat → Prop} {w : World} {zb ab bm room wk x p1 q1 q0 p0 : Nat} {f1 g1 g0 f0 : Int} {P : World → St → Int → Int → Prop} (hb : HBox w x wk p1 q1 q0 p0 f1 g1 g0 f0)
    (H : Calls Tryz.prog 119 #[.pointer (some ⟨wk, 0, none⟩), .int .i64 f0, .int .i64 g0] w (MadeZ C M N w zb ab bm room P)) :
    Calls Tryz.prog 152 (#[.bool false] ++ #[.pointer (some ⟨x, 0, none⟩), .pointer (some ⟨p1, 0, none⟩), .pointer (some ⟨q1, 0, none⟩), .pointer (some ⟨q0, 0, none⟩), .pointer (some ⟨p0, 0, none⟩)]) w (MadeZ C M N w zb ab bm room P) := by
  obtain ⟨r0, -⟩ := nowz1 hb.a rfl
  obtain ⟨a0, -⟩ := nowz1 hb.f0 rfl
  obtain ⟨b0, -⟩ := nowz1 hb.g0 rfl
  clear hb
  show Calls Tryz.prog _ #[.bool false, .pointer (some ⟨x, 0, none⟩), .pointer (some ⟨p1, 0, none⟩), .pointer (some ⟨q1, 0, none⟩), .pointer (some ⟨q0, 0, none⟩), .pointer (some ⟨p0, 0, none⟩)] w _
  go_enter Tryz.func152, Tryz.ntmps152
  go_wp2_with fail
  refine H.mono ?_
  rintro e w2 ⟨v2, full2, T, id, er, rfl, hd8, hk8, hP8⟩
  clear H
  go_wp2
  go_ret2
  exact ⟨v2, full2, T, id, er, rfl, hd8, hk8, hP8⟩
theorem zjoin111_any {M N : Nat → Prop} {w : World} {zb ab bm room wk x p1 q1 q0 p0 : Nat} {f1 g1 g0 f0 : Int} {P : World → St → Int → Int → Prop} (hb : HBox w x wk p1 q1 q0 p0 f1 g1 g0 f0)
    (H : Calls Tryz.prog 153 #[.pointer (some ⟨wk, 0, none⟩), .slice (some ⟨w.heap.size, 0, none⟩) 3 3] (w.alloc (.cells #[.int .i64 f1, .int .i64 g1, .int .i64 f1, .int .i64 g0, .int .i64 f0, .int .i64 g1] 197 (0, 0))) (MadeZ no8 M N (w.alloc (.cells #[.int .i64 f1, .int .i64 g1, .int .i64 f1, .int .i64 g0, .int .i64 f0, .int .i64 g1] 197 (0, 0))) zb ab bm room P)) :
    Calls Tryz.prog 152 (#[.bool true] ++ #[.pointer (some ⟨x, 0, none⟩), .pointer (some ⟨p1, 0, none⟩), .pointer (some ⟨q1, 0, none⟩), .pointer (some ⟨q0, 0, none⟩), .pointer (some ⟨p0, 0, none⟩)]) w (MadeZ no8 M N w zb ab bm room P) := by
  obtain ⟨r0, -⟩ := nowz1 hb.a rfl
  obtain ⟨a1, -⟩ := nowz1 hb.f1 rfl
  obtain ⟨b1, -⟩ := nowz1 hb.g1 rfl
  obtain ⟨a0, -⟩ := nowz1 hb.f0 rfl
  obtain ⟨b0, -⟩ := nowz1 hb.g0 rfl
  have hK : Kz no8 M N w (w.alloc (.cells #[.int .i64 f1, .int .i64 g1, .int .i64 f1, .int .i64 g0, .int .i64 f0, .int .i64 g1] 197 (0, 0))) := Kz.of_below (below_alloc1 w _)
  clear hb
  show Calls Tryz.prog _ #[.bool true, .pointer (some ⟨x, 0, none⟩), .pointer (some ⟨p1, 0, none⟩), .pointer (some ⟨q1, 0, none⟩), .pointer (some ⟨q0, 0, none⟩), .pointer (some ⟨p0, 0, none⟩)] w _
  go_enter Tryz.func152, Tryz.ntmps152
  go_wp2_with fail
  refine H.mono ?_
  rintro e w2 ⟨v2, full2, T, id, er, rfl, hd8, hk8, hP8⟩
  clear H
  go_wp2
  go_ret2
  exact ⟨v2, full2, T, id, er, rfl, hd8, hK.trans hk8, hP8⟩
theorem join_step {k a a0 a1 b b0 b1 : Nat} (ha : a = a0 + a1) (hb : b = b0 + b1) (h1 : 1 ≤ a) (h2 : 1 ≤ b) :
    cJ k * (a0 * b0) + ((cJ k + k) * (a1 * b1) + (cJ k + k) * (a1 * b0) + (cJ k + k) * (a0 * b1)) + 1 ≤ cJ (k + 1) * (a * b) := by
  have hab : a * b = a0 * b0 + a0 * b1 + (a1 * b0 + a1 * b1) := by rw [ha, hb, Nat.add_mul, Nat.mul_add, Nat.mul_add]
  have hp : 1 ≤ a * b := Nat.mul_le_mul h1 h2
  have hc : cJ (k + 1) = cJ k + (k + 1) := rfl
  rw [hc, hab]
  rw [hab] at hp
  generalize a0 * b0 = p00 at *
  generalize a0 * b1 = p01 at *
  generalize a1 * b0 = p10 at *
  generalize a1 * b1 = p11 at *
  generalize cJ k = c at *
  simp only [Nat.add_mul, Nat.mul_add, Nat.one_mul]
  omega
theorem bJ_three (k : Nat) (S : St) (f0 f1 g0 g1 : Int) : bJ k S [(f1, g1), (f1, g0), (f0, g1)] = (cJ k + k) * (zn S f1 * zn S g1) + (cJ k + k) * (zn S f1 * zn S g0) + (cJ k + k) * (zn S f0 * zn S g1) := by
  unfold bJ
  simp only [List.map_cons, List.map_nil, List.sum_cons, List.sum_nil]
  omega
theorem uJ_three {k : Nat} {S : St} {f0 f1 g0 g1 : Int} {F G : Nat → Bool} (h0 : half0 F = zf S k f0) (h1 : half1 F = zf S k f1) (q0 : half0 G = zf S k g0) (q1 : half1 G = zf S k g1) : half1 (joinF (k + 1) F G) = uJ k S [(f1, g1), (f1, g0), (f0, g1)] := by
  rw [joinF_1, h0, h1, q0, q1]
  funext n
  unfold uJ
  simp only [List.any_cons, List.any_nil, Bool.or_false, Bool.or_assoc]
set_option maxHeartbeats 4000000 in
set_option maxRecDepth 100000 in
theorem zjoin1_any {k : Nat} (IH : JoinOk k) {N : Nat → Prop} {w : World} {zb ab bm wk mm x : Nat} {v : Value} {room full : Nat} {S0 S : St} {c : Nat} (hd : ZdAt w N zb ab bm v room full S) (hw : WkAt w wk zb mm) (hr : RemZ w mm S0 S c) (hne : mm ≠ bm) (hN : ¬ N mm)
    (f g : Int) (hbx : JBox w x wk f g) (f0 : 0 ≤ lvl S f) (g0 : 0 ≤ lvl S g) (hi : min (lvl S f) (lvl S g) + (k + 1 : Nat) = 24) (hc : c + cJ (k + 1) * (zn S f * zn S g) ≤ 1000000) (hf1 : 1 ≤ zn S f) (hg1 : 1 ≤ zn S g) :
    Calls Tryz.prog 149 #[.pointer (some ⟨x, 0, none⟩), .pointer (some ⟨x + 1, 0, none⟩), .pointer (some ⟨x + 1 + 1, 0, none⟩)] w
      (MadeZ no8 (MZ bm mm) N w zb ab bm room fun w' T id er => OutZ (k + 1) room S (joinF (k + 1) (zf S (k + 1) f) (zf S (k + 1) g)) (cJ (k + 1) * (zn S f * zn S g)) T id er ∧ RemZ w' mm S0 T (c + (cJ (k + 1) * (zn S f * zn S g) - 1))) := by
  have HLf := fun y : After w => zlevel_any (hd.below y.2) f f0
  have HLg := fun y : After w => zlevel_any (hd.below y.2) g g0
  obtain ⟨w0, -⟩ := boxz1 hbx.a rfl
  obtain ⟨b0, -⟩ := boxz1 hbx.f rfl
  obtain ⟨c0, -⟩ := boxz1 hbx.g rfl
  obtain ⟨e0, e1, -⟩ := box2 hw rfl
  go_enter Tryz.func149, Tryz.ntmps149
  go_wp2
  refine wp_region_after (by kernel_rfl) (by kernel_rfl) ?_
  repeat (first | go_big_quiet_step (first | (go_at_call_of 150 (Value.int IntKind.i64 f); exact Calls.after_of (HLf _)) | (go_at_call_of 150 (Value.int IntKind.i64 g); exact Calls.after_of (HLg _))))
  refine wpQuiet_nil ?_
  intro y
  go_upto_region 2 with (fail)
  try rw [minZ]
  obtain ⟨W1, hy⟩ := y
  dsimp only at *
  have hd1 := hd.below hy
  have hw1 := hw.below hy
  have hr1 := hr.below hy
  have hbx1 := hbx.below hy
  have i0 : 0 ≤ min (lvl S f) (lvl S g) := by omega
  have il : min (lvl S f) (lvl S g) ≤ lvl S f := by omega
  have ir : min (lvl S f) (lvl S g) ≤ lvl S g := by omega
  obtain ⟨p0, p1, p2, p3, p4, p5, p6⟩ := hv_ok hd.zst f0 hi i0 il
  obtain ⟨q0, q1, q2, q3, q4, q5, q6⟩ := hv_ok hd.zst g0 hi i0 ir
  clear w0 b0 c0 e0 e1 hd hw hr hbx HLf HLg
  generalize min (lvl S f) (lvl S g) = i at *
  have HV : ∀ W : World, Below W1.heap.size W1 W → Calls Tryz.prog 151 #[.pointer (some ⟨zb, 0, none⟩), .int .i64 f, .int .i64 i] W fun e w' => e = .returned (.tuple #[.int .i64 (hv S f i).1, .int .i64 (hv S f i).2]) ∧ Below W1.heap.size W1 w' ∧ Below W.heap.size W w' := fun W hb =>
    (zhalves_any (hd1.below hb) f i).mono fun e w' ⟨he, hbw⟩ => ⟨he, hb.trans (hbw.mono hb.size), hbw⟩
  obtain ⟨w0, -⟩ := boxz1 hbx1.a rfl
  obtain ⟨b0, -⟩ := boxz1 hbx1.f rfl
  obtain ⟨e0, e1, -⟩ := box2 hw1 rfl
  have hBs := Below.refl W1.heap.size W1
  go_cut [6, 7] from 23 (fun s7 s8 wc => ∃ b7 b8 : Nat, s7 = .pointer (some ⟨b7, 0, none⟩) ∧ s8 = .pointer (some ⟨b8, 0, none⟩) ∧ wc.heap[b7]? = some (.cells #[.int .i64 (hv S f i).1] 3 (0, 0)) ∧ wc.heap[b8]? = some (.cells #[.int .i64 (hv S f i).2] 3 (0, 0)) ∧ Below W1.heap.size W1 wc)
  case first =>
    clear IH hd1 hr1 p0 p1 p2 p3 p4 p5 p6 q0 q1 q2 q3 q4 q5 q6 i0 il ir hi hbx1 hw1 hy
    refine wp_region_held_drew (S := fun W_ => Below W1.heap.size W1 W_) rfl hBs.drew (fun hHeld => ?_)
    obtain ⟨X0, hX0⟩ : ∃ X0, X0 = W1.drew := ⟨_, rfl⟩
    rw [← hX0] at hHeld ⊢
    clear hX0
    refine wpAnyH_take (i := 0) (oi := _) (v := ?_) rfl (by kernel_rfl) (by kernel_rfl) (by kernel_rfl) (fun _ _ _ h => h) (Or.inl ⟨by rfl, ?_⟩) (by assumption) ?_
    rotate_left 1
    · intro w_ hSw
      have q_w0 := w0 ⟨w_, hSw⟩
      dsimp only at q_w0
      go_simp
      try with_reducible rfl
    try simp only [Act.put, List.setIfInBounds_toArray]
    refine wpAnyH_take (i := 1) (oi := _) (v := ?_) rfl (by kernel_rfl) (by kernel_rfl) (by kernel_rfl) (fun _ _ _ h => h) (Or.inl ⟨by rfl, ?_⟩) (by assumption) ?_
    rotate_left 1
    · intro w_ hSw
      go_simp
      try with_reducible rfl
    try simp only [Act.put]
    refine wpAnyH_take (i := 2) (oi := _) (v := ?_) rfl (by kernel_rfl) (by kernel_rfl) (by kernel_rfl) (fun _ _ _ h => h) (Or.inl ⟨by rfl, ?_⟩) (by assumption) ?_
    rotate_left 1
    · intro w_ hSw
      go_simp
      try with_reducible rfl
    try simp only [Act.put]
    refine wpAnyH_take (i := 3) (oi := _) (v := ?_) rfl (by kernel_rfl) (by kernel_rfl) (by kernel_rfl) (fun _ _ _ h => h) (Or.inl ⟨by rfl, ?_⟩) (by assumption) ?_
    rotate_left 1
    · intro w_ hSw
      have q_e0 := e0 ⟨w_, hSw⟩
      dsimp only at q_e0
      go_simp
      try with_reducible rfl
    try simp only [Act.put]
    refine wpAnyH_take (i := 4) (oi := _) (v := ?_) rfl (by kernel_rfl) (by kernel_rfl) (by kernel_rfl) (fun _ _ _ h => h) (Or.inl ⟨by rfl, ?_⟩) (by assumption) ?_
    rotate_left 1
    · intro w_ hSw
      have q_b0 := b0 ⟨w_, hSw⟩
      dsimp only at q_b0
      go_simp
      try with_reducible rfl
    try simp only [Act.put]
    refine wpAnyH_take (i := 5) (oi := _) (v := ?_) rfl (by kernel_rfl) (by kernel_rfl) (by kernel_rfl) (fun _ _ _ h => h) (Or.inl ⟨by rfl, ?_⟩) (by assumption) ?_
    rotate_left 1
    · intro w_ hSw
      go_simp
      try with_reducible rfl
    try simp only [Act.put]
    refine wpAnyH_ready (rs := [6, 10, 11]) (by kernel_rfl) (by simp) ?_
    refine AllReadyH.cons (o := _) rfl (fun _ hK => ?_) ?_
    · go_simp
      refine (HV X0 hHeld).mono ?_
      rintro e X1 ⟨rfl, hbr, hcr⟩
      try go_simp
      refine hK.out _ _ hbr (fun hHeld => ?_)
      clear hK
      try simp only [Act.put, List.setIfInBounds_toArray, List.set_cons_zero, List.set_cons_succ]
      refine wpAnyH_take (i := 7) (oi := _) (v := ?_) rfl (by kernel_rfl) (by kernel_rfl) (by kernel_rfl) (fun _ _ _ h => h) (Or.inl ⟨by rfl, ?_⟩) (by assumption) ?_
      rotate_left 1
      · intro w_ hSw
        go_simp
        try with_reducible rfl
      try simp only [Act.put, List.setIfInBounds_toArray]
      refine wpAnyH_take (i := 8) (oi := _) (v := ?_) rfl (by kernel_rfl) (by kernel_rfl) (by kernel_rfl) (fun _ _ _ h => h) (Or.inl ⟨by rfl, ?_⟩) (by assumption) ?_
      rotate_left 1
      · intro w_ hSw
        go_simp
        try with_reducible rfl
      try simp only [Act.put]
      refine wpAnyH_take (i := 9) (oi := _) (v := ?_) rfl (by kernel_rfl) (by kernel_rfl) (by kernel_rfl) (fun _ _ _ h => h) (Or.inl ⟨by rfl, ?_⟩) (by assumption) ?_
      rotate_left 1
      · intro w_ hSw
        go_simp
        try with_reducible rfl
      try simp only [Act.put]
      refine wpAnyH_ready (rs := [10, 11]) (by kernel_rfl) (by simp) ?_
      refine AllReadyH.cons (o := _) rfl (fun _ hK => ?_) ?_
      · go_simp
        have hal := zalloc hHeld (.cells #[.int .i64 0] 3 (0, 0))
        have n7 := heap_alloc_new X1 (.cells #[.int .i64 0] 3 (0, 0))
        have l7 := hHeld.size
        generalize X1.heap.size = b7 at *
        generalize X1.alloc (.cells #[.int .i64 0] 3 (0, 0)) = X2 at *
        refine hK.out _ _ hal (fun hHeld => ?_)
        clear hK
        try simp only [Act.put, List.setIfInBounds_toArray, List.set_cons_zero, List.set_cons_succ]
        refine wpAnyH_ready (rs := [11]) (by kernel_rfl) (by simp) ?_
        refine AllReadyH.cons (o := _) rfl (fun _ hK => ?_) AllReadyH.nil
        go_simp
        have hal := zalloc hHeld (.cells #[.int .i64 0] 3 (0, 0))
        have n8 := heap_alloc_new X2 (.cells #[.int .i64 0] 3 (0, 0))
        have l8 := hHeld.size
        have d78 := size_of_block n7
        replace n7 := keep_alloc (x := .cells #[.int .i64 0] 3 (0, 0)) n7
        generalize X2.heap.size = b8 at *
        generalize X2.alloc (.cells #[.int .i64 0] 3 (0, 0)) = X3 at *
        refine hK.out _ _ hal (fun hHeld => ?_)
        clear hK
        try simp only [Act.put, List.setIfInBounds_toArray, List.set_cons_zero, List.set_cons_succ]
        refine wpAnyH_ready (rs := [12]) (by kernel_rfl) (by simp) ?_
        refine AllReadyH.cons (o := _) rfl (fun _ hK => ?_) AllReadyH.nil
        obtain ⟨y0, yf⟩ := nowz1 n7 rfl
        go_simp
        clear y0 yf
        refine hK.out _ _ (hHeld.setCell (by omega) _) (fun hHeld => ?_)
        clear hK
        replace n7 := put1z (x := .int .i64 (hv S f i).1) n7
        replace n8 := putFar (b := b7) (x := .int .i64 (hv S f i).1) (by omega) n8
        try simp only [Act.put, List.setIfInBounds_toArray, List.set_cons_zero, List.set_cons_succ]
        refine wpAnyH_ready (rs := [13]) (by kernel_rfl) (by simp) ?_
        refine AllReadyH.cons (o := _) rfl (fun _ hK => ?_) AllReadyH.nil
        obtain ⟨y0, yf⟩ := nowz1 n8 rfl
        go_simp
        clear y0 yf
        refine hK.out _ _ (hHeld.setCell (by omega) _) (fun hHeld => ?_)
        clear hK
        replace n7 := putFar (b := b8) (x := .int .i64 (hv S f i).2) (by omega) n7
        replace n8 := put1z (x := .int .i64 (hv S f i).2) n8
        try simp only [Act.put, List.setIfInBounds_toArray, List.set_cons_zero, List.set_cons_succ]
        refine wpAnyH_done (by kernel_rfl) ?_ _
        go_wp2_with fail
        go_meet
        exact ⟨b7, b8, rfl, rfl, n7, n8, hHeld⟩
      refine AllReadyH.cons (o := _) rfl (fun _ hK => ?_) AllReadyH.nil
      go_simp
      have hal := zalloc hHeld (.cells #[.int .i64 0] 3 (0, 0))
      have n8 := heap_alloc_new X1 (.cells #[.int .i64 0] 3 (0, 0))
      have l8 := hHeld.size
      generalize X1.heap.size = b8 at *
      generalize X1.alloc (.cells #[.int .i64 0] 3 (0, 0)) = X2 at *
      refine hK.out _ _ hal (fun hHeld => ?_)
      clear hK
      try simp only [Act.put, List.setIfInBounds_toArray, List.set_cons_zero, List.set_cons_succ]
      refine wpAnyH_ready (rs := [10]) (by kernel_rfl) (by simp) ?_
      refine AllReadyH.cons (o := _) rfl (fun _ hK => ?_) AllReadyH.nil
      go_simp
      have hal := zalloc hHeld (.cells #[.int .i64 0] 3 (0, 0))
      have n7 := heap_alloc_new X2 (.cells #[.int .i64 0] 3 (0, 0))
      have l7 := hHeld.size
      have d87 := size_of_block n8
      replace n8 := keep_alloc (x := .cells #[.int .i64 0] 3 (0, 0)) n8
      generalize X2.heap.size = b7 at *
      generalize X2.alloc (.cells #[.int .i64 0] 3 (0, 0)) = X3 at *
      refine hK.out _ _ hal (fun hHeld => ?_)
      clear hK
      try simp only [Act.put, List.setIfInBounds_toArray, List.set_cons_zero, List.set_cons_succ]
      refine wpAnyH_ready (rs := [12]) (by kernel_rfl) (by simp) ?_
      refine AllReadyH.cons (o := _) rfl (fun _ hK => ?_) AllReadyH.nil
      obtain ⟨y0, yf⟩ := nowz1 n7 rfl
      go_simp
      clear y0 yf
      refine hK.out _ _ (hHeld.setCell (by omega) _) (fun hHeld => ?_)
      clear hK
      replace n8 := putFar (b := b7) (x := .int .i64 (hv S f i).1) (by omega) n8
      replace n7 := put1z (x := .int .i64 (hv S f i).1) n7
      try simp only [Act.put, List.setIfInBounds_toArray, List.set_cons_zero, List.set_cons_succ]
      refine wpAnyH_ready (rs := [13]) (by kernel_rfl) (by simp) ?_
      refine AllReadyH.cons (o := _) rfl (fun _ hK => ?_) AllReadyH.nil
      obtain ⟨y0, yf⟩ := nowz1 n8 rfl
      go_simp
      clear y0 yf
      refine hK.out _ _ (hHeld.setCell (by omega) _) (fun hHeld => ?_)
      clear hK
      replace n8 := put1z (x := .int .i64 (hv S f i).2) n8
      replace n7 := putFar (b := b8) (x := .int .i64 (hv S f i).2) (by omega) n7
      try simp only [Act.put, List.setIfInBounds_toArray, List.set_cons_zero, List.set_cons_succ]
      refine wpAnyH_done (by kernel_rfl) ?_ _
      go_wp2_with fail
      go_meet
      exact ⟨b7, b8, rfl, rfl, n7, n8, hHeld⟩
    refine AllReadyH.cons (o := _) rfl (fun _ hK => ?_) ?_
    · go_simp
      have hal := zalloc hHeld (.cells #[.int .i64 0] 3 (0, 0))
      have n7 := heap_alloc_new X0 (.cells #[.int .i64 0] 3 (0, 0))
      have l7 := hHeld.size
      generalize X0.heap.size = b7 at *
      generalize X0.alloc (.cells #[.int .i64 0] 3 (0, 0)) = X1 at *
      refine hK.out _ _ hal (fun hHeld => ?_)
      clear hK
      try simp only [Act.put, List.setIfInBounds_toArray, List.set_cons_zero, List.set_cons_succ]
      refine wpAnyH_ready (rs := [6, 11]) (by kernel_rfl) (by simp) ?_
      refine AllReadyH.cons (o := _) rfl (fun _ hK => ?_) ?_
      · go_simp
        refine (HV X1 hHeld).mono ?_
        rintro e X2 ⟨rfl, hbr, hcr⟩
        replace n7 := keep_blk hcr n7
        try go_simp
        refine hK.out _ _ hbr (fun hHeld => ?_)
        clear hK
        try simp only [Act.put, List.setIfInBounds_toArray, List.set_cons_zero, List.set_cons_succ]
        refine wpAnyH_take (i := 7) (oi := _) (v := ?_) rfl (by kernel_rfl) (by kernel_rfl) (by kernel_rfl) (fun _ _ _ h => h) (Or.inl ⟨by rfl, ?_⟩) (by assumption) ?_
        rotate_left 1
        · intro w_ hSw
          go_simp
          try with_reducible rfl
        try simp only [Act.put, List.setIfInBounds_toArray]
        refine wpAnyH_take (i := 8) (oi := _) (v := ?_) rfl (by kernel_rfl) (by kernel_rfl) (by kernel_rfl) (fun _ _ _ h => h) (Or.inl ⟨by rfl, ?_⟩) (by assumption) ?_
        rotate_left 1
        · intro w_ hSw
          go_simp
          try with_reducible rfl
        try simp only [Act.put]
        refine wpAnyH_take (i := 9) (oi := _) (v := ?_) rfl (by kernel_rfl) (by kernel_rfl) (by kernel_rfl) (fun _ _ _ h => h) (Or.inl ⟨by rfl, ?_⟩) (by assumption) ?_
        rotate_left 1
        · intro w_ hSw
          go_simp
          try with_reducible rfl
        try simp only [Act.put]
        refine wpAnyH_ready (rs := [11]) (by kernel_rfl) (by simp) ?_
        refine AllReadyH.cons (o := _) rfl (fun _ hK => ?_) AllReadyH.nil
        go_simp
        have hal := zalloc hHeld (.cells #[.int .i64 0] 3 (0, 0))
        have n8 := heap_alloc_new X2 (.cells #[.int .i64 0] 3 (0, 0))
        have l8 := hHeld.size
        have d78 := size_of_block n7
        replace n7 := keep_alloc (x := .cells #[.int .i64 0] 3 (0, 0)) n7
        generalize X2.heap.size = b8 at *
        generalize X2.alloc (.cells #[.int .i64 0] 3 (0, 0)) = X3 at *
        refine hK.out _ _ hal (fun hHeld => ?_)
        clear hK
        try simp only [Act.put, List.setIfInBounds_toArray, List.set_cons_zero, List.set_cons_succ]
        refine wpAnyH_ready (rs := [12]) (by kernel_rfl) (by simp) ?_
        refine AllReadyH.cons (o := _) rfl (fun _ hK => ?_) AllReadyH.nil
        obtain ⟨y0, yf⟩ := nowz1 n7 rfl
        go_simp
        clear y0 yf
        refine hK.out _ _ (hHeld.setCell (by omega) _) (fun hHeld => ?_)
        clear hK
        replace n7 := put1z (x := .int .i64 (hv S f i).1) n7
        replace n8 := putFar (b := b7) (x := .int .i64 (hv S f i).1) (by omega) n8
        try simp only [Act.put, List.setIfInBounds_toArray, List.set_cons_zero, List.set_cons_succ]
        refine wpAnyH_ready (rs := [13]) (by kernel_rfl) (by simp) ?_
        refine AllReadyH.cons (o := _) rfl (fun _ hK => ?_) AllReadyH.nil
        obtain ⟨y0, yf⟩ := nowz1 n8 rfl
        go_simp
        clear y0 yf
        refine hK.out _ _ (hHeld.setCell (by omega) _) (fun hHeld => ?_)
        clear hK
        replace n7 := putFar (b := b8) (x := .int .i64 (hv S f i).2) (by omega) n7
        replace n8 := put1z (x := .int .i64 (hv S f i).2) n8
        try simp only [Act.put, List.setIfInBounds_toArray, List.set_cons_zero, List.set_cons_succ]
        refine wpAnyH_done (by kernel_rfl) ?_ _
        go_wp2_with fail
        go_meet
        exact ⟨b7, b8, rfl, rfl, n7, n8, hHeld⟩
      refine AllReadyH.cons (o := _) rfl (fun _ hK => ?_) AllReadyH.nil
      go_simp
      have hal := zalloc hHeld (.cells #[.int .i64 0] 3 (0, 0))
      have n8 := heap_alloc_new X1 (.cells #[.int .i64 0] 3 (0, 0))
      have l8 := hHeld.size
      have d78 := size_of_block n7
      replace n7 := keep_alloc (x := .cells #[.int .i64 0] 3 (0, 0)) n7
      generalize X1.heap.size = b8 at *
      generalize X1.alloc (.cells #[.int .i64 0] 3 (0, 0)) = X2 at *
      refine hK.out _ _ hal (fun hHeld => ?_)
      clear hK
      try simp only [Act.put, List.setIfInBounds_toArray, List.set_cons_zero, List.set_cons_succ]
      refine wpAnyH_ready (rs := [6]) (by kernel_rfl) (by simp) ?_
      refine AllReadyH.cons (o := _) rfl (fun _ hK => ?_) AllReadyH.nil
      go_simp
      refine (HV X2 hHeld).mono ?_
      rintro e X3 ⟨rfl, hbr, hcr⟩
      replace n7 := keep_blk hcr n7
      replace n8 := keep_blk hcr n8
      try go_simp
      refine hK.out _ _ hbr (fun hHeld => ?_)
      clear hK
      try simp only [Act.put, List.setIfInBounds_toArray, List.set_cons_zero, List.set_cons_succ]
      refine wpAnyH_take (i := 7) (oi := _) (v := ?_) rfl (by kernel_rfl) (by kernel_rfl) (by kernel_rfl) (fun _ _ _ h => h) (Or.inl ⟨by rfl, ?_⟩) (by assumption) ?_
      rotate_left 1
      · intro w_ hSw
        go_simp
        try with_reducible rfl
      try simp only [Act.put, List.setIfInBounds_toArray]
      refine wpAnyH_take (i := 8) (oi := _) (v := ?_) rfl (by kernel_rfl) (by kernel_rfl) (by kernel_rfl) (fun _ _ _ h => h) (Or.inl ⟨by rfl, ?_⟩) (by assumption) ?_
      rotate_left 1
      · intro w_ hSw
        go_simp
        try with_reducible rfl
      try simp only [Act.put]
      refine wpAnyH_take (i := 9) (oi := _) (v := ?_) rfl (by kernel_rfl) (by kernel_rfl) (by kernel_rfl) (fun _ _ _ h => h) (Or.inl ⟨by rfl, ?_⟩) (by assumption) ?_
      rotate_left 1
      · intro w_ hSw
        go_simp
        try with_reducible rfl
      try simp only [Act.put]
      refine wpAnyH_ready (rs := [12]) (by kernel_rfl) (by simp) ?_
      refine AllReadyH.cons (o := _) rfl (fun _ hK => ?_) AllReadyH.nil
      obtain ⟨y0, yf⟩ := nowz1 n7 rfl
      go_simp
      clear y0 yf
      refine hK.out _ _ (hHeld.setCell (by omega) _) (fun hHeld => ?_)
      clear hK
      replace n7 := put1z (x := .int .i64 (hv S f i).1) n7
      replace n8 := putFar (b := b7) (x := .int .i64 (hv S f i).1) (by omega) n8
      try simp only [Act.put, List.setIfInBounds_toArray, List.set_cons_zero, List.set_cons_succ]
      refine wpAnyH_ready (rs := [13]) (by kernel_rfl) (by simp) ?_
      refine AllReadyH.cons (o := _) rfl (fun _ hK => ?_) AllReadyH.nil
      obtain ⟨y0, yf⟩ := nowz1 n8 rfl
      go_simp
      clear y0 yf
      refine hK.out _ _ (hHeld.setCell (by omega) _) (fun hHeld => ?_)
      clear hK
      replace n7 := putFar (b := b8) (x := .int .i64 (hv S f i).2) (by omega) n7
      replace n8 := put1z (x := .int .i64 (hv S f i).2) n8
      try simp only [Act.put, List.setIfInBounds_toArray, List.set_cons_zero, List.set_cons_succ]
      refine wpAnyH_done (by kernel_rfl) ?_ _
      go_wp2_with fail
      go_meet
      exact ⟨b7, b8, rfl, rfl, n7, n8, hHeld⟩
    refine AllReadyH.cons (o := _) rfl (fun _ hK => ?_) AllReadyH.nil
    go_simp
    have hal := zalloc hHeld (.cells #[.int .i64 0] 3 (0, 0))
    have n8 := heap_alloc_new X0 (.cells #[.int .i64 0] 3 (0, 0))
    have l8 := hHeld.size
    generalize X0.heap.size = b8 at *
    generalize X0.alloc (.cells #[.int .i64 0] 3 (0, 0)) = X1 at *
    refine hK.out _ _ hal (fun hHeld => ?_)
    clear hK
    try simp only [Act.put, List.setIfInBounds_toArray, List.set_cons_zero, List.set_cons_succ]
    refine wpAnyH_ready (rs := [6, 10]) (by kernel_rfl) (by simp) ?_
    refine AllReadyH.cons (o := _) rfl (fun _ hK => ?_) ?_
    · go_simp
      refine (HV X1 hHeld).mono ?_
      rintro e X2 ⟨rfl, hbr, hcr⟩
      replace n8 := keep_blk hcr n8
      try go_simp
      refine hK.out _ _ hbr (fun hHeld => ?_)
      clear hK
      try simp only [Act.put, List.setIfInBounds_toArray, List.set_cons_zero, List.set_cons_succ]
      refine wpAnyH_take (i := 7) (oi := _) (v := ?_) rfl (by kernel_rfl) (by kernel_rfl) (by kernel_rfl) (fun _ _ _ h => h) (Or.inl ⟨by rfl, ?_⟩) (by assumption) ?_
      rotate_left 1
      · intro w_ hSw
        go_simp
        try with_reducible rfl
      try simp only [Act.put, List.setIfInBounds_toArray]
      refine wpAnyH_take (i := 8) (oi := _) (v := ?_) rfl (by kernel_rfl) (by kernel_rfl) (by kernel_rfl) (fun _ _ _ h => h) (Or.inl ⟨by rfl, ?_⟩) (by assumption) ?_
      rotate_left 1
      · intro w_ hSw
        go_simp
        try with_reducible rfl
      try simp only [Act.put]
      refine wpAnyH_take (i := 9) (oi := _) (v := ?_) rfl (by kernel_rfl) (by kernel_rfl) (by kernel_rfl) (fun _ _ _ h => h) (Or.inl ⟨by rfl, ?_⟩) (by assumption) ?_
      rotate_left 1
      · intro w_ hSw
        go_simp
        try with_reducible rfl
      try simp only [Act.put]
      refine wpAnyH_ready (rs := [10]) (by kernel_rfl) (by simp) ?_
      refine AllReadyH.cons (o := _) rfl (fun _ hK => ?_) AllReadyH.nil
      go_simp
      have hal := zalloc hHeld (.cells #[.int .i64 0] 3 (0, 0))
      have n7 := heap_alloc_new X2 (.cells #[.int .i64 0] 3 (0, 0))
      have l7 := hHeld.size
      have d87 := size_of_block n8
      replace n8 := keep_alloc (x := .cells #[.int .i64 0] 3 (0, 0)) n8
      generalize X2.heap.size = b7 at *
      generalize X2.alloc (.cells #[.int .i64 0] 3 (0, 0)) = X3 at *
      refine hK.out _ _ hal (fun hHeld => ?_)
      clear hK
      try simp only [Act.put, List.setIfInBounds_toArray, List.set_cons_zero, List.set_cons_succ]
      refine wpAnyH_ready (rs := [12]) (by kernel_rfl) (by simp) ?_
      refine AllReadyH.cons (o := _) rfl (fun _ hK => ?_) AllReadyH.nil
      obtain ⟨y0, yf⟩ := nowz1 n7 rfl
      go_simp
      clear y0 yf
      refine hK.out _ _ (hHeld.setCell (by omega) _) (fun hHeld => ?_)
      clear hK
      replace n8 := putFar (b := b7) (x := .int .i64 (hv S f i).1) (by omega) n8
      replace n7 := put1z (x := .int .i64 (hv S f i).1) n7
      try simp only [Act.put, List.setIfInBounds_toArray, List.set_cons_zero, List.set_cons_succ]
      refine wpAnyH_ready (rs := [13]) (by kernel_rfl) (by simp) ?_
      refine AllReadyH.cons (o := _) rfl (fun _ hK => ?_) AllReadyH.nil
      obtain ⟨y0, yf⟩ := nowz1 n8 rfl
      go_simp
      clear y0 yf
      refine hK.out _ _ (hHeld.setCell (by omega) _) (fun hHeld => ?_)
      clear hK
      replace n8 := put1z (x := .int .i64 (hv S f i).2) n8
      replace n7 := putFar (b := b8) (x := .int .i64 (hv S f i).2) (by omega) n7
      try simp only [Act.put, List.setIfInBounds_toArray, List.set_cons_zero, List.set_cons_succ]
      refine wpAnyH_done (by kernel_rfl) ?_ _
      go_wp2_with fail
      go_meet
      exact ⟨b7, b8, rfl, rfl, n7, n8, hHeld⟩
    refine AllReadyH.cons (o := _) rfl (fun _ hK => ?_) AllReadyH.nil
    go_simp
    have hal := zalloc hHeld (.cells #[.int .i64 0] 3 (0, 0))
    have n7 := heap_alloc_new X1 (.cells #[.int .i64 0] 3 (0, 0))
    have l7 := hHeld.size
    have d87 := size_of_block n8
    replace n8 := keep_alloc (x := .cells #[.int .i64 0] 3 (0, 0)) n8
    generalize X1.heap.size = b7 at *
    generalize X1.alloc (.cells #[.int .i64 0] 3 (0, 0)) = X2 at *
    refine hK.out _ _ hal (fun hHeld => ?_)
    clear hK
    try simp only [Act.put, List.setIfInBounds_toArray, List.set_cons_zero, List.set_cons_succ]
    refine wpAnyH_ready (rs := [6]) (by kernel_rfl) (by simp) ?_
    refine AllReadyH.cons (o := _) rfl (fun _ hK => ?_) AllReadyH.nil
    go_simp
    refine (HV X2 hHeld).mono ?_
    rintro e X3 ⟨rfl, hbr, hcr⟩
    replace n8 := keep_blk hcr n8
    replace n7 := keep_blk hcr n7
    try go_simp
    refine hK.out _ _ hbr (fun hHeld => ?_)
    clear hK
    try simp only [Act.put, List.setIfInBounds_toArray, List.set_cons_zero, List.set_cons_succ]
    refine wpAnyH_take (i := 7) (oi := _) (v := ?_) rfl (by kernel_rfl) (by kernel_rfl) (by kernel_rfl) (fun _ _ _ h => h) (Or.inl ⟨by rfl, ?_⟩) (by assumption) ?_
    rotate_left 1
    · intro w_ hSw
      go_simp
      try with_reducible rfl
    try simp only [Act.put, List.setIfInBounds_toArray]
    refine wpAnyH_take (i := 8) (oi := _) (v := ?_) rfl (by kernel_rfl) (by kernel_rfl) (by kernel_rfl) (fun _ _ _ h => h) (Or.inl ⟨by rfl, ?_⟩) (by assumption) ?_
    rotate_left 1
    · intro w_ hSw
      go_simp
      try with_reducible rfl
    try simp only [Act.put]
    refine wpAnyH_take (i := 9) (oi := _) (v := ?_) rfl (by kernel_rfl) (by kernel_rfl) (by kernel_rfl) (fun _ _ _ h => h) (Or.inl ⟨by rfl, ?_⟩) (by assumption) ?_
    rotate_left 1
    · intro w_ hSw
      go_simp
      try with_reducible rfl
    try simp only [Act.put]
    refine wpAnyH_ready (rs := [12]) (by kernel_rfl) (by simp) ?_
    refine AllReadyH.cons (o := _) rfl (fun _ hK => ?_) AllReadyH.nil
    obtain ⟨y0, yf⟩ := nowz1 n7 rfl
    go_simp
    clear y0 yf
    refine hK.out _ _ (hHeld.setCell (by omega) _) (fun hHeld => ?_)
    clear hK
    replace n8 := putFar (b := b7) (x := .int .i64 (hv S f i).1) (by omega) n8
    replace n7 := put1z (x := .int .i64 (hv S f i).1) n7
    try simp only [Act.put, List.setIfInBounds_toArray, List.set_cons_zero, List.set_cons_succ]
    refine wpAnyH_ready (rs := [13]) (by kernel_rfl) (by simp) ?_
    refine AllReadyH.cons (o := _) rfl (fun _ hK => ?_) AllReadyH.nil
    obtain ⟨y0, yf⟩ := nowz1 n8 rfl
    go_simp
    clear y0 yf
    refine hK.out _ _ (hHeld.setCell (by omega) _) (fun hHeld => ?_)
    clear hK
    replace n8 := put1z (x := .int .i64 (hv S f i).2) n8
    replace n7 := putFar (b := b8) (x := .int .i64 (hv S f i).2) (by omega) n7
    try simp only [Act.put, List.setIfInBounds_toArray, List.set_cons_zero, List.set_cons_succ]
    refine wpAnyH_done (by kernel_rfl) ?_ _
    go_wp2_with fail
    go_meet
    exact ⟨b7, b8, rfl, rfl, n7, n8, hHeld⟩
  case rest =>
    obtain ⟨b7, b8, rfl, rfl, n7, n8, hbc⟩ := hcut
    have hd2 := hd1.below hbc
    have hw2 := hw1.below hbc
    have hr2 := hr1.below hbc
    have hbx2 := hbx1.below hbc
    have hy2 := hy.trans (hbc.mono hy.size)
    clear HV w0 b0 e0 e1 hBs hd1 hw1 hr1 hbx1 hy hbc
    rename_i wc
    obtain ⟨W1, hW1⟩ : ∃ W1, W1 = wc := ⟨_, rfl⟩
    subst hW1
    go_upto_region 3 with (fail)
    have HV : ∀ W : World, Below W1.heap.size W1 W → Calls Tryz.prog 151 #[.pointer (some ⟨zb, 0, none⟩), .int .i64 g, .int .i64 i] W fun e w' => e = .returned (.tuple #[.int .i64 (hv S g i).1, .int .i64 (hv S g i).2]) ∧ Below W1.heap.size W1 w' ∧ Below W.heap.size W w' := fun W hb =>
      (zhalves_any (hd2.below hb) g i).mono fun e w' ⟨he, hbw⟩ => ⟨he, hb.trans (hbw.mono hb.size), hbw⟩
    obtain ⟨w0, -⟩ := boxz1 hbx2.a rfl
    obtain ⟨c0, -⟩ := boxz1 hbx2.g rfl
    obtain ⟨e0, e1, -⟩ := box2 hw2 rfl
    have hBs := Below.refl W1.heap.size W1
    go_cut [8, 9] from 33 (fun s9 s10 wc => ∃ b9 b10 : Nat, s9 = .pointer (some ⟨b9, 0, none⟩) ∧ s10 = .pointer (some ⟨b10, 0, none⟩) ∧ wc.heap[b9]? = some (.cells #[.int .i64 (hv S g i).1] 3 (0, 0)) ∧ wc.heap[b10]? = some (.cells #[.int .i64 (hv S g i).2] 3 (0, 0)) ∧ Below W1.heap.size W1 wc)
    case first =>
      clear IH hd2 hr2 p0 p1 p2 p3 p4 p5 p6 q0 q1 q2 q3 q4 q5 q6 i0 il ir hi hbx2 hw2 hy2 n7 n8
      refine wp_region_held_drew (S := fun W_ => Below W1.heap.size W1 W_) rfl hBs.drew (fun hHeld => ?_)
      obtain ⟨X0, hX0⟩ : ∃ X0, X0 = W1.drew := ⟨_, rfl⟩
      rw [← hX0] at hHeld ⊢
      clear hX0
      refine wpAnyH_take (i := 0) (oi := _) (v := ?_) rfl (by kernel_rfl) (by kernel_rfl) (by kernel_rfl) (fun _ _ _ h => h) (Or.inl ⟨by rfl, ?_⟩) (by assumption) ?_
      rotate_left 1
      · intro w_ hSw
        have q_w0 := w0 ⟨w_, hSw⟩
        dsimp only at q_w0
        go_simp
        try with_reducible rfl
      try simp only [Act.put, List.setIfInBounds_toArray]
      refine wpAnyH_take (i := 1) (oi := _) (v := ?_) rfl (by kernel_rfl) (by kernel_rfl) (by kernel_rfl) (fun _ _ _ h => h) (Or.inl ⟨by rfl, ?_⟩) (by assumption) ?_
      rotate_left 1
      · intro w_ hSw
        go_simp
        try with_reducible rfl
      try simp only [Act.put]
      refine wpAnyH_take (i := 2) (oi := _) (v := ?_) rfl (by kernel_rfl) (by kernel_rfl) (by kernel_rfl) (fun _ _ _ h => h) (Or.inl ⟨by rfl, ?_⟩) (by assumption) ?_
      rotate_left 1
      · intro w_ hSw
        go_simp
        try with_reducible rfl
      try simp only [Act.put]
      refine wpAnyH_take (i := 3) (oi := _) (v := ?_) rfl (by kernel_rfl) (by kernel_rfl) (by kernel_rfl) (fun _ _ _ h => h) (Or.inl ⟨by rfl, ?_⟩) (by assumption) ?_
      rotate_left 1
      · intro w_ hSw
        have q_e0 := e0 ⟨w_, hSw⟩
        dsimp only at q_e0
        go_simp
        try with_reducible rfl
      try simp only [Act.put]
      refine wpAnyH_take (i := 4) (oi := _) (v := ?_) rfl (by kernel_rfl) (by kernel_rfl) (by kernel_rfl) (fun _ _ _ h => h) (Or.inl ⟨by rfl, ?_⟩) (by assumption) ?_
      rotate_left 1
      · intro w_ hSw
        have q_c0 := c0 ⟨w_, hSw⟩
        dsimp only at q_c0
        go_simp
        try with_reducible rfl
      try simp only [Act.put]
      refine wpAnyH_take (i := 5) (oi := _) (v := ?_) rfl (by kernel_rfl) (by kernel_rfl) (by kernel_rfl) (fun _ _ _ h => h) (Or.inl ⟨by rfl, ?_⟩) (by assumption) ?_
      rotate_left 1
      · intro w_ hSw
        go_simp
        try with_reducible rfl
      try simp only [Act.put]
      refine wpAnyH_ready (rs := [6, 10, 11]) (by kernel_rfl) (by simp) ?_
      refine AllReadyH.cons (o := _) rfl (fun _ hK => ?_) ?_
      · go_simp
        refine (HV X0 hHeld).mono ?_
        rintro e X1 ⟨rfl, hbr, hcr⟩
        try go_simp
        refine hK.out _ _ hbr (fun hHeld => ?_)
        clear hK
        try simp only [Act.put, List.setIfInBounds_toArray, List.set_cons_zero, List.set_cons_succ]
        refine wpAnyH_take (i := 7) (oi := _) (v := ?_) rfl (by kernel_rfl) (by kernel_rfl) (by kernel_rfl) (fun _ _ _ h => h) (Or.inl ⟨by rfl, ?_⟩) (by assumption) ?_
        rotate_left 1
        · intro w_ hSw
          go_simp
          try with_reducible rfl
        try simp only [Act.put, List.setIfInBounds_toArray]
        refine wpAnyH_take (i := 8) (oi := _) (v := ?_) rfl (by kernel_rfl) (by kernel_rfl) (by kernel_rfl) (fun _ _ _ h => h) (Or.inl ⟨by rfl, ?_⟩) (by assumption) ?_
        rotate_left 1
        · intro w_ hSw
          go_simp
          try with_reducible rfl
        try simp only [Act.put]
        refine wpAnyH_take (i := 9) (oi := _) (v := ?_) rfl (by kernel_rfl) (by kernel_rfl) (by kernel_rfl) (fun _ _ _ h => h) (Or.inl ⟨by rfl, ?_⟩) (by assumption) ?_
        rotate_left 1
        · intro w_ hSw
          go_simp
          try with_reducible rfl
        try simp only [Act.put]
        refine wpAnyH_ready (rs := [10, 11]) (by kernel_rfl) (by simp) ?_
        refine AllReadyH.cons (o := _) rfl (fun _ hK => ?_) ?_
        · go_simp
          have hal := zalloc hHeld (.cells #[.int .i64 0] 3 (0, 0))
          have n9 := heap_alloc_new X1 (.cells #[.int .i64 0] 3 (0, 0))
          have l9 := hHeld.size
          generalize X1.heap.size = b9 at *
          generalize X1.alloc (.cells #[.int .i64 0] 3 (0, 0)) = X2 at *
          refine hK.out _ _ hal (fun hHeld => ?_)
          clear hK
          try simp only [Act.put, List.setIfInBounds_toArray, List.set_cons_zero, List.set_cons_succ]
          refine wpAnyH_ready (rs := [11]) (by kernel_rfl) (by simp) ?_
          refine AllReadyH.cons (o := _) rfl (fun _ hK => ?_) AllReadyH.nil
          go_simp
          have hal := zalloc hHeld (.cells #[.int .i64 0] 3 (0, 0))
          have n10 := heap_alloc_new X2 (.cells #[.int .i64 0] 3 (0, 0))
          have l10 := hHeld.size
          have d910 := size_of_block n9
          replace n9 := keep_alloc (x := .cells #[.int .i64 0] 3 (0, 0)) n9
          generalize X2.heap.size = b10 at *
          generalize X2.alloc (.cells #[.int .i64 0] 3 (0, 0)) = X3 at *
          refine hK.out _ _ hal (fun hHeld => ?_)
          clear hK
          try simp only [Act.put, List.setIfInBounds_toArray, List.set_cons_zero, List.set_cons_succ]
          refine wpAnyH_ready (rs := [12]) (by kernel_rfl) (by simp) ?_
          refine AllReadyH.cons (o := _) rfl (fun _ hK => ?_) AllReadyH.nil
          obtain ⟨y0, yf⟩ := nowz1 n9 rfl
          go_simp
          clear y0 yf
          refine hK.out _ _ (hHeld.setCell (by omega) _) (fun hHeld => ?_)
          clear hK
          replace n9 := put1z (x := .int .i64 (hv S g i).1) n9
          replace n10 := putFar (b := b9) (x := .int .i64 (hv S g i).1) (by omega) n10
          try simp only [Act.put, List.setIfInBounds_toArray, List.set_cons_zero, List.set_cons_succ]
          refine wpAnyH_ready (rs := [13]) (by kernel_rfl) (by simp) ?_
          refine AllReadyH.cons (o := _) rfl (fun _ hK => ?_) AllReadyH.nil
          obtain ⟨y0, yf⟩ := nowz1 n10 rfl
          go_simp
          clear y0 yf
          refine hK.out _ _ (hHeld.setCell (by omega) _) (fun hHeld => ?_)
          clear hK
          replace n9 := putFar (b := b10) (x := .int .i64 (hv S g i).2) (by omega) n9
          replace n10 := put1z (x := .int .i64 (hv S g i).2) n10
          try simp only [Act.put, List.setIfInBounds_toArray, List.set_cons_zero, List.set_cons_succ]
          refine wpAnyH_done (by kernel_rfl) ?_ _
          go_wp2_with fail
          go_meet
          exact ⟨b9, b10, rfl, rfl, n9, n10, hHeld⟩
        refine AllReadyH.cons (o := _) rfl (fun _ hK => ?_) AllReadyH.nil
        go_simp
        have hal := zalloc hHeld (.cells #[.int .i64 0] 3 (0, 0))
        have n10 := heap_alloc_new X1 (.cells #[.int .i64 0] 3 (0, 0))
        have l10 := hHeld.size
        generalize X1.heap.size = b10 at *
        generalize X1.alloc (.cells #[.int .i64 0] 3 (0, 0)) = X2 at *
        refine hK.out _ _ hal (fun hHeld => ?_)
        clear hK
        try simp only [Act.put, List.setIfInBounds_toArray, List.set_cons_zero, List.set_cons_succ]
        refine wpAnyH_ready (rs := [10]) (by kernel_rfl) (by simp) ?_
        refine AllReadyH.cons (o := _) rfl (fun _ hK => ?_) AllReadyH.nil
        go_simp
        have hal := zalloc hHeld (.cells #[.int .i64 0] 3 (0, 0))
        have n9 := heap_alloc_new X2 (.cells #[.int .i64 0] 3 (0, 0))
        have l9 := hHeld.size
        have d109 := size_of_block n10
        replace n10 := keep_alloc (x := .cells #[.int .i64 0] 3 (0, 0)) n10
        generalize X2.heap.size = b9 at *
        generalize X2.alloc (.cells #[.int .i64 0] 3 (0, 0)) = X3 at *
        refine hK.out _ _ hal (fun hHeld => ?_)
        clear hK
        try simp only [Act.put, List.setIfInBounds_toArray, List.set_cons_zero, List.set_cons_succ]
        refine wpAnyH_ready (rs := [12]) (by kernel_rfl) (by simp) ?_
        refine AllReadyH.cons (o := _) rfl (fun _ hK => ?_) AllReadyH.nil
        obtain ⟨y0, yf⟩ := nowz1 n9 rfl
        go_simp
        clear y0 yf
        refine hK.out _ _ (hHeld.setCell (by omega) _) (fun hHeld => ?_)
        clear hK
        replace n10 := putFar (b := b9) (x := .int .i64 (hv S g i).1) (by omega) n10
        replace n9 := put1z (x := .int .i64 (hv S g i).1) n9
        try simp only [Act.put, List.setIfInBounds_toArray, List.set_cons_zero, List.set_cons_succ]
        refine wpAnyH_ready (rs := [13]) (by kernel_rfl) (by simp) ?_
        refine AllReadyH.cons (o := _) rfl (fun _ hK => ?_) AllReadyH.nil
        obtain ⟨y0, yf⟩ := nowz1 n10 rfl
        go_simp
        clear y0 yf
        refine hK.out _ _ (hHeld.setCell (by omega) _) (fun hHeld => ?_)
        clear hK
        replace n10 := put1z (x := .int .i64 (hv S g i).2) n10
        replace n9 := putFar (b := b10) (x := .int .i64 (hv S g i).2) (by omega) n9
        try simp only [Act.put, List.setIfInBounds_toArray, List.set_cons_zero, List.set_cons_succ]
        refine wpAnyH_done (by kernel_rfl) ?_ _
        go_wp2_with fail
        go_meet
        exact ⟨b9, b10, rfl, rfl, n9, n10, hHeld⟩
      refine AllReadyH.cons (o := _) rfl (fun _ hK => ?_) ?_
      · go_simp
        have hal := zalloc hHeld (.cells #[.int .i64 0] 3 (0, 0))
        have n9 := heap_alloc_new X0 (.cells #[.int .i64 0] 3 (0, 0))
        have l9 := hHeld.size
        generalize X0.heap.size = b9 at *
        generalize X0.alloc (.cells #[.int .i64 0] 3 (0, 0)) = X1 at *
        refine hK.out _ _ hal (fun hHeld => ?_)
        clear hK
        try simp only [Act.put, List.setIfInBounds_toArray, List.set_cons_zero, List.set_cons_succ]
        refine wpAnyH_ready (rs := [6, 11]) (by kernel_rfl) (by simp) ?_
        refine AllReadyH.cons (o := _) rfl (fun _ hK => ?_) ?_
        · go_simp
          refine (HV X1 hHeld).mono ?_
          rintro e X2 ⟨rfl, hbr, hcr⟩
          replace n9 := keep_blk hcr n9
          try go_simp
          refine hK.out _ _ hbr (fun hHeld => ?_)
          clear hK
          try simp only [Act.put, List.setIfInBounds_toArray, List.set_cons_zero, List.set_cons_succ]
          refine wpAnyH_take (i := 7) (oi := _) (v := ?_) rfl (by kernel_rfl) (by kernel_rfl) (by kernel_rfl) (fun _ _ _ h => h) (Or.inl ⟨by rfl, ?_⟩) (by assumption) ?_
          rotate_left 1
          · intro w_ hSw
            go_simp
            try with_reducible rfl
          try simp only [Act.put, List.setIfInBounds_toArray]
          refine wpAnyH_take (i := 8) (oi := _) (v := ?_) rfl (by kernel_rfl) (by kernel_rfl) (by kernel_rfl) (fun _ _ _ h => h) (Or.inl ⟨by rfl, ?_⟩) (by assumption) ?_
          rotate_left 1
          · intro w_ hSw
            go_simp
            try with_reducible rfl
          try simp only [Act.put]
          refine wpAnyH_take (i := 9) (oi := _) (v := ?_) rfl (by kernel_rfl) (by kernel_rfl) (by kernel_rfl) (fun _ _ _ h => h) (Or.inl ⟨by rfl, ?_⟩) (by assumption) ?_
          rotate_left 1
          · intro w_ hSw
            go_simp
            try with_reducible rfl
          try simp only [Act.put]
          refine wpAnyH_ready (rs := [11]) (by kernel_rfl) (by simp) ?_
          refine AllReadyH.cons (o := _) rfl (fun _ hK => ?_) AllReadyH.nil
          go_simp
          have hal := zalloc hHeld (.cells #[.int .i64 0] 3 (0, 0))
          have n10 := heap_alloc_new X2 (.cells #[.int .i64 0] 3 (0, 0))
          have l10 := hHeld.size
          have d910 := size_of_block n9
          replace n9 := keep_alloc (x := .cells #[.int .i64 0] 3 (0, 0)) n9
          generalize X2.heap.size = b10 at *
          generalize X2.alloc (.cells #[.int .i64 0] 3 (0, 0)) = X3 at *
          refine hK.out _ _ hal (fun hHeld => ?_)
          clear hK
          try simp only [Act.put, List.setIfInBounds_toArray, List.set_cons_zero, List.set_cons_succ]
          refine wpAnyH_ready (rs := [12]) (by kernel_rfl) (by simp) ?_
          refine AllReadyH.cons (o := _) rfl (fun _ hK => ?_) AllReadyH.nil
          obtain ⟨y0, yf⟩ := nowz1 n9 rfl
          go_simp
          clear y0 yf
          refine hK.out _ _ (hHeld.setCell (by omega) _) (fun hHeld => ?_)
          clear hK
          replace n9 := put1z (x := .int .i64 (hv S g i).1) n9
          replace n10 := putFar (b := b9) (x := .int .i64 (hv S g i).1) (by omega) n10
          try simp only [Act.put, List.setIfInBounds_toArray, List.set_cons_zero, List.set_cons_succ]
          refine wpAnyH_ready (rs := [13]) (by kernel_rfl) (by simp) ?_
          refine AllReadyH.cons (o := _) rfl (fun _ hK => ?_) AllReadyH.nil
          obtain ⟨y0, yf⟩ := nowz1 n10 rfl
          go_simp
          clear y0 yf
          refine hK.out _ _ (hHeld.setCell (by omega) _) (fun hHeld => ?_)
          clear hK
          replace n9 := putFar (b := b10) (x := .int .i64 (hv S g i).2) (by omega) n9
          replace n10 := put1z (x := .int .i64 (hv S g i).2) n10
          try simp only [Act.put, List.setIfInBounds_toArray, List.set_cons_zero, List.set_cons_succ]
          refine wpAnyH_done (by kernel_rfl) ?_ _
          go_wp2_with fail
          go_meet
          exact ⟨b9, b10, rfl, rfl, n9, n10, hHeld⟩
        refine AllReadyH.cons (o := _) rfl (fun _ hK => ?_) AllReadyH.nil
        go_simp
        have hal := zalloc hHeld (.cells #[.int .i64 0] 3 (0, 0))
        have n10 := heap_alloc_new X1 (.cells #[.int .i64 0] 3 (0, 0))
        have l10 := hHeld.size
        have d910 := size_of_block n9
        replace n9 := keep_alloc (x := .cells #[.int .i64 0] 3 (0, 0)) n9
        generalize X1.heap.size = b10 at *
        generalize X1.alloc (.cells #[.int .i64 0] 3 (0, 0)) = X2 at *
        refine hK.out _ _ hal (fun hHeld => ?_)
        clear hK
        try simp only [Act.put, List.setIfInBounds_toArray, List.set_cons_zero, List.set_cons_succ]
        refine wpAnyH_ready (rs := [6]) (by kernel_rfl) (by simp) ?_
        refine AllReadyH.cons (o := _) rfl (fun _ hK => ?_) AllReadyH.nil
        go_simp
        refine (HV X2 hHeld).mono ?_
        rintro e X3 ⟨rfl, hbr, hcr⟩
        replace n9 := keep_blk hcr n9
        replace n10 := keep_blk hcr n10
        try go_simp
        refine hK.out _ _ hbr (fun hHeld => ?_)
        clear hK
        try simp only [Act.put, List.setIfInBounds_toArray, List.set_cons_zero, List.set_cons_succ]
        refine wpAnyH_take (i := 7) (oi := _) (v := ?_) rfl (by kernel_rfl) (by kernel_rfl) (by kernel_rfl) (fun _ _ _ h => h) (Or.inl ⟨by rfl, ?_⟩) (by assumption) ?_
        rotate_left 1
        · intro w_ hSw
          go_simp
          try with_reducible rfl
        try simp only [Act.put, List.setIfInBounds_toArray]
        refine wpAnyH_take (i := 8) (oi := _) (v := ?_) rfl (by kernel_rfl) (by kernel_rfl) (by kernel_rfl) (fun _ _ _ h => h) (Or.inl ⟨by rfl, ?_⟩) (by assumption) ?_
        rotate_left 1
        · intro w_ hSw
          go_simp
          try with_reducible rfl
        try simp only [Act.put]
        refine wpAnyH_take (i := 9) (oi := _) (v := ?_) rfl (by kernel_rfl) (by kernel_rfl) (by kernel_rfl) (fun _ _ _ h => h) (Or.inl ⟨by rfl, ?_⟩) (by assumption) ?_
        rotate_left 1
        · intro w_ hSw
          go_simp
          try with_reducible rfl
        try simp only [Act.put]
        refine wpAnyH_ready (rs := [12]) (by kernel_rfl) (by simp) ?_
        refine AllReadyH.cons (o := _) rfl (fun _ hK => ?_) AllReadyH.nil
        obtain ⟨y0, yf⟩ := nowz1 n9 rfl
        go_simp
        clear y0 yf
        refine hK.out _ _ (hHeld.setCell (by omega) _) (fun hHeld => ?_)
        clear hK
        replace n9 := put1z (x := .int .i64 (hv S g i).1) n9
        replace n10 := putFar (b := b9) (x := .int .i64 (hv S g i).1) (by omega) n10
        try simp only [Act.put, List.setIfInBounds_toArray, List.set_cons_zero, List.set_cons_succ]
        refine wpAnyH_ready (rs := [13]) (by kernel_rfl) (by simp) ?_
        refine AllReadyH.cons (o := _) rfl (fun _ hK => ?_) AllReadyH.nil
        obtain ⟨y0, yf⟩ := nowz1 n10 rfl
        go_simp
        clear y0 yf
        refine hK.out _ _ (hHeld.setCell (by omega) _) (fun hHeld => ?_)
        clear hK
        replace n9 := putFar (b := b10) (x := .int .i64 (hv S g i).2) (by omega) n9
        replace n10 := put1z (x := .int .i64 (hv S g i).2) n10
        try simp only [Act.put, List.setIfInBounds_toArray, List.set_cons_zero, List.set_cons_succ]
        refine wpAnyH_done (by kernel_rfl) ?_ _
        go_wp2_with fail
        go_meet
        exact ⟨b9, b10, rfl, rfl, n9, n10, hHeld⟩
      refine AllReadyH.cons (o := _) rfl (fun _ hK => ?_) AllReadyH.nil
      go_simp
      have hal := zalloc hHeld (.cells #[.int .i64 0] 3 (0, 0))
      have n10 := heap_alloc_new X0 (.cells #[.int .i64 0] 3 (0, 0))
      have l10 := hHeld.size
      generalize X0.heap.size = b10 at *
      generalize X0.alloc (.cells #[.int .i64 0] 3 (0, 0)) = X1 at *
      refine hK.out _ _ hal (fun hHeld => ?_)
      clear hK
      try simp only [Act.put, List.setIfInBounds_toArray, List.set_cons_zero, List.set_cons_succ]
      refine wpAnyH_ready (rs := [6, 10]) (by kernel_rfl) (by simp) ?_
      refine AllReadyH.cons (o := _) rfl (fun _ hK => ?_) ?_
      · go_simp
        refine (HV X1 hHeld).mono ?_
        rintro e X2 ⟨rfl, hbr, hcr⟩
        replace n10 := keep_blk hcr n10
        try go_simp
        refine hK.out _ _ hbr (fun hHeld => ?_)
        clear hK
        try simp only [Act.put, List.setIfInBounds_toArray, List.set_cons_zero, List.set_cons_succ]
        refine wpAnyH_take (i := 7) (oi := _) (v := ?_) rfl (by kernel_rfl) (by kernel_rfl) (by kernel_rfl) (fun _ _ _ h => h) (Or.inl ⟨by rfl, ?_⟩) (by assumption) ?_
        rotate_left 1
        · intro w_ hSw
          go_simp
          try with_reducible rfl
        try simp only [Act.put, List.setIfInBounds_toArray]
        refine wpAnyH_take (i := 8) (oi := _) (v := ?_) rfl (by kernel_rfl) (by kernel_rfl) (by kernel_rfl) (fun _ _ _ h => h) (Or.inl ⟨by rfl, ?_⟩) (by assumption) ?_
        rotate_left 1
        · intro w_ hSw
          go_simp
          try with_reducible rfl
        try simp only [Act.put]
        refine wpAnyH_take (i := 9) (oi := _) (v := ?_) rfl (by kernel_rfl) (by kernel_rfl) (by kernel_rfl) (fun _ _ _ h => h) (Or.inl ⟨by rfl, ?_⟩) (by assumption) ?_
        rotate_left 1
        · intro w_ hSw
          go_simp
          try with_reducible rfl
        try simp only [Act.put]
        refine wpAnyH_ready (rs := [10]) (by kernel_rfl) (by simp) ?_
        refine AllReadyH.cons (o := _) rfl (fun _ hK => ?_) AllReadyH.nil
        go_simp
        have hal := zalloc hHeld (.cells #[.int .i64 0] 3 (0, 0))
        have n9 := heap_alloc_new X2 (.cells #[.int .i64 0] 3 (0, 0))
        have l9 := hHeld.size
        have d109 := size_of_block n10
        replace n10 := keep_alloc (x := .cells #[.int .i64 0] 3 (0, 0)) n10
        generalize X2.heap.size = b9 at *
        generalize X2.alloc (.cells #[.int .i64 0] 3 (0, 0)) = X3 at *
        refine hK.out _ _ hal (fun hHeld => ?_)
        clear hK
        try simp only [Act.put, List.setIfInBounds_toArray, List.set_cons_zero, List.set_cons_succ]
        refine wpAnyH_ready (rs := [12]) (by kernel_rfl) (by simp) ?_
        refine AllReadyH.cons (o := _) rfl (fun _ hK => ?_) AllReadyH.nil
        obtain ⟨y0, yf⟩ := nowz1 n9 rfl
        go_simp
        clear y0 yf
        refine hK.out _ _ (hHeld.setCell (by omega) _) (fun hHeld => ?_)
        clear hK
        replace n10 := putFar (b := b9) (x := .int .i64 (hv S g i).1) (by omega) n10
        replace n9 := put1z (x := .int .i64 (hv S g i).1) n9
        try simp only [Act.put, List.setIfInBounds_toArray, List.set_cons_zero, List.set_cons_succ]
        refine wpAnyH_ready (rs := [13]) (by kernel_rfl) (by simp) ?_
        refine AllReadyH.cons (o := _) rfl (fun _ hK => ?_) AllReadyH.nil
        obtain ⟨y0, yf⟩ := nowz1 n10 rfl
        go_simp
        clear y0 yf
        refine hK.out _ _ (hHeld.setCell (by omega) _) (fun hHeld => ?_)
        clear hK
        replace n10 := put1z (x := .int .i64 (hv S g i).2) n10
        replace n9 := putFar (b := b10) (x := .int .i64 (hv S g i).2) (by omega) n9
        try simp only [Act.put, List.setIfInBounds_toArray, List.set_cons_zero, List.set_cons_succ]
        refine wpAnyH_done (by kernel_rfl) ?_ _
        go_wp2_with fail
        go_meet
        exact ⟨b9, b10, rfl, rfl, n9, n10, hHeld⟩
      refine AllReadyH.cons (o := _) rfl (fun _ hK => ?_) AllReadyH.nil
      go_simp
      have hal := zalloc hHeld (.cells #[.int .i64 0] 3 (0, 0))
      have n9 := heap_alloc_new X1 (.cells #[.int .i64 0] 3 (0, 0))
      have l9 := hHeld.size
      have d109 := size_of_block n10
      replace n10 := keep_alloc (x := .cells #[.int .i64 0] 3 (0, 0)) n10
      generalize X1.heap.size = b9 at *
      generalize X1.alloc (.cells #[.int .i64 0] 3 (0, 0)) = X2 at *
      refine hK.out _ _ hal (fun hHeld => ?_)
      clear hK
      try simp only [Act.put, List.setIfInBounds_toArray, List.set_cons_zero, List.set_cons_succ]
      refine wpAnyH_ready (rs := [6]) (by kernel_rfl) (by simp) ?_
      refine AllReadyH.cons (o := _) rfl (fun _ hK => ?_) AllReadyH.nil
      go_simp
      refine (HV X2 hHeld).mono ?_
      rintro e X3 ⟨rfl, hbr, hcr⟩
      replace n10 := keep_blk hcr n10
      replace n9 := keep_blk hcr n9
      try go_simp
      refine hK.out _ _ hbr (fun hHeld => ?_)
      clear hK
      try simp only [Act.put, List.setIfInBounds_toArray, List.set_cons_zero, List.set_cons_succ]
      refine wpAnyH_take (i := 7) (oi := _) (v := ?_) rfl (by kernel_rfl) (by kernel_rfl) (by kernel_rfl) (fun _ _ _ h => h) (Or.inl ⟨by rfl, ?_⟩) (by assumption) ?_
      rotate_left 1
      · intro w_ hSw
        go_simp
        try with_reducible rfl
      try simp only [Act.put, List.setIfInBounds_toArray]
      refine wpAnyH_take (i := 8) (oi := _) (v := ?_) rfl (by kernel_rfl) (by kernel_rfl) (by kernel_rfl) (fun _ _ _ h => h) (Or.inl ⟨by rfl, ?_⟩) (by assumption) ?_
      rotate_left 1
      · intro w_ hSw
        go_simp
        try with_reducible rfl
      try simp only [Act.put]
      refine wpAnyH_take (i := 9) (oi := _) (v := ?_) rfl (by kernel_rfl) (by kernel_rfl) (by kernel_rfl) (fun _ _ _ h => h) (Or.inl ⟨by rfl, ?_⟩) (by assumption) ?_
      rotate_left 1
      · intro w_ hSw
        go_simp
        try with_reducible rfl
      try simp only [Act.put]
      refine wpAnyH_ready (rs := [12]) (by kernel_rfl) (by simp) ?_
      refine AllReadyH.cons (o := _) rfl (fun _ hK => ?_) AllReadyH.nil
      obtain ⟨y0, yf⟩ := nowz1 n9 rfl
      go_simp
      clear y0 yf
      refine hK.out _ _ (hHeld.setCell (by omega) _) (fun hHeld => ?_)
      clear hK
      replace n10 := putFar (b := b9) (x := .int .i64 (hv S g i).1) (by omega) n10
      replace n9 := put1z (x := .int .i64 (hv S g i).1) n9
      try simp only [Act.put, List.setIfInBounds_toArray, List.set_cons_zero, List.set_cons_succ]
      refine wpAnyH_ready (rs := [13]) (by kernel_rfl) (by simp) ?_
      refine AllReadyH.cons (o := _) rfl (fun _ hK => ?_) AllReadyH.nil
      obtain ⟨y0, yf⟩ := nowz1 n10 rfl
      go_simp
      clear y0 yf
      refine hK.out _ _ (hHeld.setCell (by omega) _) (fun hHeld => ?_)
      clear hK
      replace n10 := put1z (x := .int .i64 (hv S g i).2) n10
      replace n9 := putFar (b := b10) (x := .int .i64 (hv S g i).2) (by omega) n9
      try simp only [Act.put, List.setIfInBounds_toArray, List.set_cons_zero, List.set_cons_succ]
      refine wpAnyH_done (by kernel_rfl) ?_ _
      go_wp2_with fail
      go_meet
      exact ⟨b9, b10, rfl, rfl, n9, n10, hHeld⟩
    case rest =>
      obtain ⟨b9, b10, rfl, rfl, n9, n10, hbc⟩ := hcut
      have hd3 := hd2.below hbc
      have hw3 := hw2.below hbc
      have hr3 := hr2.below hbc
      have hbx3 := hbx2.below hbc
      have hy3 := hy2.trans (hbc.mono hy2.size)
      replace n7 := keep_blk hbc n7
      replace n8 := keep_blk hbc n8
      clear HV w0 c0 e0 e1 hBs hd2 hw2 hr2 hbx2 hy2 hbc
      have hst := join_step (k := k) p6 q6 hf1 hg1
      have hH : HBox wc x wk b8 b10 b9 b7 (hv S f i).2 (hv S g i).2 (hv S g i).1 (hv S f i).1 := ⟨hbx3.a, n8, n10, n9, n7⟩
      have hcf2 : ∀ (args : Array Value) (w1 : World), (Sem.run Tryz.prog (callFunc 152 args) w1) = .ok (.enter 152 args) w1 := fun _ _ => by kernel_rfl
      have h3 := bJ_three k S (hv S f i).1 (hv S f i).2 (hv S g i).1 (hv S g i).2
      have HBd := zbuild_any (C := no8) (M := MZ bm mm) (N := N) (w := wc) (zb := zb) (ab := ab) (bm := bm) (room := room) (S := S) (F := joinF (k + 1) (zf S (k + 1) f) (zf S (k + 1) g)) (F0 := joinF k (zf S k (hv S f i).1) (zf S k (hv S g i).1)) (F1 := uJ k S [((hv S f i).2, (hv S g i).2), ((hv S f i).2, (hv S g i).1), ((hv S f i).1, (hv S g i).2)])
        (fun w' T => RemZ w' mm S0 T (c + cJ k * (zn S (hv S f i).1 * zn S (hv S g i).1)) ∧ VSt T) (fun w' T => RemZ w' mm S0 T (c + (cJ (k + 1) * (zn S f * zn S g) - 1)) ∧ VSt T) (fun w' T => RemZ w' mm S0 T (c + (cJ (k + 1) * (zn S f * zn S g) - 1)) ∧ VSt T) 152 #[.pointer (some ⟨x, 0, none⟩), .pointer (some ⟨b8, 0, none⟩), .pointer (some ⟨b10, 0, none⟩), .pointer (some ⟨b9, 0, none⟩), .pointer (some ⟨b7, 0, none⟩)] hcf2
        (.inl rfl) i k (cJ k * (zn S (hv S f i).1 * zn S (hv S g i).1)) (bJ k S [((hv S f i).2, (hv S g i).2), ((hv S f i).2, (hv S g i).1), ((hv S f i).1, (hv S g i).2)]) hi i0
        (by rw [joinF_0, p4, q4]) (uJ_three p4 p5 q4 q5)
        ((zjoin110_any hH (IH hd3 hw3 hr3 hne hN (hv S f i).1 (hv S g i).1 p0 q0 p2 q2 (by omega) (by omega))).mono fun e w' hm => hm.mono fun T id er ho => ⟨ho.1, ho.2, ho.1.zst.vst⟩)
        (fun w1 v1 full1 T a hd4 hk4 hO4 hr4 => by
          have hx := hO4.ext
          have hV := hd3.zst.vst
          have e1 := hx.lvl p0
          have e2 := hx.lvl p1
          have e3 := hx.lvl q0
          have e4 := hx.lvl q1
          have z1 := hx.zn hV p0
          have z2 := hx.zn hV p1
          have z3 := hx.zn hV q0
          have z4 := hx.zn hV q1
          have y1 := hx.zf hV k _ (by omega) p0 p2
          have y2 := hx.zf hV k _ (by omega) p1 p3
          have y3 := hx.zf hV k _ (by omega) q0 q2
          have y4 := hx.zf hV k _ (by omega) q1 q3
          have hB := below_alloc1 w1 (.cells #[.int .i64 (hv S f i).2, .int .i64 (hv S g i).2, .int .i64 (hv S f i).2, .int .i64 (hv S g i).1, .int .i64 (hv S f i).1, .int .i64 (hv S g i).2] 197 (0, 0))
          have hbb : bJ k T [((hv S f i).2, (hv S g i).2), ((hv S f i).2, (hv S g i).1), ((hv S f i).1, (hv S g i).2)] = bJ k S [((hv S f i).2, (hv S g i).2), ((hv S f i).2, (hv S g i).1), ((hv S f i).1, (hv S g i).2)] := by rw [bJ_three, bJ_three, z1, z2, z3, z4]
          have huu : uJ k T [((hv S f i).2, (hv S g i).2), ((hv S f i).2, (hv S g i).1), ((hv S f i).1, (hv S g i).2)] = uJ k S [((hv S f i).2, (hv S g i).2), ((hv S f i).2, (hv S g i).1), ((hv S f i).1, (hv S g i).2)] := by
            unfold uJ
            simp only [List.any_cons, List.any_nil, y1, y2, y3, y4]
          have HI := zjoinAll_any IH (cap := 3) (hd4.below hB) ((hw3.kz hk4 (fun h => h)).below hB) (hr4.1.below hB) hne hN [((hv S f i).2, (hv S g i).2), ((hv S f i).2, (hv S g i).1), ((hv S f i).1, (hv S g i).2)] (by simp)
            (fun p hp => by
              simp only [List.mem_cons, List.not_mem_nil, or_false] at hp
              rcases hp with rfl | rfl | rfl
              · exact ⟨by dsimp only; omega, by dsimp only; omega, by dsimp only; omega, by dsimp only; omega⟩
              · exact ⟨by dsimp only; omega, by dsimp only; omega, by dsimp only; omega, by dsimp only; omega⟩
              · exact ⟨by dsimp only; omega, by dsimp only; omega, by dsimp only; omega, by dsimp only; omega⟩) (by omega) (heap_alloc_new _ _)
            (fun j p hj => by
              match j, hj with
              | 0, hj => simp at hj; subst hj; exact ⟨rfl, rfl⟩
              | 1, hj => simp at hj; subst hj; exact ⟨rfl, rfl⟩
              | 2, hj => simp at hj; subst hj; exact ⟨rfl, rfl⟩) (by rw [hbb]; omega)
          rw [hbb, huu] at HI
          simp only [List.length_cons, List.length_nil, Nat.zero_add, Nat.reduceAdd] at HI
          refine (zjoin111_any (hH.kz hk4) HI).mono fun e w' hm => hm.mono fun U id er ho => ⟨ho.1, ho.2.more (by omega), ho.1.zst.vst⟩)
        (fun w' T hh => ⟨hh.1.more (by omega), hh.2⟩) (fun _ _ hh => hh)
        (fun w1 w2 U V hh hk hV hV' hx => ⟨(hh.1.kz hk (fun e => hne e)).ext hV hx, hV'⟩)
      have hK3 : Kz no8 (MZ bm mm) N w wc := Kz.of_below hy3
      obtain ⟨w0, -⟩ := nowz1 hbx3.a rfl
      obtain ⟨e0, e1, -⟩ := now2 hw3 rfl
      clear IH hcf2 hd3 hr3 p0 p1 p2 p3 p4 p5 p6 q0 q1 q2 q3 q4 q5 q6 n7 n8 n9 n10 hbx3 hw3 hy3 hH
      go_wp2_with fail
      refine HBd.mono ?_
      rintro e w2 ⟨v2, full2, T, id, er, rfl, hd8, hk8, hO8, hr8⟩
      clear HBd
      go_wp2
      go_ret2
      exact ⟨v2, full2, T, id, er, rfl, hd8, hK3.trans hk8, hO8.more (by omega), hr8.1⟩
theorem cJ_mono (a d : Nat) : cJ a ≤ cJ (a + d) := by
  induction d with
  | zero => exact Nat.le_refl _
  | succ d ih =>
    have : cJ (a + (d + 1)) = cJ (a + d) + (a + d + 1) := rfl
    omega
theorem joinF_one {k : Nat} {G : Nat → Bool} (hG : ∀ n, G n = true → n < 2 ^ k) : joinF k (fun n => decide (n = 0)) G = G := by
  funext n
  rw [Bool.eq_iff_iff, joinF_iff]
  constructor
  · rintro ⟨a, b, -, -, ha, hb, h⟩
    have : a = 0 := of_decide_eq_true ha
    subst this
    rw [Nat.zero_or] at h
    rw [← h]; exact hb
  · intro h
    exact ⟨0, n, Nat.two_pow_pos k, hG n h, rfl, h, Nat.zero_or n⟩
set_option maxHeartbeats 4000000 in
set_option maxRecDepth 100000 in
theorem zjoin_any (k : Nat) : JoinOk k := by
  induction k using Nat.strongRecOn with
  | _ k IH =>
    intro N w zb ab bm wk mm v room full S0 S c hd hw hr hne hN f g f0 g0 fk gk hk hc
    have hB3 := below_alloc3 w (.cells #[.pointer (some ⟨wk, 0, none⟩)] 164 (0, 0)) (.cells #[.int .i64 f] 3 (0, 0)) (.cells #[.int .i64 g] 3 (0, 0))
    have hbx := JBox.new w wk f g
    have h24 : lvl S 0 = 24 := lvl_end (.inl rfl)
    have hz0 : zf S k 0 = fun _ => false := funext fun n => zf_zero S k n hk
    have hz1 : zf S k 1 = fun n => decide (n = 0) := funext fun n => zf_one S k n hk
    have hd3 := hd.below hB3
    have hw3 := hw.below hB3
    have hr3 := hr.below hB3
    have hdone : ∀ r : Int, 0 ≤ lvl S r → 24 ≤ lvl S r + k → zf S k r = joinF k (zf S k f) (zf S k g) → Hid (OutZ k room S (joinF k (zf S k f) (zf S k g)) (cJ k * (zn S f * zn S g)) S r 0 ∧ RemZ _ mm S0 S (c + cJ k * (zn S f * zn S g))) := fun r r0 rk hh =>
      Lib.hid ⟨OutZ.stay hd.zst r0 rk hh _, hr3.more (Nat.le_add_right _ _)⟩
    by_cases n0 : f = 0
    · have hD := hdone 0 (by omega) (by omega) (by rw [n0, hz0, joinF_nil0])
      subst n0
      clear hdone hz0 hz1 IH hc hd hw hr hbx hw3 hr3
      go_enter Tryz.func119, Tryz.ntmps119
      go_wp2_with fail
      go_ret2
      exact ⟨v, full, S, 0, 0, rfl, hd3, Kz.of_below hB3, hD.out⟩
    by_cases n1 : g = 0
    · have hD := hdone 0 (by omega) (by omega) (by rw [n1, hz0, joinF_nil1])
      have b0 : (f == 0) = false := by simpa using n0
      subst n1
      clear hdone hz0 hz1 IH hc hd hw hr hbx hw3 hr3 n0
      go_enter Tryz.func119, Tryz.ntmps119
      go_wp2_with fail
      go_ret2
      exact ⟨v, full, S, 0, 0, rfl, hd3, Kz.of_below hB3, hD.out⟩
    have b0 : (f == 0) = false := by simpa using n0
    have b1 : (g == 0) = false := by simpa using n1
    by_cases n2 : f = 1
    · have hD := hdone g g0 gk (by rw [n2, hz1, joinF_one (fun n h => zf_lt k g n h)])
      subst n2
      clear hdone hz0 hz1 IH hc hd hw hr hbx hw3 hr3 n0 n1 b0
      go_enter Tryz.func119, Tryz.ntmps119
      go_wp2_with fail
      go_ret2
      exact ⟨v, full, S, g, 0, rfl, hd3, Kz.of_below hB3, hD.out⟩
    have b2 : (f == 1) = false := by simpa using n2
    by_cases n3 : g = 1
    · have hD := hdone f f0 fk (by rw [n3, hz1, joinF_comm, joinF_one (fun n h => zf_lt k f n h)])
      subst n3
      clear hdone hz0 hz1 IH hc hd hw hr hbx hw3 hr3 n0 n1 n2 b1
      go_enter Tryz.func119, Tryz.ntmps119
      go_wp2_with fail
      go_ret2
      exact ⟨v, full, S, f, 0, rfl, hd3, Kz.of_below hB3, hD.out⟩
    have b3 : (g == 1) = false := by simpa using n3
    have hlt : min (lvl S f) (lvl S g) < 24 := by
      rcases Int.lt_or_le (lvl S f) 24 with h | h
      · omega
      · have e1 := end_of_lvl hd.zst.vst h
        omega
    obtain ⟨j, hj⟩ : ∃ j : Nat, min (lvl S f) (lvl S g) + (j + 1 : Nat) = 24 := ⟨(23 - min (lvl S f) (lvl S g)).toNat, by omega⟩
    have hjk : j + 1 ≤ k := by omega
    have z1 := zn_pos hd.zst f0 n0
    have z2 := zn_pos hd.zst g0 n1
    have hcm : cJ (j + 1) ≤ cJ k := by
      obtain ⟨d, rfl⟩ : ∃ d, k = j + 1 + d := ⟨k - (j + 1), by omega⟩
      exact cJ_mono (j + 1) d
    have hjm : cJ (j + 1) * (zn S f * zn S g) ≤ cJ k * (zn S f * zn S g) := Nat.mul_le_mul_right _ hcm
    have hpos : 1 ≤ cJ (j + 1) * (zn S f * zn S g) := by
      have h1 : 1 ≤ zn S f * zn S g := Nat.mul_le_mul z1 z2
      have h2 : 1 ≤ cJ (j + 1) := by have : cJ (j + 1) = cJ j + (j + 1) := rfl
                                     omega
      exact Nat.mul_le_mul h2 h1
    have hA : ArgE S0 S 5 f g := ⟨fun _ => f0, fun _ _ _ => g0, fun h => by omega⟩
    have hbase : baseE S0 S 5 f g = min (lvl S f) (lvl S g) := by unfold baseE; rw [if_neg (by omega), if_pos (by omega)]
    have hcf2 : ∀ (args : Array Value) (w1 : World), (Sem.run Tryz.prog (callFunc 149 args) w1) = .ok (.enter 149 args) w1 := fun _ _ => by kernel_rfl
    clear hdone
    go_enter Tryz.func119, Tryz.ntmps119
    go_upto_region 7 with (fail)
    generalize ((w.alloc (.cells #[.pointer (some ⟨wk, 0, none⟩)] 164 (0, 0))).alloc (.cells #[.int .i64 f] 3 (0, 0))).alloc (.cells #[.int .i64 g] 3 (0, 0)) = W at *
    have HR := zrecall_any (F := joinF (j + 1) (zf S (j + 1) f) (zf S (j + 1) g)) hd3 hw3 hr3 hne (.inr rfl) hN 5 5 f g rfl ⟨wf_name 5 (by omega), wf_idz hd.max f0, wf_idz hd.max g0⟩ 149 #[.pointer (some ⟨w.heap.size, 0, none⟩), .pointer (some ⟨w.heap.size + 1, 0, none⟩), .pointer (some ⟨w.heap.size + 1 + 1, 0, none⟩)] hcf2
      (j + 1) (cJ (j + 1) * (zn S f * zn S g)) (cJ (j + 1) * (zn S f * zn S g) - 1)
      (fun r he => by rw [← famE5 S0 S]; exact he.out hd.zst (by omega) (by rw [hbase]; omega) room _)
      (fun y => zjoin1_any (IH j (by omega)) (hd3.below y.2) (hw3.below y.2) (hr3.below y.2) hne hN f g (hbx.below y.2) f0 g0 hj (by omega) z1 z2)
      (fun T id ho => OutZ.remember hd.zst.vst hA (by rw [hbase]; omega) (by rw [famE5]; exact ho)) (by omega)
    obtain ⟨w0, -⟩ := nowz1 hbx.a rfl
    obtain ⟨f1, -⟩ := nowz1 hbx.f rfl
    obtain ⟨g1, -⟩ := nowz1 hbx.g rfl
    have hK4 : Kz no8 (MZ bm mm) N w W := Kz.of_below hB3
    have hraise : ∀ T id er, OutZ (j + 1) room S (joinF (j + 1) (zf S (j + 1) f) (zf S (j + 1) g)) (cJ (j + 1) * (zn S f * zn S g)) T id er → Hid (OutZ k room S (joinF k (zf S k f) (zf S k g)) (cJ k * (zn S f * zn S g)) T id er) := fun T id er ho => Lib.hid (by
      obtain ⟨d, rfl⟩ : ∃ d, k = (j + 1) + d := ⟨k - (j + 1), by omega⟩
      rw [← famE5 S0 S] at ho ⊢
      exact (OutZ.raise hA (by rw [hbase]; omega) d ho).more hjm)
    clear hA hbase hbx hd3 hw3 hr3 hcf2 IH hd hw hr hlt hj z1 z2 hB3 hz0 hz1 hcm n0 n1 n2 n3
    go_wp2_with fail
    refine HR.mono ?_
    rintro e w2 ⟨v2, full2, T, id, er, rfl, hd8, hk8, hO8, hr8⟩
    have hO := hraise _ _ _ hO8
    clear HR hraise hO8
    go_wp2
    go_ret2
    exact ⟨v2, full2, T, id, er, rfl, hd8, hK4.trans hk8, hO.out, hr8.more (by omega)⟩
end Go.Proofs.YtehpccanjlaokaaGreat
