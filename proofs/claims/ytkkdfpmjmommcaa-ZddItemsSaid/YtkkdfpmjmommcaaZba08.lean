/- The members that hold none of another family: bare. -/
import Derived.Test.YtkkdfpmjmommcaaZjn08
namespace Go.Proofs.Ytkkdfpmjmommcaa
open Go.RowKit Go.Joins

def BareOk (k : Nat) : Prop := ∀ {N : Nat → Prop} {w : World} {zb ab bm wk mm : Nat} {v : Value} {room full : Nat} {S0 S : St} {c : Nat}, ZdAt w N zb ab bm v room full S → WkAt w wk zb mm → RemZ w mm S0 S c → mm ≠ bm → ¬ N mm →
  ∀ (f g : Int), 0 ≤ lvl S f → 0 ≤ lvl S g → 24 ≤ lvl S f + k → 24 ≤ lvl S g + k → k ≤ 24 → c + k * (zn S f * zn S g) ≤ 1000000 →
  Calls Try.prog 86 #[.pointer (some ⟨wk, 0, none⟩), .int .i64 f, .int .i64 g] w
    (MadeZ no8 (MZ bm mm) N w zb ab bm room fun w' T id er => OutZ k room S (freeF k (zf S k f) (zf S k g)) (k * (zn S f * zn S g)) T id er ∧ RemZ w' mm S0 T (c + k * (zn S f * zn S g)))
theorem zn_le_cF {k : Nat} {S U : St} {f id : Int} {F : Nat → Bool} (hk : k ≤ 24) (fk : 24 ≤ lvl S f + k) (ik : 24 ≤ lvl U id + k) (h : zf U k id = F) (hF : ∀ n, F n = true → zf S k f n = true) : zn U id ≤ zn S f := by
  rw [← zn_cF hk ik, ← zn_cF hk fk, h]
  exact cF_le k hF
theorem freeF_sub {k : Nat} {F G : Nat → Bool} (n : Nat) (h : freeF k F G n = true) : F n = true := (freeF_iff.1 h).1
theorem zbare110_any {C M N : Nat → Prop} {w : World} {zb ab bm room wk x p1 q1 q0 p0 : Nat} {f1 g1 g0 f0 : Int} {P : World → St → Int → Int → Prop} (hb : HBox w x wk p1 q1 q0 p0 f1 g1 g0 f0)
    (H : Calls Try.prog 86 #[.pointer (some ⟨wk, 0, none⟩), .int .i64 f0, .int .i64 g0] w (MadeZ C M N w zb ab bm room P)) :
    Calls Try.prog 107 (#[.bool false] ++ #[.pointer (some ⟨x, 0, none⟩), .pointer (some ⟨p0, 0, none⟩), .pointer (some ⟨q0, 0, none⟩), .pointer (some ⟨p1, 0, none⟩), .pointer (some ⟨q1, 0, none⟩)]) w (MadeZ C M N w zb ab bm room P) := by
  obtain ⟨r0, -⟩ := nowz1 hb.a rfl
  obtain ⟨a0, -⟩ := nowz1 hb.f0 rfl
  obtain ⟨b0, -⟩ := nowz1 hb.g0 rfl
  clear hb
  show Calls Try.prog _ #[.bool false, .pointer (some ⟨x, 0, none⟩), .pointer (some ⟨p0, 0, none⟩), .pointer (some ⟨q0, 0, none⟩), .pointer (some ⟨p1, 0, none⟩), .pointer (some ⟨q1, 0, none⟩)] w _
  go_enter Try.func107, Try.ntmps107
  go_wp2_with fail
  refine H.mono ?_
  rintro e w2 ⟨v2, full2, T, id, er, rfl, hd8, hk8, hP8⟩
  clear H
  go_wp2
  go_ret2
  exact ⟨v2, full2, T, id, er, rfl, hd8, hk8, hP8⟩
set_option maxHeartbeats 1000000 in
theorem zbare111_any {k : Nat} (IH : BareOk k) {N : Nat → Prop} {w : World} {zb ab bm wk mm x p1 q1 q0 p0 : Nat} {v : Value} {room full : Nat} {S0 S : St} {c : Nat} {f1 g1 g0 f0 : Int} (hd : ZdAt w N zb ab bm v room full S) (hw : WkAt w wk zb mm) (hr : RemZ w mm S0 S c) (hne : mm ≠ bm) (hN : ¬ N mm)
    (hb : HBox w x wk p1 q1 q0 p0 f1 g1 g0 f0) (hk : k ≤ 24) (u1 : 0 ≤ lvl S f1) (u2 : 0 ≤ lvl S g0) (u3 : 0 ≤ lvl S g1) (l1 : 24 ≤ lvl S f1 + k) (l2 : 24 ≤ lvl S g0 + k) (l3 : 24 ≤ lvl S g1 + k) (hc : c + (k * (zn S f1 * zn S g0) + k * (zn S f1 * zn S g1)) ≤ 1000000) :
    Calls Try.prog 107 (#[.bool true] ++ #[.pointer (some ⟨x, 0, none⟩), .pointer (some ⟨p0, 0, none⟩), .pointer (some ⟨q0, 0, none⟩), .pointer (some ⟨p1, 0, none⟩), .pointer (some ⟨q1, 0, none⟩)]) w
      (MadeZ no8 (MZ bm mm) N w zb ab bm room fun w' T id er => OutZ k room S (freeF k (freeF k (zf S k f1) (zf S k g0)) (zf S k g1)) (k * (zn S f1 * zn S g0) + k * (zn S f1 * zn S g1)) T id er ∧ RemZ w' mm S0 T (c + (k * (zn S f1 * zn S g0) + k * (zn S f1 * zn S g1)))) := by
  have H1 := IH hd hw hr hne hN f1 g0 u1 u2 l1 l2 hk (by omega)
  obtain ⟨r0, -⟩ := nowz1 hb.a rfl
  obtain ⟨a0, -⟩ := nowz1 hb.f1 rfl
  obtain ⟨b0, -⟩ := nowz1 hb.g0 rfl
  have hV := hd.zst.vst
  clear hd hr
  show Calls Try.prog _ #[.bool true, .pointer (some ⟨x, 0, none⟩), .pointer (some ⟨p0, 0, none⟩), .pointer (some ⟨q0, 0, none⟩), .pointer (some ⟨p1, 0, none⟩), .pointer (some ⟨q1, 0, none⟩)] w _
  go_enter Try.func107, Try.ntmps107
  go_wp2_with fail
  refine H1.mono ?_
  rintro e w2 ⟨v2, full2, T, id, er, rfl, hd2, hk2, hO2, hr2⟩
  clear H1 r0 a0 b0
  rcases hO2.kind with rfl | ⟨rfl, rfl⟩
  · obtain ⟨i0, i1, i2⟩ := hO2.ok
    have hx := hO2.ext
    have e3 := hx.lvl u3
    have z3 := hx.zn hV u3
    have y3 := hx.zf hV k _ hk u3 l3
    have hle := zn_le_cF hk l1 i1 i2 freeF_sub
    have hmul : k * (zn T id * zn T g1) ≤ k * (zn S f1 * zn S g1) := by rw [z3]; exact Nat.mul_le_mul_left _ (Nat.mul_le_mul_right _ hle)
    have H2 := IH hd2 (hw.kz hk2 (fun h => h)) hr2 hne hN id g1 i0 (by omega) i1 (by omega) hk (by omega)
    rw [i2, y3] at H2
    have hb2 := hb.kz hk2
    obtain ⟨r0, -⟩ := nowz1 hb2.a rfl
    obtain ⟨b1, -⟩ := nowz1 hb2.g1 rfl
    have hOP := fun V id er (h2 : OutZ k room T (freeF k (freeF k (zf S k f1) (zf S k g0)) (zf S k g1)) (k * (zn T id * zn T g1)) V id er) => h2
    have hOS := Lib.hid hO2
    clear hO2 hb hb2 hx e3 z3 y3 hle i0 i1 i2 hd2 hr2 hw IH hOP
    go_wp2_with fail
    refine H2.mono ?_
    rintro e w3 ⟨v3, full3, U, id3, er3, rfl, hd3, hk3, hO3, hr3⟩
    have hO4 := Lib.hid ((hOS.out.then hO3).more (B' := k * (zn S f1 * zn S g0) + k * (zn S f1 * zn S g1)) (by omega))
    have hr4 := hr3.more (C' := c + (k * (zn S f1 * zn S g0) + k * (zn S f1 * zn S g1))) (by omega)
    clear H2 hO3 hr3 r0 b1
    go_wp2
    go_ret2
    exact ⟨v3, full3, U, id3, er3, rfl, hd3, hk2.trans hk3, hO4.out, hr4⟩
  · have hO4 := Lib.hid (hO2.fail0 (D' := k) (G := freeF k (freeF k (zf S k f1) (zf S k g0)) (zf S k g1)) (B' := k * (zn S f1 * zn S g0) + k * (zn S f1 * zn S g1)) (by decide) (by omega))
    have hr4 := hr2.more (C' := c + (k * (zn S f1 * zn S g0) + k * (zn S f1 * zn S g1))) (by omega)
    clear hO2 hr2 IH
    go_wp2
    go_ret2
    exact ⟨v2, full2, T, 0, 5, rfl, hd2, hk2, hO4.out, hr4⟩
theorem bare_step {k a a0 a1 b b0 b1 : Nat} (ha : a = a0 + a1) (hb : b = b0 + b1) (h1 : 1 ≤ a) (h2 : 1 ≤ b) :
    k * (a0 * b0) + (k * (a1 * b0) + k * (a1 * b1)) + 1 ≤ (k + 1) * (a * b) := by
  have hab : a * b = a0 * b0 + a0 * b1 + (a1 * b0 + a1 * b1) := by rw [ha, hb, Nat.add_mul, Nat.mul_add, Nat.mul_add]
  have hp : 1 ≤ a * b := Nat.mul_le_mul h1 h2
  rw [hab]
  rw [hab] at hp
  generalize a0 * b0 = p00 at *
  generalize a0 * b1 = p01 at *
  generalize a1 * b0 = p10 at *
  generalize a1 * b1 = p11 at *
  simp only [Nat.add_mul, Nat.mul_add, Nat.one_mul]
  omega
set_option maxHeartbeats 4000000 in
set_option maxRecDepth 100000 in
theorem zbare1_any {k : Nat} (IH : BareOk k) {N : Nat → Prop} {w : World} {zb ab bm wk mm x : Nat} {v : Value} {room full : Nat} {S0 S : St} {c : Nat} (hd : ZdAt w N zb ab bm v room full S) (hw : WkAt w wk zb mm) (hr : RemZ w mm S0 S c) (hne : mm ≠ bm) (hN : ¬ N mm)
    (f g : Int) (hbx : JBox w x wk f g) (f0 : 0 ≤ lvl S f) (g0 : 0 ≤ lvl S g) (hi : min (lvl S f) (lvl S g) + (k + 1 : Nat) = 24) (hc : c + (k + 1) * (zn S f * zn S g) ≤ 1000000) (hf1 : 1 ≤ zn S f) (hg1 : 1 ≤ zn S g) :
    Calls Try.prog 106 #[.pointer (some ⟨x, 0, none⟩), .pointer (some ⟨x + 1, 0, none⟩), .pointer (some ⟨x + 1 + 1, 0, none⟩)] w
      (MadeZ no8 (MZ bm mm) N w zb ab bm room fun w' T id er => OutZ (k + 1) room S (freeF (k + 1) (zf S (k + 1) f) (zf S (k + 1) g)) ((k + 1) * (zn S f * zn S g)) T id er ∧ RemZ w' mm S0 T (c + ((k + 1) * (zn S f * zn S g) - 1))) := by
  have HLf := fun y : After w => zlevel_any (hd.below y.2) f f0
  have HLg := fun y : After w => zlevel_any (hd.below y.2) g g0
  obtain ⟨w0, -⟩ := boxz1 hbx.a rfl
  obtain ⟨b0, -⟩ := boxz1 hbx.f rfl
  obtain ⟨c0, -⟩ := boxz1 hbx.g rfl
  obtain ⟨e0, e1, -⟩ := box2 hw rfl
  go_enter Try.func106, Try.ntmps106
  go_wp2
  refine wp_region_after (by kernel_rfl) (by kernel_rfl) ?_
  repeat (first | go_big_quiet_step (first | (go_at_call_of 69 (Value.int IntKind.i64 f); exact Calls.after_of (HLf _)) | (go_at_call_of 69 (Value.int IntKind.i64 g); exact Calls.after_of (HLg _))))
  refine wpQuiet_nil ?_
  intro y
  go_upto_region 2 with (fail)
  rw [minZ]
  obtain ⟨W1, hy⟩ := y
  dsimp only at *
  have hd1 := hd.below hy
  have hw1 := hw.below hy
  have hr1 := hr.below hy
  have hbx1 := hbx.below hy
  have i0 : 0 ≤ min (lvl S f) (lvl S g) := by omega
  have il : min (lvl S f) (lvl S g) ≤ lvl S f := by omega
  have ir : min (lvl S f) (lvl S g) ≤ lvl S g := by omega
  obtain ⟨p0, p1, p2, p3, p4, p5, p6⟩ := hv_ok hd.zst f0 hi i0 il
  obtain ⟨q0, q1, q2, q3, q4, q5, q6⟩ := hv_ok hd.zst g0 hi i0 ir
  clear w0 b0 c0 e0 e1 hd hw hr hbx HLf HLg
  generalize min (lvl S f) (lvl S g) = i at *
  have HV : ∀ W : World, Below W1.heap.size W1 W → Calls Try.prog 70 #[.pointer (some ⟨zb, 0, none⟩), .int .i64 f, .int .i64 i] W fun e w' => e = .returned (.tuple #[.int .i64 (hv S f i).1, .int .i64 (hv S f i).2]) ∧ Below W1.heap.size W1 w' ∧ Below W.heap.size W w' := fun W hb =>
    (zhalves_any (hd1.below hb) f i).mono fun e w' ⟨he, hbw⟩ => ⟨he, hb.trans (hbw.mono hb.size), hbw⟩
  obtain ⟨w0, -⟩ := boxz1 hbx1.a rfl
  obtain ⟨b0, -⟩ := boxz1 hbx1.f rfl
  obtain ⟨e0, e1, -⟩ := box2 hw1 rfl
  have hBs := Below.refl W1.heap.size W1
  go_cut [6, 7] from 23 (fun s7 s8 wc => ∃ b7 b8 : Nat, s7 = .pointer (some ⟨b7, 0, none⟩) ∧ s8 = .pointer (some ⟨b8, 0, none⟩) ∧ wc.heap[b7]? = some (.cells #[.int .i64 (hv S f i).1] 3 (0, 0)) ∧ wc.heap[b8]? = some (.cells #[.int .i64 (hv S f i).2] 3 (0, 0)) ∧ Below W1.heap.size W1 wc)
  case first =>
    clear IH hd1 hr1 p0 p1 p2 p3 p4 p5 p6 q0 q1 q2 q3 q4 q5 q6 i0 il ir hi hbx1 hw1 hy
    refine wp_region_held_drew (S := fun W_ => Below W1.heap.size W1 W_) rfl hBs.drew (fun hHeld => ?_)
    obtain ⟨X0, hX0⟩ : ∃ X0, X0 = W1.drew := ⟨_, rfl⟩
    rw [← hX0] at hHeld ⊢
    clear hX0
    refine wpAnyH_take (i := 0) (oi := _) (v := ?_) rfl (by kernel_rfl) (by kernel_rfl) (by kernel_rfl) (fun _ _ _ h => h) (Or.inl ⟨by rfl, ?_⟩) (by assumption) ?_
    rotate_left 1
    · intro w_ hSw
      have q_w0 := w0 ⟨w_, hSw⟩
      dsimp only at q_w0
      go_simp
      try with_reducible rfl
    try simp only [Act.put, List.setIfInBounds_toArray]
    refine wpAnyH_take (i := 1) (oi := _) (v := ?_) rfl (by kernel_rfl) (by kernel_rfl) (by kernel_rfl) (fun _ _ _ h => h) (Or.inl ⟨by rfl, ?_⟩) (by assumption) ?_
    rotate_left 1
    · intro w_ hSw
      go_simp
      try with_reducible rfl
    try simp only [Act.put]
    refine wpAnyH_take (i := 2) (oi := _) (v := ?_) rfl (by kernel_rfl) (by kernel_rfl) (by kernel_rfl) (fun _ _ _ h => h) (Or.inl ⟨by rfl, ?_⟩) (by assumption) ?_
    rotate_left 1
    · intro w_ hSw
      go_simp
      try with_reducible rfl
    try simp only [Act.put]
    refine wpAnyH_take (i := 3) (oi := _) (v := ?_) rfl (by kernel_rfl) (by kernel_rfl) (by kernel_rfl) (fun _ _ _ h => h) (Or.inl ⟨by rfl, ?_⟩) (by assumption) ?_
    rotate_left 1
    · intro w_ hSw
      have q_e0 := e0 ⟨w_, hSw⟩
      dsimp only at q_e0
      go_simp
      try with_reducible rfl
    try simp only [Act.put]
    refine wpAnyH_take (i := 4) (oi := _) (v := ?_) rfl (by kernel_rfl) (by kernel_rfl) (by kernel_rfl) (fun _ _ _ h => h) (Or.inl ⟨by rfl, ?_⟩) (by assumption) ?_
    rotate_left 1
    · intro w_ hSw
      have q_b0 := b0 ⟨w_, hSw⟩
      dsimp only at q_b0
      go_simp
      try with_reducible rfl
    try simp only [Act.put]
    refine wpAnyH_take (i := 5) (oi := _) (v := ?_) rfl (by kernel_rfl) (by kernel_rfl) (by kernel_rfl) (fun _ _ _ h => h) (Or.inl ⟨by rfl, ?_⟩) (by assumption) ?_
    rotate_left 1
    · intro w_ hSw
      go_simp
      try with_reducible rfl
    try simp only [Act.put]
    refine wpAnyH_ready (rs := [6, 10, 11]) (by kernel_rfl) (by simp) ?_
    refine AllReadyH.cons (o := _) rfl (fun _ hK => ?_) ?_
    · go_simp
      refine (HV X0 hHeld).mono ?_
      rintro e X1 ⟨rfl, hbr, hcr⟩
      try go_simp
      refine hK.out _ _ hbr (fun hHeld => ?_)
      clear hK
      try simp only [Act.put, List.setIfInBounds_toArray, List.set_cons_zero, List.set_cons_succ]
      refine wpAnyH_take (i := 7) (oi := _) (v := ?_) rfl (by kernel_rfl) (by kernel_rfl) (by kernel_rfl) (fun _ _ _ h => h) (Or.inl ⟨by rfl, ?_⟩) (by assumption) ?_
      rotate_left 1
      · intro w_ hSw
        go_simp
        try with_reducible rfl
      try simp only [Act.put, List.setIfInBounds_toArray]
      refine wpAnyH_take (i := 8) (oi := _) (v := ?_) rfl (by kernel_rfl) (by kernel_rfl) (by kernel_rfl) (fun _ _ _ h => h) (Or.inl ⟨by rfl, ?_⟩) (by assumption) ?_
      rotate_left 1
      · intro w_ hSw
        go_simp
        try with_reducible rfl
      try simp only [Act.put]
      refine wpAnyH_take (i := 9) (oi := _) (v := ?_) rfl (by kernel_rfl) (by kernel_rfl) (by kernel_rfl) (fun _ _ _ h => h) (Or.inl ⟨by rfl, ?_⟩) (by assumption) ?_
      rotate_left 1
      · intro w_ hSw
        go_simp
        try with_reducible rfl
      try simp only [Act.put]
      refine wpAnyH_ready (rs := [10, 11]) (by kernel_rfl) (by simp) ?_
      refine AllReadyH.cons (o := _) rfl (fun _ hK => ?_) ?_
      · go_simp
        have hal := zalloc hHeld (.cells #[.int .i64 0] 3 (0, 0))
        have n7 := heap_alloc_new X1 (.cells #[.int .i64 0] 3 (0, 0))
        have l7 := hHeld.size
        generalize X1.heap.size = b7 at *
        generalize X1.alloc (.cells #[.int .i64 0] 3 (0, 0)) = X2 at *
        refine hK.out _ _ hal (fun hHeld => ?_)
        clear hK
        try simp only [Act.put, List.setIfInBounds_toArray, List.set_cons_zero, List.set_cons_succ]
        refine wpAnyH_ready (rs := [11]) (by kernel_rfl) (by simp) ?_
        refine AllReadyH.cons (o := _) rfl (fun _ hK => ?_) AllReadyH.nil
        go_simp
        have hal := zalloc hHeld (.cells #[.int .i64 0] 3 (0, 0))
        have n8 := heap_alloc_new X2 (.cells #[.int .i64 0] 3 (0, 0))
        have l8 := hHeld.size
        have d78 := size_of_block n7
        replace n7 := keep_alloc (x := .cells #[.int .i64 0] 3 (0, 0)) n7
        generalize X2.heap.size = b8 at *
        generalize X2.alloc (.cells #[.int .i64 0] 3 (0, 0)) = X3 at *
        refine hK.out _ _ hal (fun hHeld => ?_)
        clear hK
        try simp only [Act.put, List.setIfInBounds_toArray, List.set_cons_zero, List.set_cons_succ]
        refine wpAnyH_ready (rs := [12]) (by kernel_rfl) (by simp) ?_
        refine AllReadyH.cons (o := _) rfl (fun _ hK => ?_) AllReadyH.nil
        obtain ⟨y0, yf⟩ := nowz1 n7 rfl
        go_simp
        clear y0 yf
        refine hK.out _ _ (hHeld.setCell (by omega) _) (fun hHeld => ?_)
        clear hK
        replace n7 := put1z (x := .int .i64 (hv S f i).1) n7
        replace n8 := putFar (b := b7) (x := .int .i64 (hv S f i).1) (by omega) n8
        try simp only [Act.put, List.setIfInBounds_toArray, List.set_cons_zero, List.set_cons_succ]
        refine wpAnyH_ready (rs := [13]) (by kernel_rfl) (by simp) ?_
        refine AllReadyH.cons (o := _) rfl (fun _ hK => ?_) AllReadyH.nil
        obtain ⟨y0, yf⟩ := nowz1 n8 rfl
        go_simp
        clear y0 yf
        refine hK.out _ _ (hHeld.setCell (by omega) _) (fun hHeld => ?_)
        clear hK
        replace n7 := putFar (b := b8) (x := .int .i64 (hv S f i).2) (by omega) n7
        replace n8 := put1z (x := .int .i64 (hv S f i).2) n8
        try simp only [Act.put, List.setIfInBounds_toArray, List.set_cons_zero, List.set_cons_succ]
        refine wpAnyH_done (by kernel_rfl) ?_ _
        go_wp2_with fail
        go_meet
        exact ⟨b7, b8, rfl, rfl, n7, n8, hHeld⟩
      refine AllReadyH.cons (o := _) rfl (fun _ hK => ?_) AllReadyH.nil
      go_simp
      have hal := zalloc hHeld (.cells #[.int .i64 0] 3 (0, 0))
      have n8 := heap_alloc_new X1 (.cells #[.int .i64 0] 3 (0, 0))
      have l8 := hHeld.size
      generalize X1.heap.size = b8 at *
      generalize X1.alloc (.cells #[.int .i64 0] 3 (0, 0)) = X2 at *
      refine hK.out _ _ hal (fun hHeld => ?_)
      clear hK
      try simp only [Act.put, List.setIfInBounds_toArray, List.set_cons_zero, List.set_cons_succ]
      refine wpAnyH_ready (rs := [10]) (by kernel_rfl) (by simp) ?_
      refine AllReadyH.cons (o := _) rfl (fun _ hK => ?_) AllReadyH.nil
      go_simp
      have hal := zalloc hHeld (.cells #[.int .i64 0] 3 (0, 0))
      have n7 := heap_alloc_new X2 (.cells #[.int .i64 0] 3 (0, 0))
      have l7 := hHeld.size
      have d87 := size_of_block n8
      replace n8 := keep_alloc (x := .cells #[.int .i64 0] 3 (0, 0)) n8
      generalize X2.heap.size = b7 at *
      generalize X2.alloc (.cells #[.int .i64 0] 3 (0, 0)) = X3 at *
      refine hK.out _ _ hal (fun hHeld => ?_)
      clear hK
      try simp only [Act.put, List.setIfInBounds_toArray, List.set_cons_zero, List.set_cons_succ]
      refine wpAnyH_ready (rs := [12]) (by kernel_rfl) (by simp) ?_
      refine AllReadyH.cons (o := _) rfl (fun _ hK => ?_) AllReadyH.nil
      obtain ⟨y0, yf⟩ := nowz1 n7 rfl
      go_simp
      clear y0 yf
      refine hK.out _ _ (hHeld.setCell (by omega) _) (fun hHeld => ?_)
      clear hK
      replace n8 := putFar (b := b7) (x := .int .i64 (hv S f i).1) (by omega) n8
      replace n7 := put1z (x := .int .i64 (hv S f i).1) n7
      try simp only [Act.put, List.setIfInBounds_toArray, List.set_cons_zero, List.set_cons_succ]
      refine wpAnyH_ready (rs := [13]) (by kernel_rfl) (by simp) ?_
      refine AllReadyH.cons (o := _) rfl (fun _ hK => ?_) AllReadyH.nil
      obtain ⟨y0, yf⟩ := nowz1 n8 rfl
      go_simp
      clear y0 yf
      refine hK.out _ _ (hHeld.setCell (by omega) _) (fun hHeld => ?_)
      clear hK
      replace n8 := put1z (x := .int .i64 (hv S f i).2) n8
      replace n7 := putFar (b := b8) (x := .int .i64 (hv S f i).2) (by omega) n7
      try simp only [Act.put, List.setIfInBounds_toArray, List.set_cons_zero, List.set_cons_succ]
      refine wpAnyH_done (by kernel_rfl) ?_ _
      go_wp2_with fail
      go_meet
      exact ⟨b7, b8, rfl, rfl, n7, n8, hHeld⟩
    refine AllReadyH.cons (o := _) rfl (fun _ hK => ?_) ?_
    · go_simp
      have hal := zalloc hHeld (.cells #[.int .i64 0] 3 (0, 0))
      have n7 := heap_alloc_new X0 (.cells #[.int .i64 0] 3 (0, 0))
      have l7 := hHeld.size
      generalize X0.heap.size = b7 at *
      generalize X0.alloc (.cells #[.int .i64 0] 3 (0, 0)) = X1 at *
      refine hK.out _ _ hal (fun hHeld => ?_)
      clear hK
      try simp only [Act.put, List.setIfInBounds_toArray, List.set_cons_zero, List.set_cons_succ]
      refine wpAnyH_ready (rs := [6, 11]) (by kernel_rfl) (by simp) ?_
      refine AllReadyH.cons (o := _) rfl (fun _ hK => ?_) ?_
      · go_simp
        refine (HV X1 hHeld).mono ?_
        rintro e X2 ⟨rfl, hbr, hcr⟩
        replace n7 := keep_blk hcr n7
        try go_simp
        refine hK.out _ _ hbr (fun hHeld => ?_)
        clear hK
        try simp only [Act.put, List.setIfInBounds_toArray, List.set_cons_zero, List.set_cons_succ]
        refine wpAnyH_take (i := 7) (oi := _) (v := ?_) rfl (by kernel_rfl) (by kernel_rfl) (by kernel_rfl) (fun _ _ _ h => h) (Or.inl ⟨by rfl, ?_⟩) (by assumption) ?_
        rotate_left 1
        · intro w_ hSw
          go_simp
          try with_reducible rfl
        try simp only [Act.put, List.setIfInBounds_toArray]
        refine wpAnyH_take (i := 8) (oi := _) (v := ?_) rfl (by kernel_rfl) (by kernel_rfl) (by kernel_rfl) (fun _ _ _ h => h) (Or.inl ⟨by rfl, ?_⟩) (by assumption) ?_
        rotate_left 1
        · intro w_ hSw
          go_simp
          try with_reducible rfl
        try simp only [Act.put]
        refine wpAnyH_take (i := 9) (oi := _) (v := ?_) rfl (by kernel_rfl) (by kernel_rfl) (by kernel_rfl) (fun _ _ _ h => h) (Or.inl ⟨by rfl, ?_⟩) (by assumption) ?_
        rotate_left 1
        · intro w_ hSw
          go_simp
          try with_reducible rfl
        try simp only [Act.put]
        refine wpAnyH_ready (rs := [11]) (by kernel_rfl) (by simp) ?_
        refine AllReadyH.cons (o := _) rfl (fun _ hK => ?_) AllReadyH.nil
        go_simp
        have hal := zalloc hHeld (.cells #[.int .i64 0] 3 (0, 0))
        have n8 := heap_alloc_new X2 (.cells #[.int .i64 0] 3 (0, 0))
        have l8 := hHeld.size
        have d78 := size_of_block n7
        replace n7 := keep_alloc (x := .cells #[.int .i64 0] 3 (0, 0)) n7
        generalize X2.heap.size = b8 at *
        generalize X2.alloc (.cells #[.int .i64 0] 3 (0, 0)) = X3 at *
        refine hK.out _ _ hal (fun hHeld => ?_)
        clear hK
        try simp only [Act.put, List.setIfInBounds_toArray, List.set_cons_zero, List.set_cons_succ]
        refine wpAnyH_ready (rs := [12]) (by kernel_rfl) (by simp) ?_
        refine AllReadyH.cons (o := _) rfl (fun _ hK => ?_) AllReadyH.nil
        obtain ⟨y0, yf⟩ := nowz1 n7 rfl
        go_simp
        clear y0 yf
        refine hK.out _ _ (hHeld.setCell (by omega) _) (fun hHeld => ?_)
        clear hK
        replace n7 := put1z (x := .int .i64 (hv S f i).1) n7
        replace n8 := putFar (b := b7) (x := .int .i64 (hv S f i).1) (by omega) n8
        try simp only [Act.put, List.setIfInBounds_toArray, List.set_cons_zero, List.set_cons_succ]
        refine wpAnyH_ready (rs := [13]) (by kernel_rfl) (by simp) ?_
        refine AllReadyH.cons (o := _) rfl (fun _ hK => ?_) AllReadyH.nil
        obtain ⟨y0, yf⟩ := nowz1 n8 rfl
        go_simp
        clear y0 yf
        refine hK.out _ _ (hHeld.setCell (by omega) _) (fun hHeld => ?_)
        clear hK
        replace n7 := putFar (b := b8) (x := .int .i64 (hv S f i).2) (by omega) n7
        replace n8 := put1z (x := .int .i64 (hv S f i).2) n8
        try simp only [Act.put, List.setIfInBounds_toArray, List.set_cons_zero, List.set_cons_succ]
        refine wpAnyH_done (by kernel_rfl) ?_ _
        go_wp2_with fail
        go_meet
        exact ⟨b7, b8, rfl, rfl, n7, n8, hHeld⟩
      refine AllReadyH.cons (o := _) rfl (fun _ hK => ?_) AllReadyH.nil
      go_simp
      have hal := zalloc hHeld (.cells #[.int .i64 0] 3 (0, 0))
      have n8 := heap_alloc_new X1 (.cells #[.int .i64 0] 3 (0, 0))
      have l8 := hHeld.size
      have d78 := size_of_block n7
      replace n7 := keep_alloc (x := .cells #[.int .i64 0] 3 (0, 0)) n7
      generalize X1.heap.size = b8 at *
      generalize X1.alloc (.cells #[.int .i64 0] 3 (0, 0)) = X2 at *
      refine hK.out _ _ hal (fun hHeld => ?_)
      clear hK
      try simp only [Act.put, List.setIfInBounds_toArray, List.set_cons_zero, List.set_cons_succ]
      refine wpAnyH_ready (rs := [6]) (by kernel_rfl) (by simp) ?_
      refine AllReadyH.cons (o := _) rfl (fun _ hK => ?_) AllReadyH.nil
      go_simp
      refine (HV X2 hHeld).mono ?_
      rintro e X3 ⟨rfl, hbr, hcr⟩
      replace n7 := keep_blk hcr n7
      replace n8 := keep_blk hcr n8
      try go_simp
      refine hK.out _ _ hbr (fun hHeld => ?_)
      clear hK
      try simp only [Act.put, List.setIfInBounds_toArray, List.set_cons_zero, List.set_cons_succ]
      refine wpAnyH_take (i := 7) (oi := _) (v := ?_) rfl (by kernel_rfl) (by kernel_rfl) (by kernel_rfl) (fun _ _ _ h => h) (Or.inl ⟨by rfl, ?_⟩) (by assumption) ?_
      rotate_left 1
      · intro w_ hSw
        go_simp
        try with_reducible rfl
      try simp only [Act.put, List.setIfInBounds_toArray]
      refine wpAnyH_take (i := 8) (oi := _) (v := ?_) rfl (by kernel_rfl) (by kernel_rfl) (by kernel_rfl) (fun _ _ _ h => h) (Or.inl ⟨by rfl, ?_⟩) (by assumption) ?_
      rotate_left 1
      · intro w_ hSw
        go_simp
        try with_reducible rfl
      try simp only [Act.put]
      refine wpAnyH_take (i := 9) (oi := _) (v := ?_) rfl (by kernel_rfl) (by kernel_rfl) (by kernel_rfl) (fun _ _ _ h => h) (Or.inl ⟨by rfl, ?_⟩) (by assumption) ?_
      rotate_left 1
      · intro w_ hSw
        go_simp
        try with_reducible rfl
      try simp only [Act.put]
      refine wpAnyH_ready (rs := [12]) (by kernel_rfl) (by simp) ?_
      refine AllReadyH.cons (o := _) rfl (fun _ hK => ?_) AllReadyH.nil
      obtain ⟨y0, yf⟩ := nowz1 n7 rfl
      go_simp
      clear y0 yf
      refine hK.out _ _ (hHeld.setCell (by omega) _) (fun hHeld => ?_)
      clear hK
      replace n7 := put1z (x := .int .i64 (hv S f i).1) n7
      replace n8 := putFar (b := b7) (x := .int .i64 (hv S f i).1) (by omega) n8
      try simp only [Act.put, List.setIfInBounds_toArray, List.set_cons_zero, List.set_cons_succ]
      refine wpAnyH_ready (rs := [13]) (by kernel_rfl) (by simp) ?_
      refine AllReadyH.cons (o := _) rfl (fun _ hK => ?_) AllReadyH.nil
      obtain ⟨y0, yf⟩ := nowz1 n8 rfl
      go_simp
      clear y0 yf
      refine hK.out _ _ (hHeld.setCell (by omega) _) (fun hHeld => ?_)
      clear hK
      replace n7 := putFar (b := b8) (x := .int .i64 (hv S f i).2) (by omega) n7
      replace n8 := put1z (x := .int .i64 (hv S f i).2) n8
      try simp only [Act.put, List.setIfInBounds_toArray, List.set_cons_zero, List.set_cons_succ]
      refine wpAnyH_done (by kernel_rfl) ?_ _
      go_wp2_with fail
      go_meet
      exact ⟨b7, b8, rfl, rfl, n7, n8, hHeld⟩
    refine AllReadyH.cons (o := _) rfl (fun _ hK => ?_) AllReadyH.nil
    go_simp
    have hal := zalloc hHeld (.cells #[.int .i64 0] 3 (0, 0))
    have n8 := heap_alloc_new X0 (.cells #[.int .i64 0] 3 (0, 0))
    have l8 := hHeld.size
    generalize X0.heap.size = b8 at *
    generalize X0.alloc (.cells #[.int .i64 0] 3 (0, 0)) = X1 at *
    refine hK.out _ _ hal (fun hHeld => ?_)
    clear hK
    try simp only [Act.put, List.setIfInBounds_toArray, List.set_cons_zero, List.set_cons_succ]
    refine wpAnyH_ready (rs := [6, 10]) (by kernel_rfl) (by simp) ?_
    refine AllReadyH.cons (o := _) rfl (fun _ hK => ?_) ?_
    · go_simp
      refine (HV X1 hHeld).mono ?_
      rintro e X2 ⟨rfl, hbr, hcr⟩
      replace n8 := keep_blk hcr n8
      try go_simp
      refine hK.out _ _ hbr (fun hHeld => ?_)
      clear hK
      try simp only [Act.put, List.setIfInBounds_toArray, List.set_cons_zero, List.set_cons_succ]
      refine wpAnyH_take (i := 7) (oi := _) (v := ?_) rfl (by kernel_rfl) (by kernel_rfl) (by kernel_rfl) (fun _ _ _ h => h) (Or.inl ⟨by rfl, ?_⟩) (by assumption) ?_
      rotate_left 1
      · intro w_ hSw
        go_simp
        try with_reducible rfl
      try simp only [Act.put, List.setIfInBounds_toArray]
      refine wpAnyH_take (i := 8) (oi := _) (v := ?_) rfl (by kernel_rfl) (by kernel_rfl) (by kernel_rfl) (fun _ _ _ h => h) (Or.inl ⟨by rfl, ?_⟩) (by assumption) ?_
      rotate_left 1
      · intro w_ hSw
        go_simp
        try with_reducible rfl
      try simp only [Act.put]
      refine wpAnyH_take (i := 9) (oi := _) (v := ?_) rfl (by kernel_rfl) (by kernel_rfl) (by kernel_rfl) (fun _ _ _ h => h) (Or.inl ⟨by rfl, ?_⟩) (by assumption) ?_
      rotate_left 1
      · intro w_ hSw
        go_simp
        try with_reducible rfl
      try simp only [Act.put]
      refine wpAnyH_ready (rs := [10]) (by kernel_rfl) (by simp) ?_
      refine AllReadyH.cons (o := _) rfl (fun _ hK => ?_) AllReadyH.nil
      go_simp
      have hal := zalloc hHeld (.cells #[.int .i64 0] 3 (0, 0))
      have n7 := heap_alloc_new X2 (.cells #[.int .i64 0] 3 (0, 0))
      have l7 := hHeld.size
      have d87 := size_of_block n8
      replace n8 := keep_alloc (x := .cells #[.int .i64 0] 3 (0, 0)) n8
      generalize X2.heap.size = b7 at *
      generalize X2.alloc (.cells #[.int .i64 0] 3 (0, 0)) = X3 at *
      refine hK.out _ _ hal (fun hHeld => ?_)
      clear hK
      try simp only [Act.put, List.setIfInBounds_toArray, List.set_cons_zero, List.set_cons_succ]
      refine wpAnyH_ready (rs := [12]) (by kernel_rfl) (by simp) ?_
      refine AllReadyH.cons (o := _) rfl (fun _ hK => ?_) AllReadyH.nil
      obtain ⟨y0, yf⟩ := nowz1 n7 rfl
      go_simp
      clear y0 yf
      refine hK.out _ _ (hHeld.setCell (by omega) _) (fun hHeld => ?_)
      clear hK
      replace n8 := putFar (b := b7) (x := .int .i64 (hv S f i).1) (by omega) n8
      replace n7 := put1z (x := .int .i64 (hv S f i).1) n7
      try simp only [Act.put, List.setIfInBounds_toArray, List.set_cons_zero, List.set_cons_succ]
      refine wpAnyH_ready (rs := [13]) (by kernel_rfl) (by simp) ?_
      refine AllReadyH.cons (o := _) rfl (fun _ hK => ?_) AllReadyH.nil
      obtain ⟨y0, yf⟩ := nowz1 n8 rfl
      go_simp
      clear y0 yf
      refine hK.out _ _ (hHeld.setCell (by omega) _) (fun hHeld => ?_)
      clear hK
      replace n8 := put1z (x := .int .i64 (hv S f i).2) n8
      replace n7 := putFar (b := b8) (x := .int .i64 (hv S f i).2) (by omega) n7
      try simp only [Act.put, List.setIfInBounds_toArray, List.set_cons_zero, List.set_cons_succ]
      refine wpAnyH_done (by kernel_rfl) ?_ _
      go_wp2_with fail
      go_meet
      exact ⟨b7, b8, rfl, rfl, n7, n8, hHeld⟩
    refine AllReadyH.cons (o := _) rfl (fun _ hK => ?_) AllReadyH.nil
    go_simp
    have hal := zalloc hHeld (.cells #[.int .i64 0] 3 (0, 0))
    have n7 := heap_alloc_new X1 (.cells #[.int .i64 0] 3 (0, 0))
    have l7 := hHeld.size
    have d87 := size_of_block n8
    replace n8 := keep_alloc (x := .cells #[.int .i64 0] 3 (0, 0)) n8
    generalize X1.heap.size = b7 at *
    generalize X1.alloc (.cells #[.int .i64 0] 3 (0, 0)) = X2 at *
    refine hK.out _ _ hal (fun hHeld => ?_)
    clear hK
    try simp only [Act.put, List.setIfInBounds_toArray, List.set_cons_zero, List.set_cons_succ]
    refine wpAnyH_ready (rs := [6]) (by kernel_rfl) (by simp) ?_
    refine AllReadyH.cons (o := _) rfl (fun _ hK => ?_) AllReadyH.nil
    go_simp
    refine (HV X2 hHeld).mono ?_
    rintro e X3 ⟨rfl, hbr, hcr⟩
    replace n8 := keep_blk hcr n8
    replace n7 := keep_blk hcr n7
    try go_simp
    refine hK.out _ _ hbr (fun hHeld => ?_)
    clear hK
    try simp only [Act.put, List.setIfInBounds_toArray, List.set_cons_zero, List.set_cons_succ]
    refine wpAnyH_take (i := 7) (oi := _) (v := ?_) rfl (by kernel_rfl) (by kernel_rfl) (by kernel_rfl) (fun _ _ _ h => h) (Or.inl ⟨by rfl, ?_⟩) (by assumption) ?_
    rotate_left 1
    · intro w_ hSw
      go_simp
      try with_reducible rfl
    try simp only [Act.put, List.setIfInBounds_toArray]
    refine wpAnyH_take (i := 8) (oi := _) (v := ?_) rfl (by kernel_rfl) (by kernel_rfl) (by kernel_rfl) (fun _ _ _ h => h) (Or.inl ⟨by rfl, ?_⟩) (by assumption) ?_
    rotate_left 1
    · intro w_ hSw
      go_simp
      try with_reducible rfl
    try simp only [Act.put]
    refine wpAnyH_take (i := 9) (oi := _) (v := ?_) rfl (by kernel_rfl) (by kernel_rfl) (by kernel_rfl) (fun _ _ _ h => h) (Or.inl ⟨by rfl, ?_⟩) (by assumption) ?_
    rotate_left 1
    · intro w_ hSw
      go_simp
      try with_reducible rfl
    try simp only [Act.put]
    refine wpAnyH_ready (rs := [12]) (by kernel_rfl) (by simp) ?_
    refine AllReadyH.cons (o := _) rfl (fun _ hK => ?_) AllReadyH.nil
    obtain ⟨y0, yf⟩ := nowz1 n7 rfl
    go_simp
    clear y0 yf
    refine hK.out _ _ (hHeld.setCell (by omega) _) (fun hHeld => ?_)
    clear hK
    replace n8 := putFar (b := b7) (x := .int .i64 (hv S f i).1) (by omega) n8
    replace n7 := put1z (x := .int .i64 (hv S f i).1) n7
    try simp only [Act.put, List.setIfInBounds_toArray, List.set_cons_zero, List.set_cons_succ]
    refine wpAnyH_ready (rs := [13]) (by kernel_rfl) (by simp) ?_
    refine AllReadyH.cons (o := _) rfl (fun _ hK => ?_) AllReadyH.nil
    obtain ⟨y0, yf⟩ := nowz1 n8 rfl
    go_simp
    clear y0 yf
    refine hK.out _ _ (hHeld.setCell (by omega) _) (fun hHeld => ?_)
    clear hK
    replace n8 := put1z (x := .int .i64 (hv S f i).2) n8
    replace n7 := putFar (b := b8) (x := .int .i64 (hv S f i).2) (by omega) n7
    try simp only [Act.put, List.setIfInBounds_toArray, List.set_cons_zero, List.set_cons_succ]
    refine wpAnyH_done (by kernel_rfl) ?_ _
    go_wp2_with fail
    go_meet
    exact ⟨b7, b8, rfl, rfl, n7, n8, hHeld⟩
  case rest =>
    obtain ⟨b7, b8, rfl, rfl, n7, n8, hbc⟩ := hcut
    have hd2 := hd1.below hbc
    have hw2 := hw1.below hbc
    have hr2 := hr1.below hbc
    have hbx2 := hbx1.below hbc
    have hy2 := hy.trans (hbc.mono hy.size)
    clear HV w0 b0 e0 e1 hBs hd1 hw1 hr1 hbx1 hy hbc
    rename_i wc
    obtain ⟨W1, hW1⟩ : ∃ W1, W1 = wc := ⟨_, rfl⟩
    subst hW1
    go_upto_region 3 with (fail)
    have HV : ∀ W : World, Below W1.heap.size W1 W → Calls Try.prog 70 #[.pointer (some ⟨zb, 0, none⟩), .int .i64 g, .int .i64 i] W fun e w' => e = .returned (.tuple #[.int .i64 (hv S g i).1, .int .i64 (hv S g i).2]) ∧ Below W1.heap.size W1 w' ∧ Below W.heap.size W w' := fun W hb =>
      (zhalves_any (hd2.below hb) g i).mono fun e w' ⟨he, hbw⟩ => ⟨he, hb.trans (hbw.mono hb.size), hbw⟩
    obtain ⟨w0, -⟩ := boxz1 hbx2.a rfl
    obtain ⟨c0, -⟩ := boxz1 hbx2.g rfl
    obtain ⟨e0, e1, -⟩ := box2 hw2 rfl
    have hBs := Below.refl W1.heap.size W1
    go_cut [8, 9] from 33 (fun s9 s10 wc => ∃ b9 b10 : Nat, s9 = .pointer (some ⟨b9, 0, none⟩) ∧ s10 = .pointer (some ⟨b10, 0, none⟩) ∧ wc.heap[b9]? = some (.cells #[.int .i64 (hv S g i).1] 3 (0, 0)) ∧ wc.heap[b10]? = some (.cells #[.int .i64 (hv S g i).2] 3 (0, 0)) ∧ Below W1.heap.size W1 wc)
    case first =>
      clear IH hd2 hr2 p0 p1 p2 p3 p4 p5 p6 q0 q1 q2 q3 q4 q5 q6 i0 il ir hi hbx2 hw2 hy2 n7 n8
      refine wp_region_held_drew (S := fun W_ => Below W1.heap.size W1 W_) rfl hBs.drew (fun hHeld => ?_)
      obtain ⟨X0, hX0⟩ : ∃ X0, X0 = W1.drew := ⟨_, rfl⟩
      rw [← hX0] at hHeld ⊢
      clear hX0
      refine wpAnyH_take (i := 0) (oi := _) (v := ?_) rfl (by kernel_rfl) (by kernel_rfl) (by kernel_rfl) (fun _ _ _ h => h) (Or.inl ⟨by rfl, ?_⟩) (by assumption) ?_
      rotate_left 1
      · intro w_ hSw
        have q_w0 := w0 ⟨w_, hSw⟩
        dsimp only at q_w0
        go_simp
        try with_reducible rfl
      try simp only [Act.put, List.setIfInBounds_toArray]
      refine wpAnyH_take (i := 1) (oi := _) (v := ?_) rfl (by kernel_rfl) (by kernel_rfl) (by kernel_rfl) (fun _ _ _ h => h) (Or.inl ⟨by rfl, ?_⟩) (by assumption) ?_
      rotate_left 1
      · intro w_ hSw
        go_simp
        try with_reducible rfl
      try simp only [Act.put]
      refine wpAnyH_take (i := 2) (oi := _) (v := ?_) rfl (by kernel_rfl) (by kernel_rfl) (by kernel_rfl) (fun _ _ _ h => h) (Or.inl ⟨by rfl, ?_⟩) (by assumption) ?_
      rotate_left 1
      · intro w_ hSw
        go_simp
        try with_reducible rfl
      try simp only [Act.put]
      refine wpAnyH_take (i := 3) (oi := _) (v := ?_) rfl (by kernel_rfl) (by kernel_rfl) (by kernel_rfl) (fun _ _ _ h => h) (Or.inl ⟨by rfl, ?_⟩) (by assumption) ?_
      rotate_left 1
      · intro w_ hSw
        have q_e0 := e0 ⟨w_, hSw⟩
        dsimp only at q_e0
        go_simp
        try with_reducible rfl
      try simp only [Act.put]
      refine wpAnyH_take (i := 4) (oi := _) (v := ?_) rfl (by kernel_rfl) (by kernel_rfl) (by kernel_rfl) (fun _ _ _ h => h) (Or.inl ⟨by rfl, ?_⟩) (by assumption) ?_
      rotate_left 1
      · intro w_ hSw
        have q_c0 := c0 ⟨w_, hSw⟩
        dsimp only at q_c0
        go_simp
        try with_reducible rfl
      try simp only [Act.put]
      refine wpAnyH_take (i := 5) (oi := _) (v := ?_) rfl (by kernel_rfl) (by kernel_rfl) (by kernel_rfl) (fun _ _ _ h => h) (Or.inl ⟨by rfl, ?_⟩) (by assumption) ?_
      rotate_left 1
      · intro w_ hSw
        go_simp
        try with_reducible rfl
      try simp only [Act.put]
      refine wpAnyH_ready (rs := [6, 10, 11]) (by kernel_rfl) (by simp) ?_
      refine AllReadyH.cons (o := _) rfl (fun _ hK => ?_) ?_
      · go_simp
        refine (HV X0 hHeld).mono ?_
        rintro e X1 ⟨rfl, hbr, hcr⟩
        try go_simp
        refine hK.out _ _ hbr (fun hHeld => ?_)
        clear hK
        try simp only [Act.put, List.setIfInBounds_toArray, List.set_cons_zero, List.set_cons_succ]
        refine wpAnyH_take (i := 7) (oi := _) (v := ?_) rfl (by kernel_rfl) (by kernel_rfl) (by kernel_rfl) (fun _ _ _ h => h) (Or.inl ⟨by rfl, ?_⟩) (by assumption) ?_
        rotate_left 1
        · intro w_ hSw
          go_simp
          try with_reducible rfl
        try simp only [Act.put, List.setIfInBounds_toArray]
        refine wpAnyH_take (i := 8) (oi := _) (v := ?_) rfl (by kernel_rfl) (by kernel_rfl) (by kernel_rfl) (fun _ _ _ h => h) (Or.inl ⟨by rfl, ?_⟩) (by assumption) ?_
        rotate_left 1
        · intro w_ hSw
          go_simp
          try with_reducible rfl
        try simp only [Act.put]
        refine wpAnyH_take (i := 9) (oi := _) (v := ?_) rfl (by kernel_rfl) (by kernel_rfl) (by kernel_rfl) (fun _ _ _ h => h) (Or.inl ⟨by rfl, ?_⟩) (by assumption) ?_
        rotate_left 1
        · intro w_ hSw
          go_simp
          try with_reducible rfl
        try simp only [Act.put]
        refine wpAnyH_ready (rs := [10, 11]) (by kernel_rfl) (by simp) ?_
        refine AllReadyH.cons (o := _) rfl (fun _ hK => ?_) ?_
        · go_simp
          have hal := zalloc hHeld (.cells #[.int .i64 0] 3 (0, 0))
          have n9 := heap_alloc_new X1 (.cells #[.int .i64 0] 3 (0, 0))
          have l9 := hHeld.size
          generalize X1.heap.size = b9 at *
          generalize X1.alloc (.cells #[.int .i64 0] 3 (0, 0)) = X2 at *
          refine hK.out _ _ hal (fun hHeld => ?_)
          clear hK
          try simp only [Act.put, List.setIfInBounds_toArray, List.set_cons_zero, List.set_cons_succ]
          refine wpAnyH_ready (rs := [11]) (by kernel_rfl) (by simp) ?_
          refine AllReadyH.cons (o := _) rfl (fun _ hK => ?_) AllReadyH.nil
          go_simp
          have hal := zalloc hHeld (.cells #[.int .i64 0] 3 (0, 0))
          have n10 := heap_alloc_new X2 (.cells #[.int .i64 0] 3 (0, 0))
          have l10 := hHeld.size
          have d910 := size_of_block n9
          replace n9 := keep_alloc (x := .cells #[.int .i64 0] 3 (0, 0)) n9
          generalize X2.heap.size = b10 at *
          generalize X2.alloc (.cells #[.int .i64 0] 3 (0, 0)) = X3 at *
          refine hK.out _ _ hal (fun hHeld => ?_)
          clear hK
          try simp only [Act.put, List.setIfInBounds_toArray, List.set_cons_zero, List.set_cons_succ]
          refine wpAnyH_ready (rs := [12]) (by kernel_rfl) (by simp) ?_
          refine AllReadyH.cons (o := _) rfl (fun _ hK => ?_) AllReadyH.nil
          obtain ⟨y0, yf⟩ := nowz1 n9 rfl
          go_simp
          clear y0 yf
          refine hK.out _ _ (hHeld.setCell (by omega) _) (fun hHeld => ?_)
          clear hK
          replace n9 := put1z (x := .int .i64 (hv S g i).1) n9
          replace n10 := putFar (b := b9) (x := .int .i64 (hv S g i).1) (by omega) n10
          try simp only [Act.put, List.setIfInBounds_toArray, List.set_cons_zero, List.set_cons_succ]
          refine wpAnyH_ready (rs := [13]) (by kernel_rfl) (by simp) ?_
          refine AllReadyH.cons (o := _) rfl (fun _ hK => ?_) AllReadyH.nil
          obtain ⟨y0, yf⟩ := nowz1 n10 rfl
          go_simp
          clear y0 yf
          refine hK.out _ _ (hHeld.setCell (by omega) _) (fun hHeld => ?_)
          clear hK
          replace n9 := putFar (b := b10) (x := .int .i64 (hv S g i).2) (by omega) n9
          replace n10 := put1z (x := .int .i64 (hv S g i).2) n10
          try simp only [Act.put, List.setIfInBounds_toArray, List.set_cons_zero, List.set_cons_succ]
          refine wpAnyH_done (by kernel_rfl) ?_ _
          go_wp2_with fail
          go_meet
          exact ⟨b9, b10, rfl, rfl, n9, n10, hHeld⟩
        refine AllReadyH.cons (o := _) rfl (fun _ hK => ?_) AllReadyH.nil
        go_simp
        have hal := zalloc hHeld (.cells #[.int .i64 0] 3 (0, 0))
        have n10 := heap_alloc_new X1 (.cells #[.int .i64 0] 3 (0, 0))
        have l10 := hHeld.size
        generalize X1.heap.size = b10 at *
        generalize X1.alloc (.cells #[.int .i64 0] 3 (0, 0)) = X2 at *
        refine hK.out _ _ hal (fun hHeld => ?_)
        clear hK
        try simp only [Act.put, List.setIfInBounds_toArray, List.set_cons_zero, List.set_cons_succ]
        refine wpAnyH_ready (rs := [10]) (by kernel_rfl) (by simp) ?_
        refine AllReadyH.cons (o := _) rfl (fun _ hK => ?_) AllReadyH.nil
        go_simp
        have hal := zalloc hHeld (.cells #[.int .i64 0] 3 (0, 0))
        have n9 := heap_alloc_new X2 (.cells #[.int .i64 0] 3 (0, 0))
        have l9 := hHeld.size
        have d109 := size_of_block n10
        replace n10 := keep_alloc (x := .cells #[.int .i64 0] 3 (0, 0)) n10
        generalize X2.heap.size = b9 at *
        generalize X2.alloc (.cells #[.int .i64 0] 3 (0, 0)) = X3 at *
        refine hK.out _ _ hal (fun hHeld => ?_)
        clear hK
        try simp only [Act.put, List.setIfInBounds_toArray, List.set_cons_zero, List.set_cons_succ]
        refine wpAnyH_ready (rs := [12]) (by kernel_rfl) (by simp) ?_
        refine AllReadyH.cons (o := _) rfl (fun _ hK => ?_) AllReadyH.nil
        obtain ⟨y0, yf⟩ := nowz1 n9 rfl
        go_simp
        clear y0 yf
        refine hK.out _ _ (hHeld.setCell (by omega) _) (fun hHeld => ?_)
        clear hK
        replace n10 := putFar (b := b9) (x := .int .i64 (hv S g i).1) (by omega) n10
        replace n9 := put1z (x := .int .i64 (hv S g i).1) n9
        try simp only [Act.put, List.setIfInBounds_toArray, List.set_cons_zero, List.set_cons_succ]
        refine wpAnyH_ready (rs := [13]) (by kernel_rfl) (by simp) ?_
        refine AllReadyH.cons (o := _) rfl (fun _ hK => ?_) AllReadyH.nil
        obtain ⟨y0, yf⟩ := nowz1 n10 rfl
        go_simp
        clear y0 yf
        refine hK.out _ _ (hHeld.setCell (by omega) _) (fun hHeld => ?_)
        clear hK
        replace n10 := put1z (x := .int .i64 (hv S g i).2) n10
        replace n9 := putFar (b := b10) (x := .int .i64 (hv S g i).2) (by omega) n9
        try simp only [Act.put, List.setIfInBounds_toArray, List.set_cons_zero, List.set_cons_succ]
        refine wpAnyH_done (by kernel_rfl) ?_ _
        go_wp2_with fail
        go_meet
        exact ⟨b9, b10, rfl, rfl, n9, n10, hHeld⟩
      refine AllReadyH.cons (o := _) rfl (fun _ hK => ?_) ?_
      · go_simp
        have hal := zalloc hHeld (.cells #[.int .i64 0] 3 (0, 0))
        have n9 := heap_alloc_new X0 (.cells #[.int .i64 0] 3 (0, 0))
        have l9 := hHeld.size
        generalize X0.heap.size = b9 at *
        generalize X0.alloc (.cells #[.int .i64 0] 3 (0, 0)) = X1 at *
        refine hK.out _ _ hal (fun hHeld => ?_)
        clear hK
        try simp only [Act.put, List.setIfInBounds_toArray, List.set_cons_zero, List.set_cons_succ]
        refine wpAnyH_ready (rs := [6, 11]) (by kernel_rfl) (by simp) ?_
        refine AllReadyH.cons (o := _) rfl (fun _ hK => ?_) ?_
        · go_simp
          refine (HV X1 hHeld).mono ?_
          rintro e X2 ⟨rfl, hbr, hcr⟩
          replace n9 := keep_blk hcr n9
          try go_simp
          refine hK.out _ _ hbr (fun hHeld => ?_)
          clear hK
          try simp only [Act.put, List.setIfInBounds_toArray, List.set_cons_zero, List.set_cons_succ]
          refine wpAnyH_take (i := 7) (oi := _) (v := ?_) rfl (by kernel_rfl) (by kernel_rfl) (by kernel_rfl) (fun _ _ _ h => h) (Or.inl ⟨by rfl, ?_⟩) (by assumption) ?_
          rotate_left 1
          · intro w_ hSw
            go_simp
            try with_reducible rfl
          try simp only [Act.put, List.setIfInBounds_toArray]
          refine wpAnyH_take (i := 8) (oi := _) (v := ?_) rfl (by kernel_rfl) (by kernel_rfl) (by kernel_rfl) (fun _ _ _ h => h) (Or.inl ⟨by rfl, ?_⟩) (by assumption) ?_
          rotate_left 1
          · intro w_ hSw
            go_simp
            try with_reducible rfl
          try simp only [Act.put]
          refine wpAnyH_take (i := 9) (oi := _) (v := ?_) rfl (by kernel_rfl) (by kernel_rfl) (by kernel_rfl) (fun _ _ _ h => h) (Or.inl ⟨by rfl, ?_⟩) (by assumption) ?_
          rotate_left 1
          · intro w_ hSw
            go_simp
            try with_reducible rfl
          try simp only [Act.put]
          refine wpAnyH_ready (rs := [11]) (by kernel_rfl) (by simp) ?_
          refine AllReadyH.cons (o := _) rfl (fun _ hK => ?_) AllReadyH.nil
          go_simp
          have hal := zalloc hHeld (.cells #[.int .i64 0] 3 (0, 0))
          have n10 := heap_alloc_new X2 (.cells #[.int .i64 0] 3 (0, 0))
          have l10 := hHeld.size
          have d910 := size_of_block n9
          replace n9 := keep_alloc (x := .cells #[.int .i64 0] 3 (0, 0)) n9
          generalize X2.heap.size = b10 at *
          generalize X2.alloc (.cells #[.int .i64 0] 3 (0, 0)) = X3 at *
          refine hK.out _ _ hal (fun hHeld => ?_)
          clear hK
          try simp only [Act.put, List.setIfInBounds_toArray, List.set_cons_zero, List.set_cons_succ]
          refine wpAnyH_ready (rs := [12]) (by kernel_rfl) (by simp) ?_
          refine AllReadyH.cons (o := _) rfl (fun _ hK => ?_) AllReadyH.nil
          obtain ⟨y0, yf⟩ := nowz1 n9 rfl
          go_simp
          clear y0 yf
          refine hK.out _ _ (hHeld.setCell (by omega) _) (fun hHeld => ?_)
          clear hK
          replace n9 := put1z (x := .int .i64 (hv S g i).1) n9
          replace n10 := putFar (b := b9) (x := .int .i64 (hv S g i).1) (by omega) n10
          try simp only [Act.put, List.setIfInBounds_toArray, List.set_cons_zero, List.set_cons_succ]
          refine wpAnyH_ready (rs := [13]) (by kernel_rfl) (by simp) ?_
          refine AllReadyH.cons (o := _) rfl (fun _ hK => ?_) AllReadyH.nil
          obtain ⟨y0, yf⟩ := nowz1 n10 rfl
          go_simp
          clear y0 yf
          refine hK.out _ _ (hHeld.setCell (by omega) _) (fun hHeld => ?_)
          clear hK
          replace n9 := putFar (b := b10) (x := .int .i64 (hv S g i).2) (by omega) n9
          replace n10 := put1z (x := .int .i64 (hv S g i).2) n10
          try simp only [Act.put, List.setIfInBounds_toArray, List.set_cons_zero, List.set_cons_succ]
          refine wpAnyH_done (by kernel_rfl) ?_ _
          go_wp2_with fail
          go_meet
          exact ⟨b9, b10, rfl, rfl, n9, n10, hHeld⟩
        refine AllReadyH.cons (o := _) rfl (fun _ hK => ?_) AllReadyH.nil
        go_simp
        have hal := zalloc hHeld (.cells #[.int .i64 0] 3 (0, 0))
        have n10 := heap_alloc_new X1 (.cells #[.int .i64 0] 3 (0, 0))
        have l10 := hHeld.size
        have d910 := size_of_block n9
        replace n9 := keep_alloc (x := .cells #[.int .i64 0] 3 (0, 0)) n9
        generalize X1.heap.size = b10 at *
        generalize X1.alloc (.cells #[.int .i64 0] 3 (0, 0)) = X2 at *
        refine hK.out _ _ hal (fun hHeld => ?_)
        clear hK
        try simp only [Act.put, List.setIfInBounds_toArray, List.set_cons_zero, List.set_cons_succ]
        refine wpAnyH_ready (rs := [6]) (by kernel_rfl) (by simp) ?_
        refine AllReadyH.cons (o := _) rfl (fun _ hK => ?_) AllReadyH.nil
        go_simp
        refine (HV X2 hHeld).mono ?_
        rintro e X3 ⟨rfl, hbr, hcr⟩
        replace n9 := keep_blk hcr n9
        replace n10 := keep_blk hcr n10
        try go_simp
        refine hK.out _ _ hbr (fun hHeld => ?_)
        clear hK
        try simp only [Act.put, List.setIfInBounds_toArray, List.set_cons_zero, List.set_cons_succ]
        refine wpAnyH_take (i := 7) (oi := _) (v := ?_) rfl (by kernel_rfl) (by kernel_rfl) (by kernel_rfl) (fun _ _ _ h => h) (Or.inl ⟨by rfl, ?_⟩) (by assumption) ?_
        rotate_left 1
        · intro w_ hSw
          go_simp
          try with_reducible rfl
        try simp only [Act.put, List.setIfInBounds_toArray]
        refine wpAnyH_take (i := 8) (oi := _) (v := ?_) rfl (by kernel_rfl) (by kernel_rfl) (by kernel_rfl) (fun _ _ _ h => h) (Or.inl ⟨by rfl, ?_⟩) (by assumption) ?_
        rotate_left 1
        · intro w_ hSw
          go_simp
          try with_reducible rfl
        try simp only [Act.put]
        refine wpAnyH_take (i := 9) (oi := _) (v := ?_) rfl (by kernel_rfl) (by kernel_rfl) (by kernel_rfl) (fun _ _ _ h => h) (Or.inl ⟨by rfl, ?_⟩) (by assumption) ?_
        rotate_left 1
        · intro w_ hSw
          go_simp
          try with_reducible rfl
        try simp only [Act.put]
        refine wpAnyH_ready (rs := [12]) (by kernel_rfl) (by simp) ?_
        refine AllReadyH.cons (o := _) rfl (fun _ hK => ?_) AllReadyH.nil
        obtain ⟨y0, yf⟩ := nowz1 n9 rfl
        go_simp
        clear y0 yf
        refine hK.out _ _ (hHeld.setCell (by omega) _) (fun hHeld => ?_)
        clear hK
        replace n9 := put1z (x := .int .i64 (hv S g i).1) n9
        replace n10 := putFar (b := b9) (x := .int .i64 (hv S g i).1) (by omega) n10
        try simp only [Act.put, List.setIfInBounds_toArray, List.set_cons_zero, List.set_cons_succ]
        refine wpAnyH_ready (rs := [13]) (by kernel_rfl) (by simp) ?_
        refine AllReadyH.cons (o := _) rfl (fun _ hK => ?_) AllReadyH.nil
        obtain ⟨y0, yf⟩ := nowz1 n10 rfl
        go_simp
        clear y0 yf
        refine hK.out _ _ (hHeld.setCell (by omega) _) (fun hHeld => ?_)
        clear hK
        replace n9 := putFar (b := b10) (x := .int .i64 (hv S g i).2) (by omega) n9
        replace n10 := put1z (x := .int .i64 (hv S g i).2) n10
        try simp only [Act.put, List.setIfInBounds_toArray, List.set_cons_zero, List.set_cons_succ]
        refine wpAnyH_done (by kernel_rfl) ?_ _
        go_wp2_with fail
        go_meet
        exact ⟨b9, b10, rfl, rfl, n9, n10, hHeld⟩
      refine AllReadyH.cons (o := _) rfl (fun _ hK => ?_) AllReadyH.nil
      go_simp
      have hal := zalloc hHeld (.cells #[.int .i64 0] 3 (0, 0))
      have n10 := heap_alloc_new X0 (.cells #[.int .i64 0] 3 (0, 0))
      have l10 := hHeld.size
      generalize X0.heap.size = b10 at *
      generalize X0.alloc (.cells #[.int .i64 0] 3 (0, 0)) = X1 at *
      refine hK.out _ _ hal (fun hHeld => ?_)
      clear hK
      try simp only [Act.put, List.setIfInBounds_toArray, List.set_cons_zero, List.set_cons_succ]
      refine wpAnyH_ready (rs := [6, 10]) (by kernel_rfl) (by simp) ?_
      refine AllReadyH.cons (o := _) rfl (fun _ hK => ?_) ?_
      · go_simp
        refine (HV X1 hHeld).mono ?_
        rintro e X2 ⟨rfl, hbr, hcr⟩
        replace n10 := keep_blk hcr n10
        try go_simp
        refine hK.out _ _ hbr (fun hHeld => ?_)
        clear hK
        try simp only [Act.put, List.setIfInBounds_toArray, List.set_cons_zero, List.set_cons_succ]
        refine wpAnyH_take (i := 7) (oi := _) (v := ?_) rfl (by kernel_rfl) (by kernel_rfl) (by kernel_rfl) (fun _ _ _ h => h) (Or.inl ⟨by rfl, ?_⟩) (by assumption) ?_
        rotate_left 1
        · intro w_ hSw
          go_simp
          try with_reducible rfl
        try simp only [Act.put, List.setIfInBounds_toArray]
        refine wpAnyH_take (i := 8) (oi := _) (v := ?_) rfl (by kernel_rfl) (by kernel_rfl) (by kernel_rfl) (fun _ _ _ h => h) (Or.inl ⟨by rfl, ?_⟩) (by assumption) ?_
        rotate_left 1
        · intro w_ hSw
          go_simp
          try with_reducible rfl
        try simp only [Act.put]
        refine wpAnyH_take (i := 9) (oi := _) (v := ?_) rfl (by kernel_rfl) (by kernel_rfl) (by kernel_rfl) (fun _ _ _ h => h) (Or.inl ⟨by rfl, ?_⟩) (by assumption) ?_
        rotate_left 1
        · intro w_ hSw
          go_simp
          try with_reducible rfl
        try simp only [Act.put]
        refine wpAnyH_ready (rs := [10]) (by kernel_rfl) (by simp) ?_
        refine AllReadyH.cons (o := _) rfl (fun _ hK => ?_) AllReadyH.nil
        go_simp
        have hal := zalloc hHeld (.cells #[.int .i64 0] 3 (0, 0))
        have n9 := heap_alloc_new X2 (.cells #[.int .i64 0] 3 (0, 0))
        have l9 := hHeld.size
        have d109 := size_of_block n10
        replace n10 := keep_alloc (x := .cells #[.int .i64 0] 3 (0, 0)) n10
        generalize X2.heap.size = b9 at *
        generalize X2.alloc (.cells #[.int .i64 0] 3 (0, 0)) = X3 at *
        refine hK.out _ _ hal (fun hHeld => ?_)
        clear hK
        try simp only [Act.put, List.setIfInBounds_toArray, List.set_cons_zero, List.set_cons_succ]
        refine wpAnyH_ready (rs := [12]) (by kernel_rfl) (by simp) ?_
        refine AllReadyH.cons (o := _) rfl (fun _ hK => ?_) AllReadyH.nil
        obtain ⟨y0, yf⟩ := nowz1 n9 rfl
        go_simp
        clear y0 yf
        refine hK.out _ _ (hHeld.setCell (by omega) _) (fun hHeld => ?_)
        clear hK
        replace n10 := putFar (b := b9) (x := .int .i64 (hv S g i).1) (by omega) n10
        replace n9 := put1z (x := .int .i64 (hv S g i).1) n9
        try simp only [Act.put, List.setIfInBounds_toArray, List.set_cons_zero, List.set_cons_succ]
        refine wpAnyH_ready (rs := [13]) (by kernel_rfl) (by simp) ?_
        refine AllReadyH.cons (o := _) rfl (fun _ hK => ?_) AllReadyH.nil
        obtain ⟨y0, yf⟩ := nowz1 n10 rfl
        go_simp
        clear y0 yf
        refine hK.out _ _ (hHeld.setCell (by omega) _) (fun hHeld => ?_)
        clear hK
        replace n10 := put1z (x := .int .i64 (hv S g i).2) n10
        replace n9 := putFar (b := b10) (x := .int .i64 (hv S g i).2) (by omega) n9
        try simp only [Act.put, List.setIfInBounds_toArray, List.set_cons_zero, List.set_cons_succ]
        refine wpAnyH_done (by kernel_rfl) ?_ _
        go_wp2_with fail
        go_meet
        exact ⟨b9, b10, rfl, rfl, n9, n10, hHeld⟩
      refine AllReadyH.cons (o := _) rfl (fun _ hK => ?_) AllReadyH.nil
      go_simp
      have hal := zalloc hHeld (.cells #[.int .i64 0] 3 (0, 0))
      have n9 := heap_alloc_new X1 (.cells #[.int .i64 0] 3 (0, 0))
      have l9 := hHeld.size
      have d109 := size_of_block n10
      replace n10 := keep_alloc (x := .cells #[.int .i64 0] 3 (0, 0)) n10
      generalize X1.heap.size = b9 at *
      generalize X1.alloc (.cells #[.int .i64 0] 3 (0, 0)) = X2 at *
      refine hK.out _ _ hal (fun hHeld => ?_)
      clear hK
      try simp only [Act.put, List.setIfInBounds_toArray, List.set_cons_zero, List.set_cons_succ]
      refine wpAnyH_ready (rs := [6]) (by kernel_rfl) (by simp) ?_
      refine AllReadyH.cons (o := _) rfl (fun _ hK => ?_) AllReadyH.nil
      go_simp
      refine (HV X2 hHeld).mono ?_
      rintro e X3 ⟨rfl, hbr, hcr⟩
      replace n10 := keep_blk hcr n10
      replace n9 := keep_blk hcr n9
      try go_simp
      refine hK.out _ _ hbr (fun hHeld => ?_)
      clear hK
      try simp only [Act.put, List.setIfInBounds_toArray, List.set_cons_zero, List.set_cons_succ]
      refine wpAnyH_take (i := 7) (oi := _) (v := ?_) rfl (by kernel_rfl) (by kernel_rfl) (by kernel_rfl) (fun _ _ _ h => h) (Or.inl ⟨by rfl, ?_⟩) (by assumption) ?_
      rotate_left 1
      · intro w_ hSw
        go_simp
        try with_reducible rfl
      try simp only [Act.put, List.setIfInBounds_toArray]
      refine wpAnyH_take (i := 8) (oi := _) (v := ?_) rfl (by kernel_rfl) (by kernel_rfl) (by kernel_rfl) (fun _ _ _ h => h) (Or.inl ⟨by rfl, ?_⟩) (by assumption) ?_
      rotate_left 1
      · intro w_ hSw
        go_simp
        try with_reducible rfl
      try simp only [Act.put]
      refine wpAnyH_take (i := 9) (oi := _) (v := ?_) rfl (by kernel_rfl) (by kernel_rfl) (by kernel_rfl) (fun _ _ _ h => h) (Or.inl ⟨by rfl, ?_⟩) (by assumption) ?_
      rotate_left 1
      · intro w_ hSw
        go_simp
        try with_reducible rfl
      try simp only [Act.put]
      refine wpAnyH_ready (rs := [12]) (by kernel_rfl) (by simp) ?_
      refine AllReadyH.cons (o := _) rfl (fun _ hK => ?_) AllReadyH.nil
      obtain ⟨y0, yf⟩ := nowz1 n9 rfl
      go_simp
      clear y0 yf
      refine hK.out _ _ (hHeld.setCell (by omega) _) (fun hHeld => ?_)
      clear hK
      replace n10 := putFar (b := b9) (x := .int .i64 (hv S g i).1) (by omega) n10
      replace n9 := put1z (x := .int .i64 (hv S g i).1) n9
      try simp only [Act.put, List.setIfInBounds_toArray, List.set_cons_zero, List.set_cons_succ]
      refine wpAnyH_ready (rs := [13]) (by kernel_rfl) (by simp) ?_
      refine AllReadyH.cons (o := _) rfl (fun _ hK => ?_) AllReadyH.nil
      obtain ⟨y0, yf⟩ := nowz1 n10 rfl
      go_simp
      clear y0 yf
      refine hK.out _ _ (hHeld.setCell (by omega) _) (fun hHeld => ?_)
      clear hK
      replace n10 := put1z (x := .int .i64 (hv S g i).2) n10
      replace n9 := putFar (b := b10) (x := .int .i64 (hv S g i).2) (by omega) n9
      try simp only [Act.put, List.setIfInBounds_toArray, List.set_cons_zero, List.set_cons_succ]
      refine wpAnyH_done (by kernel_rfl) ?_ _
      go_wp2_with fail
      go_meet
      exact ⟨b9, b10, rfl, rfl, n9, n10, hHeld⟩
    case rest =>
      obtain ⟨b9, b10, rfl, rfl, n9, n10, hbc⟩ := hcut
      have hd3 := hd2.below hbc
      have hw3 := hw2.below hbc
      have hr3 := hr2.below hbc
      have hbx3 := hbx2.below hbc
      have hy3 := hy2.trans (hbc.mono hy2.size)
      replace n7 := keep_blk hbc n7
      replace n8 := keep_blk hbc n8
      clear HV w0 c0 e0 e1 hBs hd2 hw2 hr2 hbx2 hy2 hbc
      have hst := bare_step (k := k) p6 q6 hf1 hg1
      have hH : HBox wc x wk b8 b10 b9 b7 (hv S f i).2 (hv S g i).2 (hv S g i).1 (hv S f i).1 := ⟨hbx3.a, n8, n10, n9, n7⟩
      have hcf2 : ∀ (args : Array Value) (w1 : World), (Sem.run Try.prog (callFunc 107 args) w1) = .ok (.enter 107 args) w1 := fun _ _ => by kernel_rfl
      have HBd := zbuild_any (C := no8) (M := MZ bm mm) (N := N) (w := wc) (zb := zb) (ab := ab) (bm := bm) (room := room) (S := S) (F := freeF (k + 1) (zf S (k + 1) f) (zf S (k + 1) g)) (F0 := freeF k (zf S k (hv S f i).1) (zf S k (hv S g i).1)) (F1 := freeF k (freeF k (zf S k (hv S f i).2) (zf S k (hv S g i).1)) (zf S k (hv S g i).2))
        (fun w' T => RemZ w' mm S0 T (c + k * (zn S (hv S f i).1 * zn S (hv S g i).1)) ∧ VSt T) (fun w' T => RemZ w' mm S0 T (c + ((k + 1) * (zn S f * zn S g) - 1)) ∧ VSt T) (fun w' T => RemZ w' mm S0 T (c + ((k + 1) * (zn S f * zn S g) - 1)) ∧ VSt T) 107 #[.pointer (some ⟨x, 0, none⟩), .pointer (some ⟨b7, 0, none⟩), .pointer (some ⟨b9, 0, none⟩), .pointer (some ⟨b8, 0, none⟩), .pointer (some ⟨b10, 0, none⟩)] hcf2
        (.inl rfl) i k (k * (zn S (hv S f i).1 * zn S (hv S g i).1)) (k * (zn S (hv S f i).2 * zn S (hv S g i).1) + k * (zn S (hv S f i).2 * zn S (hv S g i).2)) hi i0
        (by rw [freeF_0, p4, q4]) (by rw [freeF_1, p5, q4, q5])
        ((zbare110_any hH (IH hd3 hw3 hr3 hne hN (hv S f i).1 (hv S g i).1 p0 q0 p2 q2 (by omega) (by omega))).mono fun e w' hm => hm.mono fun T id er ho => ⟨ho.1, ho.2, ho.1.zst.vst⟩)
        (fun w1 v1 full1 T a hd4 hk4 hO4 hr4 => by
          have hx := hO4.ext
          have hV := hd3.zst.vst
          have e2 := hx.lvl p1
          have e3 := hx.lvl q0
          have e4 := hx.lvl q1
          have z2 := hx.zn hV p1
          have z3 := hx.zn hV q0
          have z4 := hx.zn hV q1
          have y2 := hx.zf hV k _ (by omega) p1 p3
          have y3 := hx.zf hV k _ (by omega) q0 q2
          have y4 := hx.zf hV k _ (by omega) q1 q3
          have HI := zbare111_any IH hd4 (hw3.kz hk4 (fun h => h)) hr4.1 hne hN (hH.kz hk4) (by omega) (by omega) (by omega) (by omega) (by omega) (by omega) (by omega) (by rw [z2, z3, z4]; omega)
          rw [z2, z3, z4, y2, y3, y4] at HI
          exact HI.mono fun e w' hm => hm.mono fun U id er ho => ⟨ho.1, ho.2.more (by omega), ho.1.zst.vst⟩)
        (fun w' T hh => ⟨hh.1.more (by omega), hh.2⟩) (fun _ _ hh => hh)
        (fun w1 w2 U V hh hk hV hV' hx => ⟨(hh.1.kz hk (fun e => hne e)).ext hV hx, hV'⟩)
      have hK3 : Kz no8 (MZ bm mm) N w wc := Kz.of_below hy3
      obtain ⟨w0, -⟩ := nowz1 hbx3.a rfl
      obtain ⟨e0, e1, -⟩ := now2 hw3 rfl
      clear IH hcf2 hd3 hr3 p0 p1 p2 p3 p4 p5 p6 q0 q1 q2 q3 q4 q5 q6 n7 n8 n9 n10 hbx3 hw3 hy3 hH
      go_wp2_with fail
      refine HBd.mono ?_
      rintro e w2 ⟨v2, full2, T, id, er, rfl, hd8, hk8, hO8, hr8⟩
      clear HBd
      go_wp2
      go_ret2
      exact ⟨v2, full2, T, id, er, rfl, hd8, hK3.trans hk8, hO8.more (by omega), hr8.1⟩
theorem freeF_self (k : Nat) {F : Nat → Bool} (hF : ∀ n, F n = true → n < 2 ^ k) : freeF k F F = fun _ => false := by
  funext n
  rw [Bool.eq_false_iff]
  intro h
  obtain ⟨h1, h2⟩ := freeF_iff.1 h
  exact h2 n (hF n h1) h1 (Nat.or_self n)
theorem freeF_unit (k : Nat) (F : Nat → Bool) : freeF k F (fun n => decide (n = 0)) = fun _ => false := by
  funext n
  rw [Bool.eq_false_iff]
  intro h
  obtain ⟨h1, h2⟩ := freeF_iff.1 h
  exact h2 0 (Nat.two_pow_pos k) rfl (Nat.zero_or n)
theorem freeF_none (k : Nat) (F : Nat → Bool) : freeF k F (fun _ => false) = F := by
  funext n
  rw [Bool.eq_iff_iff, freeF_iff]
  exact ⟨fun h => h.1, fun h => ⟨h, fun m _ hm => by cases hm⟩⟩
set_option maxHeartbeats 4000000 in
set_option maxRecDepth 100000 in
theorem zbare_any (k : Nat) : BareOk k := by
  induction k using Nat.strongRecOn with
  | _ k IH =>
    intro N w zb ab bm wk mm v room full S0 S c hd hw hr hne hN f g f0 g0 fk gk hk hc
    have hB3 := below_alloc3 w (.cells #[.pointer (some ⟨wk, 0, none⟩)] 59 (0, 0)) (.cells #[.int .i64 f] 3 (0, 0)) (.cells #[.int .i64 g] 3 (0, 0))
    have hbx := JBox.new w wk f g
    have h24 : lvl S 0 = 24 := lvl_end (.inl rfl)
    have hz0 : zf S k 0 = fun _ => false := funext fun n => zf_zero S k n hk
    have hz1 : zf S k 1 = fun n => decide (n = 0) := funext fun n => zf_one S k n hk
    have hd3 := hd.below hB3
    have hw3 := hw.below hB3
    have hr3 := hr.below hB3
    have hdone : ∀ r : Int, 0 ≤ lvl S r → 24 ≤ lvl S r + k → zf S k r = freeF k (zf S k f) (zf S k g) → Hid (OutZ k room S (freeF k (zf S k f) (zf S k g)) (k * (zn S f * zn S g)) S r 0 ∧ RemZ _ mm S0 S (c + k * (zn S f * zn S g))) := fun r r0 rk hh =>
      Lib.hid ⟨OutZ.stay hd.zst r0 rk hh _, hr3.more (Nat.le_add_right _ _)⟩
    by_cases n0 : f = 0
    · have hD := hdone 0 (by omega) (by omega) (by rw [n0, hz0, freeF_nil])
      subst n0
      clear hdone hz0 hz1 IH hc hd hw hr hbx hw3 hr3
      go_enter Try.func86, Try.ntmps86
      go_wp2_with fail
      go_ret2
      exact ⟨v, full, S, 0, 0, rfl, hd3, Kz.of_below hB3, hD.out⟩
    have b0 : (f == 0) = false := by simpa using n0
    by_cases n1 : f = g
    · have hD := hdone 0 (by omega) (by omega) (by rw [← n1, hz0, freeF_self k (fun n h => zf_lt k f n h)])
      subst n1
      clear hdone hz0 hz1 IH hc hd hw hr hbx hw3 hr3 n0
      go_enter Try.func86, Try.ntmps86
      go_wp2_with fail
      go_ret2
      exact ⟨v, full, S, 0, 0, rfl, hd3, Kz.of_below hB3, hD.out⟩
    have b1 : (f == g) = false := by simpa using n1
    by_cases n2 : g = 1
    · have hD := hdone 0 (by omega) (by omega) (by rw [n2, hz0, hz1, freeF_unit])
      subst n2
      clear hdone hz0 hz1 IH hc hd hw hr hbx hw3 hr3 n0 n1
      go_enter Try.func86, Try.ntmps86
      go_wp2_with fail
      go_ret2
      exact ⟨v, full, S, 0, 0, rfl, hd3, Kz.of_below hB3, hD.out⟩
    have b2 : (g == 1) = false := by simpa using n2
    by_cases n3 : g = 0
    · have hD := hdone f f0 fk (by rw [n3, hz0, freeF_none])
      subst n3
      clear hdone hz0 hz1 IH hc hd hw hr hbx hw3 hr3 n0 n1 n2 b2
      go_enter Try.func86, Try.ntmps86
      go_wp2_with fail
      go_ret2
      exact ⟨v, full, S, f, 0, rfl, hd3, Kz.of_below hB3, hD.out⟩
    have b3 : (g == 0) = false := by simpa using n3
    have hlt : min (lvl S f) (lvl S g) < 24 := by
      rcases Int.lt_or_le (lvl S g) 24 with h | h
      · omega
      · have e1 := end_of_lvl hd.zst.vst h
        omega
    obtain ⟨j, hj⟩ : ∃ j : Nat, min (lvl S f) (lvl S g) + (j + 1 : Nat) = 24 := ⟨(23 - min (lvl S f) (lvl S g)).toNat, by omega⟩
    have hjk : j + 1 ≤ k := by omega
    have z1 := zn_pos hd.zst f0 n0
    have z2 := zn_pos hd.zst g0 n3
    have hjm : (j + 1) * (zn S f * zn S g) ≤ k * (zn S f * zn S g) := Nat.mul_le_mul_right _ hjk
    have hpos : 1 ≤ (j + 1) * (zn S f * zn S g) := by
      have h1 : 1 ≤ zn S f * zn S g := Nat.mul_le_mul z1 z2
      have h2 : 1 ≤ j + 1 := by omega
      exact Nat.mul_le_mul h2 h1
    have hA : ArgE S0 S 6 f g := ⟨fun _ => f0, fun _ _ _ => g0, fun h => by omega⟩
    have hbase : baseE S0 S 6 f g = min (lvl S f) (lvl S g) := by unfold baseE; rw [if_neg (by omega), if_pos (by omega)]
    have hcf2 : ∀ (args : Array Value) (w1 : World), (Sem.run Try.prog (callFunc 106 args) w1) = .ok (.enter 106 args) w1 := fun _ _ => by kernel_rfl
    clear hdone
    go_enter Try.func86, Try.ntmps86
    go_upto_region 5 with (fail)
    generalize ((w.alloc (.cells #[.pointer (some ⟨wk, 0, none⟩)] 59 (0, 0))).alloc (.cells #[.int .i64 f] 3 (0, 0))).alloc (.cells #[.int .i64 g] 3 (0, 0)) = W at *
    have HR := zrecall_any (F := freeF (j + 1) (zf S (j + 1) f) (zf S (j + 1) g)) hd3 hw3 hr3 hne (.inr rfl) hN 6 6 f g rfl ⟨wf_name 6 (by omega), wf_idz hd.max f0, wf_idz hd.max g0⟩ 106 #[.pointer (some ⟨w.heap.size, 0, none⟩), .pointer (some ⟨w.heap.size + 1, 0, none⟩), .pointer (some ⟨w.heap.size + 1 + 1, 0, none⟩)] hcf2
      (j + 1) ((j + 1) * (zn S f * zn S g)) ((j + 1) * (zn S f * zn S g) - 1)
      (fun r he => by rw [← famE6 S0 S]; exact he.out hd.zst (by omega) (by rw [hbase]; omega) room _)
      (fun y => zbare1_any (IH j (by omega)) (hd3.below y.2) (hw3.below y.2) (hr3.below y.2) hne hN f g (hbx.below y.2) f0 g0 hj (by omega) z1 z2)
      (fun T id ho => OutZ.remember hd.zst.vst hA (by rw [hbase]; omega) (by rw [famE6]; exact ho)) (by omega)
    obtain ⟨w0, -⟩ := nowz1 hbx.a rfl
    obtain ⟨f1, -⟩ := nowz1 hbx.f rfl
    obtain ⟨g1, -⟩ := nowz1 hbx.g rfl
    have hK4 : Kz no8 (MZ bm mm) N w W := Kz.of_below hB3
    have hraise : ∀ T id er, OutZ (j + 1) room S (freeF (j + 1) (zf S (j + 1) f) (zf S (j + 1) g)) ((j + 1) * (zn S f * zn S g)) T id er → Hid (OutZ k room S (freeF k (zf S k f) (zf S k g)) (k * (zn S f * zn S g)) T id er) := fun T id er ho => Lib.hid (by
      obtain ⟨d, rfl⟩ : ∃ d, k = (j + 1) + d := ⟨k - (j + 1), by omega⟩
      rw [← famE6 S0 S] at ho ⊢
      exact (OutZ.raise hA (by rw [hbase]; omega) d ho).more hjm)
    clear hA hbase hbx hd3 hw3 hr3 hcf2 IH hd hw hr hlt hj z1 z2 hB3 hz0 hz1 n0 n1 n2 n3
    go_wp2_with fail
    refine HR.mono ?_
    rintro e w2 ⟨v2, full2, T, id, er, rfl, hd8, hk8, hO8, hr8⟩
    have hO := hraise _ _ _ hO8
    clear HR hraise hO8
    go_wp2
    go_ret2
    exact ⟨v2, full2, T, id, er, rfl, hd8, hK4.trans hk8, hO.out, hr8.more (by omega)⟩
end Go.Proofs.Ytkkdfpmjmommcaa
