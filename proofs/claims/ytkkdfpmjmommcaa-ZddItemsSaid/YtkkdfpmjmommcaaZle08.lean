/- The members that hold no other one: least. -/
import Derived.Test.YtkkdfpmjmommcaaZba08
namespace Go.Proofs.Ytkkdfpmjmommcaa
open Go.RowKit Go.Joins

def bL (k a : Nat) : Nat := k * (a + a * a)
def LeastOk (k : Nat) : Prop := ∀ {N : Nat → Prop} {w : World} {zb ab bm wk mm : Nat} {v : Value} {room full : Nat} {S0 S : St} {c : Nat}, ZdAt w N zb ab bm v room full S → WkAt w wk zb mm → RemZ w mm S0 S c → mm ≠ bm → ¬ N mm →
  ∀ f : Int, 0 ≤ lvl S f → 24 ≤ lvl S f + k → k ≤ 24 → c + bL k (zn S f) ≤ 1000000 →
  Calls Try.prog 60 #[.pointer (some ⟨wk, 0, none⟩), .int .i64 f] w
    (MadeZ no8 (MZ bm mm) N w zb ab bm room fun w' T id er => OutZ k room S (leastF k (zf S k f)) (bL k (zn S f)) T id er ∧ RemZ w' mm S0 T (c + bL k (zn S f)))
theorem leastF_sub {k : Nat} {F : Nat → Bool} (n : Nat) (h : leastF k F n = true) : F n = true := (leastF_iff.1 h).1
/-- To hold none of the least is to hold none. -/
theorem free_least {k : Nat} {X G : Nat → Bool} : freeF k X (leastF k G) = freeF k X G := by
  funext n
  rw [Bool.eq_iff_iff, freeF_iff, freeF_iff]
  constructor
  · rintro ⟨h1, h2⟩
    refine ⟨h1, fun m hm hg e => ?_⟩
    obtain ⟨p, hp, hl, ep⟩ := least_held m m (Nat.le_refl _) hm hg
    exact h2 p hp hl (by rw [← e, ← Nat.or_assoc, ep])
  · rintro ⟨h1, h2⟩
    exact ⟨h1, fun m hm hg e => h2 m hm (leastF_sub m hg) e⟩
theorem least_half {k : Nat} {F F0 F1 : Nat → Bool} (h0 : half0 F = F0) (h1 : half1 F = F1) : half0 (leastF (k + 1) F) = leastF k F0 ∧ half1 (leastF (k + 1) F) = freeF k (leastF k F1) (leastF k F0) := by
  rw [leastF_0, leastF_1, h0, h1, free_least]
  exact ⟨rfl, rfl⟩
theorem bL_step {k a a0 a1 : Nat} (ha : a = a0 + a1) (h1 : 1 ≤ a) : bL k a0 + (bL k a1 + k * (a1 * a0)) + 1 ≤ bL (k + 1) a := by
  unfold bL
  have haa : a * a = a0 * a0 + a0 * a1 + (a1 * a0 + a1 * a1) := by rw [ha, Nat.add_mul, Nat.mul_add, Nat.mul_add]
  rw [haa, ha]
  rw [ha] at h1
  generalize a0 * a0 = p00 at *
  generalize a0 * a1 = p01 at *
  generalize a1 * a0 = p10 at *
  generalize a1 * a1 = p11 at *
  simp only [Nat.add_mul, Nat.mul_add, Nat.one_mul]
  omega
theorem bL_mono {k k' a : Nat} (h : k ≤ k') : bL k a ≤ bL k' a := Nat.mul_le_mul_right _ h
theorem bL_pos {k a : Nat} (h : 1 ≤ a) : 1 ≤ bL (k + 1) a := by
  unfold bL
  have h1 : 1 ≤ a + a * a := by omega
  exact Nat.mul_le_mul (Nat.succ_le_succ (Nat.zero_le k)) h1
/-- The low half is known. -/
theorem zleast110_any {C M N : Nat → Prop} {w : World} {zb ab bm room pl pw p1 : Nat} {low : Int} {P : World → St → Int → Int → Prop} (hl : w.heap[pl]? = some (.cells #[.int .i64 low] 3 (0, 0)))
    (H : MadeZ C M N w zb ab bm room P (.returned (.tuple #[.int .i64 low, .int .i64 0])) w) :
    Calls Try.prog 85 (#[.bool false] ++ #[.pointer (some ⟨pl, 0, none⟩), .pointer (some ⟨pw, 0, none⟩), .pointer (some ⟨p1, 0, none⟩)]) w (MadeZ C M N w zb ab bm room P) := by
  obtain ⟨l0, -⟩ := nowz1 hl rfl
  have hH := Lib.hid H
  clear hl H
  show Calls Try.prog _ #[.bool false, .pointer (some ⟨pl, 0, none⟩), .pointer (some ⟨pw, 0, none⟩), .pointer (some ⟨p1, 0, none⟩)] w _
  go_enter Try.func85, Try.ntmps85
  go_wp2_with fail
  go_ret2
  exact hH.out
set_option maxHeartbeats 1000000 in
theorem zleast111_any {k : Nat} (IH : LeastOk k) {N : Nat → Prop} {w : World} {zb ab bm wk mm pl pw p1 : Nat} {v : Value} {room full : Nat} {S0 S : St} {c b : Nat} {low f1 : Int} (hd : ZdAt w N zb ab bm v room full S) (hw : WkAt w wk zb mm) (hr : RemZ w mm S0 S c) (hne : mm ≠ bm) (hN : ¬ N mm)
    (hl : w.heap[pl]? = some (.cells #[.int .i64 low] 3 (0, 0))) (hp : w.heap[pw]? = some (.cells #[.pointer (some ⟨wk, 0, none⟩)] 59 (0, 0))) (h1 : w.heap[p1]? = some (.cells #[.int .i64 f1] 3 (0, 0)))
    (hk : k ≤ 24) (u1 : 0 ≤ lvl S f1) (u2 : 0 ≤ lvl S low) (l1 : 24 ≤ lvl S f1 + k) (l2 : 24 ≤ lvl S low + k) (hb : zn S low ≤ b) (hc : c + (bL k (zn S f1) + k * (zn S f1 * b)) ≤ 1000000) :
    Calls Try.prog 85 (#[.bool true] ++ #[.pointer (some ⟨pl, 0, none⟩), .pointer (some ⟨pw, 0, none⟩), .pointer (some ⟨p1, 0, none⟩)]) w
      (MadeZ no8 (MZ bm mm) N w zb ab bm room fun w' T id er => OutZ k room S (freeF k (leastF k (zf S k f1)) (zf S k low)) (bL k (zn S f1) + k * (zn S f1 * b)) T id er ∧ RemZ w' mm S0 T (c + (bL k (zn S f1) + k * (zn S f1 * b)))) := by
  have H1 := IH hd hw hr hne hN f1 u1 l1 hk (by omega)
  obtain ⟨r0, -⟩ := nowz1 hp rfl
  obtain ⟨a0, -⟩ := nowz1 h1 rfl
  have hV := hd.zst.vst
  clear hd hr
  show Calls Try.prog _ #[.bool true, .pointer (some ⟨pl, 0, none⟩), .pointer (some ⟨pw, 0, none⟩), .pointer (some ⟨p1, 0, none⟩)] w _
  go_enter Try.func85, Try.ntmps85
  go_wp2_with fail
  refine H1.mono ?_
  rintro e w2 ⟨v2, full2, T, id, er, rfl, hd2, hk2, hO2, hr2⟩
  clear H1 r0 a0
  rcases hO2.kind with rfl | ⟨rfl, rfl⟩
  · obtain ⟨i0, i1, i2⟩ := hO2.ok
    have hx := hO2.ext
    have e3 := hx.lvl u2
    have z3 := hx.zn hV u2
    have y3 := hx.zf hV k _ hk u2 l2
    have hle := zn_le_cF hk l1 i1 i2 leastF_sub
    have hmul : k * (zn T id * zn T low) ≤ k * (zn S f1 * b) := by rw [z3]; exact Nat.mul_le_mul_left _ (Nat.mul_le_mul hle hb)
    have H2 := zbare_any k hd2 (hw.kz hk2 (fun h => h)) hr2 hne hN id low i0 (by omega) i1 (by omega) hk (by omega)
    rw [i2, y3] at H2
    have hl2 := hk2.cells _ _ _ _ hl (by decide) (by decide) (fun h => h)
    have hp2 := hk2.cells _ _ _ _ hp (by decide) (by decide) (fun h => h)
    obtain ⟨r0, -⟩ := nowz1 hp2 rfl
    obtain ⟨b1, -⟩ := nowz1 hl2 rfl
    have hOS := Lib.hid hO2
    clear hO2 hl hp h1 hl2 hp2 hx e3 z3 y3 hle i0 i1 i2 hd2 hr2 hw IH
    go_wp2_with fail
    refine H2.mono ?_
    rintro e w3 ⟨v3, full3, U, id3, er3, rfl, hd3, hk3, hO3, hr3⟩
    have hO4 := Lib.hid ((hOS.out.then hO3).more (B' := bL k (zn S f1) + k * (zn S f1 * b)) (by omega))
    have hr4 := hr3.more (C' := c + (bL k (zn S f1) + k * (zn S f1 * b))) (by omega)
    clear H2 hO3 hr3 r0 b1
    go_wp2
    go_ret2
    exact ⟨v3, full3, U, id3, er3, rfl, hd3, hk2.trans hk3, hO4.out, hr4⟩
  · have hO4 := Lib.hid (hO2.fail0 (D' := k) (G := freeF k (leastF k (zf S k f1)) (zf S k low)) (B' := bL k (zn S f1) + k * (zn S f1 * b)) (by decide) (by omega))
    have hr4 := hr2.more (C' := c + (bL k (zn S f1) + k * (zn S f1 * b))) (by omega)
    clear hO2 hr2 IH
    go_wp2
    go_ret2
    exact ⟨v2, full2, T, 0, 5, rfl, hd2, hk2, hO4.out, hr4⟩
structure LBox (w : World) (x wk : Nat) (f : Int) : Prop where
  a : w.heap[x]? = some (.cells #[.pointer (some ⟨wk, 0, none⟩)] 59 (0, 0))
  f : w.heap[x + 1]? = some (.cells #[.int .i64 f] 3 (0, 0))
theorem LBox.below {w w' : World} {x wk : Nat} {f : Int} (k : LBox w x wk f) (h : Below w.heap.size w w') : LBox w' x wk f := ⟨keep_blk h k.a, keep_blk h k.f⟩
set_option maxHeartbeats 4000000 in
set_option maxRecDepth 100000 in
theorem zleast1_any {k : Nat} (IH : LeastOk k) {N : Nat → Prop} {w : World} {zb ab bm wk mm x : Nat} {v : Value} {room full : Nat} {S0 S : St} {c : Nat} (hd : ZdAt w N zb ab bm v room full S) (hw : WkAt w wk zb mm) (hr : RemZ w mm S0 S c) (hne : mm ≠ bm) (hN : ¬ N mm)
    (f : Int) (hbx : LBox w x wk f) (f0 : 0 ≤ lvl S f) (hi : lvl S f + (k + 1 : Nat) = 24) (hc : c + bL (k + 1) (zn S f) ≤ 1000000) (hf1 : 1 ≤ zn S f) :
    Calls Try.prog 84 #[.pointer (some ⟨x, 0, none⟩), .pointer (some ⟨x + 1, 0, none⟩)] w
      (MadeZ no8 (MZ bm mm) N w zb ab bm room fun w' T id er => OutZ (k + 1) room S (leastF (k + 1) (zf S (k + 1) f)) (bL (k + 1) (zn S f)) T id er ∧ RemZ w' mm S0 T (c + (bL (k + 1) (zn S f) - 1))) := by
  have HLf := fun y : After w => zlevel_any (hd.below y.2) f f0
  obtain ⟨w0, -⟩ := boxz1 hbx.a rfl
  obtain ⟨b0, -⟩ := boxz1 hbx.f rfl
  obtain ⟨e0, e1, -⟩ := box2 hw rfl
  go_enter Try.func84, Try.ntmps84
  go_wp2
  refine wp_region_after (by kernel_rfl) (by kernel_rfl) ?_
  repeat (first | go_big_quiet_step ((go_at_call_of 69 (Value.int IntKind.i64 f); exact Calls.after_of (HLf _))))
  refine wpQuiet_nil ?_
  intro y
  go_upto_region 2 with (fail)
  obtain ⟨W1, hy⟩ := y
  dsimp only at *
  have hd1 := hd.below hy
  have hw1 := hw.below hy
  have hr1 := hr.below hy
  have hbx1 := hbx.below hy
  obtain ⟨p0, p1, p2, p3, p4, p5, p6⟩ := hv_ok hd.zst f0 hi f0 (Int.le_refl _)
  clear w0 b0 e0 e1 hd hw hr hbx HLf
  generalize lvl S f = i at *
  have HV : ∀ W : World, Below W1.heap.size W1 W → Calls Try.prog 70 #[.pointer (some ⟨zb, 0, none⟩), .int .i64 f, .int .i64 i] W fun e w' => e = .returned (.tuple #[.int .i64 (hv S f i).1, .int .i64 (hv S f i).2]) ∧ Below W1.heap.size W1 w' ∧ Below W.heap.size W w' := fun W hb =>
    (zhalves_any (hd1.below hb) f i).mono fun e w' ⟨he, hbw⟩ => ⟨he, hb.trans (hbw.mono hb.size), hbw⟩
  obtain ⟨w0, -⟩ := boxz1 hbx1.a rfl
  obtain ⟨b0, -⟩ := boxz1 hbx1.f rfl
  obtain ⟨e0, e1, -⟩ := box2 hw1 rfl
  have hBs := Below.refl W1.heap.size W1
  go_cut [5, 6] from 15 (fun s5 s6 wc => ∃ b6 : Nat, s5 = .int .i64 (hv S f i).1 ∧ s6 = .pointer (some ⟨b6, 0, none⟩) ∧ wc.heap[b6]? = some (.cells #[.int .i64 (hv S f i).2] 3 (0, 0)) ∧ Below W1.heap.size W1 wc)
  case first =>
    clear IH hd1 hr1 p0 p1 p2 p3 p4 p5 p6 hi hbx1 hw1 hy
    refine wp_region_held_drew (S := fun W_ => Below W1.heap.size W1 W_) rfl hBs.drew (fun hHeld => ?_)
    obtain ⟨X0, hX0⟩ : ∃ X0, X0 = W1.drew := ⟨_, rfl⟩
    rw [← hX0] at hHeld ⊢
    clear hX0
    refine wpAnyH_take (i := 0) (oi := _) (v := ?_) rfl (by kernel_rfl) (by kernel_rfl) (by kernel_rfl) (fun _ _ _ h => h) (Or.inl ⟨by rfl, ?_⟩) (by assumption) ?_
    rotate_left 1
    · intro w_ hSw
      have q_w0 := w0 ⟨w_, hSw⟩
      dsimp only at q_w0
      go_simp
      try with_reducible rfl
    try simp only [Act.put, List.setIfInBounds_toArray]
    refine wpAnyH_take (i := 1) (oi := _) (v := ?_) rfl (by kernel_rfl) (by kernel_rfl) (by kernel_rfl) (fun _ _ _ h => h) (Or.inl ⟨by rfl, ?_⟩) (by assumption) ?_
    rotate_left 1
    · intro w_ hSw
      go_simp
      try with_reducible rfl
    try simp only [Act.put]
    refine wpAnyH_take (i := 2) (oi := _) (v := ?_) rfl (by kernel_rfl) (by kernel_rfl) (by kernel_rfl) (fun _ _ _ h => h) (Or.inl ⟨by rfl, ?_⟩) (by assumption) ?_
    rotate_left 1
    · intro w_ hSw
      go_simp
      try with_reducible rfl
    try simp only [Act.put]
    refine wpAnyH_take (i := 3) (oi := _) (v := ?_) rfl (by kernel_rfl) (by kernel_rfl) (by kernel_rfl) (fun _ _ _ h => h) (Or.inl ⟨by rfl, ?_⟩) (by assumption) ?_
    rotate_left 1
    · intro w_ hSw
      have q_e0 := e0 ⟨w_, hSw⟩
      dsimp only at q_e0
      go_simp
      try with_reducible rfl
    try simp only [Act.put]
    refine wpAnyH_take (i := 4) (oi := _) (v := ?_) rfl (by kernel_rfl) (by kernel_rfl) (by kernel_rfl) (fun _ _ _ h => h) (Or.inl ⟨by rfl, ?_⟩) (by assumption) ?_
    rotate_left 1
    · intro w_ hSw
      have q_b0 := b0 ⟨w_, hSw⟩
      dsimp only at q_b0
      go_simp
      try with_reducible rfl
    try simp only [Act.put]
    refine wpAnyH_take (i := 5) (oi := _) (v := ?_) rfl (by kernel_rfl) (by kernel_rfl) (by kernel_rfl) (fun _ _ _ h => h) (Or.inl ⟨by rfl, ?_⟩) (by assumption) ?_
    rotate_left 1
    · intro w_ hSw
      go_simp
      try with_reducible rfl
    try simp only [Act.put]
    refine wpAnyH_ready (rs := [6, 10]) (by kernel_rfl) (by simp) ?_
    refine AllReadyH.cons (o := _) rfl (fun _ hK => ?_) ?_
    · go_simp
      refine (HV X0 hHeld).mono ?_
      rintro e X1 ⟨rfl, hbr, hcr⟩
      try go_simp
      refine hK.out _ _ hbr (fun hHeld => ?_)
      clear hK
      try simp only [Act.put, List.setIfInBounds_toArray, List.set_cons_zero, List.set_cons_succ]
      refine wpAnyH_take (i := 7) (oi := _) (v := ?_) rfl (by kernel_rfl) (by kernel_rfl) (by kernel_rfl) (fun _ _ _ h => h) (Or.inl ⟨by rfl, ?_⟩) (by assumption) ?_
      rotate_left 1
      · intro w_ hSw
        go_simp
        try with_reducible rfl
      try simp only [Act.put, List.setIfInBounds_toArray]
      refine wpAnyH_take (i := 8) (oi := _) (v := ?_) rfl (by kernel_rfl) (by kernel_rfl) (by kernel_rfl) (fun _ _ _ h => h) (Or.inl ⟨by rfl, ?_⟩) (by assumption) ?_
      rotate_left 1
      · intro w_ hSw
        go_simp
        try with_reducible rfl
      try simp only [Act.put]
      refine wpAnyH_take (i := 9) (oi := _) (v := ?_) rfl (by kernel_rfl) (by kernel_rfl) (by kernel_rfl) (fun _ _ _ h => h) (Or.inl ⟨by rfl, ?_⟩) (by assumption) ?_
      rotate_left 1
      · intro w_ hSw
        go_simp
        try with_reducible rfl
      try simp only [Act.put]
      refine wpAnyH_ready (rs := [10]) (by kernel_rfl) (by simp) ?_
      refine AllReadyH.cons (o := _) rfl (fun _ hK => ?_) AllReadyH.nil
      go_simp
      have hal := zalloc hHeld (.cells #[.int .i64 0] 3 (0, 0))
      have n6 := heap_alloc_new X1 (.cells #[.int .i64 0] 3 (0, 0))
      have l6 := hHeld.size
      generalize X1.heap.size = b6 at *
      generalize X1.alloc (.cells #[.int .i64 0] 3 (0, 0)) = X2 at *
      refine hK.out _ _ hal (fun hHeld => ?_)
      clear hK
      try simp only [Act.put, List.setIfInBounds_toArray, List.set_cons_zero, List.set_cons_succ]
      refine wpAnyH_ready (rs := [11]) (by kernel_rfl) (by simp) ?_
      refine AllReadyH.cons (o := _) rfl (fun _ hK => ?_) AllReadyH.nil
      go_simp
      refine hK.out _ _ hHeld (fun hHeld => ?_)
      clear hK
      try simp only [Act.put, List.setIfInBounds_toArray, List.set_cons_zero, List.set_cons_succ]
      refine wpAnyH_ready (rs := [12]) (by kernel_rfl) (by simp) ?_
      refine AllReadyH.cons (o := _) rfl (fun _ hK => ?_) AllReadyH.nil
      obtain ⟨y0, yf⟩ := nowz1 n6 rfl
      go_simp
      clear y0 yf
      refine hK.out _ _ (hHeld.setCell (by omega) _) (fun hHeld => ?_)
      clear hK
      replace n6 := put1z (x := .int .i64 (hv S f i).2) n6
      try simp only [Act.put, List.setIfInBounds_toArray, List.set_cons_zero, List.set_cons_succ]
      refine wpAnyH_done (by kernel_rfl) ?_ _
      go_wp2_with fail
      go_meet
      exact ⟨b6, rfl, rfl, n6, hHeld⟩
    refine AllReadyH.cons (o := _) rfl (fun _ hK => ?_) AllReadyH.nil
    go_simp
    have hal := zalloc hHeld (.cells #[.int .i64 0] 3 (0, 0))
    have n6 := heap_alloc_new X0 (.cells #[.int .i64 0] 3 (0, 0))
    have l6 := hHeld.size
    generalize X0.heap.size = b6 at *
    generalize X0.alloc (.cells #[.int .i64 0] 3 (0, 0)) = X1 at *
    refine hK.out _ _ hal (fun hHeld => ?_)
    clear hK
    try simp only [Act.put, List.setIfInBounds_toArray, List.set_cons_zero, List.set_cons_succ]
    refine wpAnyH_ready (rs := [6]) (by kernel_rfl) (by simp) ?_
    refine AllReadyH.cons (o := _) rfl (fun _ hK => ?_) AllReadyH.nil
    go_simp
    refine (HV X1 hHeld).mono ?_
    rintro e X2 ⟨rfl, hbr, hcr⟩
    replace n6 := keep_blk hcr n6
    try go_simp
    refine hK.out _ _ hbr (fun hHeld => ?_)
    clear hK
    try simp only [Act.put, List.setIfInBounds_toArray, List.set_cons_zero, List.set_cons_succ]
    refine wpAnyH_take (i := 7) (oi := _) (v := ?_) rfl (by kernel_rfl) (by kernel_rfl) (by kernel_rfl) (fun _ _ _ h => h) (Or.inl ⟨by rfl, ?_⟩) (by assumption) ?_
    rotate_left 1
    · intro w_ hSw
      go_simp
      try with_reducible rfl
    try simp only [Act.put, List.setIfInBounds_toArray]
    refine wpAnyH_take (i := 8) (oi := _) (v := ?_) rfl (by kernel_rfl) (by kernel_rfl) (by kernel_rfl) (fun _ _ _ h => h) (Or.inl ⟨by rfl, ?_⟩) (by assumption) ?_
    rotate_left 1
    · intro w_ hSw
      go_simp
      try with_reducible rfl
    try simp only [Act.put]
    refine wpAnyH_take (i := 9) (oi := _) (v := ?_) rfl (by kernel_rfl) (by kernel_rfl) (by kernel_rfl) (fun _ _ _ h => h) (Or.inl ⟨by rfl, ?_⟩) (by assumption) ?_
    rotate_left 1
    · intro w_ hSw
      go_simp
      try with_reducible rfl
    try simp only [Act.put]
    refine wpAnyH_ready (rs := [11]) (by kernel_rfl) (by simp) ?_
    refine AllReadyH.cons (o := _) rfl (fun _ hK => ?_) AllReadyH.nil
    go_simp
    refine hK.out _ _ hHeld (fun hHeld => ?_)
    clear hK
    try simp only [Act.put, List.setIfInBounds_toArray, List.set_cons_zero, List.set_cons_succ]
    refine wpAnyH_ready (rs := [12]) (by kernel_rfl) (by simp) ?_
    refine AllReadyH.cons (o := _) rfl (fun _ hK => ?_) AllReadyH.nil
    obtain ⟨y0, yf⟩ := nowz1 n6 rfl
    go_simp
    clear y0 yf
    refine hK.out _ _ (hHeld.setCell (by omega) _) (fun hHeld => ?_)
    clear hK
    replace n6 := put1z (x := .int .i64 (hv S f i).2) n6
    try simp only [Act.put, List.setIfInBounds_toArray, List.set_cons_zero, List.set_cons_succ]
    refine wpAnyH_done (by kernel_rfl) ?_ _
    go_wp2_with fail
    go_meet
    exact ⟨b6, rfl, rfl, n6, hHeld⟩
  case rest =>
    obtain ⟨b6, rfl, rfl, n6, hbc⟩ := hcut
    have hd3 := hd1.below hbc
    have hw3 := hw1.below hbc
    have hr3 := hr1.below hbc
    have hbx3 := hbx1.below hbc
    have hy3 := hy.trans (hbc.mono hy.size)
    have hV := hd3.zst.vst
    have hst := bL_step (k := k) p6 hf1
    obtain ⟨h0, h1⟩ := least_half (k := k) p4 p5
    have HL := IH hd3 hw3 hr3 hne hN (hv S f i).1 p0 p2 (by omega) (by omega)
    have hK3 : Kz no8 (MZ bm mm) N w wc := Kz.of_below hy3
    clear HV w0 b0 e0 e1 hBs hd1 hw1 hr1 hbx1 hy hbc hy3 hd3 hr3
    obtain ⟨w0, -⟩ := nowz1 hbx3.a rfl
    go_wp2_with fail
    refine HL.mono ?_
    rintro e w4 ⟨v4, full4, T, low, er4, rfl, hd4, hk4, hO4, hr4⟩
    clear HL w0
    rcases hO4.kind with rfl | ⟨rfl, rfl⟩
    · obtain ⟨i0, i1, i2⟩ := hO4.ok
      have hx := hO4.ext
      have e2 := hx.lvl p1
      have z2 := hx.zn hV p1
      have y2 := hx.zf hV k _ (by omega) p1 p3
      have hle := zn_le_cF (by omega) p2 i1 i2 leastF_sub
      have hB5 := below_alloc1 w4 (.cells #[.int .i64 low] 3 (0, 0))
      have n7 := heap_alloc_new w4 (.cells #[.int .i64 low] 3 (0, 0))
      have a5 := keep_alloc (x := .cells #[.int .i64 low] 3 (0, 0)) (hk4.cells _ _ _ _ hbx3.a (by decide) (by decide) (fun h => h))
      have n5 := keep_alloc (x := .cells #[.int .i64 low] 3 (0, 0)) (hk4.cells _ _ _ _ n6 (by decide) (by decide) (fun h => h))
      have hd5 := hd4.below hB5
      have hw5 := (hw3.kz hk4 (fun h => h)).below hB5
      have hr5 := hr4.below hB5
      have hK5 := (hK3.trans hk4).more hB5
      go_upto_region 6 with (fail)
      generalize w4.alloc (.cells #[.int .i64 low] 3 (0, 0)) = W5 at *
      have hcf2 : ∀ (args : Array Value) (w1 : World), (Sem.run Try.prog (callFunc 85 args) w1) = .ok (.enter 85 args) w1 := fun _ _ => by kernel_rfl
      have HBd := zbuild_any (C := no8) (M := MZ bm mm) (N := N) (w := W5) (zb := zb) (ab := ab) (bm := bm) (room := room) (S := T) (F := leastF (k + 1) (zf S (k + 1) f)) (F0 := leastF k (zf S k (hv S f i).1)) (F1 := freeF k (leastF k (zf S k (hv S f i).2)) (leastF k (zf S k (hv S f i).1)))
        (fun w' U => RemZ w' mm S0 U (c + bL k (zn S (hv S f i).1)) ∧ VSt U) (fun w' U => RemZ w' mm S0 U (c + (bL (k + 1) (zn S f) - 1)) ∧ VSt U) (fun w' U => RemZ w' mm S0 U (c + (bL (k + 1) (zn S f) - 1)) ∧ VSt U) 85 #[.pointer (some ⟨w4.heap.size, 0, none⟩), .pointer (some ⟨x, 0, none⟩), .pointer (some ⟨b6, 0, none⟩)] hcf2
        (.inl rfl) i k 0 (bL k (zn S (hv S f i).2) + k * (zn S (hv S f i).2 * zn S (hv S f i).1)) hi f0 h0 h1
        (zleast110_any n7 ⟨v4, full4, T, low, 0, rfl, hd5, Kz.refl _ _ _ _, OutZ.stay hd4.zst i0 i1 i2 0, hr5, hd4.zst.vst⟩)
        (fun w1 v1 full1 U a hd6 hk6 hO6 hr6 => by
          have hxU := hO6.ext
          have hVT := hd4.zst.vst
          have u2 : 0 ≤ lvl T (hv S f i).2 := by omega
          have e3 := hxU.lvl u2
          have z3 := hxU.zn hVT u2
          have y3 := hxU.zf hVT k _ (by omega) u2 (by omega)
          have e4 := hxU.lvl i0
          have z4 := hxU.zn hVT i0
          have y4 := hxU.zf hVT k _ (by omega) i0 i1
          have HI := zleast111_any IH (b := zn S (hv S f i).1) hd6 (hw5.kz hk6 (fun h => h)) hr6.1 hne hN (hk6.cells _ _ _ _ n7 (by decide) (by decide) (fun h => h)) (hk6.cells _ _ _ _ a5 (by decide) (by decide) (fun h => h)) (hk6.cells _ _ _ _ n5 (by decide) (by decide) (fun h => h)) (by omega) (by omega) (by omega) (by omega) (by omega) (by omega) (by rw [z3, z2]; omega)
          rw [z3, z2, y3, y2, y4, i2] at HI
          exact HI.mono fun e w' hm => hm.mono fun V id er ho => ⟨ho.1, ho.2.more (by omega), ho.1.zst.vst⟩)
        (fun w' T hh => ⟨hh.1.more (by omega), hh.2⟩) (fun _ _ hh => hh)
        (fun w1 w2 U V hh hk hV hV' hx => ⟨(hh.1.kz hk (fun e => hne e)).ext hV hx, hV'⟩)
      have hOS := Lib.hid hO4
      obtain ⟨w0, -⟩ := nowz1 a5 rfl
      obtain ⟨e0, e1, -⟩ := now2 hw5 rfl
      clear IH hcf2 hd4 hr4 hd5 hr5 hw5 hw3 hbx3 n5 n6 n7 a5 hO4 hk4 hx e2 z2 y2 hle i0 i1 i2 p0 p1 p2 p3 p4 p5 p6 h0 h1 hV
      go_wp2_with fail
      refine HBd.mono ?_
      rintro e w6 ⟨v6, full6, U, id, er, rfl, hd8, hk8, hO8, hr8⟩
      have hO9 := Lib.hid ((hOS.out.then hO8).more (B' := bL (k + 1) (zn S f)) (by omega))
      clear HBd hO8
      go_wp2
      go_ret2
      exact ⟨v6, full6, U, id, er, rfl, hd8, hK5.trans hk8, hO9.out, hr8.1⟩
    · have hO9 := Lib.hid (hO4.fail0 (D' := k + 1) (G := leastF (k + 1) (zf S (k + 1) f)) (B' := bL (k + 1) (zn S f)) (by decide) (by omega))
      have hr9 := (hr4.below (below_alloc1 w4 (.cells #[.int .i64 0] 3 (0, 0)))).more (C' := c + (bL (k + 1) (zn S f) - 1)) (by omega)
      have hd9 := hd4.below (below_alloc1 w4 (.cells #[.int .i64 0] 3 (0, 0)))
      have hK9 := (hK3.trans hk4).more (below_alloc1 w4 (.cells #[.int .i64 0] 3 (0, 0)))
      clear hO4 hr4 IH hd4 hw3 hbx3 n6 hk4
      go_wp2
      go_ret2
      exact ⟨v4, full4, T, 0, 5, rfl, hd9, hK9, hO9.out, hr9⟩
theorem leastF_unit (k : Nat) : leastF k (fun n => decide (n = 0)) = fun n => decide (n = 0) := by
  funext n
  rw [Bool.eq_iff_iff, leastF_iff]
  constructor
  · exact fun h => h.1
  · intro h
    refine ⟨h, fun m _ hm hne _ => hne ?_⟩
    have h1 : n = 0 := of_decide_eq_true h
    have h2 : m = 0 := of_decide_eq_true hm
    omega
set_option maxHeartbeats 4000000 in
set_option maxRecDepth 100000 in
theorem zleast_any (k : Nat) : LeastOk k := by
  induction k using Nat.strongRecOn with
  | _ k IH =>
    intro N w zb ab bm wk mm v room full S0 S c hd hw hr hne hN f f0 fk hk hc
    have hB2 := below_alloc2 w (.cells #[.pointer (some ⟨wk, 0, none⟩)] 59 (0, 0)) (.cells #[.int .i64 f] 3 (0, 0))
    have hbx : LBox ((w.alloc (.cells #[.pointer (some ⟨wk, 0, none⟩)] 59 (0, 0))).alloc (.cells #[.int .i64 f] 3 (0, 0))) w.heap.size wk f := ⟨heap_alloc2_old _ _ _, heap_alloc2_new _ _ _⟩
    have hz0 : zf S k 0 = fun _ => false := funext fun n => zf_zero S k n hk
    have hz1 : zf S k 1 = fun n => decide (n = 0) := funext fun n => zf_one S k n hk
    have hd3 := hd.below hB2
    have hw3 := hw.below hB2
    have hr3 := hr.below hB2
    have hdone : zf S k f = leastF k (zf S k f) → Hid (OutZ k room S (leastF k (zf S k f)) (bL k (zn S f)) S f 0 ∧ RemZ _ mm S0 S (c + bL k (zn S f))) := fun hh =>
      Lib.hid ⟨OutZ.stay hd.zst f0 fk hh _, hr3.more (Nat.le_add_right _ _)⟩
    by_cases n0 : f = 0
    · have hD := hdone (by rw [n0, hz0, leastF_nil])
      subst n0
      clear hdone hz0 hz1 IH hc hd hw hr hbx hw3 hr3
      go_enter Try.func60, Try.ntmps60
      go_wp2_with fail
      go_ret2
      exact ⟨v, full, S, 0, 0, rfl, hd3, Kz.of_below hB2, hD.out⟩
    have b0 : (f == 0) = false := by simpa using n0
    by_cases n1 : f = 1
    · have hD := hdone (by rw [n1, hz1, leastF_unit])
      subst n1
      clear hdone hz0 hz1 IH hc hd hw hr hbx hw3 hr3 n0 b0
      go_enter Try.func60, Try.ntmps60
      go_wp2_with fail
      go_ret2
      exact ⟨v, full, S, 1, 0, rfl, hd3, Kz.of_below hB2, hD.out⟩
    have b1 : (f == 1) = false := by simpa using n1
    have hlt : lvl S f < 24 := by
      rcases Int.lt_or_le (lvl S f) 24 with h | h
      · exact h
      · have e1 := end_of_lvl hd.zst.vst h
        omega
    obtain ⟨j, hj⟩ : ∃ j : Nat, lvl S f + (j + 1 : Nat) = 24 := ⟨(23 - lvl S f).toNat, by omega⟩
    have hjk : j + 1 ≤ k := by omega
    have z1 := zn_pos hd.zst f0 n0
    have hjm : bL (j + 1) (zn S f) ≤ bL k (zn S f) := bL_mono hjk
    have hpos : 1 ≤ bL (j + 1) (zn S f) := bL_pos z1
    have hA : ArgE S0 S 7 f 0 := ⟨fun _ => f0, fun h => by omega, fun h => by omega⟩
    have hbase : baseE S0 S 7 f 0 = lvl S f := by unfold baseE; rw [if_pos (by omega)]
    have hcf2 : ∀ (args : Array Value) (w1 : World), (Sem.run Try.prog (callFunc 84 args) w1) = .ok (.enter 84 args) w1 := fun _ _ => by kernel_rfl
    clear hdone
    go_enter Try.func60, Try.ntmps60
    go_upto_region 3 with (fail)
    generalize (w.alloc (.cells #[.pointer (some ⟨wk, 0, none⟩)] 59 (0, 0))).alloc (.cells #[.int .i64 f] 3 (0, 0)) = W at *
    have HR := zrecall_any (F := leastF (j + 1) (zf S (j + 1) f)) hd3 hw3 hr3 hne (.inr rfl) hN 7 7 f 0 rfl ⟨wf_name 7 (by omega), wf_idz hd.max f0, WalkArith.wf_i64 (n := 0) (by omega)⟩ 84 #[.pointer (some ⟨w.heap.size, 0, none⟩), .pointer (some ⟨w.heap.size + 1, 0, none⟩)] hcf2
      (j + 1) (bL (j + 1) (zn S f)) (bL (j + 1) (zn S f) - 1)
      (fun r he => by rw [← famE7 S0 S f 0]; exact he.out hd.zst (by omega) (by rw [hbase]; omega) room _)
      (fun y => zleast1_any (IH j (by omega)) (hd3.below y.2) (hw3.below y.2) (hr3.below y.2) hne hN f (hbx.below y.2) f0 hj (by omega) z1)
      (fun T id ho => OutZ.remember hd.zst.vst hA (by rw [hbase]; omega) (by rw [famE7]; exact ho)) (by omega)
    obtain ⟨w0, -⟩ := nowz1 hbx.a rfl
    obtain ⟨f1, -⟩ := nowz1 hbx.f rfl
    have hK4 : Kz no8 (MZ bm mm) N w W := Kz.of_below hB2
    have hraise : ∀ T id er, OutZ (j + 1) room S (leastF (j + 1) (zf S (j + 1) f)) (bL (j + 1) (zn S f)) T id er → Hid (OutZ k room S (leastF k (zf S k f)) (bL k (zn S f)) T id er) := fun T id er ho => Lib.hid (by
      obtain ⟨d, rfl⟩ : ∃ d, k = (j + 1) + d := ⟨k - (j + 1), by omega⟩
      rw [← famE7 S0 S f 0] at ho ⊢
      exact (OutZ.raise hA (by rw [hbase]; omega) d ho).more hjm)
    clear hA hbase hbx hd3 hw3 hr3 hcf2 IH hd hw hr hlt hj z1 hB2 hz0 hz1 n0 n1
    go_wp2_with fail
    refine HR.mono ?_
    rintro e w2 ⟨v2, full2, T, id, er, rfl, hd8, hk8, hO8, hr8⟩
    have hO := hraise _ _ _ hO8
    clear HR hraise hO8
    go_wp2
    go_ret2
    exact ⟨v2, full2, T, id, er, rfl, hd8, hK4.trans hk8, hO.out, hr8.more (by omega)⟩
end Go.Proofs.Ytkkdfpmjmommcaa
