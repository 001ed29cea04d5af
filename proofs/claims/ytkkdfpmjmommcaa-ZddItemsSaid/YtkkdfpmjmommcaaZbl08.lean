/- With and without an item, of ids that are used. -/
import Derived.Test.YtkkdfpmjmommcaaZun08
namespace Go.Proofs.Ytkkdfpmjmommcaa
open Go.RowKit Go.Joins

/-- What a family and an item come to, by one of the two rules. -/
def OneOk (fr nm : Nat) (k : Nat) : Prop := ∀ {N : Nat → Prop} {w : World} {zb ab bm wk mm : Nat} {v : Value} {room full : Nat} {S0 S : St} {c : Nat}, ZdAt w N zb ab bm v room full S → WkAt w wk zb mm → RemZ w mm S0 S c → mm ≠ bm → ¬ N mm →
  ∀ (f x : Int), 0 ≤ lvl S f → 0 ≤ x → x < 24 → 24 ≤ lvl S f + k → 24 ≤ x + k → k ≤ 24 → c + k * zn S f ≤ 1000000 →
  Calls Try.prog fr #[.pointer (some ⟨wk, 0, none⟩), .int .i64 f, .int .i64 x] w
    (MadeZ no8 (MZ bm mm) N w zb ab bm room fun w' T id er => OutZ k room S (famE S0 S nm f x k) (k * zn S f) T id er ∧ RemZ w' mm S0 T (c + k * zn S f))
theorem zbelow11_any {fr : Nat} (hcf : ∀ (args : Array Value) (w1 : World), (Sem.run Try.prog (callFunc fr args) w1) = .ok (.enter fr args) w1) {C M N : Nat → Prop} {w : World} {zb ab bm room wk rb p8 p7 px : Nat} {f0 f1 x : Int} {P : World → St → Int → Int → Prop} (hr : w.heap[rb]? = some (.cells #[.func (.func fr) #[.pointer (some ⟨wk, 0, none⟩)] #[]] 65 (0, 0)))
    (h8 : w.heap[p8]? = some (.cells #[.int .i64 f1] 3 (0, 0))) (hx : w.heap[px]? = some (.cells #[.int .i64 x] 3 (0, 0))) (h7 : w.heap[p7]? = some (.cells #[.int .i64 f0] 3 (0, 0))) (has : Bool)
    (H : Calls Try.prog fr #[.pointer (some ⟨wk, 0, none⟩), .int .i64 (if has then f1 else f0), .int .i64 x] w (MadeZ C M N w zb ab bm room P)) :
    Calls Try.prog 102 (#[.bool has] ++ #[.pointer (some ⟨rb, 0, none⟩), .pointer (some ⟨p8, 0, none⟩), .pointer (some ⟨px, 0, none⟩), .pointer (some ⟨p7, 0, none⟩)]) w (MadeZ C M N w zb ab bm room P) := by
  obtain ⟨r0, -⟩ := nowz1 hr rfl
  obtain ⟨a8, -⟩ := nowz1 h8 rfl
  obtain ⟨ax, -⟩ := nowz1 hx rfl
  obtain ⟨a7, -⟩ := nowz1 h7 rfl
  clear hr h8 hx h7
  show Calls Try.prog _ #[.bool has, .pointer (some ⟨rb, 0, none⟩), .pointer (some ⟨p8, 0, none⟩), .pointer (some ⟨px, 0, none⟩), .pointer (some ⟨p7, 0, none⟩)] w _
  cases has
  · simp only [Bool.false_eq_true, if_false] at H
    go_enter Try.func102, Try.ntmps102
    go_wp2_with fail
    refine H.mono ?_
    rintro e w2 ⟨v2, full2, T, id, er, rfl, hd8, hk8, hP8⟩
    clear H
    go_wp2
    go_ret2
    exact ⟨v2, full2, T, id, er, rfl, hd8, hk8, hP8⟩
  · simp only [if_true] at H
    go_enter Try.func102, Try.ntmps102
    go_wp2_with fail
    refine H.mono ?_
    rintro e w2 ⟨v2, full2, T, id, er, rfl, hd8, hk8, hP8⟩
    clear H
    go_wp2
    go_ret2
    exact ⟨v2, full2, T, id, er, rfl, hd8, hk8, hP8⟩
theorem one_step {k f f0 f1 : Nat} (hf : f = f0 + f1) (h1 : 1 ≤ f) : k * f0 + k * f1 + 1 ≤ (k + 1) * f := by
  rw [hf, Nat.add_mul, Nat.mul_add, Nat.one_mul]
  omega
theorem famE3 (S0 S : St) (f x : Int) (D : Nat) : famE S0 S 3 f x D = withF (x + D - 24).toNat (zf S D f) := by
  unfold famE
  rw [if_neg (show ¬ (3 : Nat) < 3 by decide), if_pos rfl]
theorem famE4 (S0 S : St) (f x : Int) (D : Nat) : famE S0 S 4 f x D = lackF (x + D - 24).toNat (zf S D f) := by
  unfold famE
  rw [if_neg (show ¬ (4 : Nat) < 3 by decide), if_neg (show ¬ (4 : Nat) = 3 by decide), if_pos rfl]
theorem famE5 (S0 S : St) (f x : Int) (D : Nat) : famE S0 S 5 f x D = joinF D (zf S D f) (zf S D x) := by
  unfold famE
  rw [if_neg (show ¬ (5 : Nat) < 3 by decide), if_neg (show ¬ (5 : Nat) = 3 by decide), if_neg (show ¬ (5 : Nat) = 4 by decide), if_pos rfl]
theorem famE6 (S0 S : St) (f x : Int) (D : Nat) : famE S0 S 6 f x D = freeF D (zf S D f) (zf S D x) := by
  unfold famE
  rw [if_neg (show ¬ (6 : Nat) < 3 by decide), if_neg (show ¬ (6 : Nat) = 3 by decide), if_neg (show ¬ (6 : Nat) = 4 by decide), if_neg (show ¬ (6 : Nat) = 5 by decide), if_pos rfl]
theorem famE7 (S0 S : St) (f x : Int) (D : Nat) : famE S0 S 7 f x D = leastF D (zf S D f) := by
  unfold famE
  rw [if_neg (show ¬ (7 : Nat) < 3 by decide), if_neg (show ¬ (7 : Nat) = 3 by decide), if_neg (show ¬ (7 : Nat) = 4 by decide), if_neg (show ¬ (7 : Nat) = 5 by decide), if_neg (show ¬ (7 : Nat) = 6 by decide), if_pos rfl]
theorem famE8 (S0 S : St) (f x : Int) (D : Nat) : famE S0 S 8 f x D = zf S0 D f := by
  unfold famE
  rw [if_neg (show ¬ (8 : Nat) < 3 by decide), if_neg (show ¬ (8 : Nat) = 3 by decide), if_neg (show ¬ (8 : Nat) = 4 by decide), if_neg (show ¬ (8 : Nat) = 5 by decide), if_neg (show ¬ (8 : Nat) = 6 by decide), if_neg (show ¬ (8 : Nat) = 7 by decide)]
/-- By halves: the two rules. -/
theorem famE_item {S0 S : St} {nm : Nat} (hnm : nm = 3 ∨ nm = 4) {f x f0 f1 : Int} {j : Nat} (hx : 24 ≤ x + j) (h0 : half0 (zf S (j + 1) f) = zf S j f0) (h1 : half1 (zf S (j + 1) f) = zf S j f1) :
    half0 (famE S0 S nm f x (j + 1)) = famE S0 S nm f0 x j ∧ half1 (famE S0 S nm f x (j + 1)) = famE S0 S nm f1 x j := by
  have e : (x + ((j + 1 : Nat) : Int) - 24).toNat = (x + (j : Int) - 24).toNat + 1 := by omega
  rcases hnm with rfl | rfl
  · rw [famE3, famE3, famE3, e, withF_s0, withF_s1, h0, h1]
    exact ⟨rfl, rfl⟩
  · rw [famE4, famE4, famE4, e, lackF_s0, lackF_s1, h0, h1]
    exact ⟨rfl, rfl⟩
/-- At the item or behind it: the answer is a half. -/
theorem famE_half_item {S0 S : St} (hZ : ZSt S) {nm : Nat} (hnm : nm = 3 ∨ nm = 4) {f x : Int} (f0 : 0 ≤ lvl S f) (x0 : 0 ≤ x) (hlx : x ≤ lvl S f) {j : Nat} (hj : x + (j + 1 : Nat) = 24) {r : Int} (hr : r = if nm = 3 then (hv S f x).2 else (hv S f x).1) :
    0 ≤ lvl S r ∧ 24 ≤ lvl S r + j ∧ ∀ d, zf S (j + 1 + d) r = famE S0 S nm f x (j + 1 + d) := by
  obtain ⟨p0, p1, p2, p3, p4, p5, -⟩ := hv_ok hZ f0 hj x0 hlx
  have hrl : 0 ≤ lvl S r ∧ 24 ≤ lvl S r + j := by
    rw [hr]
    split
    · exact ⟨p1, p3⟩
    · exact ⟨p0, p2⟩
  refine ⟨hrl.1, hrl.2, fun d => ?_⟩
  induction d with
  | zero =>
    have hs : 24 < lvl S r + (j + 1 : Nat) := by omega
    have e : (x + ((j + 1 : Nat) : Int) - 24).toNat = 0 := by omega
    show zf S (j + 1) r = famE S0 S nm f x (j + 1)
    rcases hnm with rfl | rfl
    · rw [famE3, e]
      rw [if_pos rfl] at hr
      refine famh_ext ?_ ?_
      · rw [zf_skip0 hs, withF_00, p5, hr]
      · rw [zf_skip1 hs, withF_01]
    · rw [famE4, e]
      rw [if_neg (by decide)] at hr
      refine famh_ext ?_ ?_
      · rw [zf_skip0 hs, lackF_00, p4, hr]
      · rw [zf_skip1 hs, lackF_01]
  | succ d ih =>
    have hs : 24 < lvl S r + (j + 1 + d + 1 : Nat) := by omega
    have hsf : 24 < lvl S f + (j + 1 + d + 1 : Nat) := by omega
    have e : (x + ((j + 1 + d + 1 : Nat) : Int) - 24).toNat = (x + ((j + 1 + d : Nat) : Int) - 24).toNat + 1 := by omega
    show zf S (j + 1 + d + 1) r = famE S0 S nm f x (j + 1 + d + 1)
    refine famh_ext ?_ ?_
    · rw [zf_skip0 hs, ih]
      rcases hnm with rfl | rfl
      · rw [famE3, famE3, e, withF_s0, zf_skip0 hsf]
      · rw [famE4, famE4, e, lackF_s0, zf_skip0 hsf]
    · rw [zf_skip1 hs]
      rcases hnm with rfl | rfl
      · rw [famE3, e, withF_s1, zf_skip1 hsf]
        funext n
        unfold withF
        rw [Bool.and_false]
      · rw [famE4, e, lackF_s1, zf_skip1 hsf]
        funext n
        unfold lackF
        rw [Bool.and_false]
/-- Other places, the same families. -/
theorem famE_same {S0 S T : St} {nm : Nat} (hnm : nm = 3 ∨ nm = 4) {f x : Int} {k : Nat} (h : zf T k f = zf S k f) : famE S0 T nm f x k = famE S0 S nm f x k := by
  rcases hnm with rfl | rfl
  · rw [famE3, famE3, h]
  · rw [famE4, famE4, h]
set_option maxHeartbeats 4000000 in
set_option maxRecDepth 100000 in
theorem zbelow1_any {fr nm k : Nat} (hnm : nm = 3 ∨ nm = 4) (hcf : ∀ (args : Array Value) (w1 : World), (Sem.run Try.prog (callFunc fr args) w1) = .ok (.enter fr args) w1) (IH : OneOk fr nm k) {N : Nat → Prop} {w : World} {zb ab bm wk mm x : Nat} {v : Value} {room full : Nat} {S0 S : St} {c : Nat} (hd : ZdAt w N zb ab bm v room full S) (hw : WkAt w wk zb mm) (hr : RemZ w mm S0 S c) (hne : mm ≠ bm) (hN : ¬ N mm)
    (f g : Int) (hbx : ABox w x wk f g (.func (.func fr) #[.pointer (some ⟨wk, 0, none⟩)] #[])) (f0 : 0 ≤ lvl S f) (g0 : 0 ≤ g) (g24 : g < 24) (hfg : lvl S f < g) (hi : lvl S f + (k + 1 : Nat) = 24) (hc : c + (k + 1) * zn S f ≤ 1000000) (hf1 : 1 ≤ zn S f) :
    Calls Try.prog 101 #[.pointer (some ⟨x, 0, none⟩), .pointer (some ⟨x + 1, 0, none⟩), .pointer (some ⟨x + 1 + 1 + 1, 0, none⟩), .pointer (some ⟨x + 1 + 1, 0, none⟩)] w
      (MadeZ no8 (MZ bm mm) N w zb ab bm room fun w' T id er => OutZ (k + 1) room S (famE S0 S nm f g (k + 1)) ((k + 1) * zn S f) T id er ∧ RemZ w' mm S0 T (c + ((k + 1) * zn S f - 1))) := by
  have HLf := fun y : After w => zlevel_any (hd.below y.2) f f0
  obtain ⟨w0, -⟩ := boxz1 hbx.a rfl
  obtain ⟨b0, -⟩ := boxz1 hbx.f rfl
  obtain ⟨e0, e1, -⟩ := box2 hw rfl
  go_enter Try.func101, Try.ntmps101
  go_wp2
  refine wp_region_after (by kernel_rfl) (by kernel_rfl) ?_
  repeat (first | go_big_quiet_step ((go_at_call_of 69 (Value.int IntKind.i64 f); exact Calls.after_of (HLf _))))
  refine wpQuiet_nil ?_
  intro y
  go_upto_region 2 with (fail)
  obtain ⟨W1, hy⟩ := y
  dsimp only at *
  have hd1 := hd.below hy
  have hw1 := hw.below hy
  have hr1 := hr.below hy
  have hbx1 := hbx.below hy
  obtain ⟨p0, p1, p2, p3, p4, p5, p6⟩ := hv_ok hd.zst f0 hi f0 (Int.le_refl _)
  clear w0 b0 e0 e1 hd hw hr hbx HLf
  generalize lvl S f = i at *
  have HV : ∀ W : World, Below W1.heap.size W1 W → Calls Try.prog 70 #[.pointer (some ⟨zb, 0, none⟩), .int .i64 f, .int .i64 i] W fun e w' => e = .returned (.tuple #[.int .i64 (hv S f i).1, .int .i64 (hv S f i).2]) ∧ Below W1.heap.size W1 w' ∧ Below W.heap.size W w' := fun W hb =>
    (zhalves_any (hd1.below hb) f i).mono fun e w' ⟨he, hbw⟩ => ⟨he, hb.trans (hbw.mono hb.size), hbw⟩
  obtain ⟨w0, -⟩ := boxz1 hbx1.a rfl
  obtain ⟨b0, -⟩ := boxz1 hbx1.f rfl
  obtain ⟨e0, e1, -⟩ := box2 hw1 rfl
  have hBs := Below.refl W1.heap.size W1
  go_cut [7, 8] from 15 (fun s7 s8 wc => ∃ b7 b8 : Nat, s7 = .pointer (some ⟨b7, 0, none⟩) ∧ s8 = .pointer (some ⟨b8, 0, none⟩) ∧ wc.heap[b7]? = some (.cells #[.int .i64 (hv S f i).1] 3 (0, 0)) ∧ wc.heap[b8]? = some (.cells #[.int .i64 (hv S f i).2] 3 (0, 0)) ∧ Below W1.heap.size W1 wc)
  case first =>
    clear IH hd1 hr1 p0 p1 p2 p3 p4 p5 p6 hi hbx1 hw1 hy
    refine wp_region_held_drew (S := fun W_ => Below W1.heap.size W1 W_) rfl hBs.drew (fun hHeld => ?_)
    obtain ⟨X0, hX0⟩ : ∃ X0, X0 = W1.drew := ⟨_, rfl⟩
    rw [← hX0] at hHeld ⊢
    clear hX0
    refine wpAnyH_take (i := 0) (oi := _) (v := ?_) rfl (by kernel_rfl) (by kernel_rfl) (by kernel_rfl) (fun _ _ _ h => h) (Or.inl ⟨by rfl, ?_⟩) (by assumption) ?_
    rotate_left 1
    · intro w_ hSw
      have q_w0 := w0 ⟨w_, hSw⟩
      dsimp only at q_w0
      go_simp
      try with_reducible rfl
    try simp only [Act.put, List.setIfInBounds_toArray]
    refine wpAnyH_take (i := 1) (oi := _) (v := ?_) rfl (by kernel_rfl) (by kernel_rfl) (by kernel_rfl) (fun _ _ _ h => h) (Or.inl ⟨by rfl, ?_⟩) (by assumption) ?_
    rotate_left 1
    · intro w_ hSw
      go_simp
      try with_reducible rfl
    try simp only [Act.put]
    refine wpAnyH_take (i := 2) (oi := _) (v := ?_) rfl (by kernel_rfl) (by kernel_rfl) (by kernel_rfl) (fun _ _ _ h => h) (Or.inl ⟨by rfl, ?_⟩) (by assumption) ?_
    rotate_left 1
    · intro w_ hSw
      go_simp
      try with_reducible rfl
    try simp only [Act.put]
    refine wpAnyH_take (i := 3) (oi := _) (v := ?_) rfl (by kernel_rfl) (by kernel_rfl) (by kernel_rfl) (fun _ _ _ h => h) (Or.inl ⟨by rfl, ?_⟩) (by assumption) ?_
    rotate_left 1
    · intro w_ hSw
      have q_e0 := e0 ⟨w_, hSw⟩
      dsimp only at q_e0
      go_simp
      try with_reducible rfl
    try simp only [Act.put]
    refine wpAnyH_take (i := 4) (oi := _) (v := ?_) rfl (by kernel_rfl) (by kernel_rfl) (by kernel_rfl) (fun _ _ _ h => h) (Or.inl ⟨by rfl, ?_⟩) (by assumption) ?_
    rotate_left 1
    · intro w_ hSw
      have q_b0 := b0 ⟨w_, hSw⟩
      dsimp only at q_b0
      go_simp
      try with_reducible rfl
    try simp only [Act.put]
    refine wpAnyH_take (i := 5) (oi := _) (v := ?_) rfl (by kernel_rfl) (by kernel_rfl) (by kernel_rfl) (fun _ _ _ h => h) (Or.inl ⟨by rfl, ?_⟩) (by assumption) ?_
    rotate_left 1
    · intro w_ hSw
      go_simp
      try with_reducible rfl
    try simp only [Act.put]
    refine wpAnyH_ready (rs := [6, 10, 11]) (by kernel_rfl) (by simp) ?_
    refine AllReadyH.cons (o := _) rfl (fun _ hK => ?_) ?_
    · go_simp
      refine (HV X0 hHeld).mono ?_
      rintro e X1 ⟨rfl, hbr, hcr⟩
      try go_simp
      refine hK.out _ _ hbr (fun hHeld => ?_)
      clear hK
      try simp only [Act.put, List.setIfInBounds_toArray, List.set_cons_zero, List.set_cons_succ]
      refine wpAnyH_take (i := 7) (oi := _) (v := ?_) rfl (by kernel_rfl) (by kernel_rfl) (by kernel_rfl) (fun _ _ _ h => h) (Or.inl ⟨by rfl, ?_⟩) (by assumption) ?_
      rotate_left 1
      · intro w_ hSw
        go_simp
        try with_reducible rfl
      try simp only [Act.put, List.setIfInBounds_toArray]
      refine wpAnyH_take (i := 8) (oi := _) (v := ?_) rfl (by kernel_rfl) (by kernel_rfl) (by kernel_rfl) (fun _ _ _ h => h) (Or.inl ⟨by rfl, ?_⟩) (by assumption) ?_
      rotate_left 1
      · intro w_ hSw
        go_simp
        try with_reducible rfl
      try simp only [Act.put]
      refine wpAnyH_take (i := 9) (oi := _) (v := ?_) rfl (by kernel_rfl) (by kernel_rfl) (by kernel_rfl) (fun _ _ _ h => h) (Or.inl ⟨by rfl, ?_⟩) (by assumption) ?_
      rotate_left 1
      · intro w_ hSw
        go_simp
        try with_reducible rfl
      try simp only [Act.put]
      refine wpAnyH_ready (rs := [10, 11]) (by kernel_rfl) (by simp) ?_
      refine AllReadyH.cons (o := _) rfl (fun _ hK => ?_) ?_
      · go_simp
        have hal := zalloc hHeld (.cells #[.int .i64 0] 3 (0, 0))
        have n7 := heap_alloc_new X1 (.cells #[.int .i64 0] 3 (0, 0))
        have l7 := hHeld.size
        generalize X1.heap.size = b7 at *
        generalize X1.alloc (.cells #[.int .i64 0] 3 (0, 0)) = X2 at *
        refine hK.out _ _ hal (fun hHeld => ?_)
        clear hK
        try simp only [Act.put, List.setIfInBounds_toArray, List.set_cons_zero, List.set_cons_succ]
        refine wpAnyH_ready (rs := [11]) (by kernel_rfl) (by simp) ?_
        refine AllReadyH.cons (o := _) rfl (fun _ hK => ?_) AllReadyH.nil
        go_simp
        have hal := zalloc hHeld (.cells #[.int .i64 0] 3 (0, 0))
        have n8 := heap_alloc_new X2 (.cells #[.int .i64 0] 3 (0, 0))
        have l8 := hHeld.size
        have d78 := size_of_block n7
        replace n7 := keep_alloc (x := .cells #[.int .i64 0] 3 (0, 0)) n7
        generalize X2.heap.size = b8 at *
        generalize X2.alloc (.cells #[.int .i64 0] 3 (0, 0)) = X3 at *
        refine hK.out _ _ hal (fun hHeld => ?_)
        clear hK
        try simp only [Act.put, List.setIfInBounds_toArray, List.set_cons_zero, List.set_cons_succ]
        refine wpAnyH_ready (rs := [12]) (by kernel_rfl) (by simp) ?_
        refine AllReadyH.cons (o := _) rfl (fun _ hK => ?_) AllReadyH.nil
        obtain ⟨y0, yf⟩ := nowz1 n7 rfl
        go_simp
        clear y0 yf
        refine hK.out _ _ (hHeld.setCell (by omega) _) (fun hHeld => ?_)
        clear hK
        replace n7 := put1z (x := .int .i64 (hv S f i).1) n7
        replace n8 := putFar (b := b7) (x := .int .i64 (hv S f i).1) (by omega) n8
        try simp only [Act.put, List.setIfInBounds_toArray, List.set_cons_zero, List.set_cons_succ]
        refine wpAnyH_ready (rs := [13]) (by kernel_rfl) (by simp) ?_
        refine AllReadyH.cons (o := _) rfl (fun _ hK => ?_) AllReadyH.nil
        obtain ⟨y0, yf⟩ := nowz1 n8 rfl
        go_simp
        clear y0 yf
        refine hK.out _ _ (hHeld.setCell (by omega) _) (fun hHeld => ?_)
        clear hK
        replace n7 := putFar (b := b8) (x := .int .i64 (hv S f i).2) (by omega) n7
        replace n8 := put1z (x := .int .i64 (hv S f i).2) n8
        try simp only [Act.put, List.setIfInBounds_toArray, List.set_cons_zero, List.set_cons_succ]
        refine wpAnyH_done (by kernel_rfl) ?_ _
        go_wp2_with fail
        go_meet
        exact ⟨b7, b8, rfl, rfl, n7, n8, hHeld⟩
      refine AllReadyH.cons (o := _) rfl (fun _ hK => ?_) AllReadyH.nil
      go_simp
      have hal := zalloc hHeld (.cells #[.int .i64 0] 3 (0, 0))
      have n8 := heap_alloc_new X1 (.cells #[.int .i64 0] 3 (0, 0))
      have l8 := hHeld.size
      generalize X1.heap.size = b8 at *
      generalize X1.alloc (.cells #[.int .i64 0] 3 (0, 0)) = X2 at *
      refine hK.out _ _ hal (fun hHeld => ?_)
      clear hK
      try simp only [Act.put, List.setIfInBounds_toArray, List.set_cons_zero, List.set_cons_succ]
      refine wpAnyH_ready (rs := [10]) (by kernel_rfl) (by simp) ?_
      refine AllReadyH.cons (o := _) rfl (fun _ hK => ?_) AllReadyH.nil
      go_simp
      have hal := zalloc hHeld (.cells #[.int .i64 0] 3 (0, 0))
      have n7 := heap_alloc_new X2 (.cells #[.int .i64 0] 3 (0, 0))
      have l7 := hHeld.size
      have d87 := size_of_block n8
      replace n8 := keep_alloc (x := .cells #[.int .i64 0] 3 (0, 0)) n8
      generalize X2.heap.size = b7 at *
      generalize X2.alloc (.cells #[.int .i64 0] 3 (0, 0)) = X3 at *
      refine hK.out _ _ hal (fun hHeld => ?_)
      clear hK
      try simp only [Act.put, List.setIfInBounds_toArray, List.set_cons_zero, List.set_cons_succ]
      refine wpAnyH_ready (rs := [12]) (by kernel_rfl) (by simp) ?_
      refine AllReadyH.cons (o := _) rfl (fun _ hK => ?_) AllReadyH.nil
      obtain ⟨y0, yf⟩ := nowz1 n7 rfl
      go_simp
      clear y0 yf
      refine hK.out _ _ (hHeld.setCell (by omega) _) (fun hHeld => ?_)
      clear hK
      replace n8 := putFar (b := b7) (x := .int .i64 (hv S f i).1) (by omega) n8
      replace n7 := put1z (x := .int .i64 (hv S f i).1) n7
      try simp only [Act.put, List.setIfInBounds_toArray, List.set_cons_zero, List.set_cons_succ]
      refine wpAnyH_ready (rs := [13]) (by kernel_rfl) (by simp) ?_
      refine AllReadyH.cons (o := _) rfl (fun _ hK => ?_) AllReadyH.nil
      obtain ⟨y0, yf⟩ := nowz1 n8 rfl
      go_simp
      clear y0 yf
      refine hK.out _ _ (hHeld.setCell (by omega) _) (fun hHeld => ?_)
      clear hK
      replace n8 := put1z (x := .int .i64 (hv S f i).2) n8
      replace n7 := putFar (b := b8) (x := .int .i64 (hv S f i).2) (by omega) n7
      try simp only [Act.put, List.setIfInBounds_toArray, List.set_cons_zero, List.set_cons_succ]
      refine wpAnyH_done (by kernel_rfl) ?_ _
      go_wp2_with fail
      go_meet
      exact ⟨b7, b8, rfl, rfl, n7, n8, hHeld⟩
    refine AllReadyH.cons (o := _) rfl (fun _ hK => ?_) ?_
    · go_simp
      have hal := zalloc hHeld (.cells #[.int .i64 0] 3 (0, 0))
      have n7 := heap_alloc_new X0 (.cells #[.int .i64 0] 3 (0, 0))
      have l7 := hHeld.size
      generalize X0.heap.size = b7 at *
      generalize X0.alloc (.cells #[.int .i64 0] 3 (0, 0)) = X1 at *
      refine hK.out _ _ hal (fun hHeld => ?_)
      clear hK
      try simp only [Act.put, List.setIfInBounds_toArray, List.set_cons_zero, List.set_cons_succ]
      refine wpAnyH_ready (rs := [6, 11]) (by kernel_rfl) (by simp) ?_
      refine AllReadyH.cons (o := _) rfl (fun _ hK => ?_) ?_
      · go_simp
        refine (HV X1 hHeld).mono ?_
        rintro e X2 ⟨rfl, hbr, hcr⟩
        replace n7 := keep_blk hcr n7
        try go_simp
        refine hK.out _ _ hbr (fun hHeld => ?_)
        clear hK
        try simp only [Act.put, List.setIfInBounds_toArray, List.set_cons_zero, List.set_cons_succ]
        refine wpAnyH_take (i := 7) (oi := _) (v := ?_) rfl (by kernel_rfl) (by kernel_rfl) (by kernel_rfl) (fun _ _ _ h => h) (Or.inl ⟨by rfl, ?_⟩) (by assumption) ?_
        rotate_left 1
        · intro w_ hSw
          go_simp
          try with_reducible rfl
        try simp only [Act.put, List.setIfInBounds_toArray]
        refine wpAnyH_take (i := 8) (oi := _) (v := ?_) rfl (by kernel_rfl) (by kernel_rfl) (by kernel_rfl) (fun _ _ _ h => h) (Or.inl ⟨by rfl, ?_⟩) (by assumption) ?_
        rotate_left 1
        · intro w_ hSw
          go_simp
          try with_reducible rfl
        try simp only [Act.put]
        refine wpAnyH_take (i := 9) (oi := _) (v := ?_) rfl (by kernel_rfl) (by kernel_rfl) (by kernel_rfl) (fun _ _ _ h => h) (Or.inl ⟨by rfl, ?_⟩) (by assumption) ?_
        rotate_left 1
        · intro w_ hSw
          go_simp
          try with_reducible rfl
        try simp only [Act.put]
        refine wpAnyH_ready (rs := [11]) (by kernel_rfl) (by simp) ?_
        refine AllReadyH.cons (o := _) rfl (fun _ hK => ?_) AllReadyH.nil
        go_simp
        have hal := zalloc hHeld (.cells #[.int .i64 0] 3 (0, 0))
        have n8 := heap_alloc_new X2 (.cells #[.int .i64 0] 3 (0, 0))
        have l8 := hHeld.size
        have d78 := size_of_block n7
        replace n7 := keep_alloc (x := .cells #[.int .i64 0] 3 (0, 0)) n7
        generalize X2.heap.size = b8 at *
        generalize X2.alloc (.cells #[.int .i64 0] 3 (0, 0)) = X3 at *
        refine hK.out _ _ hal (fun hHeld => ?_)
        clear hK
        try simp only [Act.put, List.setIfInBounds_toArray, List.set_cons_zero, List.set_cons_succ]
        refine wpAnyH_ready (rs := [12]) (by kernel_rfl) (by simp) ?_
        refine AllReadyH.cons (o := _) rfl (fun _ hK => ?_) AllReadyH.nil
        obtain ⟨y0, yf⟩ := nowz1 n7 rfl
        go_simp
        clear y0 yf
        refine hK.out _ _ (hHeld.setCell (by omega) _) (fun hHeld => ?_)
        clear hK
        replace n7 := put1z (x := .int .i64 (hv S f i).1) n7
        replace n8 := putFar (b := b7) (x := .int .i64 (hv S f i).1) (by omega) n8
        try simp only [Act.put, List.setIfInBounds_toArray, List.set_cons_zero, List.set_cons_succ]
        refine wpAnyH_ready (rs := [13]) (by kernel_rfl) (by simp) ?_
        refine AllReadyH.cons (o := _) rfl (fun _ hK => ?_) AllReadyH.nil
        obtain ⟨y0, yf⟩ := nowz1 n8 rfl
        go_simp
        clear y0 yf
        refine hK.out _ _ (hHeld.setCell (by omega) _) (fun hHeld => ?_)
        clear hK
        replace n7 := putFar (b := b8) (x := .int .i64 (hv S f i).2) (by omega) n7
        replace n8 := put1z (x := .int .i64 (hv S f i).2) n8
        try simp only [Act.put, List.setIfInBounds_toArray, List.set_cons_zero, List.set_cons_succ]
        refine wpAnyH_done (by kernel_rfl) ?_ _
        go_wp2_with fail
        go_meet
        exact ⟨b7, b8, rfl, rfl, n7, n8, hHeld⟩
      refine AllReadyH.cons (o := _) rfl (fun _ hK => ?_) AllReadyH.nil
      go_simp
      have hal := zalloc hHeld (.cells #[.int .i64 0] 3 (0, 0))
      have n8 := heap_alloc_new X1 (.cells #[.int .i64 0] 3 (0, 0))
      have l8 := hHeld.size
      have d78 := size_of_block n7
      replace n7 := keep_alloc (x := .cells #[.int .i64 0] 3 (0, 0)) n7
      generalize X1.heap.size = b8 at *
      generalize X1.alloc (.cells #[.int .i64 0] 3 (0, 0)) = X2 at *
      refine hK.out _ _ hal (fun hHeld => ?_)
      clear hK
      try simp only [Act.put, List.setIfInBounds_toArray, List.set_cons_zero, List.set_cons_succ]
      refine wpAnyH_ready (rs := [6]) (by kernel_rfl) (by simp) ?_
      refine AllReadyH.cons (o := _) rfl (fun _ hK => ?_) AllReadyH.nil
      go_simp
      refine (HV X2 hHeld).mono ?_
      rintro e X3 ⟨rfl, hbr, hcr⟩
      replace n7 := keep_blk hcr n7
      replace n8 := keep_blk hcr n8
      try go_simp
      refine hK.out _ _ hbr (fun hHeld => ?_)
      clear hK
      try simp only [Act.put, List.setIfInBounds_toArray, List.set_cons_zero, List.set_cons_succ]
      refine wpAnyH_take (i := 7) (oi := _) (v := ?_) rfl (by kernel_rfl) (by kernel_rfl) (by kernel_rfl) (fun _ _ _ h => h) (Or.inl ⟨by rfl, ?_⟩) (by assumption) ?_
      rotate_left 1
      · intro w_ hSw
        go_simp
        try with_reducible rfl
      try simp only [Act.put, List.setIfInBounds_toArray]
      refine wpAnyH_take (i := 8) (oi := _) (v := ?_) rfl (by kernel_rfl) (by kernel_rfl) (by kernel_rfl) (fun _ _ _ h => h) (Or.inl ⟨by rfl, ?_⟩) (by assumption) ?_
      rotate_left 1
      · intro w_ hSw
        go_simp
        try with_reducible rfl
      try simp only [Act.put]
      refine wpAnyH_take (i := 9) (oi := _) (v := ?_) rfl (by kernel_rfl) (by kernel_rfl) (by kernel_rfl) (fun _ _ _ h => h) (Or.inl ⟨by rfl, ?_⟩) (by assumption) ?_
      rotate_left 1
      · intro w_ hSw
        go_simp
        try with_reducible rfl
      try simp only [Act.put]
      refine wpAnyH_ready (rs := [12]) (by kernel_rfl) (by simp) ?_
      refine AllReadyH.cons (o := _) rfl (fun _ hK => ?_) AllReadyH.nil
      obtain ⟨y0, yf⟩ := nowz1 n7 rfl
      go_simp
      clear y0 yf
      refine hK.out _ _ (hHeld.setCell (by omega) _) (fun hHeld => ?_)
      clear hK
      replace n7 := put1z (x := .int .i64 (hv S f i).1) n7
      replace n8 := putFar (b := b7) (x := .int .i64 (hv S f i).1) (by omega) n8
      try simp only [Act.put, List.setIfInBounds_toArray, List.set_cons_zero, List.set_cons_succ]
      refine wpAnyH_ready (rs := [13]) (by kernel_rfl) (by simp) ?_
      refine AllReadyH.cons (o := _) rfl (fun _ hK => ?_) AllReadyH.nil
      obtain ⟨y0, yf⟩ := nowz1 n8 rfl
      go_simp
      clear y0 yf
      refine hK.out _ _ (hHeld.setCell (by omega) _) (fun hHeld => ?_)
      clear hK
      replace n7 := putFar (b := b8) (x := .int .i64 (hv S f i).2) (by omega) n7
      replace n8 := put1z (x := .int .i64 (hv S f i).2) n8
      try simp only [Act.put, List.setIfInBounds_toArray, List.set_cons_zero, List.set_cons_succ]
      refine wpAnyH_done (by kernel_rfl) ?_ _
      go_wp2_with fail
      go_meet
      exact ⟨b7, b8, rfl, rfl, n7, n8, hHeld⟩
    refine AllReadyH.cons (o := _) rfl (fun _ hK => ?_) AllReadyH.nil
    go_simp
    have hal := zalloc hHeld (.cells #[.int .i64 0] 3 (0, 0))
    have n8 := heap_alloc_new X0 (.cells #[.int .i64 0] 3 (0, 0))
    have l8 := hHeld.size
    generalize X0.heap.size = b8 at *
    generalize X0.alloc (.cells #[.int .i64 0] 3 (0, 0)) = X1 at *
    refine hK.out _ _ hal (fun hHeld => ?_)
    clear hK
    try simp only [Act.put, List.setIfInBounds_toArray, List.set_cons_zero, List.set_cons_succ]
    refine wpAnyH_ready (rs := [6, 10]) (by kernel_rfl) (by simp) ?_
    refine AllReadyH.cons (o := _) rfl (fun _ hK => ?_) ?_
    · go_simp
      refine (HV X1 hHeld).mono ?_
      rintro e X2 ⟨rfl, hbr, hcr⟩
      replace n8 := keep_blk hcr n8
      try go_simp
      refine hK.out _ _ hbr (fun hHeld => ?_)
      clear hK
      try simp only [Act.put, List.setIfInBounds_toArray, List.set_cons_zero, List.set_cons_succ]
      refine wpAnyH_take (i := 7) (oi := _) (v := ?_) rfl (by kernel_rfl) (by kernel_rfl) (by kernel_rfl) (fun _ _ _ h => h) (Or.inl ⟨by rfl, ?_⟩) (by assumption) ?_
      rotate_left 1
      · intro w_ hSw
        go_simp
        try with_reducible rfl
      try simp only [Act.put, List.setIfInBounds_toArray]
      refine wpAnyH_take (i := 8) (oi := _) (v := ?_) rfl (by kernel_rfl) (by kernel_rfl) (by kernel_rfl) (fun _ _ _ h => h) (Or.inl ⟨by rfl, ?_⟩) (by assumption) ?_
      rotate_left 1
      · intro w_ hSw
        go_simp
        try with_reducible rfl
      try simp only [Act.put]
      refine wpAnyH_take (i := 9) (oi := _) (v := ?_) rfl (by kernel_rfl) (by kernel_rfl) (by kernel_rfl) (fun _ _ _ h => h) (Or.inl ⟨by rfl, ?_⟩) (by assumption) ?_
      rotate_left 1
      · intro w_ hSw
        go_simp
        try with_reducible rfl
      try simp only [Act.put]
      refine wpAnyH_ready (rs := [10]) (by kernel_rfl) (by simp) ?_
      refine AllReadyH.cons (o := _) rfl (fun _ hK => ?_) AllReadyH.nil
      go_simp
      have hal := zalloc hHeld (.cells #[.int .i64 0] 3 (0, 0))
      have n7 := heap_alloc_new X2 (.cells #[.int .i64 0] 3 (0, 0))
      have l7 := hHeld.size
      have d87 := size_of_block n8
      replace n8 := keep_alloc (x := .cells #[.int .i64 0] 3 (0, 0)) n8
      generalize X2.heap.size = b7 at *
      generalize X2.alloc (.cells #[.int .i64 0] 3 (0, 0)) = X3 at *
      refine hK.out _ _ hal (fun hHeld => ?_)
      clear hK
      try simp only [Act.put, List.setIfInBounds_toArray, List.set_cons_zero, List.set_cons_succ]
      refine wpAnyH_ready (rs := [12]) (by kernel_rfl) (by simp) ?_
      refine AllReadyH.cons (o := _) rfl (fun _ hK => ?_) AllReadyH.nil
      obtain ⟨y0, yf⟩ := nowz1 n7 rfl
      go_simp
      clear y0 yf
      refine hK.out _ _ (hHeld.setCell (by omega) _) (fun hHeld => ?_)
      clear hK
      replace n8 := putFar (b := b7) (x := .int .i64 (hv S f i).1) (by omega) n8
      replace n7 := put1z (x := .int .i64 (hv S f i).1) n7
      try simp only [Act.put, List.setIfInBounds_toArray, List.set_cons_zero, List.set_cons_succ]
      refine wpAnyH_ready (rs := [13]) (by kernel_rfl) (by simp) ?_
      refine AllReadyH.cons (o := _) rfl (fun _ hK => ?_) AllReadyH.nil
      obtain ⟨y0, yf⟩ := nowz1 n8 rfl
      go_simp
      clear y0 yf
      refine hK.out _ _ (hHeld.setCell (by omega) _) (fun hHeld => ?_)
      clear hK
      replace n8 := put1z (x := .int .i64 (hv S f i).2) n8
      replace n7 := putFar (b := b8) (x := .int .i64 (hv S f i).2) (by omega) n7
      try simp only [Act.put, List.setIfInBounds_toArray, List.set_cons_zero, List.set_cons_succ]
      refine wpAnyH_done (by kernel_rfl) ?_ _
      go_wp2_with fail
      go_meet
      exact ⟨b7, b8, rfl, rfl, n7, n8, hHeld⟩
    refine AllReadyH.cons (o := _) rfl (fun _ hK => ?_) AllReadyH.nil
    go_simp
    have hal := zalloc hHeld (.cells #[.int .i64 0] 3 (0, 0))
    have n7 := heap_alloc_new X1 (.cells #[.int .i64 0] 3 (0, 0))
    have l7 := hHeld.size
    have d87 := size_of_block n8
    replace n8 := keep_alloc (x := .cells #[.int .i64 0] 3 (0, 0)) n8
    generalize X1.heap.size = b7 at *
    generalize X1.alloc (.cells #[.int .i64 0] 3 (0, 0)) = X2 at *
    refine hK.out _ _ hal (fun hHeld => ?_)
    clear hK
    try simp only [Act.put, List.setIfInBounds_toArray, List.set_cons_zero, List.set_cons_succ]
    refine wpAnyH_ready (rs := [6]) (by kernel_rfl) (by simp) ?_
    refine AllReadyH.cons (o := _) rfl (fun _ hK => ?_) AllReadyH.nil
    go_simp
    refine (HV X2 hHeld).mono ?_
    rintro e X3 ⟨rfl, hbr, hcr⟩
    replace n8 := keep_blk hcr n8
    replace n7 := keep_blk hcr n7
    try go_simp
    refine hK.out _ _ hbr (fun hHeld => ?_)
    clear hK
    try simp only [Act.put, List.setIfInBounds_toArray, List.set_cons_zero, List.set_cons_succ]
    refine wpAnyH_take (i := 7) (oi := _) (v := ?_) rfl (by kernel_rfl) (by kernel_rfl) (by kernel_rfl) (fun _ _ _ h => h) (Or.inl ⟨by rfl, ?_⟩) (by assumption) ?_
    rotate_left 1
    · intro w_ hSw
      go_simp
      try with_reducible rfl
    try simp only [Act.put, List.setIfInBounds_toArray]
    refine wpAnyH_take (i := 8) (oi := _) (v := ?_) rfl (by kernel_rfl) (by kernel_rfl) (by kernel_rfl) (fun _ _ _ h => h) (Or.inl ⟨by rfl, ?_⟩) (by assumption) ?_
    rotate_left 1
    · intro w_ hSw
      go_simp
      try with_reducible rfl
    try simp only [Act.put]
    refine wpAnyH_take (i := 9) (oi := _) (v := ?_) rfl (by kernel_rfl) (by kernel_rfl) (by kernel_rfl) (fun _ _ _ h => h) (Or.inl ⟨by rfl, ?_⟩) (by assumption) ?_
    rotate_left 1
    · intro w_ hSw
      go_simp
      try with_reducible rfl
    try simp only [Act.put]
    refine wpAnyH_ready (rs := [12]) (by kernel_rfl) (by simp) ?_
    refine AllReadyH.cons (o := _) rfl (fun _ hK => ?_) AllReadyH.nil
    obtain ⟨y0, yf⟩ := nowz1 n7 rfl
    go_simp
    clear y0 yf
    refine hK.out _ _ (hHeld.setCell (by omega) _) (fun hHeld => ?_)
    clear hK
    replace n8 := putFar (b := b7) (x := .int .i64 (hv S f i).1) (by omega) n8
    replace n7 := put1z (x := .int .i64 (hv S f i).1) n7
    try simp only [Act.put, List.setIfInBounds_toArray, List.set_cons_zero, List.set_cons_succ]
    refine wpAnyH_ready (rs := [13]) (by kernel_rfl) (by simp) ?_
    refine AllReadyH.cons (o := _) rfl (fun _ hK => ?_) AllReadyH.nil
    obtain ⟨y0, yf⟩ := nowz1 n8 rfl
    go_simp
    clear y0 yf
    refine hK.out _ _ (hHeld.setCell (by omega) _) (fun hHeld => ?_)
    clear hK
    replace n8 := put1z (x := .int .i64 (hv S f i).2) n8
    replace n7 := putFar (b := b8) (x := .int .i64 (hv S f i).2) (by omega) n7
    try simp only [Act.put, List.setIfInBounds_toArray, List.set_cons_zero, List.set_cons_succ]
    refine wpAnyH_done (by kernel_rfl) ?_ _
    go_wp2_with fail
    go_meet
    exact ⟨b7, b8, rfl, rfl, n7, n8, hHeld⟩
  case rest =>
    obtain ⟨b7, b8, rfl, rfl, n7, n8, hbc⟩ := hcut
    have hd3 := hd1.below hbc
    have hw3 := hw1.below hbc
    have hr3 := hr1.below hbc
    have hbx3 := hbx1.below hbc
    have hy3 := hy.trans (hbc.mono hy.size)
    clear HV w0 b0 e0 e1 hBs hd1 hw1 hr1 hbx1 hy hbc
    have hst := one_step (k := k) p6 hf1
    obtain ⟨h0, h1⟩ := famE_item (S0 := S0) hnm (x := g) (by omega) p4 p5
    have hcf2 : ∀ (args : Array Value) (w1 : World), (Sem.run Try.prog (callFunc 102 args) w1) = .ok (.enter 102 args) w1 := fun _ _ => by kernel_rfl
    have HBd := zbuild_any (C := no8) (M := MZ bm mm) (N := N) (w := wc) (zb := zb) (ab := ab) (bm := bm) (room := room) (S := S) (F := famE S0 S nm f g (k + 1)) (F0 := famE S0 S nm (hv S f i).1 g k) (F1 := famE S0 S nm (hv S f i).2 g k)
      (fun w' T => RemZ w' mm S0 T (c + k * zn S (hv S f i).1) ∧ VSt T) (fun w' T => RemZ w' mm S0 T (c + ((k + 1) * zn S f - 1)) ∧ VSt T) (fun w' T => RemZ w' mm S0 T (c + ((k + 1) * zn S f - 1)) ∧ VSt T) 102 #[.pointer (some ⟨x + 1 + 1 + 1, 0, none⟩), .pointer (some ⟨b8, 0, none⟩), .pointer (some ⟨x + 1 + 1, 0, none⟩), .pointer (some ⟨b7, 0, none⟩)] hcf2
      (.inl rfl) i k (k * zn S (hv S f i).1) (k * zn S (hv S f i).2) hi f0 h0 h1
      ((zbelow11_any hcf hbx3.r n8 hbx3.g n7 false (IH hd3 hw3 hr3 hne hN (hv S f i).1 g p0 g0 g24 p2 (by omega) (by omega) (by omega))).mono fun e w' hm => hm.mono fun T id er ho => ⟨ho.1, ho.2, ho.1.zst.vst⟩)
      (fun w1 v1 full1 T a hd4 hk4 hO4 hr4 => by
        have hx := hO4.ext
        have hV := hd3.zst.vst
        have e1 := hx.lvl p1
        have e3 := hx.zn hV p1
        have e5 := hx.zf hV k _ (by omega) p1 p3
        have HI := IH hd4 (hw3.kz hk4 (fun h => h)) hr4.1 hne hN (hv S f i).2 g (by omega) g0 g24 (by omega) (by omega) (by omega) (by rw [e3]; omega)
        rw [e3, famE_same hnm e5] at HI
        refine (zbelow11_any hcf (hk4.cells _ _ _ _ hbx3.r (by decide) (by decide) (fun h => h)) (hk4.cells _ _ _ _ n8 (by decide) (by decide) (fun h => h)) (hk4.cells _ _ _ _ hbx3.g (by decide) (by decide) (fun h => h)) (hk4.cells _ _ _ _ n7 (by decide) (by decide) (fun h => h)) true HI).mono fun e w' hm => hm.mono fun U id er ho => ⟨ho.1, ho.2.more (by omega), ho.1.zst.vst⟩)
      (fun w' T hh => ⟨hh.1.more (by omega), hh.2⟩) (fun _ _ hh => hh)
      (fun w1 w2 U V hh hk hV hV' hx => ⟨(hh.1.kz hk (fun e => hne e)).ext hV hx, hV'⟩)
    have hK3 : Kz no8 (MZ bm mm) N w wc := Kz.of_below hy3
    obtain ⟨w0, -⟩ := nowz1 hbx3.a rfl
    obtain ⟨e0, e1, -⟩ := now2 hw3 rfl
    clear IH hcf hcf2 hd3 hr3 p0 p1 p2 p3 p4 p5 p6 n7 n8 hbx3 hw3 hy3 h0 h1
    go_wp2_with fail
    refine HBd.mono ?_
    rintro e w2 ⟨v2, full2, T, id, er, rfl, hd8, hk8, hO8, hr8⟩
    clear HBd
    go_wp2
    go_ret2
    exact ⟨v2, full2, T, id, er, rfl, hd8, hK3.trans hk8, hO8.more (by omega), hr8.1⟩
set_option maxHeartbeats 2000000 in
set_option maxRecDepth 100000 in
theorem zbelow_any {fr nm k : Nat} (hnm : nm = 3 ∨ nm = 4) (hcf : ∀ (args : Array Value) (w1 : World), (Sem.run Try.prog (callFunc fr args) w1) = .ok (.enter fr args) w1) (IH : ∀ j, j < k → OneOk fr nm j) {N : Nat → Prop} {w : World} {zb ab bm wk mm : Nat} {v : Value} {room full : Nat} {S0 S : St} {c : Nat} (hd : ZdAt w N zb ab bm v room full S) (hw : WkAt w wk zb mm) (hr : RemZ w mm S0 S c) (hne : mm ≠ bm) (hN : ¬ N mm)
    (x f g : Int) (hx : x = (nm : Int)) (f0 : 0 ≤ lvl S f) (g0 : 0 ≤ g) (g24 : g < 24) (hfg : lvl S f < g) (fk : 24 ≤ lvl S f + k) (hk : k ≤ 24) (hc : c + k * zn S f ≤ 1000000) :
    Calls Try.prog 71 #[.pointer (some ⟨wk, 0, none⟩), .int .i64 x, .int .i64 f, .int .i64 g, .func (.func fr) #[.pointer (some ⟨wk, 0, none⟩)] #[]] w
      (MadeZ no8 (MZ bm mm) N w zb ab bm room fun w' T id er => OutZ k room S (famE S0 S nm f g k) (k * zn S f) T id er ∧ RemZ w' mm S0 T (c + k * zn S f)) := by
  subst hx
  have hV := hd.zst.vst
  have hf1 : f ≠ 0 := fun e => by rw [e, lvl_end (.inl rfl)] at hfg; omega
  obtain ⟨j, hj⟩ : ∃ j : Nat, lvl S f + (j + 1 : Nat) = 24 := ⟨(23 - lvl S f).toNat, by omega⟩
  have hjk : j + 1 ≤ k := by omega
  have z1 := zn_pos hd.zst f0 hf1
  have hjm : (j + 1) * zn S f ≤ k * zn S f := Nat.mul_le_mul_right _ hjk
  have hpos : 1 ≤ (j + 1) * zn S f := by
    have h2 := Nat.mul_le_mul (Nat.succ_le_succ (Nat.zero_le j)) z1
    omega
  have hA : ArgE S0 S nm f g := ⟨fun _ => f0, fun _ h3 h4 => by omega, fun _ => hfg⟩
  have hbase : baseE S0 S nm f g = lvl S f := by unfold baseE; rw [if_pos (by omega)]
  have hB4 := below_alloc4 w (.cells #[.pointer (some ⟨wk, 0, none⟩)] 59 (0, 0)) (.cells #[.int .i64 f] 3 (0, 0)) (.cells #[.int .i64 g] 3 (0, 0)) (.cells #[.func (.func fr) #[.pointer (some ⟨wk, 0, none⟩)] #[]] 65 (0, 0))
  have hbx := ABox.new w wk f g (.func (.func fr) #[.pointer (some ⟨wk, 0, none⟩)] #[])
  have hcf2 : ∀ (args : Array Value) (w1 : World), (Sem.run Try.prog (callFunc 101 args) w1) = .ok (.enter 101 args) w1 := fun _ _ => by kernel_rfl
  have hd4 := hd.below hB4
  have hw4 := hw.below hB4
  have hr4 := hr.below hB4
  go_enter Try.func71, Try.ntmps71
  go_upto_region 1 with (fail)
  generalize (((w.alloc (.cells #[.pointer (some ⟨wk, 0, none⟩)] 59 (0, 0))).alloc (.cells #[.int .i64 f] 3 (0, 0))).alloc (.cells #[.int .i64 g] 3 (0, 0))).alloc (.cells #[.func (.func fr) #[.pointer (some ⟨wk, 0, none⟩)] #[]] 65 (0, 0)) = W at *
  have HR := zrecall_any (F := famE S0 S nm f g (j + 1)) hd4 hw4 hr4 hne (.inr rfl) hN nm nm f g rfl ⟨wf_name nm (by omega), wf_idz hd.max f0, WalkArith.wf_i64 (n := g) (by omega)⟩ 101 #[.pointer (some ⟨w.heap.size, 0, none⟩), .pointer (some ⟨w.heap.size + 1, 0, none⟩), .pointer (some ⟨w.heap.size + 1 + 1 + 1, 0, none⟩), .pointer (some ⟨w.heap.size + 1 + 1, 0, none⟩)] hcf2
    (j + 1) ((j + 1) * zn S f) ((j + 1) * zn S f - 1)
    (fun r he => he.out hd.zst (by omega) (by rw [hbase]; omega) room _)
    (fun y => zbelow1_any hnm hcf (IH j (by omega)) (hd4.below y.2) (hw4.below y.2) (hr4.below y.2) hne hN f g (hbx.below y.2) f0 g0 g24 hfg hj (by omega) z1)
    (fun T id ho => OutZ.remember hV hA (by rw [hbase]; omega) ho) (by omega)
  obtain ⟨w0, -⟩ := nowz1 hbx.a rfl
  obtain ⟨f1, -⟩ := nowz1 hbx.f rfl
  obtain ⟨g1, -⟩ := nowz1 hbx.g rfl
  have hK4 : Kz no8 (MZ bm mm) N w W := Kz.of_below hB4
  have hraise : ∀ T id er, OutZ (j + 1) room S (famE S0 S nm f g (j + 1)) ((j + 1) * zn S f) T id er → Hid (OutZ k room S (famE S0 S nm f g k) (k * zn S f) T id er) := fun T id er ho => Lib.hid (by
    obtain ⟨d, rfl⟩ : ∃ d, k = (j + 1) + d := ⟨k - (j + 1), by omega⟩
    exact (OutZ.raise hA (by rw [hbase]; omega) d ho).more hjm)
  clear hA hbase hbx hd4 hw4 hr4 hcf hcf2 IH hd hw hr hj z1 hB4
  go_wp2_with fail
  refine HR.mono ?_
  rintro e w2 ⟨v2, full2, T, id, er, rfl, hd8, hk8, hO8, hr8⟩
  have hO := hraise _ _ _ hO8
  clear HR hraise hO8
  go_wp2
  go_ret2
  exact ⟨v2, full2, T, id, er, rfl, hd8, hK4.trans hk8, hO.out, hr8.more (by omega)⟩
set_option maxHeartbeats 1000000 in
theorem zwith_any (k : Nat) : OneOk 47 3 k := by
  induction k using Nat.strongRecOn with
  | _ k IH =>
    intro N w zb ab bm wk mm v room full S0 S c hd hw hr hne hN f x f0 x0 x24 fk xk hk hc
    have hcf : ∀ (args : Array Value) (w1 : World), (Sem.run Try.prog (callFunc 47 args) w1) = .ok (.enter 47 args) w1 := fun _ _ => by kernel_rfl
    have HL := zlevel_any hd f f0
    obtain ⟨e0, e1, -⟩ := now2 hw rfl
    by_cases hlx : x ≤ lvl S f
    · obtain ⟨j, hj⟩ : ∃ j : Nat, x + (j + 1 : Nat) = 24 := ⟨(23 - x).toNat, by omega⟩
      obtain ⟨r0, r1, r2⟩ := famE_half_item (S0 := S0) hd.zst (.inl rfl) f0 x0 hlx hj (r := (hv S f x).2) (by simp)
      obtain ⟨d, rfl⟩ : ∃ d, k = j + 1 + d := ⟨k - (j + 1), by omega⟩
      have hO := fun T => fun hT : T = S => Lib.hid (hT ▸ OutZ.stay (room := room) hd.zst r0 (show 24 ≤ lvl S ((hv S f x).2) + ((j + 1 + d : Nat) : Int) by omega) (r2 d) ((j + 1 + d) * zn S f) : OutZ (j + 1 + d) room S (famE S0 S 3 f x (j + 1 + d)) ((j + 1 + d) * zn S f) T ((hv S f x).2) 0)
      have hOS := hO S rfl
      have hw1 := fun w1 (hb : Below w.heap.size w w1) => now2 (hw.below hb) rfl
      have hdb := fun w1 (hb : Below w.heap.size w w1) => hd.below hb
      have HV := fun w1 (hb : Below w.heap.size w w1) => zhalves_any (hd.below hb) f x
      have hrb := fun w1 (hb : Below w.heap.size w w1) => Lib.hid ((hr.below hb).more (C' := c + (j + 1 + d) * zn S f) (Nat.le_add_right _ _))
      clear IH hcf r2 hO hc hj
      go_enter Try.func47, Try.ntmps47
      go_wp2_with fail
      refine HL.mono ?_
      rintro e w1 ⟨rfl, hb1⟩
      obtain ⟨d0, d1, -⟩ := hw1 w1 hb1
      have HV1 := HV w1 hb1
      clear HL HV e0 e1 hw1
      go_wp2_with fail
      refine HV1.mono ?_
      rintro e w2 ⟨rfl, hb2⟩
      clear HV1
      go_wp2
      go_ret2
      exact ⟨v, full, S, _, 0, rfl, hdb _ (hb1.trans (hb2.mono hb1.size)), Kz.of_below (hb1.trans (hb2.mono hb1.size)), hOS.out, (hrb _ (hb1.trans (hb2.mono hb1.size))).out⟩
    · have hlt : lvl S f < x := by omega
      have HA := fun w1 (hb : Below w.heap.size w w1) => zbelow_any (nm := 3) (x := 3) (.inl rfl) hcf IH (hd.below hb) (hw.below hb) (hr.below hb) hne hN f x rfl f0 x0 x24 hlt fk hk hc
      clear IH hcf hc hd hr hw
      go_enter Try.func47, Try.ntmps47
      go_wp2_with fail
      refine HL.mono ?_
      rintro e w1 ⟨rfl, hb1⟩
      have HA1 := HA w1 hb1
      have hK1 : Kz no8 (MZ bm mm) N w w1 := Kz.of_below hb1
      clear HL HA e0 e1
      go_wp2_with fail
      refine HA1.mono ?_
      rintro e w2 ⟨v2, full2, T, id, er, rfl, hd8, hk8, hO8, hr8⟩
      clear HA1
      go_wp2
      go_ret2
      exact ⟨v2, full2, T, id, er, rfl, hd8, hK1.trans hk8, hO8, hr8⟩
set_option maxHeartbeats 1000000 in
theorem zwithout_any (k : Nat) : OneOk 48 4 k := by
  induction k using Nat.strongRecOn with
  | _ k IH =>
    intro N w zb ab bm wk mm v room full S0 S c hd hw hr hne hN f x f0 x0 x24 fk xk hk hc
    have hcf : ∀ (args : Array Value) (w1 : World), (Sem.run Try.prog (callFunc 48 args) w1) = .ok (.enter 48 args) w1 := fun _ _ => by kernel_rfl
    have HL := zlevel_any hd f f0
    obtain ⟨e0, e1, -⟩ := now2 hw rfl
    by_cases hlx : x ≤ lvl S f
    · obtain ⟨j, hj⟩ : ∃ j : Nat, x + (j + 1 : Nat) = 24 := ⟨(23 - x).toNat, by omega⟩
      obtain ⟨r0, r1, r2⟩ := famE_half_item (S0 := S0) hd.zst (.inr rfl) f0 x0 hlx hj (r := (hv S f x).1) (by simp)
      obtain ⟨d, rfl⟩ : ∃ d, k = j + 1 + d := ⟨k - (j + 1), by omega⟩
      have hO := fun T => fun hT : T = S => Lib.hid (hT ▸ OutZ.stay (room := room) hd.zst r0 (show 24 ≤ lvl S ((hv S f x).1) + ((j + 1 + d : Nat) : Int) by omega) (r2 d) ((j + 1 + d) * zn S f) : OutZ (j + 1 + d) room S (famE S0 S 4 f x (j + 1 + d)) ((j + 1 + d) * zn S f) T ((hv S f x).1) 0)
      have hOS := hO S rfl
      have hw1 := fun w1 (hb : Below w.heap.size w w1) => now2 (hw.below hb) rfl
      have hdb := fun w1 (hb : Below w.heap.size w w1) => hd.below hb
      have HV := fun w1 (hb : Below w.heap.size w w1) => zhalves_any (hd.below hb) f x
      have hrb := fun w1 (hb : Below w.heap.size w w1) => Lib.hid ((hr.below hb).more (C' := c + (j + 1 + d) * zn S f) (Nat.le_add_right _ _))
      clear IH hcf r2 hO hc hj
      go_enter Try.func48, Try.ntmps48
      go_wp2_with fail
      refine HL.mono ?_
      rintro e w1 ⟨rfl, hb1⟩
      obtain ⟨d0, d1, -⟩ := hw1 w1 hb1
      have HV1 := HV w1 hb1
      clear HL HV e0 e1 hw1
      go_wp2_with fail
      refine HV1.mono ?_
      rintro e w2 ⟨rfl, hb2⟩
      clear HV1
      go_wp2
      go_ret2
      exact ⟨v, full, S, _, 0, rfl, hdb _ (hb1.trans (hb2.mono hb1.size)), Kz.of_below (hb1.trans (hb2.mono hb1.size)), hOS.out, (hrb _ (hb1.trans (hb2.mono hb1.size))).out⟩
    · have hlt : lvl S f < x := by omega
      have HA := fun w1 (hb : Below w.heap.size w w1) => zbelow_any (nm := 4) (x := 4) (.inr rfl) hcf IH (hd.below hb) (hw.below hb) (hr.below hb) hne hN f x rfl f0 x0 x24 hlt fk hk hc
      clear IH hcf hc hd hr hw
      go_enter Try.func48, Try.ntmps48
      go_wp2_with fail
      refine HL.mono ?_
      rintro e w1 ⟨rfl, hb1⟩
      have HA1 := HA w1 hb1
      have hK1 : Kz no8 (MZ bm mm) N w w1 := Kz.of_below hb1
      clear HL HA e0 e1
      go_wp2_with fail
      refine HA1.mono ?_
      rintro e w2 ⟨v2, full2, T, id, er, rfl, hd8, hk8, hO8, hr8⟩
      clear HA1
      go_wp2
      go_ret2
      exact ⟨v2, full2, T, id, er, rfl, hd8, hK1.trans hk8, hO8, hr8⟩
end Go.Proofs.Ytkkdfpmjmommcaa
