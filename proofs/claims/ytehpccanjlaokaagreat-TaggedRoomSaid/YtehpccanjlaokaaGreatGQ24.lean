/- Two families by halves: union, meet, less. -/
import Derived.Test.YtehpccanjlaokaaGreatGQ23
namespace Go.Proofs.YtehpccanjlaokaaGreat
open Go.RowKit Go.Joins

structure ABox (w : World) (x wk : Nat) (f g : Int) (rv : Value) : Prop where
  a : w.heap[x]? = some (.cells #[.pointer (some ⟨wk, 0, none⟩)] 164 (0, 0))
  f : w.heap[x + 1]? = some (.cells #[.int .i64 f] 3 (0, 0))
  g : w.heap[x + 1 + 1]? = some (.cells #[.int .i64 g] 3 (0, 0))
  r : w.heap[x + 1 + 1 + 1]? = some (.cells #[rv] 166 (0, 0))
theorem ABox.below {w w' : World} {x wk : Nat} {f g : Int} {rv : Value} (k : ABox w x wk f g rv) (h : Below w.heap.size w w') : ABox w' x wk f g rv := ⟨keep_blk h k.a, keep_blk h k.f, keep_blk h k.g, keep_blk h k.r⟩
theorem ABox.kz {M N : Nat → Prop} {w w' : World} {x wk : Nat} {f g : Int} {rv : Value} (k : ABox w x wk f g rv) (h : Kz no8 M N w w') : ABox w' x wk f g rv :=
  ⟨h.cells _ _ _ _ k.a (by decide) (by decide) (fun h => h), h.cells _ _ _ _ k.f (by decide) (by decide) (fun h => h), h.cells _ _ _ _ k.g (by decide) (by decide) (fun h => h), h.cells _ _ _ _ k.r (by decide) (by decide) (fun h => h)⟩
theorem ABox.new (w : World) (wk : Nat) (f g : Int) (rv : Value) :
    ABox ((((w.alloc (.cells #[.pointer (some ⟨wk, 0, none⟩)] 164 (0, 0))).alloc (.cells #[.int .i64 f] 3 (0, 0))).alloc (.cells #[.int .i64 g] 3 (0, 0))).alloc (.cells #[rv] 166 (0, 0))) w.heap.size wk f g rv := by
  refine ⟨keep_alloc (heap_alloc3_a _ _ _ _), keep_alloc (heap_alloc3_b _ _ _ _), keep_alloc ?_, ?_⟩
  · exact heap_alloc3_c _ _ _ _
  · have e : w.heap.size + 1 + 1 + 1 = (((w.alloc (.cells #[.pointer (some ⟨wk, 0, none⟩)] 164 (0, 0))).alloc (.cells #[.int .i64 f] 3 (0, 0))).alloc (.cells #[.int .i64 g] 3 (0, 0))).heap.size := by simp
    rw [e]; exact heap_alloc_new _ _
theorem minZ (a b : Int) : (if b < a then b else a) = min a b := by
  rw [Int.min_def]
  split <;> split <;> omega
theorem put1z {w : World} {b : Nat} {T : TypeId} {x y : Value} (h : w.heap[b]? = some (.cells #[y] T (0, 0))) : (w.setCell ⟨b, 0, none⟩ x).heap[b]? = some (.cells #[x] T (0, 0)) := by
  rw [block_setCell h x]; rfl
theorem zalloc {a w : World} (h : Below a.heap.size a w) (o : Obj) : Below a.heap.size a (w.alloc o) := h.alloc h.size o
theorem putFar {w : World} {b c : Nat} {x : Value} {o : Option Obj} (hne : c ≠ b) (h : w.heap[c]? = o) : (w.setCell ⟨b, 0, none⟩ x).heap[c]? = o := (Below.heap_setCell _ _ _ _ hne).trans h
/-- What two families by one of the three rules come to. -/
def Op2Ok (fr nm : Nat) (k : Nat) : Prop := ∀ {N : Nat → Prop} {w : World} {zb ab bm wk mm : Nat} {v : Value} {room full : Nat} {S0 S : St} {c : Nat}, ZdAt w N zb ab bm v room full S → WkAt w wk zb mm → RemZ w mm S0 S c → mm ≠ bm → ¬ N mm →
  ∀ (f g : Int), 0 ≤ lvl S f → 0 ≤ lvl S g → 24 ≤ lvl S f + k → 24 ≤ lvl S g + k → k ≤ 24 → c + k * min (zn S f) (zn S g) ≤ 1000000 →
  Calls Tryz.prog fr #[.pointer (some ⟨wk, 0, none⟩), .int .i64 f, .int .i64 g] w
    (MadeZ no8 (MZ bm mm) N w zb ab bm room fun w' T id er => OutZ k room S (op2F nm (zf S k f) (zf S k g)) (tB k (op2F nm (zf S k f) (zf S k g)) (k * min (zn S f) (zn S g))) T id er ∧ RemZ w' mm S0 T (c + k * min (zn S f) (zn S g)))
theorem min_step {k f f0 f1 g g0 g1 : Nat} (hf : f = f0 + f1) (hg : g = g0 + g1) (f1' : 1 ≤ f) (g1' : 1 ≤ g) : k * min f0 g0 + k * min f1 g1 + 1 ≤ (k + 1) * min f g := by
  have h : min f0 g0 + min f1 g1 ≤ min f g := by omega
  have h3 := Nat.mul_le_mul_left k h
  rw [Nat.mul_add] at h3
  rw [Nat.add_mul, Nat.one_mul]
  omega
/-- The halves' closure. -/
theorem zapart11_any {fr : Nat} (hcf : ∀ (args : Array Value) (w1 : World), (Sem.run Tryz.prog (callFunc fr args) w1) = .ok (.enter fr args) w1) {C M N : Nat → Prop} {w : World} {zb ab bm room wk rb p8 p10 p7 p9 : Nat} {f0 f1 g0 g1 : Int} {P : World → St → Int → Int → Prop} (hr : w.heap[rb]? = some (.cells #[.func (.func fr) #[.pointer (some ⟨wk, 0, none⟩)] #[]] 166 (0, 0)))
    (h8 : w.heap[p8]? = some (.cells #[.int .i64 f1] 3 (0, 0))) (h10 : w.heap[p10]? = some (.cells #[.int .i64 g1] 3 (0, 0))) (h7 : w.heap[p7]? = some (.cells #[.int .i64 f0] 3 (0, 0))) (h9 : w.heap[p9]? = some (.cells #[.int .i64 g0] 3 (0, 0))) (has : Bool)
    (H : Calls Tryz.prog fr #[.pointer (some ⟨wk, 0, none⟩), .int .i64 (if has then f1 else f0), .int .i64 (if has then g1 else g0)] w (MadeZ C M N w zb ab bm room P)) :
    Calls Tryz.prog 166 (#[.bool has] ++ #[.pointer (some ⟨rb, 0, none⟩), .pointer (some ⟨p8, 0, none⟩), .pointer (some ⟨p10, 0, none⟩), .pointer (some ⟨p7, 0, none⟩), .pointer (some ⟨p9, 0, none⟩)]) w (MadeZ C M N w zb ab bm room P) := by
  obtain ⟨r0, -⟩ := nowz1 hr rfl
  obtain ⟨a8, -⟩ := nowz1 h8 rfl
  obtain ⟨a10, -⟩ := nowz1 h10 rfl
  obtain ⟨a7, -⟩ := nowz1 h7 rfl
  obtain ⟨a9, -⟩ := nowz1 h9 rfl
  clear hr h8 h10 h7 h9
  show Calls Tryz.prog _ #[.bool has, .pointer (some ⟨rb, 0, none⟩), .pointer (some ⟨p8, 0, none⟩), .pointer (some ⟨p10, 0, none⟩), .pointer (some ⟨p7, 0, none⟩), .pointer (some ⟨p9, 0, none⟩)] w _
  cases has
  · simp only [Bool.false_eq_true, if_false] at H
    go_enter Tryz.func166, Tryz.ntmps166
    go_wp2_with fail
    refine H.mono ?_
    rintro e w2 ⟨v2, full2, T, id, er, rfl, hd8, hk8, hP8⟩
    clear H
    go_wp2
    go_ret2
    exact ⟨v2, full2, T, id, er, rfl, hd8, hk8, hP8⟩
  · simp only [if_true] at H
    go_enter Tryz.func166, Tryz.ntmps166
    go_wp2_with fail
    refine H.mono ?_
    rintro e w2 ⟨v2, full2, T, id, er, rfl, hd8, hk8, hP8⟩
    clear H
    go_wp2
    go_ret2
    exact ⟨v2, full2, T, id, er, rfl, hd8, hk8, hP8⟩
set_option maxHeartbeats 4000000 in
set_option maxRecDepth 100000 in
theorem zapart1_any {fr nm k : Nat} (hcf : ∀ (args : Array Value) (w1 : World), (Sem.run Tryz.prog (callFunc fr args) w1) = .ok (.enter fr args) w1) (IH : Op2Ok fr nm k) {N : Nat → Prop} {w : World} {zb ab bm wk mm x : Nat} {v : Value} {room full : Nat} {S0 S : St} {c : Nat} (hd : ZdAt w N zb ab bm v room full S) (hw : WkAt w wk zb mm) (hr : RemZ w mm S0 S c) (hne : mm ≠ bm) (hN : ¬ N mm)
    (f g : Int) (hbx : ABox w x wk f g (.func (.func fr) #[.pointer (some ⟨wk, 0, none⟩)] #[])) (f0 : 0 ≤ lvl S f) (g0 : 0 ≤ lvl S g) (hi : min (lvl S f) (lvl S g) + (k + 1 : Nat) = 24) (hc : c + (k + 1) * min (zn S f) (zn S g) ≤ 1000000) (hf1 : 1 ≤ zn S f) (hg1 : 1 ≤ zn S g) :
    Calls Tryz.prog 165 #[.pointer (some ⟨x, 0, none⟩), .pointer (some ⟨x + 1, 0, none⟩), .pointer (some ⟨x + 1 + 1, 0, none⟩), .pointer (some ⟨x + 1 + 1 + 1, 0, none⟩)] w
      (MadeZ no8 (MZ bm mm) N w zb ab bm room fun w' T id er => OutZ (k + 1) room S (op2F nm (zf S (k + 1) f) (zf S (k + 1) g)) (tB (k + 1) (op2F nm (zf S (k + 1) f) (zf S (k + 1) g)) ((k + 1) * min (zn S f) (zn S g))) T id er ∧ RemZ w' mm S0 T (c + ((k + 1) * min (zn S f) (zn S g) - 1))) := by
  have HLf := fun y : After w => zlevel_any (hd.below y.2) f f0
  have HLg := fun y : After w => zlevel_any (hd.below y.2) g g0
  obtain ⟨w0, -⟩ := boxz1 hbx.a rfl
  obtain ⟨b0, -⟩ := boxz1 hbx.f rfl
  obtain ⟨c0, -⟩ := boxz1 hbx.g rfl
  obtain ⟨e0, e1, -⟩ := box2 hw rfl
  go_enter Tryz.func165, Tryz.ntmps165
  go_wp2
  refine wp_region_after (by kernel_rfl) (by kernel_rfl) ?_
  repeat (first | go_big_quiet_step (first | (go_at_call_of 150 (Value.int IntKind.i64 f); exact Calls.after_of (HLf _)) | (go_at_call_of 150 (Value.int IntKind.i64 g); exact Calls.after_of (HLg _))))
  refine wpQuiet_nil ?_
  intro y
  go_upto_region 2 with (fail)
  try rw [minZ]
  obtain ⟨W1, hy⟩ := y
  dsimp only at *
  have hd1 := hd.below hy
  have hw1 := hw.below hy
  have hr1 := hr.below hy
  have hbx1 := hbx.below hy
  have i0 : 0 ≤ min (lvl S f) (lvl S g) := by omega
  have il : min (lvl S f) (lvl S g) ≤ lvl S f := by omega
  have ir : min (lvl S f) (lvl S g) ≤ lvl S g := by omega
  obtain ⟨p0, p1, p2, p3, p4, p5, p6⟩ := hv_ok hd.zst f0 hi i0 il
  obtain ⟨q0, q1, q2, q3, q4, q5, q6⟩ := hv_ok hd.zst g0 hi i0 ir
  clear w0 b0 c0 e0 e1 hd hw hr hbx HLf HLg
  generalize min (lvl S f) (lvl S g) = i at *
  have HV : ∀ W : World, Below W1.heap.size W1 W → Calls Tryz.prog 151 #[.pointer (some ⟨zb, 0, none⟩), .int .i64 f, .int .i64 i] W fun e w' => e = .returned (.tuple #[.int .i64 (hv S f i).1, .int .i64 (hv S f i).2]) ∧ Below W1.heap.size W1 w' ∧ Below W.heap.size W w' := fun W hb =>
    (zhalves_any (hd1.below hb) f i).mono fun e w' ⟨he, hbw⟩ => ⟨he, hb.trans (hbw.mono hb.size), hbw⟩
  obtain ⟨w0, -⟩ := boxz1 hbx1.a rfl
  obtain ⟨b0, -⟩ := boxz1 hbx1.f rfl
  obtain ⟨e0, e1, -⟩ := box2 hw1 rfl
  have hBs := Below.refl W1.heap.size W1
  go_cut [7, 8] from 24 (fun s7 s8 wc => ∃ b7 b8 : Nat, s7 = .pointer (some ⟨b7, 0, none⟩) ∧ s8 = .pointer (some ⟨b8, 0, none⟩) ∧ wc.heap[b7]? = some (.cells #[.int .i64 (hv S f i).1] 3 (0, 0)) ∧ wc.heap[b8]? = some (.cells #[.int .i64 (hv S f i).2] 3 (0, 0)) ∧ Below W1.heap.size W1 wc)
  case first =>
    clear IH hd1 hr1 p0 p1 p2 p3 p4 p5 p6 q0 q1 q2 q3 q4 q5 q6 i0 il ir hi hbx1 hw1 hy
    refine wp_region_held_drew (S := fun W_ => Below W1.heap.size W1 W_) rfl hBs.drew (fun hHeld => ?_)
    obtain ⟨X0, hX0⟩ : ∃ X0, X0 = W1.drew := ⟨_, rfl⟩
    rw [← hX0] at hHeld ⊢
    clear hX0
    refine wpAnyH_take (i := 0) (oi := _) (v := ?_) rfl (by kernel_rfl) (by kernel_rfl) (by kernel_rfl) (fun _ _ _ h => h) (Or.inl ⟨by rfl, ?_⟩) (by assumption) ?_
    rotate_left 1
    · intro w_ hSw
      have q_w0 := w0 ⟨w_, hSw⟩
      dsimp only at q_w0
      go_simp
      try with_reducible rfl
    try simp only [Act.put, List.setIfInBounds_toArray]
    refine wpAnyH_take (i := 1) (oi := _) (v := ?_) rfl (by kernel_rfl) (by kernel_rfl) (by kernel_rfl) (fun _ _ _ h => h) (Or.inl ⟨by rfl, ?_⟩) (by assumption) ?_
    rotate_left 1
    · intro w_ hSw
      go_simp
      try with_reducible rfl
    try simp only [Act.put]
    refine wpAnyH_take (i := 2) (oi := _) (v := ?_) rfl (by kernel_rfl) (by kernel_rfl) (by kernel_rfl) (fun _ _ _ h => h) (Or.inl ⟨by rfl, ?_⟩) (by assumption) ?_
    rotate_left 1
    · intro w_ hSw
      go_simp
      try with_reducible rfl
    try simp only [Act.put]
    refine wpAnyH_take (i := 3) (oi := _) (v := ?_) rfl (by kernel_rfl) (by kernel_rfl) (by kernel_rfl) (fun _ _ _ h => h) (Or.inl ⟨by rfl, ?_⟩) (by assumption) ?_
    rotate_left 1
    · intro w_ hSw
      have q_e0 := e0 ⟨w_, hSw⟩
      dsimp only at q_e0
      go_simp
      try with_reducible rfl
    try simp only [Act.put]
    refine wpAnyH_take (i := 4) (oi := _) (v := ?_) rfl (by kernel_rfl) (by kernel_rfl) (by kernel_rfl) (fun _ _ _ h => h) (Or.inl ⟨by rfl, ?_⟩) (by assumption) ?_
    rotate_left 1
    · intro w_ hSw
      have q_b0 := b0 ⟨w_, hSw⟩
      dsimp only at q_b0
      go_simp
      try with_reducible rfl
    try simp only [Act.put]
    refine wpAnyH_take (i := 5) (oi := _) (v := ?_) rfl (by kernel_rfl) (by kernel_rfl) (by kernel_rfl) (fun _ _ _ h => h) (Or.inl ⟨by rfl, ?_⟩) (by assumption) ?_
    rotate_left 1
    · intro w_ hSw
      go_simp
      try with_reducible rfl
    try simp only [Act.put]
    refine wpAnyH_ready (rs := [6, 10, 11]) (by kernel_rfl) (by simp) ?_
    refine AllReadyH.cons (o := _) rfl (fun _ hK => ?_) ?_
    · go_simp
      refine (HV X0 hHeld).mono ?_
      rintro e X1 ⟨rfl, hbr, hcr⟩
      try go_simp
      refine hK.out _ _ hbr (fun hHeld => ?_)
      clear hK
      try simp only [Act.put, List.setIfInBounds_toArray, List.set_cons_zero, List.set_cons_succ]
      refine wpAnyH_take (i := 7) (oi := _) (v := ?_) rfl (by kernel_rfl) (by kernel_rfl) (by kernel_rfl) (fun _ _ _ h => h) (Or.inl ⟨by rfl, ?_⟩) (by assumption) ?_
      rotate_left 1
      · intro w_ hSw
        go_simp
        try with_reducible rfl
      try simp only [Act.put, List.setIfInBounds_toArray]
      refine wpAnyH_take (i := 8) (oi := _) (v := ?_) rfl (by kernel_rfl) (by kernel_rfl) (by kernel_rfl) (fun _ _ _ h => h) (Or.inl ⟨by rfl, ?_⟩) (by assumption) ?_
      rotate_left 1
      · intro w_ hSw
        go_simp
        try with_reducible rfl
      try simp only [Act.put]
      refine wpAnyH_take (i := 9) (oi := _) (v := ?_) rfl (by kernel_rfl) (by kernel_rfl) (by kernel_rfl) (fun _ _ _ h => h) (Or.inl ⟨by rfl, ?_⟩) (by assumption) ?_
      rotate_left 1
      · intro w_ hSw
        go_simp
        try with_reducible rfl
      try simp only [Act.put]
      refine wpAnyH_ready (rs := [10, 11]) (by kernel_rfl) (by simp) ?_
      refine AllReadyH.cons (o := _) rfl (fun _ hK => ?_) ?_
      · go_simp
        have hal := zalloc hHeld (.cells #[.int .i64 0] 3 (0, 0))
        have n7 := heap_alloc_new X1 (.cells #[.int .i64 0] 3 (0, 0))
        have l7 := hHeld.size
        generalize X1.heap.size = b7 at *
        generalize X1.alloc (.cells #[.int .i64 0] 3 (0, 0)) = X2 at *
        refine hK.out _ _ hal (fun hHeld => ?_)
        clear hK
        try simp only [Act.put, List.setIfInBounds_toArray, List.set_cons_zero, List.set_cons_succ]
        refine wpAnyH_ready (rs := [11]) (by kernel_rfl) (by simp) ?_
        refine AllReadyH.cons (o := _) rfl (fun _ hK => ?_) AllReadyH.nil
        go_simp
        have hal := zalloc hHeld (.cells #[.int .i64 0] 3 (0, 0))
        have n8 := heap_alloc_new X2 (.cells #[.int .i64 0] 3 (0, 0))
        have l8 := hHeld.size
        have d78 := size_of_block n7
        replace n7 := keep_alloc (x := .cells #[.int .i64 0] 3 (0, 0)) n7
        generalize X2.heap.size = b8 at *
        generalize X2.alloc (.cells #[.int .i64 0] 3 (0, 0)) = X3 at *
        refine hK.out _ _ hal (fun hHeld => ?_)
        clear hK
        try simp only [Act.put, List.setIfInBounds_toArray, List.set_cons_zero, List.set_cons_succ]
        refine wpAnyH_ready (rs := [12]) (by kernel_rfl) (by simp) ?_
        refine AllReadyH.cons (o := _) rfl (fun _ hK => ?_) AllReadyH.nil
        obtain ⟨y0, yf⟩ := nowz1 n7 rfl
        go_simp
        clear y0 yf
        refine hK.out _ _ (hHeld.setCell (by omega) _) (fun hHeld => ?_)
        clear hK
        replace n7 := put1z (x := .int .i64 (hv S f i).1) n7
        replace n8 := putFar (b := b7) (x := .int .i64 (hv S f i).1) (by omega) n8
        try simp only [Act.put, List.setIfInBounds_toArray, List.set_cons_zero, List.set_cons_succ]
        refine wpAnyH_ready (rs := [13]) (by kernel_rfl) (by simp) ?_
        refine AllReadyH.cons (o := _) rfl (fun _ hK => ?_) AllReadyH.nil
        obtain ⟨y0, yf⟩ := nowz1 n8 rfl
        go_simp
        clear y0 yf
        refine hK.out _ _ (hHeld.setCell (by omega) _) (fun hHeld => ?_)
        clear hK
        replace n7 := putFar (b := b8) (x := .int .i64 (hv S f i).2) (by omega) n7
        replace n8 := put1z (x := .int .i64 (hv S f i).2) n8
        try simp only [Act.put, List.setIfInBounds_toArray, List.set_cons_zero, List.set_cons_succ]
        refine wpAnyH_done (by kernel_rfl) ?_ _
        go_wp2_with fail
        go_meet
        exact ⟨b7, b8, rfl, rfl, n7, n8, hHeld⟩
      refine AllReadyH.cons (o := _) rfl (fun _ hK => ?_) AllReadyH.nil
      go_simp
      have hal := zalloc hHeld (.cells #[.int .i64 0] 3 (0, 0))
      have n8 := heap_alloc_new X1 (.cells #[.int .i64 0] 3 (0, 0))
      have l8 := hHeld.size
      generalize X1.heap.size = b8 at *
      generalize X1.alloc (.cells #[.int .i64 0] 3 (0, 0)) = X2 at *
      refine hK.out _ _ hal (fun hHeld => ?_)
      clear hK
      try simp only [Act.put, List.setIfInBounds_toArray, List.set_cons_zero, List.set_cons_succ]
      refine wpAnyH_ready (rs := [10]) (by kernel_rfl) (by simp) ?_
      refine AllReadyH.cons (o := _) rfl (fun _ hK => ?_) AllReadyH.nil
      go_simp
      have hal := zalloc hHeld (.cells #[.int .i64 0] 3 (0, 0))
      have n7 := heap_alloc_new X2 (.cells #[.int .i64 0] 3 (0, 0))
      have l7 := hHeld.size
      have d87 := size_of_block n8
      replace n8 := keep_alloc (x := .cells #[.int .i64 0] 3 (0, 0)) n8
      generalize X2.heap.size = b7 at *
      generalize X2.alloc (.cells #[.int .i64 0] 3 (0, 0)) = X3 at *
      refine hK.out _ _ hal (fun hHeld => ?_)
      clear hK
      try simp only [Act.put, List.setIfInBounds_toArray, List.set_cons_zero, List.set_cons_succ]
      refine wpAnyH_ready (rs := [12]) (by kernel_rfl) (by simp) ?_
      refine AllReadyH.cons (o := _) rfl (fun _ hK => ?_) AllReadyH.nil
      obtain ⟨y0, yf⟩ := nowz1 n7 rfl
      go_simp
      clear y0 yf
      refine hK.out _ _ (hHeld.setCell (by omega) _) (fun hHeld => ?_)
      clear hK
      replace n8 := putFar (b := b7) (x := .int .i64 (hv S f i).1) (by omega) n8
      replace n7 := put1z (x := .int .i64 (hv S f i).1) n7
      try simp only [Act.put, List.setIfInBounds_toArray, List.set_cons_zero, List.set_cons_succ]
      refine wpAnyH_ready (rs := [13]) (by kernel_rfl) (by simp) ?_
      refine AllReadyH.cons (o := _) rfl (fun _ hK => ?_) AllReadyH.nil
      obtain ⟨y0, yf⟩ := nowz1 n8 rfl
      go_simp
      clear y0 yf
      refine hK.out _ _ (hHeld.setCell (by omega) _) (fun hHeld => ?_)
      clear hK
      replace n8 := put1z (x := .int .i64 (hv S f i).2) n8
      replace n7 := putFar (b := b8) (x := .int .i64 (hv S f i).2) (by omega) n7
      try simp only [Act.put, List.setIfInBounds_toArray, List.set_cons_zero, List.set_cons_succ]
      refine wpAnyH_done (by kernel_rfl) ?_ _
      go_wp2_with fail
      go_meet
      exact ⟨b7, b8, rfl, rfl, n7, n8, hHeld⟩
    refine AllReadyH.cons (o := _) rfl (fun _ hK => ?_) ?_
    · go_simp
      have hal := zalloc hHeld (.cells #[.int .i64 0] 3 (0, 0))
      have n7 := heap_alloc_new X0 (.cells #[.int .i64 0] 3 (0, 0))
      have l7 := hHeld.size
      generalize X0.heap.size = b7 at *
      generalize X0.alloc (.cells #[.int .i64 0] 3 (0, 0)) = X1 at *
      refine hK.out _ _ hal (fun hHeld => ?_)
      clear hK
      try simp only [Act.put, List.setIfInBounds_toArray, List.set_cons_zero, List.set_cons_succ]
      refine wpAnyH_ready (rs := [6, 11]) (by kernel_rfl) (by simp) ?_
      refine AllReadyH.cons (o := _) rfl (fun _ hK => ?_) ?_
      · go_simp
        refine (HV X1 hHeld).mono ?_
        rintro e X2 ⟨rfl, hbr, hcr⟩
        replace n7 := keep_blk hcr n7
        try go_simp
        refine hK.out _ _ hbr (fun hHeld => ?_)
        clear hK
        try simp only [Act.put, List.setIfInBounds_toArray, List.set_cons_zero, List.set_cons_succ]
        refine wpAnyH_take (i := 7) (oi := _) (v := ?_) rfl (by kernel_rfl) (by kernel_rfl) (by kernel_rfl) (fun _ _ _ h => h) (Or.inl ⟨by rfl, ?_⟩) (by assumption) ?_
        rotate_left 1
        · intro w_ hSw
          go_simp
          try with_reducible rfl
        try simp only [Act.put, List.setIfInBounds_toArray]
        refine wpAnyH_take (i := 8) (oi := _) (v := ?_) rfl (by kernel_rfl) (by kernel_rfl) (by kernel_rfl) (fun _ _ _ h => h) (Or.inl ⟨by rfl, ?_⟩) (by assumption) ?_
        rotate_left 1
        · intro w_ hSw
          go_simp
          try with_reducible rfl
        try simp only [Act.put]
        refine wpAnyH_take (i := 9) (oi := _) (v := ?_) rfl (by kernel_rfl) (by kernel_rfl) (by kernel_rfl) (fun _ _ _ h => h) (Or.inl ⟨by rfl, ?_⟩) (by assumption) ?_
        rotate_left 1
        · intro w_ hSw
          go_simp
          try with_reducible rfl
        try simp only [Act.put]
        refine wpAnyH_ready (rs := [11]) (by kernel_rfl) (by simp) ?_
        refine AllReadyH.cons (o := _) rfl (fun _ hK => ?_) AllReadyH.nil
        go_simp
        have hal := zalloc hHeld (.cells #[.int .i64 0] 3 (0, 0))
        have n8 := heap_alloc_new X2 (.cells #[.int .i64 0] 3 (0, 0))
        have l8 := hHeld.size
        have d78 := size_of_block n7
        replace n7 := keep_alloc (x := .cells #[.int .i64 0] 3 (0, 0)) n7
        generalize X2.heap.size = b8 at *
        generalize X2.alloc (.cells #[.int .i64 0] 3 (0, 0)) = X3 at *
        refine hK.out _ _ hal (fun hHeld => ?_)
        clear hK
        try simp only [Act.put, List.setIfInBounds_toArray, List.set_cons_zero, List.set_cons_succ]
        refine wpAnyH_ready (rs := [12]) (by kernel_rfl) (by simp) ?_
        refine AllReadyH.cons (o := _) rfl (fun _ hK => ?_) AllReadyH.nil
        obtain ⟨y0, yf⟩ := nowz1 n7 rfl
        go_simp
        clear y0 yf
        refine hK.out _ _ (hHeld.setCell (by omega) _) (fun hHeld => ?_)
        clear hK
        replace n7 := put1z (x := .int .i64 (hv S f i).1) n7
        replace n8 := putFar (b := b7) (x := .int .i64 (hv S f i).1) (by omega) n8
        try simp only [Act.put, List.setIfInBounds_toArray, List.set_cons_zero, List.set_cons_succ]
        refine wpAnyH_ready (rs := [13]) (by kernel_rfl) (by simp) ?_
        refine AllReadyH.cons (o := _) rfl (fun _ hK => ?_) AllReadyH.nil
        obtain ⟨y0, yf⟩ := nowz1 n8 rfl
        go_simp
        clear y0 yf
        refine hK.out _ _ (hHeld.setCell (by omega) _) (fun hHeld => ?_)
        clear hK
        replace n7 := putFar (b := b8) (x := .int .i64 (hv S f i).2) (by omega) n7
        replace n8 := put1z (x := .int .i64 (hv S f i).2) n8
        try simp only [Act.put, List.setIfInBounds_toArray, List.set_cons_zero, List.set_cons_succ]
        refine wpAnyH_done (by kernel_rfl) ?_ _
        go_wp2_with fail
        go_meet
        exact ⟨b7, b8, rfl, rfl, n7, n8, hHeld⟩
      refine AllReadyH.cons (o := _) rfl (fun _ hK => ?_) AllReadyH.nil
      go_simp
      have hal := zalloc hHeld (.cells #[.int .i64 0] 3 (0, 0))
      have n8 := heap_alloc_new X1 (.cells #[.int .i64 0] 3 (0, 0))
      have l8 := hHeld.size
      have d78 := size_of_block n7
      replace n7 := keep_alloc (x := .cells #[.int .i64 0] 3 (0, 0)) n7
      generalize X1.heap.size = b8 at *
      generalize X1.alloc (.cells #[.int .i64 0] 3 (0, 0)) = X2 at *
      refine hK.out _ _ hal (fun hHeld => ?_)
      clear hK
      try simp only [Act.put, List.setIfInBounds_toArray, List.set_cons_zero, List.set_cons_succ]
      refine wpAnyH_ready (rs := [6]) (by kernel_rfl) (by simp) ?_
      refine AllReadyH.cons (o := _) rfl (fun _ hK => ?_) AllReadyH.nil
      go_simp
      refine (HV X2 hHeld).mono ?_
      rintro e X3 ⟨rfl, hbr, hcr⟩
      replace n7 := keep_blk hcr n7
      replace n8 := keep_blk hcr n8
      try go_simp
      refine hK.out _ _ hbr (fun hHeld => ?_)
      clear hK
      try simp only [Act.put, List.setIfInBounds_toArray, List.set_cons_zero, List.set_cons_succ]
      refine wpAnyH_take (i := 7) (oi := _) (v := ?_) rfl (by kernel_rfl) (by kernel_rfl) (by kernel_rfl) (fun _ _ _ h => h) (Or.inl ⟨by rfl, ?_⟩) (by assumption) ?_
      rotate_left 1
      · intro w_ hSw
        go_simp
        try with_reducible rfl
      try simp only [Act.put, List.setIfInBounds_toArray]
      refine wpAnyH_take (i := 8) (oi := _) (v := ?_) rfl (by kernel_rfl) (by kernel_rfl) (by kernel_rfl) (fun _ _ _ h => h) (Or.inl ⟨by rfl, ?_⟩) (by assumption) ?_
      rotate_left 1
      · intro w_ hSw
        go_simp
        try with_reducible rfl
      try simp only [Act.put]
      refine wpAnyH_take (i := 9) (oi := _) (v := ?_) rfl (by kernel_rfl) (by kernel_rfl) (by kernel_rfl) (fun _ _ _ h => h) (Or.inl ⟨by rfl, ?_⟩) (by assumption) ?_
      rotate_left 1
      · intro w_ hSw
        go_simp
        try with_reducible rfl
      try simp only [Act.put]
      refine wpAnyH_ready (rs := [12]) (by kernel_rfl) (by simp) ?_
      refine AllReadyH.cons (o := _) rfl (fun _ hK => ?_) AllReadyH.nil
      obtain ⟨y0, yf⟩ := nowz1 n7 rfl
      go_simp
      clear y0 yf
      refine hK.out _ _ (hHeld.setCell (by omega) _) (fun hHeld => ?_)
      clear hK
      replace n7 := put1z (x := .int .i64 (hv S f i).1) n7
      replace n8 := putFar (b := b7) (x := .int .i64 (hv S f i).1) (by omega) n8
      try simp only [Act.put, List.setIfInBounds_toArray, List.set_cons_zero, List.set_cons_succ]
      refine wpAnyH_ready (rs := [13]) (by kernel_rfl) (by simp) ?_
      refine AllReadyH.cons (o := _) rfl (fun _ hK => ?_) AllReadyH.nil
      obtain ⟨y0, yf⟩ := nowz1 n8 rfl
      go_simp
      clear y0 yf
      refine hK.out _ _ (hHeld.setCell (by omega) _) (fun hHeld => ?_)
      clear hK
      replace n7 := putFar (b := b8) (x := .int .i64 (hv S f i).2) (by omega) n7
      replace n8 := put1z (x := .int .i64 (hv S f i).2) n8
      try simp only [Act.put, List.setIfInBounds_toArray, List.set_cons_zero, List.set_cons_succ]
      refine wpAnyH_done (by kernel_rfl) ?_ _
      go_wp2_with fail
      go_meet
      exact ⟨b7, b8, rfl, rfl, n7, n8, hHeld⟩
    refine AllReadyH.cons (o := _) rfl (fun _ hK => ?_) AllReadyH.nil
    go_simp
    have hal := zalloc hHeld (.cells #[.int .i64 0] 3 (0, 0))
    have n8 := heap_alloc_new X0 (.cells #[.int .i64 0] 3 (0, 0))
    have l8 := hHeld.size
    generalize X0.heap.size = b8 at *
    generalize X0.alloc (.cells #[.int .i64 0] 3 (0, 0)) = X1 at *
    refine hK.out _ _ hal (fun hHeld => ?_)
    clear hK
    try simp only [Act.put, List.setIfInBounds_toArray, List.set_cons_zero, List.set_cons_succ]
    refine wpAnyH_ready (rs := [6, 10]) (by kernel_rfl) (by simp) ?_
    refine AllReadyH.cons (o := _) rfl (fun _ hK => ?_) ?_
    · go_simp
      refine (HV X1 hHeld).mono ?_
      rintro e X2 ⟨rfl, hbr, hcr⟩
      replace n8 := keep_blk hcr n8
      try go_simp
      refine hK.out _ _ hbr (fun hHeld => ?_)
      clear hK
      try simp only [Act.put, List.setIfInBounds_toArray, List.set_cons_zero, List.set_cons_succ]
      refine wpAnyH_take (i := 7) (oi := _) (v := ?_) rfl (by kernel_rfl) (by kernel_rfl) (by kernel_rfl) (fun _ _ _ h => h) (Or.inl ⟨by rfl, ?_⟩) (by assumption) ?_
      rotate_left 1
      · intro w_ hSw
        go_simp
        try with_reducible rfl
      try simp only [Act.put, List.setIfInBounds_toArray]
      refine wpAnyH_take (i := 8) (oi := _) (v := ?_) rfl (by kernel_rfl) (by kernel_rfl) (by kernel_rfl) (fun _ _ _ h => h) (Or.inl ⟨by rfl, ?_⟩) (by assumption) ?_
      rotate_left 1
      · intro w_ hSw
        go_simp
        try with_reducible rfl
      try simp only [Act.put]
      refine wpAnyH_take (i := 9) (oi := _) (v := ?_) rfl (by kernel_rfl) (by kernel_rfl) (by kernel_rfl) (fun _ _ _ h => h) (Or.inl ⟨by rfl, ?_⟩) (by assumption) ?_
      rotate_left 1
      · intro w_ hSw
        go_simp
        try with_reducible rfl
      try simp only [Act.put]
      refine wpAnyH_ready (rs := [10]) (by kernel_rfl) (by simp) ?_
      refine AllReadyH.cons (o := _) rfl (fun _ hK => ?_) AllReadyH.nil
      go_simp
      have hal := zalloc hHeld (.cells #[.int .i64 0] 3 (0, 0))
      have n7 := heap_alloc_new X2 (.cells #[.int .i64 0] 3 (0, 0))
      have l7 := hHeld.size
      have d87 := size_of_block n8
      replace n8 := keep_alloc (x := .cells #[.int .i64 0] 3 (0, 0)) n8
      generalize X2.heap.size = b7 at *
      generalize X2.alloc (.cells #[.int .i64 0] 3 (0, 0)) = X3 at *
      refine hK.out _ _ hal (fun hHeld => ?_)
      clear hK
      try simp only [Act.put, List.setIfInBounds_toArray, List.set_cons_zero, List.set_cons_succ]
      refine wpAnyH_ready (rs := [12]) (by kernel_rfl) (by simp) ?_
      refine AllReadyH.cons (o := _) rfl (fun _ hK => ?_) AllReadyH.nil
      obtain ⟨y0, yf⟩ := nowz1 n7 rfl
      go_simp
      clear y0 yf
      refine hK.out _ _ (hHeld.setCell (by omega) _) (fun hHeld => ?_)
      clear hK
      replace n8 := putFar (b := b7) (x := .int .i64 (hv S f i).1) (by omega) n8
      replace n7 := put1z (x := .int .i64 (hv S f i).1) n7
      try simp only [Act.put, List.setIfInBounds_toArray, List.set_cons_zero, List.set_cons_succ]
      refine wpAnyH_ready (rs := [13]) (by kernel_rfl) (by simp) ?_
      refine AllReadyH.cons (o := _) rfl (fun _ hK => ?_) AllReadyH.nil
      obtain ⟨y0, yf⟩ := nowz1 n8 rfl
      go_simp
      clear y0 yf
      refine hK.out _ _ (hHeld.setCell (by omega) _) (fun hHeld => ?_)
      clear hK
      replace n8 := put1z (x := .int .i64 (hv S f i).2) n8
      replace n7 := putFar (b := b8) (x := .int .i64 (hv S f i).2) (by omega) n7
      try simp only [Act.put, List.setIfInBounds_toArray, List.set_cons_zero, List.set_cons_succ]
      refine wpAnyH_done (by kernel_rfl) ?_ _
      go_wp2_with fail
      go_meet
      exact ⟨b7, b8, rfl, rfl, n7, n8, hHeld⟩
    refine AllReadyH.cons (o := _) rfl (fun _ hK => ?_) AllReadyH.nil
    go_simp
    have hal := zalloc hHeld (.cells #[.int .i64 0] 3 (0, 0))
    have n7 := heap_alloc_new X1 (.cells #[.int .i64 0] 3 (0, 0))
    have l7 := hHeld.size
    have d87 := size_of_block n8
    replace n8 := keep_alloc (x := .cells #[.int .i64 0] 3 (0, 0)) n8
    generalize X1.heap.size = b7 at *
    generalize X1.alloc (.cells #[.int .i64 0] 3 (0, 0)) = X2 at *
    refine hK.out _ _ hal (fun hHeld => ?_)
    clear hK
    try simp only [Act.put, List.setIfInBounds_toArray, List.set_cons_zero, List.set_cons_succ]
    refine wpAnyH_ready (rs := [6]) (by kernel_rfl) (by simp) ?_
    refine AllReadyH.cons (o := _) rfl (fun _ hK => ?_) AllReadyH.nil
    go_simp
    refine (HV X2 hHeld).mono ?_
    rintro e X3 ⟨rfl, hbr, hcr⟩
    replace n8 := keep_blk hcr n8
    replace n7 := keep_blk hcr n7
    try go_simp
    refine hK.out _ _ hbr (fun hHeld => ?_)
    clear hK
    try simp only [Act.put, List.setIfInBounds_toArray, List.set_cons_zero, List.set_cons_succ]
    refine wpAnyH_take (i := 7) (oi := _) (v := ?_) rfl (by kernel_rfl) (by kernel_rfl) (by kernel_rfl) (fun _ _ _ h => h) (Or.inl ⟨by rfl, ?_⟩) (by assumption) ?_
    rotate_left 1
    · intro w_ hSw
      go_simp
      try with_reducible rfl
    try simp only [Act.put, List.setIfInBounds_toArray]
    refine wpAnyH_take (i := 8) (oi := _) (v := ?_) rfl (by kernel_rfl) (by kernel_rfl) (by kernel_rfl) (fun _ _ _ h => h) (Or.inl ⟨by rfl, ?_⟩) (by assumption) ?_
    rotate_left 1
    · intro w_ hSw
      go_simp
      try with_reducible rfl
    try simp only [Act.put]
    refine wpAnyH_take (i := 9) (oi := _) (v := ?_) rfl (by kernel_rfl) (by kernel_rfl) (by kernel_rfl) (fun _ _ _ h => h) (Or.inl ⟨by rfl, ?_⟩) (by assumption) ?_
    rotate_left 1
    · intro w_ hSw
      go_simp
      try with_reducible rfl
    try simp only [Act.put]
    refine wpAnyH_ready (rs := [12]) (by kernel_rfl) (by simp) ?_
    refine AllReadyH.cons (o := _) rfl (fun _ hK => ?_) AllReadyH.nil
    obtain ⟨y0, yf⟩ := nowz1 n7 rfl
    go_simp
    clear y0 yf
    refine hK.out _ _ (hHeld.setCell (by omega) _) (fun hHeld => ?_)
    clear hK
    replace n8 := putFar (b := b7) (x := .int .i64 (hv S f i).1) (by omega) n8
    replace n7 := put1z (x := .int .i64 (hv S f i).1) n7
    try simp only [Act.put, List.setIfInBounds_toArray, List.set_cons_zero, List.set_cons_succ]
    refine wpAnyH_ready (rs := [13]) (by kernel_rfl) (by simp) ?_
    refine AllReadyH.cons (o := _) rfl (fun _ hK => ?_) AllReadyH.nil
    obtain ⟨y0, yf⟩ := nowz1 n8 rfl
    go_simp
    clear y0 yf
    refine hK.out _ _ (hHeld.setCell (by omega) _) (fun hHeld => ?_)
    clear hK
    replace n8 := put1z (x := .int .i64 (hv S f i).2) n8
    replace n7 := putFar (b := b8) (x := .int .i64 (hv S f i).2) (by omega) n7
    try simp only [Act.put, List.setIfInBounds_toArray, List.set_cons_zero, List.set_cons_succ]
    refine wpAnyH_done (by kernel_rfl) ?_ _
    go_wp2_with fail
    go_meet
    exact ⟨b7, b8, rfl, rfl, n7, n8, hHeld⟩
  case rest =>
    obtain ⟨b7, b8, rfl, rfl, n7, n8, hbc⟩ := hcut
    have hd2 := hd1.below hbc
    have hw2 := hw1.below hbc
    have hr2 := hr1.below hbc
    have hbx2 := hbx1.below hbc
    have hy2 := hy.trans (hbc.mono hy.size)
    clear HV w0 b0 e0 e1 hBs hd1 hw1 hr1 hbx1 hy hbc
    rename_i wc
    obtain ⟨W1, hW1⟩ : ∃ W1, W1 = wc := ⟨_, rfl⟩
    subst hW1
    go_upto_region 3 with (fail)
    have HV : ∀ W : World, Below W1.heap.size W1 W → Calls Tryz.prog 151 #[.pointer (some ⟨zb, 0, none⟩), .int .i64 g, .int .i64 i] W fun e w' => e = .returned (.tuple #[.int .i64 (hv S g i).1, .int .i64 (hv S g i).2]) ∧ Below W1.heap.size W1 w' ∧ Below W.heap.size W w' := fun W hb =>
      (zhalves_any (hd2.below hb) g i).mono fun e w' ⟨he, hbw⟩ => ⟨he, hb.trans (hbw.mono hb.size), hbw⟩
    obtain ⟨w0, -⟩ := boxz1 hbx2.a rfl
    obtain ⟨c0, -⟩ := boxz1 hbx2.g rfl
    obtain ⟨e0, e1, -⟩ := box2 hw2 rfl
    have hBs := Below.refl W1.heap.size W1
    go_cut [9, 10] from 34 (fun s9 s10 wc => ∃ b9 b10 : Nat, s9 = .pointer (some ⟨b9, 0, none⟩) ∧ s10 = .pointer (some ⟨b10, 0, none⟩) ∧ wc.heap[b9]? = some (.cells #[.int .i64 (hv S g i).1] 3 (0, 0)) ∧ wc.heap[b10]? = some (.cells #[.int .i64 (hv S g i).2] 3 (0, 0)) ∧ Below W1.heap.size W1 wc)
    case first =>
      clear IH hd2 hr2 p0 p1 p2 p3 p4 p5 p6 q0 q1 q2 q3 q4 q5 q6 i0 il ir hi hbx2 hw2 hy2 n7 n8
      refine wp_region_held_drew (S := fun W_ => Below W1.heap.size W1 W_) rfl hBs.drew (fun hHeld => ?_)
      obtain ⟨X0, hX0⟩ : ∃ X0, X0 = W1.drew := ⟨_, rfl⟩
      rw [← hX0] at hHeld ⊢
      clear hX0
      refine wpAnyH_take (i := 0) (oi := _) (v := ?_) rfl (by kernel_rfl) (by kernel_rfl) (by kernel_rfl) (fun _ _ _ h => h) (Or.inl ⟨by rfl, ?_⟩) (by assumption) ?_
      rotate_left 1
      · intro w_ hSw
        have q_w0 := w0 ⟨w_, hSw⟩
        dsimp only at q_w0
        go_simp
        try with_reducible rfl
      try simp only [Act.put, List.setIfInBounds_toArray]
      refine wpAnyH_take (i := 1) (oi := _) (v := ?_) rfl (by kernel_rfl) (by kernel_rfl) (by kernel_rfl) (fun _ _ _ h => h) (Or.inl ⟨by rfl, ?_⟩) (by assumption) ?_
      rotate_left 1
      · intro w_ hSw
        go_simp
        try with_reducible rfl
      try simp only [Act.put]
      refine wpAnyH_take (i := 2) (oi := _) (v := ?_) rfl (by kernel_rfl) (by kernel_rfl) (by kernel_rfl) (fun _ _ _ h => h) (Or.inl ⟨by rfl, ?_⟩) (by assumption) ?_
      rotate_left 1
      · intro w_ hSw
        go_simp
        try with_reducible rfl
      try simp only [Act.put]
      refine wpAnyH_take (i := 3) (oi := _) (v := ?_) rfl (by kernel_rfl) (by kernel_rfl) (by kernel_rfl) (fun _ _ _ h => h) (Or.inl ⟨by rfl, ?_⟩) (by assumption) ?_
      rotate_left 1
      · intro w_ hSw
        have q_e0 := e0 ⟨w_, hSw⟩
        dsimp only at q_e0
        go_simp
        try with_reducible rfl
      try simp only [Act.put]
      refine wpAnyH_take (i := 4) (oi := _) (v := ?_) rfl (by kernel_rfl) (by kernel_rfl) (by kernel_rfl) (fun _ _ _ h => h) (Or.inl ⟨by rfl, ?_⟩) (by assumption) ?_
      rotate_left 1
      · intro w_ hSw
        have q_c0 := c0 ⟨w_, hSw⟩
        dsimp only at q_c0
        go_simp
        try with_reducible rfl
      try simp only [Act.put]
      refine wpAnyH_take (i := 5) (oi := _) (v := ?_) rfl (by kernel_rfl) (by kernel_rfl) (by kernel_rfl) (fun _ _ _ h => h) (Or.inl ⟨by rfl, ?_⟩) (by assumption) ?_
      rotate_left 1
      · intro w_ hSw
        go_simp
        try with_reducible rfl
      try simp only [Act.put]
      refine wpAnyH_ready (rs := [6, 10, 11]) (by kernel_rfl) (by simp) ?_
      refine AllReadyH.cons (o := _) rfl (fun _ hK => ?_) ?_
      · go_simp
        refine (HV X0 hHeld).mono ?_
        rintro e X1 ⟨rfl, hbr, hcr⟩
        try go_simp
        refine hK.out _ _ hbr (fun hHeld => ?_)
        clear hK
        try simp only [Act.put, List.setIfInBounds_toArray, List.set_cons_zero, List.set_cons_succ]
        refine wpAnyH_take (i := 7) (oi := _) (v := ?_) rfl (by kernel_rfl) (by kernel_rfl) (by kernel_rfl) (fun _ _ _ h => h) (Or.inl ⟨by rfl, ?_⟩) (by assumption) ?_
        rotate_left 1
        · intro w_ hSw
          go_simp
          try with_reducible rfl
        try simp only [Act.put, List.setIfInBounds_toArray]
        refine wpAnyH_take (i := 8) (oi := _) (v := ?_) rfl (by kernel_rfl) (by kernel_rfl) (by kernel_rfl) (fun _ _ _ h => h) (Or.inl ⟨by rfl, ?_⟩) (by assumption) ?_
        rotate_left 1
        · intro w_ hSw
          go_simp
          try with_reducible rfl
        try simp only [Act.put]
        refine wpAnyH_take (i := 9) (oi := _) (v := ?_) rfl (by kernel_rfl) (by kernel_rfl) (by kernel_rfl) (fun _ _ _ h => h) (Or.inl ⟨by rfl, ?_⟩) (by assumption) ?_
        rotate_left 1
        · intro w_ hSw
          go_simp
          try with_reducible rfl
        try simp only [Act.put]
        refine wpAnyH_ready (rs := [10, 11]) (by kernel_rfl) (by simp) ?_
        refine AllReadyH.cons (o := _) rfl (fun _ hK => ?_) ?_
        · go_simp
          have hal := zalloc hHeld (.cells #[.int .i64 0] 3 (0, 0))
          have n9 := heap_alloc_new X1 (.cells #[.int .i64 0] 3 (0, 0))
          have l9 := hHeld.size
          generalize X1.heap.size = b9 at *
          generalize X1.alloc (.cells #[.int .i64 0] 3 (0, 0)) = X2 at *
          refine hK.out _ _ hal (fun hHeld => ?_)
          clear hK
          try simp only [Act.put, List.setIfInBounds_toArray, List.set_cons_zero, List.set_cons_succ]
          refine wpAnyH_ready (rs := [11]) (by kernel_rfl) (by simp) ?_
          refine AllReadyH.cons (o := _) rfl (fun _ hK => ?_) AllReadyH.nil
          go_simp
          have hal := zalloc hHeld (.cells #[.int .i64 0] 3 (0, 0))
          have n10 := heap_alloc_new X2 (.cells #[.int .i64 0] 3 (0, 0))
          have l10 := hHeld.size
          have d910 := size_of_block n9
          replace n9 := keep_alloc (x := .cells #[.int .i64 0] 3 (0, 0)) n9
          generalize X2.heap.size = b10 at *
          generalize X2.alloc (.cells #[.int .i64 0] 3 (0, 0)) = X3 at *
          refine hK.out _ _ hal (fun hHeld => ?_)
          clear hK
          try simp only [Act.put, List.setIfInBounds_toArray, List.set_cons_zero, List.set_cons_succ]
          refine wpAnyH_ready (rs := [12]) (by kernel_rfl) (by simp) ?_
          refine AllReadyH.cons (o := _) rfl (fun _ hK => ?_) AllReadyH.nil
          obtain ⟨y0, yf⟩ := nowz1 n9 rfl
          go_simp
          clear y0 yf
          refine hK.out _ _ (hHeld.setCell (by omega) _) (fun hHeld => ?_)
          clear hK
          replace n9 := put1z (x := .int .i64 (hv S g i).1) n9
          replace n10 := putFar (b := b9) (x := .int .i64 (hv S g i).1) (by omega) n10
          try simp only [Act.put, List.setIfInBounds_toArray, List.set_cons_zero, List.set_cons_succ]
          refine wpAnyH_ready (rs := [13]) (by kernel_rfl) (by simp) ?_
          refine AllReadyH.cons (o := _) rfl (fun _ hK => ?_) AllReadyH.nil
          obtain ⟨y0, yf⟩ := nowz1 n10 rfl
          go_simp
          clear y0 yf
          refine hK.out _ _ (hHeld.setCell (by omega) _) (fun hHeld => ?_)
          clear hK
          replace n9 := putFar (b := b10) (x := .int .i64 (hv S g i).2) (by omega) n9
          replace n10 := put1z (x := .int .i64 (hv S g i).2) n10
          try simp only [Act.put, List.setIfInBounds_toArray, List.set_cons_zero, List.set_cons_succ]
          refine wpAnyH_done (by kernel_rfl) ?_ _
          go_wp2_with fail
          go_meet
          exact ⟨b9, b10, rfl, rfl, n9, n10, hHeld⟩
        refine AllReadyH.cons (o := _) rfl (fun _ hK => ?_) AllReadyH.nil
        go_simp
        have hal := zalloc hHeld (.cells #[.int .i64 0] 3 (0, 0))
        have n10 := heap_alloc_new X1 (.cells #[.int .i64 0] 3 (0, 0))
        have l10 := hHeld.size
        generalize X1.heap.size = b10 at *
        generalize X1.alloc (.cells #[.int .i64 0] 3 (0, 0)) = X2 at *
        refine hK.out _ _ hal (fun hHeld => ?_)
        clear hK
        try simp only [Act.put, List.setIfInBounds_toArray, List.set_cons_zero, List.set_cons_succ]
        refine wpAnyH_ready (rs := [10]) (by kernel_rfl) (by simp) ?_
        refine AllReadyH.cons (o := _) rfl (fun _ hK => ?_) AllReadyH.nil
        go_simp
        have hal := zalloc hHeld (.cells #[.int .i64 0] 3 (0, 0))
        have n9 := heap_alloc_new X2 (.cells #[.int .i64 0] 3 (0, 0))
        have l9 := hHeld.size
        have d109 := size_of_block n10
        replace n10 := keep_alloc (x := .cells #[.int .i64 0] 3 (0, 0)) n10
        generalize X2.heap.size = b9 at *
        generalize X2.alloc (.cells #[.int .i64 0] 3 (0, 0)) = X3 at *
        refine hK.out _ _ hal (fun hHeld => ?_)
        clear hK
        try simp only [Act.put, List.setIfInBounds_toArray, List.set_cons_zero, List.set_cons_succ]
        refine wpAnyH_ready (rs := [12]) (by kernel_rfl) (by simp) ?_
        refine AllReadyH.cons (o := _) rfl (fun _ hK => ?_) AllReadyH.nil
        obtain ⟨y0, yf⟩ := nowz1 n9 rfl
        go_simp
        clear y0 yf
        refine hK.out _ _ (hHeld.setCell (by omega) _) (fun hHeld => ?_)
        clear hK
        replace n10 := putFar (b := b9) (x := .int .i64 (hv S g i).1) (by omega) n10
        replace n9 := put1z (x := .int .i64 (hv S g i).1) n9
        try simp only [Act.put, List.setIfInBounds_toArray, List.set_cons_zero, List.set_cons_succ]
        refine wpAnyH_ready (rs := [13]) (by kernel_rfl) (by simp) ?_
        refine AllReadyH.cons (o := _) rfl (fun _ hK => ?_) AllReadyH.nil
        obtain ⟨y0, yf⟩ := nowz1 n10 rfl
        go_simp
        clear y0 yf
        refine hK.out _ _ (hHeld.setCell (by omega) _) (fun hHeld => ?_)
        clear hK
        replace n10 := put1z (x := .int .i64 (hv S g i).2) n10
        replace n9 := putFar (b := b10) (x := .int .i64 (hv S g i).2) (by omega) n9
        try simp only [Act.put, List.setIfInBounds_toArray, List.set_cons_zero, List.set_cons_succ]
        refine wpAnyH_done (by kernel_rfl) ?_ _
        go_wp2_with fail
        go_meet
        exact ⟨b9, b10, rfl, rfl, n9, n10, hHeld⟩
      refine AllReadyH.cons (o := _) rfl (fun _ hK => ?_) ?_
      · go_simp
        have hal := zalloc hHeld (.cells #[.int .i64 0] 3 (0, 0))
        have n9 := heap_alloc_new X0 (.cells #[.int .i64 0] 3 (0, 0))
        have l9 := hHeld.size
        generalize X0.heap.size = b9 at *
        generalize X0.alloc (.cells #[.int .i64 0] 3 (0, 0)) = X1 at *
        refine hK.out _ _ hal (fun hHeld => ?_)
        clear hK
        try simp only [Act.put, List.setIfInBounds_toArray, List.set_cons_zero, List.set_cons_succ]
        refine wpAnyH_ready (rs := [6, 11]) (by kernel_rfl) (by simp) ?_
        refine AllReadyH.cons (o := _) rfl (fun _ hK => ?_) ?_
        · go_simp
          refine (HV X1 hHeld).mono ?_
          rintro e X2 ⟨rfl, hbr, hcr⟩
          replace n9 := keep_blk hcr n9
          try go_simp
          refine hK.out _ _ hbr (fun hHeld => ?_)
          clear hK
          try simp only [Act.put, List.setIfInBounds_toArray, List.set_cons_zero, List.set_cons_succ]
          refine wpAnyH_take (i := 7) (oi := _) (v := ?_) rfl (by kernel_rfl) (by kernel_rfl) (by kernel_rfl) (fun _ _ _ h => h) (Or.inl ⟨by rfl, ?_⟩) (by assumption) ?_
          rotate_left 1
          · intro w_ hSw
            go_simp
            try with_reducible rfl
          try simp only [Act.put, List.setIfInBounds_toArray]
          refine wpAnyH_take (i := 8) (oi := _) (v := ?_) rfl (by kernel_rfl) (by kernel_rfl) (by kernel_rfl) (fun _ _ _ h => h) (Or.inl ⟨by rfl, ?_⟩) (by assumption) ?_
          rotate_left 1
          · intro w_ hSw
            go_simp
            try with_reducible rfl
          try simp only [Act.put]
          refine wpAnyH_take (i := 9) (oi := _) (v := ?_) rfl (by kernel_rfl) (by kernel_rfl) (by kernel_rfl) (fun _ _ _ h => h) (Or.inl ⟨by rfl, ?_⟩) (by assumption) ?_
          rotate_left 1
          · intro w_ hSw
            go_simp
            try with_reducible rfl
          try simp only [Act.put]
          refine wpAnyH_ready (rs := [11]) (by kernel_rfl) (by simp) ?_
          refine AllReadyH.cons (o := _) rfl (fun _ hK => ?_) AllReadyH.nil
          go_simp
          have hal := zalloc hHeld (.cells #[.int .i64 0] 3 (0, 0))
          have n10 := heap_alloc_new X2 (.cells #[.int .i64 0] 3 (0, 0))
          have l10 := hHeld.size
          have d910 := size_of_block n9
          replace n9 := keep_alloc (x := .cells #[.int .i64 0] 3 (0, 0)) n9
          generalize X2.heap.size = b10 at *
          generalize X2.alloc (.cells #[.int .i64 0] 3 (0, 0)) = X3 at *
          refine hK.out _ _ hal (fun hHeld => ?_)
          clear hK
          try simp only [Act.put, List.setIfInBounds_toArray, List.set_cons_zero, List.set_cons_succ]
          refine wpAnyH_ready (rs := [12]) (by kernel_rfl) (by simp) ?_
          refine AllReadyH.cons (o := _) rfl (fun _ hK => ?_) AllReadyH.nil
          obtain ⟨y0, yf⟩ := nowz1 n9 rfl
          go_simp
          clear y0 yf
          refine hK.out _ _ (hHeld.setCell (by omega) _) (fun hHeld => ?_)
          clear hK
          replace n9 := put1z (x := .int .i64 (hv S g i).1) n9
          replace n10 := putFar (b := b9) (x := .int .i64 (hv S g i).1) (by omega) n10
          try simp only [Act.put, List.setIfInBounds_toArray, List.set_cons_zero, List.set_cons_succ]
          refine wpAnyH_ready (rs := [13]) (by kernel_rfl) (by simp) ?_
          refine AllReadyH.cons (o := _) rfl (fun _ hK => ?_) AllReadyH.nil
          obtain ⟨y0, yf⟩ := nowz1 n10 rfl
          go_simp
          clear y0 yf
          refine hK.out _ _ (hHeld.setCell (by omega) _) (fun hHeld => ?_)
          clear hK
          replace n9 := putFar (b := b10) (x := .int .i64 (hv S g i).2) (by omega) n9
          replace n10 := put1z (x := .int .i64 (hv S g i).2) n10
          try simp only [Act.put, List.setIfInBounds_toArray, List.set_cons_zero, List.set_cons_succ]
          refine wpAnyH_done (by kernel_rfl) ?_ _
          go_wp2_with fail
          go_meet
          exact ⟨b9, b10, rfl, rfl, n9, n10, hHeld⟩
        refine AllReadyH.cons (o := _) rfl (fun _ hK => ?_) AllReadyH.nil
        go_simp
        have hal := zalloc hHeld (.cells #[.int .i64 0] 3 (0, 0))
        have n10 := heap_alloc_new X1 (.cells #[.int .i64 0] 3 (0, 0))
        have l10 := hHeld.size
        have d910 := size_of_block n9
        replace n9 := keep_alloc (x := .cells #[.int .i64 0] 3 (0, 0)) n9
        generalize X1.heap.size = b10 at *
        generalize X1.alloc (.cells #[.int .i64 0] 3 (0, 0)) = X2 at *
        refine hK.out _ _ hal (fun hHeld => ?_)
        clear hK
        try simp only [Act.put, List.setIfInBounds_toArray, List.set_cons_zero, List.set_cons_succ]
        refine wpAnyH_ready (rs := [6]) (by kernel_rfl) (by simp) ?_
        refine AllReadyH.cons (o := _) rfl (fun _ hK => ?_) AllReadyH.nil
        go_simp
        refine (HV X2 hHeld).mono ?_
        rintro e X3 ⟨rfl, hbr, hcr⟩
        replace n9 := keep_blk hcr n9
        replace n10 := keep_blk hcr n10
        try go_simp
        refine hK.out _ _ hbr (fun hHeld => ?_)
        clear hK
        try simp only [Act.put, List.setIfInBounds_toArray, List.set_cons_zero, List.set_cons_succ]
        refine wpAnyH_take (i := 7) (oi := _) (v := ?_) rfl (by kernel_rfl) (by kernel_rfl) (by kernel_rfl) (fun _ _ _ h => h) (Or.inl ⟨by rfl, ?_⟩) (by assumption) ?_
        rotate_left 1
        · intro w_ hSw
          go_simp
          try with_reducible rfl
        try simp only [Act.put, List.setIfInBounds_toArray]
        refine wpAnyH_take (i := 8) (oi := _) (v := ?_) rfl (by kernel_rfl) (by kernel_rfl) (by kernel_rfl) (fun _ _ _ h => h) (Or.inl ⟨by rfl, ?_⟩) (by assumption) ?_
        rotate_left 1
        · intro w_ hSw
          go_simp
          try with_reducible rfl
        try simp only [Act.put]
        refine wpAnyH_take (i := 9) (oi := _) (v := ?_) rfl (by kernel_rfl) (by kernel_rfl) (by kernel_rfl) (fun _ _ _ h => h) (Or.inl ⟨by rfl, ?_⟩) (by assumption) ?_
        rotate_left 1
        · intro w_ hSw
          go_simp
          try with_reducible rfl
        try simp only [Act.put]
        refine wpAnyH_ready (rs := [12]) (by kernel_rfl) (by simp) ?_
        refine AllReadyH.cons (o := _) rfl (fun _ hK => ?_) AllReadyH.nil
        obtain ⟨y0, yf⟩ := nowz1 n9 rfl
        go_simp
        clear y0 yf
        refine hK.out _ _ (hHeld.setCell (by omega) _) (fun hHeld => ?_)
        clear hK
        replace n9 := put1z (x := .int .i64 (hv S g i).1) n9
        replace n10 := putFar (b := b9) (x := .int .i64 (hv S g i).1) (by omega) n10
        try simp only [Act.put, List.setIfInBounds_toArray, List.set_cons_zero, List.set_cons_succ]
        refine wpAnyH_ready (rs := [13]) (by kernel_rfl) (by simp) ?_
        refine AllReadyH.cons (o := _) rfl (fun _ hK => ?_) AllReadyH.nil
        obtain ⟨y0, yf⟩ := nowz1 n10 rfl
        go_simp
        clear y0 yf
        refine hK.out _ _ (hHeld.setCell (by omega) _) (fun hHeld => ?_)
        clear hK
        replace n9 := putFar (b := b10) (x := .int .i64 (hv S g i).2) (by omega) n9
        replace n10 := put1z (x := .int .i64 (hv S g i).2) n10
        try simp only [Act.put, List.setIfInBounds_toArray, List.set_cons_zero, List.set_cons_succ]
        refine wpAnyH_done (by kernel_rfl) ?_ _
        go_wp2_with fail
        go_meet
        exact ⟨b9, b10, rfl, rfl, n9, n10, hHeld⟩
      refine AllReadyH.cons (o := _) rfl (fun _ hK => ?_) AllReadyH.nil
      go_simp
      have hal := zalloc hHeld (.cells #[.int .i64 0] 3 (0, 0))
      have n10 := heap_alloc_new X0 (.cells #[.int .i64 0] 3 (0, 0))
      have l10 := hHeld.size
      generalize X0.heap.size = b10 at *
      generalize X0.alloc (.cells #[.int .i64 0] 3 (0, 0)) = X1 at *
      refine hK.out _ _ hal (fun hHeld => ?_)
      clear hK
      try simp only [Act.put, List.setIfInBounds_toArray, List.set_cons_zero, List.set_cons_succ]
      refine wpAnyH_ready (rs := [6, 10]) (by kernel_rfl) (by simp) ?_
      refine AllReadyH.cons (o := _) rfl (fun _ hK => ?_) ?_
      · go_simp
        refine (HV X1 hHeld).mono ?_
        rintro e X2 ⟨rfl, hbr, hcr⟩
        replace n10 := keep_blk hcr n10
        try go_simp
        refine hK.out _ _ hbr (fun hHeld => ?_)
        clear hK
        try simp only [Act.put, List.setIfInBounds_toArray, List.set_cons_zero, List.set_cons_succ]
        refine wpAnyH_take (i := 7) (oi := _) (v := ?_) rfl (by kernel_rfl) (by kernel_rfl) (by kernel_rfl) (fun _ _ _ h => h) (Or.inl ⟨by rfl, ?_⟩) (by assumption) ?_
        rotate_left 1
        · intro w_ hSw
          go_simp
          try with_reducible rfl
        try simp only [Act.put, List.setIfInBounds_toArray]
        refine wpAnyH_take (i := 8) (oi := _) (v := ?_) rfl (by kernel_rfl) (by kernel_rfl) (by kernel_rfl) (fun _ _ _ h => h) (Or.inl ⟨by rfl, ?_⟩) (by assumption) ?_
        rotate_left 1
        · intro w_ hSw
          go_simp
          try with_reducible rfl
        try simp only [Act.put]
        refine wpAnyH_take (i := 9) (oi := _) (v := ?_) rfl (by kernel_rfl) (by kernel_rfl) (by kernel_rfl) (fun _ _ _ h => h) (Or.inl ⟨by rfl, ?_⟩) (by assumption) ?_
        rotate_left 1
        · intro w_ hSw
          go_simp
          try with_reducible rfl
        try simp only [Act.put]
        refine wpAnyH_ready (rs := [10]) (by kernel_rfl) (by simp) ?_
        refine AllReadyH.cons (o := _) rfl (fun _ hK => ?_) AllReadyH.nil
        go_simp
        have hal := zalloc hHeld (.cells #[.int .i64 0] 3 (0, 0))
        have n9 := heap_alloc_new X2 (.cells #[.int .i64 0] 3 (0, 0))
        have l9 := hHeld.size
        have d109 := size_of_block n10
        replace n10 := keep_alloc (x := .cells #[.int .i64 0] 3 (0, 0)) n10
        generalize X2.heap.size = b9 at *
        generalize X2.alloc (.cells #[.int .i64 0] 3 (0, 0)) = X3 at *
        refine hK.out _ _ hal (fun hHeld => ?_)
        clear hK
        try simp only [Act.put, List.setIfInBounds_toArray, List.set_cons_zero, List.set_cons_succ]
        refine wpAnyH_ready (rs := [12]) (by kernel_rfl) (by simp) ?_
        refine AllReadyH.cons (o := _) rfl (fun _ hK => ?_) AllReadyH.nil
        obtain ⟨y0, yf⟩ := nowz1 n9 rfl
        go_simp
        clear y0 yf
        refine hK.out _ _ (hHeld.setCell (by omega) _) (fun hHeld => ?_)
        clear hK
        replace n10 := putFar (b := b9) (x := .int .i64 (hv S g i).1) (by omega) n10
        replace n9 := put1z (x := .int .i64 (hv S g i).1) n9
        try simp only [Act.put, List.setIfInBounds_toArray, List.set_cons_zero, List.set_cons_succ]
        refine wpAnyH_ready (rs := [13]) (by kernel_rfl) (by simp) ?_
        refine AllReadyH.cons (o := _) rfl (fun _ hK => ?_) AllReadyH.nil
        obtain ⟨y0, yf⟩ := nowz1 n10 rfl
        go_simp
        clear y0 yf
        refine hK.out _ _ (hHeld.setCell (by omega) _) (fun hHeld => ?_)
        clear hK
        replace n10 := put1z (x := .int .i64 (hv S g i).2) n10
        replace n9 := putFar (b := b10) (x := .int .i64 (hv S g i).2) (by omega) n9
        try simp only [Act.put, List.setIfInBounds_toArray, List.set_cons_zero, List.set_cons_succ]
        refine wpAnyH_done (by kernel_rfl) ?_ _
        go_wp2_with fail
        go_meet
        exact ⟨b9, b10, rfl, rfl, n9, n10, hHeld⟩
      refine AllReadyH.cons (o := _) rfl (fun _ hK => ?_) AllReadyH.nil
      go_simp
      have hal := zalloc hHeld (.cells #[.int .i64 0] 3 (0, 0))
      have n9 := heap_alloc_new X1 (.cells #[.int .i64 0] 3 (0, 0))
      have l9 := hHeld.size
      have d109 := size_of_block n10
      replace n10 := keep_alloc (x := .cells #[.int .i64 0] 3 (0, 0)) n10
      generalize X1.heap.size = b9 at *
      generalize X1.alloc (.cells #[.int .i64 0] 3 (0, 0)) = X2 at *
      refine hK.out _ _ hal (fun hHeld => ?_)
      clear hK
      try simp only [Act.put, List.setIfInBounds_toArray, List.set_cons_zero, List.set_cons_succ]
      refine wpAnyH_ready (rs := [6]) (by kernel_rfl) (by simp) ?_
      refine AllReadyH.cons (o := _) rfl (fun _ hK => ?_) AllReadyH.nil
      go_simp
      refine (HV X2 hHeld).mono ?_
      rintro e X3 ⟨rfl, hbr, hcr⟩
      replace n10 := keep_blk hcr n10
      replace n9 := keep_blk hcr n9
      try go_simp
      refine hK.out _ _ hbr (fun hHeld => ?_)
      clear hK
      try simp only [Act.put, List.setIfInBounds_toArray, List.set_cons_zero, List.set_cons_succ]
      refine wpAnyH_take (i := 7) (oi := _) (v := ?_) rfl (by kernel_rfl) (by kernel_rfl) (by kernel_rfl) (fun _ _ _ h => h) (Or.inl ⟨by rfl, ?_⟩) (by assumption) ?_
      rotate_left 1
      · intro w_ hSw
        go_simp
        try with_reducible rfl
      try simp only [Act.put, List.setIfInBounds_toArray]
      refine wpAnyH_take (i := 8) (oi := _) (v := ?_) rfl (by kernel_rfl) (by kernel_rfl) (by kernel_rfl) (fun _ _ _ h => h) (Or.inl ⟨by rfl, ?_⟩) (by assumption) ?_
      rotate_left 1
      · intro w_ hSw
        go_simp
        try with_reducible rfl
      try simp only [Act.put]
      refine wpAnyH_take (i := 9) (oi := _) (v := ?_) rfl (by kernel_rfl) (by kernel_rfl) (by kernel_rfl) (fun _ _ _ h => h) (Or.inl ⟨by rfl, ?_⟩) (by assumption) ?_
      rotate_left 1
      · intro w_ hSw
        go_simp
        try with_reducible rfl
      try simp only [Act.put]
      refine wpAnyH_ready (rs := [12]) (by kernel_rfl) (by simp) ?_
      refine AllReadyH.cons (o := _) rfl (fun _ hK => ?_) AllReadyH.nil
      obtain ⟨y0, yf⟩ := nowz1 n9 rfl
      go_simp
      clear y0 yf
      refine hK.out _ _ (hHeld.setCell (by omega) _) (fun hHeld => ?_)
      clear hK
      replace n10 := putFar (b := b9) (x := .int .i64 (hv S g i).1) (by omega) n10
      replace n9 := put1z (x := .int .i64 (hv S g i).1) n9
      try simp only [Act.put, List.setIfInBounds_toArray, List.set_cons_zero, List.set_cons_succ]
      refine wpAnyH_ready (rs := [13]) (by kernel_rfl) (by simp) ?_
      refine AllReadyH.cons (o := _) rfl (fun _ hK => ?_) AllReadyH.nil
      obtain ⟨y0, yf⟩ := nowz1 n10 rfl
      go_simp
      clear y0 yf
      refine hK.out _ _ (hHeld.setCell (by omega) _) (fun hHeld => ?_)
      clear hK
      replace n10 := put1z (x := .int .i64 (hv S g i).2) n10
      replace n9 := putFar (b := b10) (x := .int .i64 (hv S g i).2) (by omega) n9
      try simp only [Act.put, List.setIfInBounds_toArray, List.set_cons_zero, List.set_cons_succ]
      refine wpAnyH_done (by kernel_rfl) ?_ _
      go_wp2_with fail
      go_meet
      exact ⟨b9, b10, rfl, rfl, n9, n10, hHeld⟩
    case rest =>
      obtain ⟨b9, b10, rfl, rfl, n9, n10, hbc⟩ := hcut
      have hd3 := hd2.below hbc
      have hw3 := hw2.below hbc
      have hr3 := hr2.below hbc
      have hbx3 := hbx2.below hbc
      have hy3 := hy2.trans (hbc.mono hy2.size)
      replace n7 := keep_blk hbc n7
      replace n8 := keep_blk hbc n8
      clear HV w0 c0 e0 e1 hBs hd2 hw2 hr2 hbx2 hy2 hbc
      have hst := min_step (k := k) p6 q6 hf1 hg1
      have hh0 : half0 (op2F nm (zf S (k + 1) f) (zf S (k + 1) g)) = op2F nm (zf S k (hv S f i).1) (zf S k (hv S g i).1) := by rw [← p4, ← q4]; rfl
      have hh1 : half1 (op2F nm (zf S (k + 1) f) (zf S (k + 1) g)) = op2F nm (zf S k (hv S f i).2) (zf S k (hv S g i).2) := by rw [← p5, ← q5]; rfl
      have hcf2 : ∀ (args : Array Value) (w1 : World), (Sem.run Tryz.prog (callFunc 166 args) w1) = .ok (.enter 166 args) w1 := fun _ _ => by kernel_rfl
      have HBd := zbuildT_any (C := no8) (M := MZ bm mm) (N := N) (w := wc) (zb := zb) (ab := ab) (bm := bm) (room := room) (S := S) (F := op2F nm (zf S (k + 1) f) (zf S (k + 1) g)) (F0 := op2F nm (zf S k (hv S f i).1) (zf S k (hv S g i).1)) (F1 := op2F nm (zf S k (hv S f i).2) (zf S k (hv S g i).2))
        (fun w' T => RemZ w' mm S0 T (c + k * min (zn S (hv S f i).1) (zn S (hv S g i).1)) ∧ VSt T) (fun w' T => RemZ w' mm S0 T (c + ((k + 1) * min (zn S f) (zn S g) - 1)) ∧ VSt T) (fun w' T => RemZ w' mm S0 T (c + ((k + 1) * min (zn S f) (zn S g) - 1)) ∧ VSt T) 166 #[.pointer (some ⟨x + 1 + 1 + 1, 0, none⟩), .pointer (some ⟨b8, 0, none⟩), .pointer (some ⟨b10, 0, none⟩), .pointer (some ⟨b7, 0, none⟩), .pointer (some ⟨b9, 0, none⟩)] hcf2
        (.inl rfl) i k (tB k (op2F nm (zf S k (hv S f i).1) (zf S k (hv S g i).1)) (k * min (zn S (hv S f i).1) (zn S (hv S g i).1))) (tB k (op2F nm (zf S k (hv S f i).2) (zf S k (hv S g i).2)) (k * min (zn S (hv S f i).2) (zn S (hv S g i).2))) (tB (k + 1) (op2F nm (zf S (k + 1) f) (zf S (k + 1) g)) ((k + 1) * min (zn S f) (zn S g))) hi i0
        hh0 hh1 (tB_both hh0 hh1 hst) (fun hc1 => tB_node hh0 hh1 hst hc1)
        ((zapart11_any hcf hbx3.r n8 n10 n7 n9 false (IH hd3 hw3 hr3 hne hN (hv S f i).1 (hv S g i).1 p0 q0 p2 q2 (by omega) (by omega))).mono fun e w' hm => hm.mono fun T id er ho => ⟨ho.1, ho.2, ho.1.zst.vst⟩)
        (fun w1 v1 full1 T a hd4 hk4 hO4 hr4 => by
          have hx := hO4.ext
          have hV := hd3.zst.vst
          have e1 := hx.lvl p1
          have e2 := hx.lvl q1
          have e3 := hx.zn hV p1
          have e4 := hx.zn hV q1
          have e5 := hx.zf hV k _ (by omega) p1 p3
          have e6 := hx.zf hV k _ (by omega) q1 q3
          have hk5 := hk4
          have HI := IH hd4 (hw3.kz hk4 (fun h => h)) hr4.1 hne hN (hv S f i).2 (hv S g i).2 (by omega) (by omega) (by omega) (by omega) (by omega) (by rw [e3, e4]; omega)
          rw [e3, e4, e5, e6] at HI
          refine (zapart11_any hcf (hk4.cells _ _ _ _ hbx3.r (by decide) (by decide) (fun h => h)) (hk4.cells _ _ _ _ n8 (by decide) (by decide) (fun h => h)) (hk4.cells _ _ _ _ n10 (by decide) (by decide) (fun h => h)) (hk4.cells _ _ _ _ n7 (by decide) (by decide) (fun h => h)) (hk4.cells _ _ _ _ n9 (by decide) (by decide) (fun h => h)) true HI).mono fun e w' hm => hm.mono fun U id er ho => ⟨ho.1, ho.2.more (by omega), ho.1.zst.vst⟩)
        (fun w' T hh => ⟨hh.1.more (by omega), hh.2⟩) (fun _ _ hh => hh)
        (fun w1 w2 U V hh hk hV hV' hx => ⟨(hh.1.kz hk (fun e => hne e)).ext hV hx, hV'⟩)
      have hK3 : Kz no8 (MZ bm mm) N w wc := Kz.of_below hy3
      obtain ⟨w0, -⟩ := nowz1 hbx3.a rfl
      obtain ⟨e0, e1, -⟩ := now2 hw3 rfl
      clear hh0 hh1 IH hcf hcf2 hd3 hr3 p0 p1 p2 p3 p4 p5 p6 q0 q1 q2 q3 q4 q5 q6 n7 n8 n9 n10 hbx3 hw3 hy3
      go_wp2_with fail
      refine HBd.mono ?_
      rintro e w2 ⟨v2, full2, T, id, er, rfl, hd8, hk8, hO8, hr8⟩
      clear HBd
      go_wp2
      go_ret2
      exact ⟨v2, full2, T, id, er, rfl, hd8, hK3.trans hk8, hO8, hr8.1⟩
end Go.Proofs.YtehpccanjlaokaaGreat
