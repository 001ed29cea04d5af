/- The document's own text of a table, for every right table. -/
import Derived.Test.YtpjjnafegngdkaaDoorRefp03
import Derived.Deep.RegionHeld3
import Derived.Deep.CutRange
namespace Go.Proofs.YtpjjnafegngdkaaDoor
open Go.RowKit Go.Joins

theorem wpAnyH_weaken {P : Program} {md : Region.Mode} {ops : Array Oper} {Q : Exit → Act → World → Prop} {S S' : World → Prop} (h : ∀ w, S' w → S w) : ∀ {fuel : Nat} {listed : Array Bool} {a : Act} {w : World}, wpAnyH P md ops Q S' fuel listed a w → wpAnyH P md ops Q S fuel listed a w := by
  intro fuel
  induction fuel with
  | zero => intro listed a w hw; exact hw
  | succ n ih => intro listed a w hw; exact ⟨hw.1, fun i hi => wpOp_mono (fun a' w' hh => ⟨h w' hh.1, ih hh.2⟩) (hw.2 i hi)⟩
/-- A callee that makes memory of its own keeps a box, and what lay below a block. -/
theorem Calls.boxed {f : FuncId} {args : Array Value} {v : Value} {w w1 : World} {b : Nat} {o : Obj} (h : Calls Tryd.prog f args w1 fun e w' => e = .returned v ∧ Below w1.heap.size w1 w') (hk : w1.heap[b]? = some o) (hb : Below w.heap.size w w1) :
    Calls Tryd.prog f args w1 fun e w' => e = .returned v ∧ w'.heap[b]? = some o ∧ Below w.heap.size w w' ∧ Below w1.heap.size w1 w' :=
  h.mono fun _ _ ⟨a, c⟩ => ⟨a, keep_blk c hk, hb.trans (c.mono hb.size), c⟩
theorem haveThen {P Q : Prop} (h : P) (k : P → Q) : Q := k h
theorem kinds_at (K : Nat) (hK : K ≤ 3) {w : World} {b : Nat} (h : w.heap[b]? = some kindsB) : w.cell? ⟨b, K, none⟩ = some (.string (str (kindW K))) := by
  unfold kindsB at h
  rw [cell_of_block h]
  have : K = 0 ∨ K = 1 ∨ K = 2 ∨ K = 3 := by omega
  rcases this with rfl | rfl | rfl | rfl <;> rfl
theorem blkDrew {w : World} {b : Nat} {o : Obj} (h : w.heap[b]? = some o) : w.drew.heap[b]? = some o := h
theorem belowAlloc {w X : World} {o : Obj} (hX : Below w.heap.size w X) : Below w.heap.size w (X.alloc o) := hX.alloc hX.size o
theorem str_add (a b : List UInt8) : str a ++ str b = str (a ++ b) := by
  apply ByteArray.ext
  apply Array.ext'
  rw [data_append]
  simp [str]
set_option maxHeartbeats 4000000 in
set_option maxRecDepth 100000 in
theorem rprint_yes (K I N : Nat) (L : Value) (ls : List Ln) (w : World) (hL : LinesAt w w.heap.size L ls) (hr : rightT ⟨K, I, N, ls⟩ = true) :
    Calls Tryd.prog 12 #[tv K I N L] w fun e w' => e = .returned (.string (str (textT ⟨K, I, N, ls⟩))) ∧ Below w.heap.size w w' := by
  have hln := textT_len hr
  obtain ⟨⟨⟨hk0, hk3⟩, ⟨hi0, hi8⟩, hn1, hn4⟩, h64, hlines⟩ := (rightT_iff _).1 hr
  dsimp only at hk0 hk3 hi0 hi8 hn1 hn4 h64
  obtain ⟨A, c, rfl, hlen, hA⟩ := hL
  have ht0 := heap_alloc_new w (tb K I N (.slice A ls.length c))
  have hB0 := below_alloc1 w (tb K I N (.slice A ls.length c))
  have hHl := Lib.hid hlines
  unfold tb at ht0 hB0
  have HI := fun w1 hk hb => Calls.boxed (w := w) (b := w.heap.size) (o := .cells #[.int .i64 K, .int .i64 I, .int .i64 N, .slice A ls.length c] 24 (0, 0)) (digits_any I (by omega) w1) hk hb
  have HN := fun w1 hk hb => Calls.boxed (w := w) (b := w.heap.size) (o := .cells #[.int .i64 K, .int .i64 I, .int .i64 N, .slice A ls.length c] 24 (0, 0)) (digits_any N (by omega) w1) hk hb
  have HL := fun w1 hk hb => Calls.boxed (w := w) (b := w.heap.size) (o := .cells #[.int .i64 K, .int .i64 I, .int .i64 N, .slice A ls.length c] 24 (0, 0)) (digits_any ls.length (by omega) w1) hk hb
  have HK := fun w => kinds_any w
  have hkc : ∀ (w1 : World) (b : Nat), w1.heap[b]? = some kindsB → w1.cell? ⟨b, K, none⟩ = some (.string (str (kindW K))) := fun w1 b h => kinds_at K (by omega) h
  have hkn : ∀ w1 : World, (w1.alloc kindsB).cell? ⟨w1.heap.size, K, none⟩ = some (.string (str (kindW K))) := fun w1 => kinds_at K (by omega) (heap_alloc_new w1 _)
  have hH : Hid ((((((({ data := #[46, 105, 32] } ++ str (digL I)) ++ { data := #[10, 46, 111, 32] }) ++ str (digL N)) ++ { data := #[10, 46, 116, 121, 112, 101, 32] }) ++ str (kindW K)) ++ { data := #[10, 46, 112, 32] }) ++ str (digL ls.length) ++ { data := #[10] } = str (headL ⟨K, I, N, ls⟩)) := Lib.hid (by
    apply ByteArray.ext
    apply Array.ext'
    simp only [data_append]
    unfold headL
    simp [str, wordI, wordO, wordK, wordP])
  have hK4 : (K : Int) < 4 := by omega
  have z1 : (str (digL I)).size ≤ 2 := by rw [size_str]; exact digL_len I
  have z2 : (str (digL N)).size ≤ 2 := by rw [size_str]; exact digL_len N
  have z3 : (str (kindW K)).size ≤ 3 := by rw [size_str]; exact kindW_len K
  have z4 : (str (digL ls.length)).size ≤ 2 := by rw [size_str]; exact digL_len _
  generalize str (digL I) = sI at *
  generalize str (digL N) = sN at *
  generalize str (kindW K) = sK at *
  generalize str (digL ls.length) = sL at *
  obtain ⟨T1, t1, y1⟩ : ∃ T : ByteArray, { data := #[46, 105, 32] } ++ sI = T ∧ T.size ≤ 5 := ⟨_, rfl, by rw [ByteArray.size_append]; show 3 + _ ≤ _; omega⟩
  obtain ⟨T2, t2, y2⟩ : ∃ T : ByteArray, T1 ++ { data := #[10, 46, 111, 32] } = T ∧ T.size ≤ 9 := ⟨_, rfl, by rw [ByteArray.size_append]; show _ + 4 ≤ _; omega⟩
  obtain ⟨T3, t3, y3⟩ : ∃ T : ByteArray, T2 ++ sN = T ∧ T.size ≤ 11 := ⟨_, rfl, by rw [ByteArray.size_append]; omega⟩
  obtain ⟨T4, t4, y4⟩ : ∃ T : ByteArray, T3 ++ { data := #[10, 46, 116, 121, 112, 101, 32] } = T ∧ T.size ≤ 18 := ⟨_, rfl, by rw [ByteArray.size_append]; show _ + 7 ≤ _; omega⟩
  obtain ⟨T5, t5, y5⟩ : ∃ T : ByteArray, T4 ++ sK = T ∧ T.size ≤ 21 := ⟨_, rfl, by rw [ByteArray.size_append]; omega⟩
  obtain ⟨T6, t6, y6⟩ : ∃ T : ByteArray, T5 ++ { data := #[10, 46, 112, 32] } = T ∧ T.size ≤ 25 := ⟨_, rfl, by rw [ByteArray.size_append]; show _ + 4 ≤ _; omega⟩
  obtain ⟨T7, t7, y7⟩ : ∃ T : ByteArray, T6 ++ sL = T ∧ T.size ≤ 27 := ⟨_, rfl, by rw [ByteArray.size_append]; omega⟩
  obtain ⟨T8, t8, y8⟩ : ∃ T : ByteArray, T7 ++ { data := #[10] } = T ∧ T.size ≤ 28 := ⟨_, rfl, by rw [ByteArray.size_append]; show _ + 1 ≤ _; omega⟩
  have hH8 : Hid (T8 = str (headL ⟨K, I, N, ls⟩)) := Lib.hid (by rw [← hH.out, t1, t2, t3, t4, t5, t6, t7, t8])
  have x1 : ¬ 9223372036854775807 < 3 + sI.size := by omega
  have x2 : ¬ 9223372036854775807 < T1.size + 4 := by omega
  have x3 : ¬ 9223372036854775807 < T2.size + sN.size := by omega
  have x4 : ¬ 9223372036854775807 < T3.size + 7 := by omega
  have x5 : ¬ 9223372036854775807 < T4.size + sK.size := by omega
  have x6 : ¬ 9223372036854775807 < T5.size + 4 := by omega
  have x7 : ¬ 9223372036854775807 < T6.size + sL.size := by omega
  have x8 : ¬ 9223372036854775807 < T7.size + 1 := by omega
  clear hH hr hlines
  unfold tv
  unfold kindsB at HK hkn hkc
  go_enter Tryd.func12, Tryd.ntmps12
  go_upto_region 1 with (fail)
  generalize (w.alloc (.cells #[.int .i64 K, .int .i64 I, .int .i64 N, .slice A ls.length c] 24)) = w0 at *
  obtain ⟨q0, q1, q2, q3⟩ := tb_now ht0
  have hz0 := size_of_block ht0
  go_cut [3] from 5 to 27 (fun s wc => s = .string T8 ∧ wc.heap[w.heap.size]? = some (.cells #[.int .i64 K, .int .i64 I, .int .i64 N, .slice A ls.length c] 24 (0, 0)) ∧ Below w.heap.size w wc)
  case first =>
    refine wp_region_held_drew (S := fun w' => w'.cell? ⟨w.heap.size, 0, none⟩ = some (.int .i64 K) ∧ w'.cell? ⟨w.heap.size, 1, none⟩ = some (.int .i64 I) ∧ w'.cell? ⟨w.heap.size, 2, none⟩ = some (.int .i64 N) ∧ w'.cell? ⟨w.heap.size, 3, none⟩ = some (.slice A ls.length c)) (by kernel_rfl) ⟨q0, q1, q2, q3⟩ (fun hHeld => ?_)
    refine wpAnyH_take (i := 0) (oi := _) (v := ?_) rfl (by kernel_rfl) (by kernel_rfl) (by kernel_rfl) (fun _ _ _ h => h) (Or.inl ⟨by rfl, ?_⟩) (by assumption) ?_
    rotate_left 1
    · intro w_ hSw
      obtain ⟨_, _, _, _⟩ := hSw
      go_simp
      try with_reducible rfl
    try simp only [Act.put, List.setIfInBounds_toArray]
    refine wpAnyH_take (i := 1) (oi := _) (v := ?_) rfl (by kernel_rfl) (by kernel_rfl) (by kernel_rfl) (fun _ _ _ h => h) (Or.inl ⟨by rfl, ?_⟩) (by assumption) ?_
    rotate_left 1
    · intro w_ hSw
      obtain ⟨_, _, _, _⟩ := hSw
      go_simp
      try with_reducible rfl
    try simp only [Act.put]
    refine wpAnyH_take (i := 5) (oi := _) (v := ?_) rfl (by kernel_rfl) (by kernel_rfl) (by kernel_rfl) (fun _ _ _ h => h) (Or.inl ⟨by rfl, ?_⟩) (by assumption) ?_
    rotate_left 1
    · intro w_ hSw
      obtain ⟨_, _, _, _⟩ := hSw
      go_simp
      try with_reducible rfl
    try simp only [Act.put]
    refine wpAnyH_take (i := 6) (oi := _) (v := ?_) rfl (by kernel_rfl) (by kernel_rfl) (by kernel_rfl) (fun _ _ _ h => h) (Or.inl ⟨by rfl, ?_⟩) (by assumption) ?_
    rotate_left 1
    · intro w_ hSw
      obtain ⟨_, _, _, _⟩ := hSw
      go_simp
      try with_reducible rfl
    try simp only [Act.put]
    refine wpAnyH_take (i := 11) (oi := _) (v := ?_) rfl (by kernel_rfl) (by kernel_rfl) (by kernel_rfl) (fun _ _ _ h => h) (Or.inl ⟨by rfl, ?_⟩) (by assumption) ?_
    rotate_left 1
    · intro w_ hSw
      obtain ⟨_, _, _, _⟩ := hSw
      go_simp
      try with_reducible rfl
    try simp only [Act.put]
    refine wpAnyH_take (i := 12) (oi := _) (v := ?_) rfl (by kernel_rfl) (by kernel_rfl) (by kernel_rfl) (fun _ _ _ h => h) (Or.inl ⟨by rfl, ?_⟩) (by assumption) ?_
    rotate_left 1
    · intro w_ hSw
      obtain ⟨_, _, _, _⟩ := hSw
      go_simp
      try with_reducible rfl
    try simp only [Act.put]
    refine wpAnyH_take (i := 17) (oi := _) (v := ?_) rfl (by kernel_rfl) (by kernel_rfl) (by kernel_rfl) (fun _ _ _ h => h) (Or.inl ⟨by rfl, ?_⟩) (by assumption) ?_
    rotate_left 1
    · intro w_ hSw
      obtain ⟨_, _, _, _⟩ := hSw
      go_simp
      try with_reducible rfl
    try simp only [Act.put]
    refine wpAnyH_take (i := 18) (oi := _) (v := ?_) rfl (by kernel_rfl) (by kernel_rfl) (by kernel_rfl) (fun _ _ _ h => h) (Or.inl ⟨by rfl, ?_⟩) (by assumption) ?_
    rotate_left 1
    · intro w_ hSw
      obtain ⟨_, _, _, _⟩ := hSw
      go_simp
      try with_reducible rfl
    try simp only [Act.put]
    refine wpAnyH_take (i := 19) (oi := _) (v := ?_) rfl (by kernel_rfl) (by kernel_rfl) (by kernel_rfl) (fun _ _ _ h => h) (Or.inl ⟨by rfl, ?_⟩) (by assumption) ?_
    rotate_left 1
    · intro w_ hSw
      obtain ⟨_, _, _, _⟩ := hSw
      go_simp
      try with_reducible rfl
    try simp only [Act.put]
    refine wpAnyH_ready (rs := [2]) (by kernel_rfl) (by simp) ?_
    refine AllReadyH.cons (o := _) rfl (fun _ hK => ?_) AllReadyH.nil
    go_simp
    refine (HI _ (by repeat (first | (with_reducible assumption) | (with_reducible refine blkDrew ?_) | (with_reducible refine keep_alloc ?_))) (by repeat (first | (with_reducible assumption) | (with_reducible refine Below.drew ?_) | (with_reducible refine belowAlloc ?_)))).mono ?_
    rintro e w1 ⟨rfl, hk1, hb1, hc1⟩
    obtain ⟨r0, r1, r2, r3⟩ := tb_now hk1
    refine hK.out _ _ ⟨r0, r1, r2, r3⟩ (fun hHeld => ?_)
    clear hK
    try simp only [Act.put, List.setIfInBounds_toArray, List.set_cons_zero, List.set_cons_succ]
    clear r0 r1 r2 r3
    refine wpAnyH_take (i := 3) (oi := _) (v := ?_) rfl (by kernel_rfl) (by kernel_rfl) (by kernel_rfl) (fun _ _ _ h => h) (Or.inl ⟨by rfl, ?_⟩) (by assumption) ?_
    rotate_left 1
    · intro w_ hSw
      obtain ⟨_, _, _, _⟩ := hSw
      go_simp
      try with_reducible rfl
    try simp only [Act.put, List.setIfInBounds_toArray]
    refine wpAnyH_take (i := 4) (oi := _) (v := ?_) rfl (by kernel_rfl) (by kernel_rfl) (by kernel_rfl) (fun _ _ _ h => h) (Or.inl ⟨by rfl, ?_⟩) (by assumption) ?_
    rotate_left 1
    · intro w_ hSw
      obtain ⟨_, _, _, _⟩ := hSw
      go_simp
      try with_reducible rfl
    try simp only [Act.put]
    refine wpAnyH_ready (rs := [7]) (by kernel_rfl) (by simp) ?_
    refine AllReadyH.cons (o := _) rfl (fun _ hK => ?_) AllReadyH.nil
    go_simp
    refine (HN _ (by repeat (first | (with_reducible assumption) | (with_reducible refine blkDrew ?_) | (with_reducible refine keep_alloc ?_))) (by repeat (first | (with_reducible assumption) | (with_reducible refine Below.drew ?_) | (with_reducible refine belowAlloc ?_)))).mono ?_
    rintro e w2 ⟨rfl, hk2, hb2, hc2⟩
    obtain ⟨r0, r1, r2, r3⟩ := tb_now hk2
    refine hK.out _ _ ⟨r0, r1, r2, r3⟩ (fun hHeld => ?_)
    clear hK
    try simp only [Act.put, List.setIfInBounds_toArray, List.set_cons_zero, List.set_cons_succ]
    clear r0 r1 r2 r3
    refine wpAnyH_take (i := 8) (oi := _) (v := ?_) rfl (by kernel_rfl) (by kernel_rfl) (by kernel_rfl) (fun _ _ _ h => h) (Or.inl ⟨by rfl, ?_⟩) (by assumption) ?_
    rotate_left 1
    · intro w_ hSw
      obtain ⟨_, _, _, _⟩ := hSw
      go_simp
      try with_reducible rfl
    try simp only [Act.put, List.setIfInBounds_toArray]
    refine wpAnyH_take (i := 9) (oi := _) (v := ?_) rfl (by kernel_rfl) (by kernel_rfl) (by kernel_rfl) (fun _ _ _ h => h) (Or.inl ⟨by rfl, ?_⟩) (by assumption) ?_
    rotate_left 1
    · intro w_ hSw
      obtain ⟨_, _, _, _⟩ := hSw
      go_simp
      try with_reducible rfl
    try simp only [Act.put]
    refine wpAnyH_ready (rs := [10]) (by kernel_rfl) (by simp) ?_
    refine AllReadyH.cons (o := _) rfl (fun _ hK => ?_) AllReadyH.nil
    go_simp
    refine (HK _).mono ?_
    rintro e w3 ⟨rfl, rfl⟩
    have hk3 := keep_alloc (x := .cells #[.string { data := #[102] }, .string { data := #[102, 100] }, .string { data := #[102, 114] }, .string { data := #[102, 100, 114] }] 9 (0, 0)) hk2
    obtain ⟨r0, r1, r2, r3⟩ := tb_now hk3
    refine hK.out _ _ ⟨r0, r1, r2, r3⟩ (fun hHeld => ?_)
    clear hK
    try simp only [Act.put, List.setIfInBounds_toArray, List.set_cons_zero, List.set_cons_succ]
    clear r0 r1 r2 r3
    refine wpAnyH_weaken (S' := fun w' => w'.cell? ⟨w.heap.size, 0, none⟩ = some (.int .i64 K) ∧ w'.cell? ⟨w.heap.size, 1, none⟩ = some (.int .i64 I) ∧ w'.cell? ⟨w.heap.size, 2, none⟩ = some (.int .i64 N) ∧ w'.cell? ⟨w.heap.size, 3, none⟩ = some (.slice A ls.length c) ∧ w'.cell? ⟨w2.heap.size, K, none⟩ = some (.string sK)) (fun _ h => ⟨h.1, h.2.1, h.2.2.1, h.2.2.2.1⟩) ?_
    have hHeld2 : (fun w' : World => w'.cell? ⟨w.heap.size, 0, none⟩ = some (.int .i64 K) ∧ w'.cell? ⟨w.heap.size, 1, none⟩ = some (.int .i64 I) ∧ w'.cell? ⟨w.heap.size, 2, none⟩ = some (.int .i64 N) ∧ w'.cell? ⟨w.heap.size, 3, none⟩ = some (.slice A ls.length c) ∧ w'.cell? ⟨w2.heap.size, K, none⟩ = some (.string sK)) _ := ⟨hHeld.1, hHeld.2.1, hHeld.2.2.1, hHeld.2.2.2, hkn _⟩
    refine wpAnyH_take (i := 13) (oi := _) (v := ?_) rfl (by kernel_rfl) (by kernel_rfl) (by kernel_rfl) (fun _ _ _ h => h) (Or.inl ⟨by rfl, ?_⟩) (by assumption) ?_
    rotate_left 1
    · intro w_ hSw
      obtain ⟨_, _, _, _, _⟩ := hSw
      go_simp
      try with_reducible rfl
    try simp only [Act.put, List.setIfInBounds_toArray]
    refine wpAnyH_take (i := 14) (oi := _) (v := ?_) rfl (by kernel_rfl) (by kernel_rfl) (by kernel_rfl) (fun _ _ _ h => h) (Or.inl ⟨by rfl, ?_⟩) (by assumption) ?_
    rotate_left 1
    · intro w_ hSw
      obtain ⟨_, _, _, _, _⟩ := hSw
      go_simp
      try with_reducible rfl
    try simp only [Act.put]
    refine wpAnyH_take (i := 15) (oi := _) (v := ?_) rfl (by kernel_rfl) (by kernel_rfl) (by kernel_rfl) (fun _ _ _ h => h) (Or.inl ⟨by rfl, ?_⟩) (by assumption) ?_
    rotate_left 1
    · intro w_ hSw
      obtain ⟨_, _, _, _, _⟩ := hSw
      go_simp
      try with_reducible rfl
    try simp only [Act.put]
    refine wpAnyH_take (i := 16) (oi := _) (v := ?_) rfl (by kernel_rfl) (by kernel_rfl) (by kernel_rfl) (fun _ _ _ h => h) (Or.inl ⟨by rfl, ?_⟩) (by assumption) ?_
    rotate_left 1
    · intro w_ hSw
      obtain ⟨_, _, _, _, _⟩ := hSw
      go_simp
      try with_reducible rfl
    try simp only [Act.put]
    refine wpAnyH_ready (rs := [20]) (by kernel_rfl) (by simp) ?_
    refine AllReadyH.cons (o := _) rfl (fun _ hK => ?_) AllReadyH.nil
    go_simp
    refine (HL _ (by repeat (first | (with_reducible assumption) | (with_reducible refine blkDrew ?_) | (with_reducible refine keep_alloc ?_))) (by repeat (first | (with_reducible assumption) | (with_reducible refine Below.drew ?_) | (with_reducible refine belowAlloc ?_)))).mono ?_
    rintro e w4 ⟨rfl, hk4, hb4, hc4⟩
    obtain ⟨r0, r1, r2, r3⟩ := tb_now hk4
    have kx := hkc _ _ (keep_blk hc4 (heap_alloc_new _ _))
    refine hK.out _ _ ⟨r0, r1, r2, r3, kx⟩ (fun hHeld => ?_)
    clear hK
    try simp only [Act.put, List.setIfInBounds_toArray, List.set_cons_zero, List.set_cons_succ]
    clear r0 r1 r2 r3 kx
    refine wpAnyH_take (i := 21) (oi := _) (v := ?_) rfl (by kernel_rfl) (by kernel_rfl) (by kernel_rfl) (fun _ _ _ h => h) (Or.inl ⟨by rfl, ?_⟩) (by assumption) ?_
    rotate_left 1
    · intro w_ hSw
      obtain ⟨_, _, _, _, _⟩ := hSw
      go_simp
      try with_reducible rfl
    try simp only [Act.put, List.setIfInBounds_toArray]
    refine wpAnyH_take (i := 22) (oi := _) (v := ?_) rfl (by kernel_rfl) (by kernel_rfl) (by kernel_rfl) (fun _ _ _ h => h) (Or.inl ⟨by rfl, ?_⟩) (by assumption) ?_
    rotate_left 1
    · intro w_ hSw
      obtain ⟨_, _, _, _, _⟩ := hSw
      go_simp
      try with_reducible rfl
    try simp only [Act.put]
    refine wpAnyH_take (i := 23) (oi := _) (v := ?_) rfl (by kernel_rfl) (by kernel_rfl) (by kernel_rfl) (fun _ _ _ h => h) (Or.inl ⟨by rfl, ?_⟩) (by assumption) ?_
    rotate_left 1
    · intro w_ hSw
      obtain ⟨_, _, _, _, _⟩ := hSw
      go_simp
      try with_reducible rfl
    try simp only [Act.put]
    refine wpAnyH_done (by kernel_rfl) ?_ _
    go_wp2_with fail
    go_meet
    exact ⟨rfl, hk4, hb4⟩
  case rest =>
    clear HI HN HL HK hkc hkn hK4 z1 z2 z3 z4 t1 y1 t2 y2 t3 y3 t4 y4 t5 y5 t6 y6 t7 y7 t8 x1 x2 x3 x4 x5 x6 x7 x8 q0 q1 q2 q3 hz0 ht0 hB0
    obtain ⟨rfl, ht, hB⟩ := hcut
    obtain ⟨q0, q1, q2, q3⟩ := tb_now ht
    have hl3 : Hid (∀ j, (headL ⟨K, I, N, ls⟩ ++ rowsL (ls.take j) I).length + 3 ≤ 1000) := Lib.hid (fun j => by
      have := rows_le ls j I
      unfold textT at hln
      simp only [List.length_append, List.length_cons, List.length_nil, Int.toNat_natCast, wordE] at hln ⊢
      omega)
    have hH9 := hH8.out
    clear hH8
    subst hH9
    go_wp2
    go_loopw [3, 4] (fun s t wr => ∃ j : Nat, j ≤ ls.length ∧ t = .int .i64 j ∧ s = .string (str (headL ⟨K, I, N, ls⟩ ++ rowsL (ls.take j) I)) ∧ wr.heap[w.heap.size]? = some (.cells #[.int .i64 K, .int .i64 I, .int .i64 N, .slice A ls.length c] 24 (0, 0)) ∧ Below w.heap.size w wr) (fun _ t _ => ls.length - (intOf t).toNat)
    case atStart => exact ⟨0, by omega, rfl, by simp [rowsL], ht, hB⟩
    case round =>
      clear ht hB q0 q1 q2 q3
      obtain ⟨j, hj, rfl, rfl, ht, hb⟩ := hrel
      obtain ⟨q0, q1, q2, q3⟩ := tb_now ht
      have hz := hb.size
      by_cases hlt : j < ls.length
      · obtain ⟨b, off, rfl, hBb, hc⟩ := hA (by omega)
        obtain ⟨l, hl⟩ : ∃ l, ls[j]? = some l := ⟨_, List.getElem?_eq_getElem hlt⟩
        obtain ⟨ov, x0, x1, x2, hO⟩ := hc j l hl
        obtain ⟨A2, m2, rfl, -, -⟩ := id hO
        have d0 := fun X : After wr => X.cellA (a := ⟨b, off + j * 3, none⟩) (Nat.lt_of_lt_of_le hBb hz) ((hb.cell (p := ⟨b, off + j * 3, none⟩) hBb).trans x0)
        have d1 := fun X : After wr => X.cellA (a := ⟨b, off + j * 3 + 1, none⟩) (Nat.lt_of_lt_of_le hBb hz) ((hb.cell (p := ⟨b, off + j * 3 + 1, none⟩) hBb).trans x1)
        have d2 := fun X : After wr => X.cellA (a := ⟨b, off + j * 3 + 2, none⟩) (Nat.lt_of_lt_of_le hBb hz) ((hb.cell (p := ⟨b, off + j * 3 + 2, none⟩) hBb).trans x2)
        have p1 := fun X : After wr => After.cell X q1
        have p3 := fun X : After wr => After.cell X q3
        have hll := (lineB_iff _ _ _).1 (hHl.out l (List.mem_of_getElem? hl))
        have HL := fun X : After wr => rline_any l.m l.v (.slice A2 l.o.length m2) l.o I X.1 ((hO.below (hb.trans (X.2.mono hz))).more (hb.trans (X.2.mono hz)).size) (by omega) hll.2.2 (by have := hll.2.1; omega)
        have hsucc := Lib.hid (rows_succ hl I)
        have hl4 := hl3.out (j + 1)
        rw [hsucc.out] at hl4
        have hrl := size_str (rowL ⟨l.m, l.v, l.o⟩ I)
        have hsl := size_str (headL ⟨K, I, N, ls⟩ ++ rowsL (ls.take j) I)
        obtain ⟨T1, t1, y1⟩ : ∃ T : ByteArray, str (headL ⟨K, I, N, ls⟩ ++ rowsL (ls.take j) I) ++ str (rowL ⟨l.m, l.v, l.o⟩ I) = T ∧ T.size ≤ 1000 := ⟨_, rfl, by
          rw [ByteArray.size_append, hrl, hsl]; simp only [List.length_append, List.length_cons, List.length_nil] at hl4 ⊢; show _ + (rowL l I).length ≤ _; omega⟩
        have e1 : ¬ 9223372036854775807 < (str (headL ⟨K, I, N, ls⟩ ++ rowsL (ls.take j) I)).size + (str (rowL ⟨l.m, l.v, l.o⟩ I)).size := by
          rw [hrl, hsl]; simp only [List.length_append, List.length_cons, List.length_nil] at hl4 ⊢; show ¬ _ < _ + (rowL l I).length; omega
        have e2 : ¬ 9223372036854775807 < T1.size + 1 := by omega
        have hfin : Hid (T1 ++ { data := #[10] } = str (headL ⟨K, I, N, ls⟩ ++ rowsL (ls.take (j + 1)) I)) := Lib.hid (by
          rw [← t1, hsucc.out, str_add, str_snoc]
          show str (_ ++ rowL l I ++ [10]) = _
          simp)
        have tX := fun X : After wr => X.same ht
        have b1 : (0 : Int) ≤ (j : Int) := by omega
        have b2 : (j : Int) < (ls.length : Int) := by omega
        clear hc hl hA x0 x1 x2 hll hl4 hrl hsl hO ht q0 q1 q2
        unfold lv bvv at *
        generalize str (rowL ⟨l.m, l.v, l.o⟩ I) = R at *
        generalize str (headL ⟨K, I, N, ls⟩ ++ rowsL (ls.take j) I) = S at *
        go_wp2
        refine wp_region_after (by kernel_rfl) (by kernel_rfl) ?_
        repeat (first | go_big_quiet_step ((go_at_call 30; exact Calls.after_of (HL _))))
        refine wpQuiet_nil ?_
        intro X
        have hX := X.2
        have tX1 := tX X
        clear d0 d1 d2 p1 p3 HL tX
        go_wp2
        go_roundw
        case rel => exact ⟨j + 1, by omega, by go_num, by rw [hfin.out], tX1, hb.trans (hX.mono hz)⟩
        case measure => simp [intOf]; omega
      · have e : j = ls.length := by omega
        subst e
        have hl4 := hl3.out ls.length
        rw [List.take_length] at hl4 ⊢
        have e1 : ¬ 9223372036854775807 < (str (headL ⟨K, I, N, ls⟩ ++ rowsL ls I)).size + 3 := by rw [size_str]; omega
        have hfin : Hid (str (headL ⟨K, I, N, ls⟩ ++ rowsL ls I) ++ { data := #[46, 101, 10] } = str (textT ⟨K, I, N, ls⟩)) := Lib.hid (by
          rw [show ({ data := #[46, 101, 10] } : ByteArray) = str (wordE ++ [10]) from rfl, str_add]; rfl)
        generalize str (headL ⟨K, I, N, ls⟩ ++ rowsL ls I) = S at *
        clear hA hl4
        go_wp2
        go_ret
        exact ⟨by rw [← hfin.out]; rfl, hb⟩
end Go.Proofs.YtpjjnafegngdkaaDoor
