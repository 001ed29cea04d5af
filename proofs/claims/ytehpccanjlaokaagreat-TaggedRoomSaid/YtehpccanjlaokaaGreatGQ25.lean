/- Union, meet, less of ids that are used. With and without an item, of ids that are used. -/
import Derived.Test.YtehpccanjlaokaaGreatGQ24
namespace Go.Proofs.YtehpccanjlaokaaGreat
open Go.RowKit Go.Joins

theorem below_alloc4 (w : World) (a b c d : Obj) : Below w.heap.size w ((((w.alloc a).alloc b).alloc c).alloc d) := (below_alloc3 w a b c).alloc (below_alloc3 w a b c).size d
theorem wf_name (k : Nat) (h : k ≤ 8) : (Lit.int .i64 (k : Int)).wf = true := WalkArith.wf_i64 (by omega)
set_option maxHeartbeats 2000000 in
set_option maxRecDepth 100000 in
/-- By halves. -/
theorem zapart_any {fr nm k : Nat} (hnm : nm < 3) (hcf : ∀ (args : Array Value) (w1 : World), (Sem.run Tryz.prog (callFunc fr args) w1) = .ok (.enter fr args) w1) (IH : ∀ j, j < k → Op2Ok fr nm j) {N : Nat → Prop} {w : World} {zb ab bm wk mm : Nat} {v : Value} {room full : Nat} {S0 S : St} {c : Nat} (hd : ZdAt w N zb ab bm v room full S) (hw : WkAt w wk zb mm) (hr : RemZ w mm S0 S c) (hne : mm ≠ bm) (hN : ¬ N mm)
    (x f g : Int) (hx : x = (nm : Int)) (f0 : 0 ≤ lvl S f) (g0 : 0 ≤ lvl S g) (fk : 24 ≤ lvl S f + k) (gk : 24 ≤ lvl S g + k) (hk : k ≤ 24) (hc : c + k * min (zn S f) (zn S g) ≤ 1000000) (hf1 : f ≠ 0) (hg1 : g ≠ 0) (hfg : f ≠ g) :
    Calls Tryz.prog 145 #[.pointer (some ⟨wk, 0, none⟩), .int .i64 x, .int .i64 f, .int .i64 g, .func (.func fr) #[.pointer (some ⟨wk, 0, none⟩)] #[]] w
      (MadeZ no8 (MZ bm mm) N w zb ab bm room fun w' T id er => OutZ k room S (op2F nm (zf S k f) (zf S k g)) (tB k (op2F nm (zf S k f) (zf S k g)) (k * min (zn S f) (zn S g))) T id er ∧ RemZ w' mm S0 T (c + k * min (zn S f) (zn S g))) := by
  subst hx
  have hV := hd.zst.vst
  have hlt : min (lvl S f) (lvl S g) < 24 := by
    rcases Int.lt_or_le (lvl S f) 24 with h | h
    · omega
    · rcases Int.lt_or_le (lvl S g) 24 with h' | h'
      · omega
      · have e1 := end_of_lvl hV h
        have e2 := end_of_lvl hV h'
        omega
  obtain ⟨j, hj⟩ : ∃ j : Nat, min (lvl S f) (lvl S g) + (j + 1 : Nat) = 24 := ⟨(23 - min (lvl S f) (lvl S g)).toNat, by omega⟩
  have hjk : j + 1 ≤ k := by omega
  have z1 := zn_pos hd.zst f0 hf1
  have z2 := zn_pos hd.zst g0 hg1
  have hjm : (j + 1) * min (zn S f) (zn S g) ≤ k * min (zn S f) (zn S g) := Nat.mul_le_mul_right _ hjk
  have hpos : 1 ≤ (j + 1) * min (zn S f) (zn S g) := by
    have h1 : 1 ≤ min (zn S f) (zn S g) := by omega
    have h2 := Nat.mul_le_mul (Nat.succ_le_succ (Nat.zero_le j)) h1
    omega
  have hA : ArgE S0 S nm f g := ⟨fun _ => f0, fun _ _ _ => g0, fun h => by omega⟩
  have hbase : baseE S0 S nm f g = min (lvl S f) (lvl S g) := by unfold baseE; rw [if_neg (by omega), if_pos (by omega)]
  have hfam : ∀ D : Nat, famE S0 S nm f g D = op2F nm (zf S D f) (zf S D g) := fun D => by unfold famE; rw [if_pos hnm]
  have hB4 := below_alloc4 w (.cells #[.pointer (some ⟨wk, 0, none⟩)] 164 (0, 0)) (.cells #[.int .i64 f] 3 (0, 0)) (.cells #[.int .i64 g] 3 (0, 0)) (.cells #[.func (.func fr) #[.pointer (some ⟨wk, 0, none⟩)] #[]] 166 (0, 0))
  have hbx := ABox.new w wk f g (.func (.func fr) #[.pointer (some ⟨wk, 0, none⟩)] #[])
  have hcf2 : ∀ (args : Array Value) (w1 : World), (Sem.run Tryz.prog (callFunc 165 args) w1) = .ok (.enter 165 args) w1 := fun _ _ => by kernel_rfl
  have hd4 := hd.below hB4
  have hw4 := hw.below hB4
  have hr4 := hr.below hB4
  go_enter Tryz.func145, Tryz.ntmps145
  go_upto_region 1 with (fail)
  generalize (((w.alloc (.cells #[.pointer (some ⟨wk, 0, none⟩)] 164 (0, 0))).alloc (.cells #[.int .i64 f] 3 (0, 0))).alloc (.cells #[.int .i64 g] 3 (0, 0))).alloc (.cells #[.func (.func fr) #[.pointer (some ⟨wk, 0, none⟩)] #[]] 166 (0, 0)) = W at *
  have HR := zrecall_any (F := op2F nm (zf S (j + 1) f) (zf S (j + 1) g)) hd4 hw4 hr4 hne (.inr rfl) hN nm nm f g rfl ⟨wf_name nm (by omega), wf_idz hd.max f0, wf_idz hd.max g0⟩ 165 #[.pointer (some ⟨w.heap.size, 0, none⟩), .pointer (some ⟨w.heap.size + 1, 0, none⟩), .pointer (some ⟨w.heap.size + 1 + 1, 0, none⟩), .pointer (some ⟨w.heap.size + 1 + 1 + 1, 0, none⟩)] hcf2
    (j + 1) (tB (j + 1) (op2F nm (zf S (j + 1) f) (zf S (j + 1) g)) ((j + 1) * min (zn S f) (zn S g))) ((j + 1) * min (zn S f) (zn S g) - 1)
    (fun r he => by rw [← hfam]; exact he.out hd.zst (by omega) (by rw [hbase]; omega) room _)
    (fun y => zapart1_any hcf (IH j (by omega)) (hd4.below y.2) (hw4.below y.2) (hr4.below y.2) hne hN f g (hbx.below y.2) f0 g0 hj (by omega) z1 z2)
    (fun T id ho => OutZ.remember hV hA (by rw [hbase]; omega) (by rw [hfam]; exact ho)) (by omega)
  obtain ⟨w0, -⟩ := nowz1 hbx.a rfl
  obtain ⟨f1, -⟩ := nowz1 hbx.f rfl
  obtain ⟨g1, -⟩ := nowz1 hbx.g rfl
  have hK4 : Kz no8 (MZ bm mm) N w W := Kz.of_below hB4
  have hraise : ∀ T id er, OutZ (j + 1) room S (op2F nm (zf S (j + 1) f) (zf S (j + 1) g)) (tB (j + 1) (op2F nm (zf S (j + 1) f) (zf S (j + 1) g)) ((j + 1) * min (zn S f) (zn S g))) T id er → Hid (OutZ k room S (op2F nm (zf S k f) (zf S k g)) (tB k (op2F nm (zf S k f) (zf S k g)) (k * min (zn S f) (zn S g))) T id er) := fun T id er ho => Lib.hid (by
    obtain ⟨d, rfl⟩ : ∃ d, k = (j + 1) + d := ⟨k - (j + 1), by omega⟩
    have hts := tS_raise hA (D := j + 1) (by rw [hbase]; omega) d
    rw [← hfam] at ho ⊢
    exact (OutZ.raise hA (by rw [hbase]; omega) d ho).more (tB_more (by rw [hts]; exact Nat.le_refl _) hjm))
  clear hA hbase hfam hbx hd4 hw4 hr4 hcf hcf2 IH hd hw hr hlt hj z1 z2 hB4
  go_wp2_with fail
  refine HR.mono ?_
  rintro e w2 ⟨v2, full2, T, id, er, rfl, hd8, hk8, hO8, hr8⟩
  have hO := hraise _ _ _ hO8
  clear HR hraise hO8
  go_wp2
  go_ret2
  exact ⟨v2, full2, T, id, er, rfl, hd8, hK4.trans hk8, hO.out, hr8.more (by omega)⟩
set_option maxHeartbeats 1000000 in
theorem zunion_any (k : Nat) : Op2Ok 120 0 k := by
  induction k using Nat.strongRecOn with
  | _ k IH =>
    intro N w zb ab bm wk mm v room full S0 S c hd hw hr hne hN f g f0 g0 fk gk hk hc
    have hcf : ∀ (args : Array Value) (w1 : World), (Sem.run Tryz.prog (callFunc 120 args) w1) = .ok (.enter 120 args) w1 := fun _ _ => by kernel_rfl
    have hzz : ∀ n, zf S k 0 n = false := fun n => zf_zero S k n hk
    have h24 : lvl S 0 = 24 := lvl_end (.inl rfl)
    have hdone : ∀ r : Int, 0 ≤ lvl S r → 24 ≤ lvl S r + k → (∀ n, zf S k r n = op2 0 (zf S k f n) (zf S k g n)) → MadeZ no8 (MZ bm mm) N w zb ab bm room (fun w' T id er => OutZ k room S (op2F 0 (zf S k f) (zf S k g)) (tB k (op2F 0 (zf S k f) (zf S k g)) (k * min (zn S f) (zn S g))) T id er ∧ RemZ w' mm S0 T (c + k * min (zn S f) (zn S g))) (.returned (.tuple #[.int .i64 r, .int .i64 0])) w := fun r r0 rk hh =>
      ⟨v, full, S, r, 0, rfl, hd, Kz.refl _ _ _ _, OutZ.stay hd.zst r0 rk (funext hh) _, hr.more (Nat.le_add_right _ _)⟩
    by_cases n0 : f = g
    · subst n0
      have hD := Lib.hid (hdone f f0 fk (fun n => by unfold op2; simp))
      clear hdone hzz IH hcf hc
      go_enter Tryz.func120, Tryz.ntmps120
      go_wp2_with fail
      go_ret2
      exact hD.out
    have b0 : (f == g) = false := by simpa using n0
    by_cases n1 : g = 0
    · subst n1
      have hD := Lib.hid (hdone f f0 fk (fun n => by unfold op2; rw [hzz]; simp))
      clear hdone hzz IH hcf hc
      go_enter Tryz.func120, Tryz.ntmps120
      go_wp2_with fail
      go_ret2
      exact hD.out
    have b1 : (g == 0) = false := by simpa using n1
    by_cases n2 : f = 0
    · subst n2
      have hD := Lib.hid (hdone g g0 gk (fun n => by unfold op2; rw [hzz]; simp))
      clear hdone hzz IH hcf hc
      go_enter Tryz.func120, Tryz.ntmps120
      go_wp2_with fail
      go_ret2
      exact hD.out
    have b2 : (f == 0) = false := by simpa using n2
    have HA := zapart_any (x := 0) (by decide) hcf IH hd hw hr hne hN f g rfl f0 g0 fk gk hk hc n2 n1 n0
    clear hdone hzz IH hcf hc hd hr hw n0 n1 n2
    go_enter Tryz.func120, Tryz.ntmps120
    go_wp2_with fail
    refine HA.mono ?_
    rintro e w2 ⟨v2, full2, T, id, er, rfl, hd8, hk8, hO8, hr8⟩
    clear HA
    go_wp2
    go_ret2
    exact ⟨v2, full2, T, id, er, rfl, hd8, hk8, hO8, hr8⟩
set_option maxHeartbeats 1000000 in
theorem zless_any (k : Nat) : Op2Ok 116 2 k := by
  induction k using Nat.strongRecOn with
  | _ k IH =>
    intro N w zb ab bm wk mm v room full S0 S c hd hw hr hne hN f g f0 g0 fk gk hk hc
    have hcf : ∀ (args : Array Value) (w1 : World), (Sem.run Tryz.prog (callFunc 116 args) w1) = .ok (.enter 116 args) w1 := fun _ _ => by kernel_rfl
    have hzz : ∀ n, zf S k 0 n = false := fun n => zf_zero S k n hk
    have h24 : lvl S 0 = 24 := lvl_end (.inl rfl)
    have hdone : ∀ r : Int, 0 ≤ lvl S r → 24 ≤ lvl S r + k → (∀ n, zf S k r n = op2 2 (zf S k f n) (zf S k g n)) → MadeZ no8 (MZ bm mm) N w zb ab bm room (fun w' T id er => OutZ k room S (op2F 2 (zf S k f) (zf S k g)) (tB k (op2F 2 (zf S k f) (zf S k g)) (k * min (zn S f) (zn S g))) T id er ∧ RemZ w' mm S0 T (c + k * min (zn S f) (zn S g))) (.returned (.tuple #[.int .i64 r, .int .i64 0])) w := fun r r0 rk hh =>
      ⟨v, full, S, r, 0, rfl, hd, Kz.refl _ _ _ _, OutZ.stay hd.zst r0 rk (funext hh) _, hr.more (Nat.le_add_right _ _)⟩
    by_cases n0 : f = g
    · subst n0
      have hD := Lib.hid (hdone 0 (by omega) (by omega) (fun n => by unfold op2; rw [hzz]; simp))
      clear hdone hzz IH hcf hc
      go_enter Tryz.func116, Tryz.ntmps116
      go_wp2_with fail
      go_ret2
      exact hD.out
    have b0 : (f == g) = false := by simpa using n0
    by_cases n1 : f = 0
    · subst n1
      have hD := Lib.hid (hdone 0 (by omega) (by omega) (fun n => by unfold op2; rw [hzz]; simp))
      clear hdone hzz IH hcf hc
      go_enter Tryz.func116, Tryz.ntmps116
      go_wp2_with fail
      go_ret2
      exact hD.out
    have b1 : (f == 0) = false := by simpa using n1
    by_cases n2 : g = 0
    · subst n2
      have hD := Lib.hid (hdone f f0 fk (fun n => by unfold op2; rw [hzz]; simp))
      clear hdone hzz IH hcf hc
      go_enter Tryz.func116, Tryz.ntmps116
      go_wp2_with fail
      go_ret2
      exact hD.out
    have b2 : (g == 0) = false := by simpa using n2
    have HA := zapart_any (x := 2) (by decide) hcf IH hd hw hr hne hN f g rfl f0 g0 fk gk hk hc n1 n2 n0
    clear hdone hzz IH hcf hc hd hr hw n0 n1 n2
    go_enter Tryz.func116, Tryz.ntmps116
    go_wp2_with fail
    refine HA.mono ?_
    rintro e w2 ⟨v2, full2, T, id, er, rfl, hd8, hk8, hO8, hr8⟩
    clear HA
    go_wp2
    go_ret2
    exact ⟨v2, full2, T, id, er, rfl, hd8, hk8, hO8, hr8⟩
end Go.Proofs.YtehpccanjlaokaaGreat
namespace Go.Proofs.YtehpccanjlaokaaGreat
open Go.RowKit Go.Joins

theorem one_step {k f f0 f1 : Nat} (hf : f = f0 + f1) (h1 : 1 ≤ f) : k * f0 + k * f1 + 1 ≤ (k + 1) * f := by
  rw [hf, Nat.add_mul, Nat.mul_add, Nat.one_mul]
  omega
theorem famE5 (S0 S : St) (f x : Int) (D : Nat) : famE S0 S 5 f x D = joinF D (zf S D f) (zf S D x) := by
  unfold famE
  rw [if_neg (show ¬ (5 : Nat) < 3 by decide), if_neg (show ¬ (5 : Nat) = 3 by decide), if_neg (show ¬ (5 : Nat) = 4 by decide), if_pos rfl]
theorem famE8 (S0 S : St) (f x : Int) (D : Nat) : famE S0 S 8 f x D = zf S0 D f := by
  unfold famE
  rw [if_neg (show ¬ (8 : Nat) < 3 by decide), if_neg (show ¬ (8 : Nat) = 3 by decide), if_neg (show ¬ (8 : Nat) = 4 by decide), if_neg (show ¬ (8 : Nat) = 5 by decide), if_neg (show ¬ (8 : Nat) = 6 by decide), if_neg (show ¬ (8 : Nat) = 7 by decide)]
end Go.Proofs.YtehpccanjlaokaaGreat
