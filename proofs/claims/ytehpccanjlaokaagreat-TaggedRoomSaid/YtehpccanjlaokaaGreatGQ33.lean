/- How much a step of a draft makes, plain. The primes of a part, by halves: what is prime in one half alone. -/
import Derived.Test.YtehpccanjlaokaaGreatGQ20
import Derived.Test.YtehpccanjlaokaaGreatGQ32
namespace Go.Proofs.YtehpccanjlaokaaGreat

theorem rowF_up (t : Nat) : rowF [2 ^ t] = upF t (rowF [1]) := by
  funext x
  unfold rowF upF
  rw [Bool.eq_iff_iff, Bool.and_eq_true, decide_eq_true_iff, decide_eq_true_iff, decide_eq_true_iff, List.mem_singleton, List.mem_singleton]
  have hp := Nat.two_pow_pos t
  constructor
  · rintro rfl
    exact ⟨Nat.mod_self _, Nat.div_self hp⟩
  · rintro ⟨h1, h2⟩
    have := Nat.div_add_mod x (2 ^ t)
    rw [h1, h2] at this
    omega
theorem tS_row1 (D : Nat) : tS D (rowF [1]) ≤ 1 := by
  cases D with
  | zero => exact Nat.zero_le _
  | succ D =>
    have h0 : half0 (rowF [1]) = fun _ => false := by
      funext n
      unfold half0 rowF
      exact decide_eq_false (by rw [List.mem_singleton]; omega)
    have h1 : half1 (rowF [1]) = fun x => decide (x = 0) := by
      funext n
      unfold half1 rowF
      rw [Bool.eq_iff_iff, decide_eq_true_iff, decide_eq_true_iff, List.mem_singleton]
      omega
    rw [tS, h0, h1, tS_false, tS_zero]
    omega
theorem tS_one {t : Nat} (ht : t ≤ 24) : tS 24 (rowF [2 ^ t]) ≤ 1 := by
  have h := tS_up (24 - t) (rowF [1]) t
  rw [show 24 - t + t = 24 by omega] at h
  rw [rowF_up, h]
  exact tS_row1 _
/-- What one half alone has, with its literal. -/
def JW (n i t : Nat) (Y B : BitVec 256) : Nat → Bool := joinF 24 (op2F 2 (FI n (i + 1) Y) (FI n (i + 1) B)) (rowF [2 ^ t])
theorem JW_eq {n i t : Nat} {Y B : BitVec 256} (hn : n ≤ 8) (hi : i < n) (ht : t = 2 * i ∨ t = 2 * i + 1) : JW n i t Y B = itemF t (op2F 2 (FI n (i + 1) Y) (FI n (i + 1) B)) := by
  unfold JW
  refine join_add (by omega) fun x hx => ?_
  rw [op2_less, Bool.and_eq_true] at hx
  obtain ⟨h1, h2⟩ := UI_low hn (by omega) (FI_UI hx.1)
  refine ⟨h1, ?_⟩
  rcases ht with rfl | rfl
  · rw [show 2 * (i + 1) = 2 * i + 1 + 1 by omega, Nat.pow_succ] at h2
    have h3 := Nat.mod_mul_right_mod x (2 ^ (2 * i + 1)) 2
    rw [h2, Nat.zero_mod] at h3
    exact h3.symm
  · exact h2
theorem JW_UI {n i t : Nat} {Y B : BitVec 256} (hn : n ≤ 8) (hi : i < n) (ht : t = 2 * i ∨ t = 2 * i + 1) {x : Nat} (h : JW n i t Y B x = true) : UI n i x = true := by
  rw [JW_eq hn hi ht] at h
  unfold itemF at h
  rw [op2_less, Bool.and_eq_true, Bool.and_eq_true, decide_eq_true_iff] at h
  obtain ⟨h1, h2, -⟩ := h
  obtain ⟨-, u1, u2⟩ := UI_step hi (FI_UI h2)
  rcases ht with rfl | rfl
  · rwa [Nat.sub_add_cancel h1] at u1
  · rwa [Nat.sub_add_cancel h1] at u2
theorem tS_in {n i : Nat} {F : Nat → Bool} (hn : n ≤ 8) (hi : i ≤ n) (h : ∀ x, F x = true → UI n i x = true) : tS 24 F ≤ 3 ^ (n - i) - 1 := by
  have h1 := tS_mono 24 h
  have h2 := tS_UI hn hi
  omega
theorem or_UI {n i : Nat} {F G : Nat → Bool} (hF : ∀ x, F x = true → UI n i x = true) (hG : ∀ x, G x = true → UI n i x = true) : ∀ x, op2F 0 F G x = true → UI n i x = true := fun x h => by
  rw [op2_or, Bool.or_eq_true] at h
  exact h.elim (hF x) (hG x)
theorem FI_halves {n i : Nat} {S : BitVec 256} (h8 : n ≤ 8) (hi : i < n) :
    op2F 0 (JW n i (2 * i + 1) (loB S i) (halfB S i false &&& loB S i)) (op2F 0 (JW n i (2 * i + 0) (halfB S i false) (halfB S i false &&& loB S i)) (FI n (i + 1) (halfB S i false &&& loB S i))) = FI n i S := by
  rw [JW_eq h8 hi (.inr rfl), JW_eq (t := 2 * i + 0) h8 hi (.inl (Nat.add_zero _))]
  exact FI_step h8 hi
/-- How many nodes are made for k inputs that are left, and how many parts are remembered. -/
def cN : Nat → Nat
  | 0 => 0
  | k + 1 => 3 * cN k + (14 * 3 ^ k - 4)
def eN : Nat → Nat
  | 0 => 0
  | k + 1 => 3 * eN k + 1
theorem cN_6 : cN 6 = 18956 := by decide
theorem cN_mono : ∀ d k, cN k ≤ cN (k + d)
  | 0, k => Nat.le_refl _
  | d + 1, k => by
    have := cN_mono d k
    rw [show k + (d + 1) = k + d + 1 by omega, cN]
    omega
theorem eN_mono : ∀ d k, eN k ≤ eN (k + d)
  | 0, k => Nat.le_refl _
  | d + 1, k => by
    have := eN_mono d k
    rw [show k + (d + 1) = k + d + 1 by omega, eN]
    omega
theorem three_pow (k : Nat) : 1 ≤ 3 ^ k := Nat.pow_pos (by decide)
theorem aP_le {k : Nat} (h : k ≤ 5) : aP k ≤ 60 := by
  rcases (by omega : k = 0 ∨ k = 1 ∨ k = 2 ∨ k = 3 ∨ k = 4 ∨ k = 5) with rfl | rfl | rfl | rfl | rfl | rfl <;> decide
end Go.Proofs.YtehpccanjlaokaaGreat
namespace Go.Proofs.YtehpccanjlaokaaGreat
open Go.RowKit Go.Joins

/-- What a draft's call leaves behind. -/
def DfPost (N : Nat → Prop) (w : World) (zb ab bm n mm : Nat) (S : St) (C B E : Nat) (F : Nat → Bool) (e : Ending) (w' : World) : Prop :=
  ∃ (v' : Value) (full' : Nat) (T : St) (id : Int), e = .returned (.tuple #[.int .i64 id, .int .i64 0]) ∧ ZdAt w' N zb ab bm v' 20000 full' T ∧ Kz no8 (MZ bm mm) N w w' ∧ Ext S T ∧ Held T id F ∧ cnt T ≤ cnt S + B ∧ RemP w' mm n T (C + E)
def PrimesOk (n k : Nat) : Prop := ∀ {N : Nat → Prop} {w : World} {zb ab bm drb mm : Nat} {v : Value} {full : Nat} {S : St} {C : Nat}, ZdAt w N zb ab bm v 20000 full S → DrAt w drb zb n mm → RemP w mm n S C → mm ≠ bm → ¬ N mm →
  ∀ (X : BitVec 256) (i : Nat), i + k = n → LowI n i X → cnt S + cN k < 20000 → C + eN k ≤ 1000000 →
  Calls Tryz.prog 48 #[.pointer (some ⟨drb, 0, none⟩), sv X, .int .i64 i] w (DfPost N w zb ab bm n mm S C (cN k) (eN k) (FI n i X))
theorem blk_ne {w : World} {b c : Nat} {A A' : Array Value} {T T' : TypeId} {z z' : Nat × Nat} (h : w.heap[b]? = some (.cells A T z)) (h' : w.heap[c]? = some (.cells A' T' z')) (hT : T ≠ T') : b ≠ c := fun e => by
  subst e
  rw [h] at h'
  injection h' with h'
  injection h' with _ h' _
  exact hT h'
/-- How much is made of one half. -/
def wN (k : Nat) : Nat := 1 + (3 ^ k - 1) + (3 ^ (k + 1) - 1) + (3 ^ (k + 1) - 1)
structure WBox (w : World) (pe pd pi pa pb drb i : Nat) (all both : Int) : Prop where
  e : w.heap[pe]? = some (.cells #[.int .i64 0] 26 (0, 0))
  d : w.heap[pd]? = some (.cells #[.pointer (some ⟨drb, 0, none⟩)] 92 (0, 0))
  i : w.heap[pi]? = some (.cells #[.int .i64 i] 3 (0, 0))
  a : w.heap[pa]? = some (.cells #[.int .i64 all] 3 (0, 0))
  b : w.heap[pb]? = some (.cells #[.int .i64 both] 3 (0, 0))
theorem WBox.below {w w' : World} {pe pd pi pa pb drb i : Nat} {all both : Int} (h : WBox w pe pd pi pa pb drb i all both) (k : Below w.heap.size w w') : WBox w' pe pd pi pa pb drb i all both :=
  ⟨keep_blk k h.e, keep_blk k h.d, keep_blk k h.i, keep_blk k h.a, keep_blk k h.b⟩
theorem WBox.kz {M N : Nat → Prop} {w w' : World} {pe pd pi pa pb drb i : Nat} {all both : Int} (h : WBox w pe pd pi pa pb drb i all both) (k : Kz no8 M N w w') : WBox w' pe pd pi pa pb drb i all both :=
  ⟨k.cells _ _ _ _ h.e (by decide) (by decide) (fun h => h), k.cells _ _ _ _ h.d (by decide) (by decide) (fun h => h), k.cells _ _ _ _ h.i (by decide) (by decide) (fun h => h), k.cells _ _ _ _ h.a (by decide) (by decide) (fun h => h), k.cells _ _ _ _ h.b (by decide) (by decide) (fun h => h)⟩
set_option maxHeartbeats 4000000 in
set_option maxRecDepth 100000 in
theorem twith_any {n k : Nat} (hn : n ≤ 6) (IH : PrimesOk n k) {N : Nat → Prop} {w : World} {zb ab bm drb mm pe pd pi pa pb : Nat} {v : Value} {full : Nat} {S : St} {C : Nat} (hd : ZdAt w N zb ab bm v 20000 full S) (hdr : DrAt w drb zb n mm) (hr : RemP w mm n S C) (hne : mm ≠ bm) (hN : ¬ N mm)
    (all both : Int) (i : Nat) (hbx : WBox w pe pd pi pa pb drb i all both) (hNe : ¬ N pe) (hNa : ¬ N pa) (Y B : BitVec 256) (hik : i + (k + 1) = n) (hY : LowI n (i + 1) Y) (lit t : Nat) (hlit : lit = 2 ^ t) (ht : t = 2 * i ∨ t = 2 * i + 1) (G : Nat → Bool)
    (ha : Held S all G) (hb : Held S both (FI n (i + 1) B)) (hG : ∀ x, G x = true → UI n i x = true) (hroom : cnt S + (cN k + wN k) < 20000) (hC : C + eN k ≤ 1000000) :
    Calls Tryz.prog 113 #[sv Y, .int .i64 (lit : Int), .pointer (some ⟨pe, 0, none⟩), .pointer (some ⟨pd, 0, none⟩), .pointer (some ⟨pi, 0, none⟩), .pointer (some ⟨pa, 0, none⟩), .pointer (some ⟨pb, 0, none⟩)] w
      fun e w' => e = .returned (.tuple #[]) ∧ ∃ (v' : Value) (full' : Nat) (T : St) (id : Int), ZdAt w' N zb ab bm v' 20000 full' T ∧ Kz (fun q => q = pa ∨ q = pe) (MZ bm mm) N w w' ∧ w'.heap[pe]? = some (.cells #[.int .i64 0] 26 (0, 0)) ∧ w'.heap[pa]? = some (.cells #[.int .i64 id] 3 (0, 0)) ∧
        Ext S T ∧ Held T id (op2F 0 (JW n i t Y B) G) ∧ cnt T ≤ cnt S + (cN k + wN k) ∧ RemP w' mm n T (C + eN k) := by
  have hV := hd.zst.vst
  have hlitH := Lib.hid hlit
  clear hlit
  have hx := heap_alloc_new w (.cells (sa Y) 51)
  have hb1 := below_alloc1 w (.cells (sa Y) 51)
  have hbx1 := hbx.below hb1
  have hd1 := hd.below hb1
  have hdr1 := hdr.below hb1
  have hr1 := hr.below hb1
  have hk1 : Kz no8 (MZ bm mm) N w (w.alloc (.cells (sa Y) 51)) := Kz.of_below hb1
  have hi1 : ((i + 1 : Nat) : Int) = (i : Int) + 1 := by omega
  have HP := IH hd1 hdr1 hr1 hne hN Y (i + 1) (by omega) hY (by unfold wN at hroom; omega) hC
  rw [hi1] at HP
  unfold sv sa wv at *
  go_enter Tryz.func113, Tryz.ntmps113
  go_upto_region 1 with (fail)
  generalize w.alloc _ = W at *
  obtain ⟨x0, x1, x2, x3, -⟩ := now4 hx rfl
  obtain ⟨e0, -⟩ := nowz1 hbx1.e rfl
  obtain ⟨d0, -⟩ := nowz1 hbx1.d rfl
  obtain ⟨i0, -⟩ := nowz1 hbx1.i rfl
  clear hd hdr hr hbx hb1 hx hd1 hr1
  have hn1 : n ≤ 1000 := by omega
  go_wp2_with fail
  refine HP.mono ?_
  rintro e w2 ⟨v2, full2, T, f, rfl, hd2, hk2, hx2, hf2, hc2, hr2⟩
  have hVT := hd2.zst.vst
  have hbx2 := hbx1.kz hk2
  have hdr2 : DrAt w2 drb zb n mm := (DrAt.kz hdr1 hk2 (fun h => h))
  have ha2 := ha.ext hV hx2
  have hb2 := hb.ext hV hx2
  have hk02 := hk1.trans hk2
  clear HP x0 x1 x2 x3 e0 d0 i0 hbx1 hk1 hk2 IH hdr1
  -- the error is stored
  have n1 := blk_ne hbx2.e hbx2.d (by decide)
  have n2 := blk_ne hbx2.e hbx2.i (by decide)
  have n3 := blk_ne hbx2.e hbx2.a (by decide)
  have n4 := blk_ne hbx2.e hbx2.b (by decide)
  have hk3 : Kz (fun q => q = pa ∨ q = pe) (MZ bm mm) N w2 (w2.setCell ⟨pe, 0, none⟩ (.int .i64 0)) := Kz.put1 hbx2.e (.inr rfl) hNe _
  have hd3 := hd2.put1 hbx2.e (by decide) (by decide) (by decide) (.int .i64 0)
  have hr3 : RemP (w2.setCell ⟨pe, 0, none⟩ (.int .i64 0)) mm n T (C + eN k) := hr2.kz (Kz.put1 (C := (· = pe)) (M := no8) (N := N) hbx2.e rfl hNe _) (fun h => h)
  have hbx3 : WBox (w2.setCell ⟨pe, 0, none⟩ (.int .i64 0)) pe pd pi pa pb drb i all both := ⟨put1z hbx2.e, putFar (Ne.symm n1) hbx2.d, putFar (Ne.symm n2) hbx2.i, putFar (Ne.symm n3) hbx2.a, putFar (Ne.symm n4) hbx2.b⟩
  have hdr3 : DrAt (w2.setCell ⟨pe, 0, none⟩ (.int .i64 0)) drb zb n mm := putFar (blk_ne hdr2 hbx2.e (by decide)) hdr2
  have hk03 : Kz (fun q => q = pa ∨ q = pe) (MZ bm mm) N w (w2.setCell ⟨pe, 0, none⟩ (.int .i64 0)) := (hk02.mono (fun q hq => hq.elim) (fun _ h => h) (fun _ h => h)).trans hk3
  obtain ⟨q0, qf⟩ := nowz1 hbx2.e rfl
  clear hbx2 hdr2 hk02 hk3 hd2 hr2
  go_upto_region 4 with (fail)
  clear q0 qf
  generalize w2.setCell ⟨pe, 0, none⟩ (.int .i64 0) = W3 at *
  have hB4 := below_alloc1 W3 (.cells #[.int .i64 both] 3 (0, 0))
  have ho4 := heap_alloc_new W3 (.cells #[.int .i64 both] 3 (0, 0))
  have hd4 := hd3.below hB4
  have hdr4 := hdr3.below hB4
  have hr4 := hr3.below hB4
  have hbx4 := hbx3.below hB4
  have hk04 := hk03.more hB4
  obtain ⟨e0, -⟩ := nowz1 hbx3.e rfl
  obtain ⟨d0, -⟩ := nowz1 hbx3.d rfl
  obtain ⟨a0, -⟩ := nowz1 hbx3.a rfl
  obtain ⟨b0, -⟩ := nowz1 hbx3.b rfl
  have hFY := FI_few (by omega : n ≤ 8) (by omega : i + 1 ≤ n) Y
  have h60 : aP (n - (i + 1)) ≤ 60 := aP_le (by omega)
  have hless : lessF T (FI n (i + 1) Y) [both] = op2F 2 (FI n (i + 1) Y) (FI n (i + 1) B) := by
    rw [op2_less]
    funext x
    unfold lessF
    rw [List.any_cons, List.any_nil, Bool.or_false, hb2.2]
  have hJ : joinF 24 (lessF T (FI n (i + 1) Y) [both]) (rowF [lit]) = JW n i t Y B := by rw [hless, hlitH.out]; rfl
  have hkA : n - (i + 1) = k := by omega
  have hkB : n - i = k + 1 := by omega
  have hc1 : tS 24 (FI n (i + 1) Y) ≤ 3 ^ k - 1 := by
    have := tS_in (by omega : n ≤ 8) (by omega : i + 1 ≤ n) (F := FI n (i + 1) Y) fun x hx => FI_UI hx
    rwa [hkA] at this
  have hc2' : tS 24 (JW n i t Y B) ≤ 3 ^ (k + 1) - 1 := by
    have := tS_in (by omega : n ≤ 8) (by omega : i ≤ n) (F := JW n i t Y B) fun x hx => JW_UI (by omega) (by omega) ht hx
    rwa [hkB] at this
  have hc3 : tS 24 (op2F 0 (JW n i t Y B) G) ≤ 3 ^ (k + 1) - 1 := by
    have := tS_in (by omega : n ≤ 8) (by omega : i ≤ n) (F := op2F 0 (JW n i t Y B) G) (or_UI (fun x hx => JW_UI (by omega) (by omega) ht hx) hG)
    rwa [hkB] at this
  have hit : lit < 16777216 := by
    rw [hlitH.out]
    have : 2 ^ t < 2 ^ 24 := Nat.pow_lt_pow_right (by decide) (by omega)
    omega
  have HA := tadd_any hd4 hdr4 all f lit (some ⟨W3.heap.size, 0, none⟩) 1 [both] (FI n (i + 1) Y) G hf2 ha2 (fun o ho => by rw [List.mem_singleton] at ho; rw [ho]; exact hb2.1) (by simp)
    (fun j x hj => by
      cases j with
      | zero => simp at hj; subst hj; exact ⟨W3.heap.size, 0, _, rfl, ho4, rfl⟩
      | succ j => simp at hj)
    hit 1 (3 ^ k - 1) (3 ^ (k + 1) - 1) (3 ^ (k + 1) - 1) (by omega) (by rw [hlitH.out]; exact Nat.le_trans (tB_les _ _ _) (tS_one (by omega))) hc1
    (by rw [hJ]; exact Nat.le_trans (tB_les _ _ _) hc2') (by rw [hJ]; exact Nat.le_trans (tB_les _ _ _) hc3)
    (by simp only [List.length_singleton]; unfold wN at hroom; omega)
  rw [hJ] at HA
  have hwN : Hid (cnt T + (1 + ([both] : List Int).length * (3 ^ k - 1) + (3 ^ (k + 1) - 1) + (3 ^ (k + 1) - 1)) ≤ cnt S + (cN k + wN k)) := Lib.hid (by simp only [List.length_singleton]; unfold wN; omega)
  clear hd3 hdr3 hr3 hbx3 hk03 hB4 ho4 hFY h60 hless hJ hc1 hc2' hc3 hit hdr4 hd4 ha2 hb2 hf2 hkA hkB hroom hC hG hik hY hi1 hc2
  go_wp2_with fail
  refine HA.mono ?_
  rintro e w5 ⟨v5, full5, U, id, rfl, hd5, hk5, hx5, hf5, hc5⟩
  clear HA e0 d0 a0 b0
  have hbx5 := hbx4.kz hk5
  have hr5 := (hr4.kz hk5 (fun e => hne e)).ext hVT hx5
  have hk05 := hk04.trans (hk5.mono (C' := fun q => q = pa ∨ q = pe) (M' := MZ bm mm) (fun q hq => hq.elim) (fun q hq => .inl hq) (fun _ h => h))
  have nea := blk_ne hbx5.e hbx5.a (by decide)
  have heA := putFar (x := .int .i64 id) nea hbx5.e
  have haA := put1z (x := .int .i64 id) hbx5.a
  have hdA := hd5.put1 hbx5.a (by decide) (by decide) (by decide) (.int .i64 id)
  have hdB := hdA.put1 heA (by decide) (by decide) (by decide) (.int .i64 0)
  have hkA : Kz (fun q => q = pa ∨ q = pe) (MZ bm mm) N w5 (w5.setCell ⟨pa, 0, none⟩ (.int .i64 id)) := Kz.put1 hbx5.a (.inl rfl) hNa _
  have hkB : Kz (fun q => q = pa ∨ q = pe) (MZ bm mm) N (w5.setCell ⟨pa, 0, none⟩ (.int .i64 id)) ((w5.setCell ⟨pa, 0, none⟩ (.int .i64 id)).setCell ⟨pe, 0, none⟩ (.int .i64 0)) := Kz.put1 heA (.inr rfl) hNe _
  have hrA := hr5.kz (Kz.put1 (C := (· = pa)) (M := no8) (N := N) hbx5.a rfl hNa (.int .i64 id)) (fun h => h)
  have hrB := hrA.kz (Kz.put1 (C := (· = pe)) (M := no8) (N := N) heA rfl hNe (.int .i64 0)) (fun h => h)
  have I := Lib.hid (And.intro hdB (And.intro (hk05.trans (hkA.trans hkB)) (And.intro (put1z (x := .int .i64 0) heA) (And.intro (putFar (b := pe) (x := .int .i64 0) (Ne.symm nea) haA) (And.intro hrB (And.intro (hx2.trans hx5) (And.intro hf5 (Nat.le_trans hc5 hwN.out))))))))
  obtain ⟨a0, af⟩ := nowz1 hbx5.a rfl
  obtain ⟨e0, ef⟩ := nowz1 heA rfl
  clear hbx4 hbx5 hr4 hr5 hk04 hk05 hk5 heA haA hdA hdB hkA hkB hrA hrB hd5 hx5 hf5 hc5 hwN hx2
  go_wp2
  go_end0
  exact ⟨rfl, v5, full5, U, id, I.out.1, I.out.2.1, I.out.2.2.1, I.out.2.2.2.1, I.out.2.2.2.2.2.1, I.out.2.2.2.2.2.2.1, I.out.2.2.2.2.2.2.2, I.out.2.2.2.2.1⟩
end Go.Proofs.YtehpccanjlaokaaGreat
