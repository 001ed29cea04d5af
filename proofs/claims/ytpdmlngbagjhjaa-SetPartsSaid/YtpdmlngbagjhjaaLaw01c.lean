/- The statement SetParts, walked. -/
import Derived.Test.YtpdmlngbagjhjaaLaw01d
import Derived.Handy
namespace Go.Proofs.Ytpdmlngbagjhjaa
open Go.RowKit Go.Joins

theorem blk_new {w : World} {o : Obj} {b : Nat} (h : b = w.heap.size) : (w.alloc o).heap[b]? = some o := by rw [h, heap_alloc_new]
theorem blk_set4 {w : World} {b : Nat} {z0 z1 z2 z3 x0 x1 x2 x3 : Value} {T : TypeId} (h : w.heap[b]? = some (.cells #[z0, z1, z2, z3] T (0, 0))) :
    ((((w.setCell ⟨b, 0, none⟩ x0).setCell ⟨b, 1, none⟩ x1).setCell ⟨b, 2, none⟩ x2).setCell ⟨b, 3, none⟩ x3).heap[b]? = some (.cells #[x0, x1, x2, x3] T (0, 0)) := by
  rw [block_setCell (block_setCell (block_setCell (block_setCell h x0) x1) x2) x3]
  rfl

theorem cell_drew {w : World} {a : Addr} {v : Value} (h : w.cell? a = some v) : w.drew.cell? a = some v := h
theorem cell_alloc {w : World} {a : Addr} {v : Value} {o : Obj} (h : w.cell? a = some v) : (w.alloc o).cell? a = some v := by
  rw [World.cell?_of_block (w := w) (Below.heap_alloc _ _ _ (block_lt_of_cell h))]; exact h
theorem World.size_alloc' {w : World} {o : Obj} : (w.alloc o).heap.size = w.heap.size + 1 := by simp
theorem have_then {P Q : Prop} (h : P) (k : P → Q) : Q := k h
theorem cell_set {w : World} {p a : Addr} {u v : Value} (hne : p.block ≠ a.block) (h : w.cell? a = some v) : (w.setCell p u).cell? a = some v := by
  rw [World.cell?_setCell_far _ _ _ _ hne]; exact h
theorem below_step {w X w1 : World} (hX : Below w.heap.size w X) (hb : Below X.heap.size X w1) : Below w.heap.size w w1 := hX.trans (hb.mono hX.size)
theorem below_alloc' {w X : World} {o : Obj} (hX : Below w.heap.size w X) : Below w.heap.size w (X.alloc o) := hX.alloc hX.size o
theorem below_set' {w X : World} {p : Addr} {u : Value} (h : w.heap.size ≤ p.block) (hX : Below w.heap.size w X) : Below w.heap.size w (X.setCell p u) := hX.setCell h u
theorem blk_drew {w : World} {b : Nat} {o : Obj} (h : w.heap[b]? = some o) : w.drew.heap[b]? = some o := h

set_option maxHeartbeats 16000000 in
set_option maxRecDepth 1000000 in
theorem setParts_any (S T : BitVec 256) (n : Nat) (w : World) : Calls Try.prog 6 #[sv S, sv T, .int .u8 n] w fun e w' => e = .returned (.bool true) ∧ Below w.heap.size w w' := by
  have hm : n % 8 < 8 := by omega
  have em : ((n : Int) % 8) = ((n % 8 : Nat) : Int) := by omega
  have H0 := fun w => half_zero S (n % 8) hm w
  have H1 := fun w => half_one S (n % 8) hm w
  rw [← em] at H0 H1
  clear em
  generalize hX : S &&& ~~~onesB (n % 8) = X at H0
  generalize hY : S &&& onesB (n % 8) = Y at H1
  have hX2 := Lib.hid hX
  have hY2 := Lib.hid hY
  clear hX hY
  unfold sv wv at *
  go_enter Try.func6, Try.ntmps6
  go_upto_region 2 with (fail)
  go_cut [8, 9] from 14 (fun s8 s9 wc => ∃ b8 b9 : Nat, s8 = .pointer (some ⟨b8, 0, none⟩) ∧ s9 = .pointer (some ⟨b9, 0, none⟩) ∧ wc.heap[b8]? = some (.cells (sa X) 24 (0, 0)) ∧ wc.heap[b9]? = some (.cells (sa Y) 24 (0, 0)) ∧
    wc.heap[w.heap.size]? = some (.cells (sa S) 24 (0, 0)) ∧ wc.heap[w.heap.size + 1]? = some (.cells (sa T) 24 (0, 0)) ∧ Below w.heap.size w wc)
  case first =>
    have K0 : ((w.alloc (.cells #[Value.int IntKind.u64 (wd S 0).toNat, Value.int IntKind.u64 (wd S 1).toNat, Value.int IntKind.u64 (wd S 2).toNat, Value.int IntKind.u64 (wd S 3).toNat] 24)).alloc (.cells #[Value.int IntKind.u64 (wd T 0).toNat, Value.int IntKind.u64 (wd T 1).toNat, Value.int IntKind.u64 (wd T 2).toNat, Value.int IntKind.u64 (wd T 3).toNat] 24)).heap[w.heap.size]? = some (.cells (sa S) 24 (0, 0)) := heap_alloc2_old _ _ _
    have K1 : ((w.alloc (.cells #[Value.int IntKind.u64 (wd S 0).toNat, Value.int IntKind.u64 (wd S 1).toNat, Value.int IntKind.u64 (wd S 2).toNat, Value.int IntKind.u64 (wd S 3).toNat] 24)).alloc (.cells #[Value.int IntKind.u64 (wd T 0).toNat, Value.int IntKind.u64 (wd T 1).toNat, Value.int IntKind.u64 (wd T 2).toNat, Value.int IntKind.u64 (wd T 3).toNat] 24)).heap[w.heap.size + 1]? = some (.cells (sa T) 24 (0, 0)) := heap_alloc2_new _ _ _
    have KB : Below w.heap.size w ((w.alloc (.cells #[Value.int IntKind.u64 (wd S 0).toNat, Value.int IntKind.u64 (wd S 1).toNat, Value.int IntKind.u64 (wd S 2).toNat, Value.int IntKind.u64 (wd S 3).toNat] 24)).alloc (.cells #[Value.int IntKind.u64 (wd T 0).toNat, Value.int IntKind.u64 (wd T 1).toNat, Value.int IntKind.u64 (wd T 2).toNat, Value.int IntKind.u64 (wd T 3).toNat] 24)) := below_alloc2 _ _ _
    generalize (w.alloc (.cells #[Value.int IntKind.u64 (wd S 0).toNat, Value.int IntKind.u64 (wd S 1).toNat, Value.int IntKind.u64 (wd S 2).toNat, Value.int IntKind.u64 (wd S 3).toNat] 24)).alloc (.cells #[Value.int IntKind.u64 (wd T 0).toNat, Value.int IntKind.u64 (wd T 1).toNat, Value.int IntKind.u64 (wd T 2).toNat, Value.int IntKind.u64 (wd T 3).toNat] 24) = W0 at K0 K1 KB ⊢
    obtain ⟨k0, k1, k2, k3⟩ := cells_sa K0 rfl
    unfold wv at k0 k1 k2 k3
    have kz := size_of_block K1
    have kz0 : w.heap.size < W0.heap.size := by omega
    go_region_held3 (fun w' => w'.cell? ⟨w.heap.size, 0, none⟩ = some (.int .u64 (wd S 0).toNat) ∧ w'.cell? ⟨w.heap.size, 1, none⟩ = some (.int .u64 (wd S 1).toNat) ∧ w'.cell? ⟨w.heap.size, 2, none⟩ = some (.int .u64 (wd S 2).toNat) ∧ w'.cell? ⟨w.heap.size, 3, none⟩ = some (.int .u64 (wd S 3).toNat)) (((try dsimp only); first | (refine ⟨?_, ?_, ?_, ?_⟩ <;> repeat (first | (with_reducible assumption) | (with_reducible refine cell_drew ?_) | (with_reducible refine cell_alloc ?_) | (with_reducible refine cell_set (by (try dsimp only); omega) ?_)))))
      (first
        | (go_at_call_of 24 (Value.bool false); refine (H0 _).mono ?_; rintro e w1 ⟨rfl, hb1⟩; have kb1 : w1.heap[w.heap.size]? = some (.cells (sa S) 24 (0, 0)) := blk_below hb1 (b := w.heap.size) (by repeat (with_reducible first | exact K0 | refine blk_drew ?_ | refine blk_alloc ?_)); have kc1 : w1.heap[w.heap.size + 1]? = some (.cells (sa T) 24 (0, 0)) := blk_below hb1 (b := w.heap.size + 1) (by repeat (with_reducible first | exact K1 | refine blk_drew ?_ | refine blk_alloc ?_)); have kd1 := size_of_block kc1; have KB1 : Below w.heap.size w w1 := below_step (by repeat (with_reducible first | exact KB | refine Below.drew ?_ | refine below_alloc' ?_)) hb1; have s0 : w1.cell? ⟨w.heap.size, 0, none⟩ = some (.int .u64 (wd S 0).toNat) := After.cell ⟨w1, hb1⟩ (by repeat (with_reducible first | exact k0 | refine cell_drew ?_ | refine cell_alloc ?_)); have s1 : w1.cell? ⟨w.heap.size, 1, none⟩ = some (.int .u64 (wd S 1).toNat) := After.cell ⟨w1, hb1⟩ (by repeat (with_reducible first | exact k1 | refine cell_drew ?_ | refine cell_alloc ?_)); have s2 : w1.cell? ⟨w.heap.size, 2, none⟩ = some (.int .u64 (wd S 2).toNat) := After.cell ⟨w1, hb1⟩ (by repeat (with_reducible first | exact k2 | refine cell_drew ?_ | refine cell_alloc ?_)); have s3 : w1.cell? ⟨w.heap.size, 3, none⟩ = some (.int .u64 (wd S 3).toNat) := After.cell ⟨w1, hb1⟩ (by repeat (with_reducible first | exact k3 | refine cell_drew ?_ | refine cell_alloc ?_)); have hw1 : w.heap.size < w1.heap.size := block_lt_of_cell s0; (try (refine have_then (P := w1.heap[W0.heap.size]? = some (.cells #[Value.int IntKind.u64 0, Value.int IntKind.u64 0, Value.int IntKind.u64 0, Value.int IntKind.u64 0] 24 (0, 0))) (blk_below hb1 ?_) (fun zp => ?_); (repeat (with_reducible first | assumption | exact blk_new rfl | exact blk_new World.size_alloc'.symm | refine blk_drew ?_ | refine blk_alloc ?_)); obtain ⟨zpa, zpb, zpc, zpd, zpf⟩ := res4 zp rfl; have zpz := size_of_block zp)); (try (refine have_then (P := w1.heap[W0.heap.size + 1]? = some (.cells #[Value.int IntKind.u64 0, Value.int IntKind.u64 0, Value.int IntKind.u64 0, Value.int IntKind.u64 0] 24 (0, 0))) (blk_below hb1 ?_) (fun zq => ?_); (repeat (with_reducible first | assumption | exact blk_new rfl | exact blk_new World.size_alloc'.symm | refine blk_drew ?_ | refine blk_alloc ?_)); obtain ⟨zqa, zqb, zqc, zqd, zqf⟩ := res4 zq rfl; have zqz := size_of_block zq)); skip)
        | (go_at_call_of 24 (Value.bool true); refine (H1 _).mono ?_; rintro e w2 ⟨rfl, hb2⟩; have kb2 : w2.heap[w.heap.size]? = some (.cells (sa S) 24 (0, 0)) := blk_below hb2 (b := w.heap.size) (by repeat (with_reducible first | exact kb1 | refine blk_drew ?_ | refine blk_alloc ?_)); have kc2 : w2.heap[w.heap.size + 1]? = some (.cells (sa T) 24 (0, 0)) := blk_below hb2 (b := w.heap.size + 1) (by repeat (with_reducible first | exact kc1 | refine blk_drew ?_ | refine blk_alloc ?_)); have kd2 := size_of_block kc2; have KB2 : Below w.heap.size w w2 := below_step (by repeat (with_reducible first | exact KB1 | refine Below.drew ?_ | refine below_alloc' ?_)) hb2; have t0 : w2.cell? ⟨w.heap.size, 0, none⟩ = some (.int .u64 (wd S 0).toNat) := After.cell ⟨w2, hb2⟩ (by repeat (with_reducible first | exact s0 | refine cell_drew ?_ | refine cell_alloc ?_)); have t1 : w2.cell? ⟨w.heap.size, 1, none⟩ = some (.int .u64 (wd S 1).toNat) := After.cell ⟨w2, hb2⟩ (by repeat (with_reducible first | exact s1 | refine cell_drew ?_ | refine cell_alloc ?_)); have t2 : w2.cell? ⟨w.heap.size, 2, none⟩ = some (.int .u64 (wd S 2).toNat) := After.cell ⟨w2, hb2⟩ (by repeat (with_reducible first | exact s2 | refine cell_drew ?_ | refine cell_alloc ?_)); have t3 : w2.cell? ⟨w.heap.size, 3, none⟩ = some (.int .u64 (wd S 3).toNat) := After.cell ⟨w2, hb2⟩ (by repeat (with_reducible first | exact s3 | refine cell_drew ?_ | refine cell_alloc ?_)); have hw2 : w.heap.size < w2.heap.size := block_lt_of_cell t0; (try (refine have_then (P := w2.heap[W0.heap.size]? = some (.cells #[Value.int IntKind.u64 0, Value.int IntKind.u64 0, Value.int IntKind.u64 0, Value.int IntKind.u64 0] 24 (0, 0))) (blk_below hb2 ?_) (fun yp => ?_); (repeat (with_reducible first | assumption | exact blk_new rfl | exact blk_new World.size_alloc'.symm | refine blk_drew ?_ | refine blk_alloc ?_)); obtain ⟨ypa, ypb, ypc, ypd, ypf⟩ := res4 yp rfl; have ypz := size_of_block yp)); (try (refine have_then (P := w2.heap[W0.heap.size + 1]? = some (.cells #[Value.int IntKind.u64 0, Value.int IntKind.u64 0, Value.int IntKind.u64 0, Value.int IntKind.u64 0] 24 (0, 0))) (blk_below hb2 ?_) (fun yq => ?_); (repeat (with_reducible first | assumption | exact blk_new rfl | exact blk_new World.size_alloc'.symm | refine blk_drew ?_ | refine blk_alloc ?_)); obtain ⟨yqa, yqb, yqc, yqd, yqf⟩ := res4 yq rfl; have yqz := size_of_block yq)); (try (refine have_then (P := w2.heap[w1.heap.size]? = some (.cells #[Value.int IntKind.u64 0, Value.int IntKind.u64 0, Value.int IntKind.u64 0, Value.int IntKind.u64 0] 24 (0, 0))) (blk_below hb2 ?_) (fun yr => ?_); (repeat (with_reducible first | assumption | exact blk_new rfl | exact blk_new World.size_alloc'.symm | refine blk_drew ?_ | refine blk_alloc ?_)); obtain ⟨yra, yrb, yrc, yrd, yrf⟩ := res4 yr rfl; have yrz := size_of_block yr)); (try (refine have_then (P := w2.heap[w1.heap.size + 1]? = some (.cells #[Value.int IntKind.u64 0, Value.int IntKind.u64 0, Value.int IntKind.u64 0, Value.int IntKind.u64 0] 24 (0, 0))) (blk_below hb2 ?_) (fun ys => ?_); (repeat (with_reducible first | assumption | exact blk_new rfl | exact blk_new World.size_alloc'.symm | refine blk_drew ?_ | refine blk_alloc ?_)); obtain ⟨ysa, ysb, ysc, ysd, ysf⟩ := res4 ys rfl; have ysz := size_of_block ys)); skip))
    all_goals
      go_wp2_with fail
      go_meet
      clear H0 H1 hX2 hY2 k0 k1 k2 k3 s0 s1 s2 s3 t0 t1 t2 t3
      unfold sa wv at *
      refine ⟨_, _, rfl, rfl, ?_, ?_, ?_, ?_, ?_⟩
      · repeat (first | (with_reducible assumption) | (with_reducible exact heap_alloc_new _ _) | (with_reducible refine blk_drew ?_) | (with_reducible refine blk_set4 (z0 := .int .u64 0) (z1 := .int .u64 0) (z2 := .int .u64 0) (z3 := .int .u64 0) ?_) | (with_reducible exact heap_alloc2_new _ _ _) | (with_reducible exact heap_alloc2_old _ _ _) | (with_reducible refine blk_new ?_; (simp [World.setCell]; done)) | (with_reducible refine blk_alloc ?_) | (with_reducible refine blk_set (by (try dsimp only); omega) ?_))
      · repeat (first | (with_reducible assumption) | (with_reducible exact heap_alloc_new _ _) | (with_reducible refine blk_drew ?_) | (with_reducible refine blk_set4 (z0 := .int .u64 0) (z1 := .int .u64 0) (z2 := .int .u64 0) (z3 := .int .u64 0) ?_) | (with_reducible exact heap_alloc2_new _ _ _) | (with_reducible exact heap_alloc2_old _ _ _) | (with_reducible refine blk_new ?_; (simp [World.setCell]; done)) | (with_reducible refine blk_alloc ?_) | (with_reducible refine blk_set (by (try dsimp only); omega) ?_))
      · repeat (first | with_reducible exact kb2 | with_reducible refine blk_drew ?_ | with_reducible refine blk_alloc ?_ | with_reducible refine blk_set (by (try dsimp only); omega) ?_)
      · repeat (first | with_reducible exact kc2 | with_reducible refine blk_drew ?_ | with_reducible refine blk_alloc ?_ | with_reducible refine blk_set (by (try dsimp only); omega) ?_)
      · repeat (with_reducible first | exact KB2 | refine Below.drew ?_ | refine below_alloc' ?_ | refine below_set' (by (try dsimp only); omega) ?_)
  case rest =>
    obtain ⟨b8, b9, rfl, rfl, h8, h9, hS, hT, hB⟩ := hcut
    clear H0 H1
    have hx : X ||| Y = S := by
      rw [← hX2.out, ← hY2.out]
      apply BitVec.eq_of_getLsbD_eq
      intro p hp
      simp only [BitVec.getLsbD_or, BitVec.getLsbD_and, BitVec.getLsbD_not, hp, decide_true, Bool.true_and]
      cases S.getLsbD p <;> cases (onesB (n % 8)).getLsbD p <;> rfl
    have hy : X &&& Y = 0 := by
      rw [← hX2.out, ← hY2.out]
      apply BitVec.eq_of_getLsbD_eq
      intro p hp
      simp only [BitVec.getLsbD_and, BitVec.getLsbD_not, hp, decide_true, Bool.true_and]
      rw [show (0 : BitVec 256).getLsbD p = false from BitVec.getLsbD_zero]
      cases S.getLsbD p <;> cases (onesB (n % 8)).getLsbD p <;> rfl
    have HO1 := fun w => or_any X Y w
    have HO2 := fun w => or_any S T w
    have HO3 := fun w => or_any T S w
    have HA1 := fun w => and_any X Y w
    have HA2 := fun w => and_any S T w
    have HA3 := fun w => and_any T S w
    have HL := fun w => less_any T S w
    rw [hx] at HO1
    rw [hy, show sv 0 = .agg #[.int .u64 0, .int .u64 0, .int .u64 0, .int .u64 0] from by kernel_rfl] at HA1
    rw [BitVec.or_comm T S] at HO3
    rw [BitVec.and_comm T S] at HA3
    clear hx hy hX2 hY2
    have E := eq4_refl
    obtain ⟨x0, x1, x2, x3⟩ := cells_sa h8 rfl
    obtain ⟨y0, y1, y2, y3⟩ := cells_sa h9 rfl
    obtain ⟨s0, s1, s2, s3⟩ := cells_sa hS rfl
    obtain ⟨t0, t1, t2, t3⟩ := cells_sa hT rfl
    unfold sv wv at HO1 HO2 HO3 HA1 HA2 HA3
    unfold wv at x0 x1 x2 x3 y0 y1 y2 y3 s0 s1 s2 s3 t0 t1 t2 t3
    have cx0 := fun x : After wc => After.cell x x0
    have cx1 := fun x : After wc => After.cell x x1
    have cx2 := fun x : After wc => After.cell x x2
    have cx3 := fun x : After wc => After.cell x x3
    have cy0 := fun x : After wc => After.cell x y0
    have cy1 := fun x : After wc => After.cell x y1
    have cy2 := fun x : After wc => After.cell x y2
    have cy3 := fun x : After wc => After.cell x y3
    have cs0 := fun x : After wc => After.cell x s0
    have cs1 := fun x : After wc => After.cell x s1
    have cs2 := fun x : After wc => After.cell x s2
    have cs3 := fun x : After wc => After.cell x s3
    have ct0 := fun x : After wc => After.cell x t0
    have ct1 := fun x : After wc => After.cell x t1
    have ct2 := fun x : After wc => After.cell x t2
    have ct3 := fun x : After wc => After.cell x t3
    clear x0 x1 x2 x3 y0 y1 y2 y3 s0 s1 s2 s3 t0 t1 t2 t3
    go_upto_region 3 with (fail)
    refine wp_region_after (by kernel_rfl) (by kernel_rfl) ?_
    repeat (first | go_big_quiet_step ((first | (go_at_call 18; (with_reducible (first | exact Calls.after_of (HO1 _) | exact Calls.after_of (HO2 _) | exact Calls.after_of (HO3 _)))) | (go_at_call 19; (with_reducible (first | exact Calls.after_of (HA1 _) | exact Calls.after_of (HA2 _) | exact Calls.after_of (HA3 _)))))))
    refine wpQuiet_nil ?_
    intro x
    have bS := blk_below x.2 hS
    have bT := blk_below x.2 hT
    have hB1 := hB.trans (x.2.mono hB.size)
    obtain ⟨W1, hW1⟩ : ∃ W1, W1 = x.1 := ⟨_, rfl⟩
    rw [← hW1] at bS bT hB1 ⊢
    clear hW1 HO1 HO2 HO3 HA1 HA2 HA3 cx0 cx1 cx2 cx3 cy0 cy1 cy2 cy3 cs0 cs1 cs2 cs3 ct0 ct1 ct2 ct3 h8 h9 hS hT hB
    obtain ⟨s0, s1, s2, s3⟩ := cells_sa bS rfl
    obtain ⟨t0, t1, t2, t3⟩ := cells_sa bT rfl
    unfold wv at s0 s1 s2 s3 t0 t1 t2 t3
    go_wp2_with fail
    refine (HL _).mono ?_
    rintro e w2 ⟨rfl, hb2⟩
    have cS := blk_below hb2 bS
    have cT := blk_below hb2 bT
    have hB2 := hB1.trans (hb2.mono hB1.size)
    clear HL hb2 bS bT hB1 s0 s1 s2 s3 t0 t1 t2 t3
    generalize hO : T &&& ~~~S = O
    have hO2 := Lib.hid hO
    clear hO
    unfold sv wv
    go_upto_region 6 with (fail)
    have dS : (w2.alloc (.cells (sa O) 24)).heap[w.heap.size]? = some (.cells (sa S) 24 (0, 0)) := blk_alloc cS
    have dT : (w2.alloc (.cells (sa O) 24)).heap[w.heap.size + 1]? = some (.cells (sa T) 24 (0, 0)) := blk_alloc cT
    have dO : (w2.alloc (.cells (sa O) 24)).heap[w2.heap.size]? = some (.cells (sa O) 24 (0, 0)) := heap_alloc_new _ _
    have hB3 : Below w.heap.size w (w2.alloc (.cells (sa O) 24)) := hB2.alloc hB2.size _
    unfold sa wv at dS dT dO hB3
    generalize w2.alloc (.cells #[.int .u64 (wd O 0).toNat, .int .u64 (wd O 1).toNat, .int .u64 (wd O 2).toNat, .int .u64 (wd O 3).toNat] 24) = W3 at dS dT dO hB3 ⊢
    clear cS cT hB2
    obtain ⟨s0, s1, s2, s3⟩ := cells_sa dS rfl
    obtain ⟨t0, t1, t2, t3⟩ := cells_sa dT rfl
    obtain ⟨o0, o1, o2, o3⟩ := cells_sa dO rfl
    have cs0 := fun x : After W3 => After.cell x s0
    have cs1 := fun x : After W3 => After.cell x s1
    have cs2 := fun x : After W3 => After.cell x s2
    have cs3 := fun x : After W3 => After.cell x s3
    have ct0 := fun x : After W3 => After.cell x t0
    have ct1 := fun x : After W3 => After.cell x t1
    have ct2 := fun x : After W3 => After.cell x t2
    have ct3 := fun x : After W3 => After.cell x t3
    have co0 := fun x : After W3 => After.cell x o0
    have co1 := fun x : After W3 => After.cell x o1
    have co2 := fun x : After W3 => After.cell x o2
    have co3 := fun x : After W3 => After.cell x o3
    clear s0 s1 s2 s3 t0 t1 t2 t3 o0 o1 o2 o3 dS dT dO
    have hso : (S ||| O) &&& ~~~O = S := by
      rw [← hO2.out]
      apply BitVec.eq_of_getLsbD_eq
      intro p hp
      simp only [BitVec.getLsbD_or, BitVec.getLsbD_and, BitVec.getLsbD_not, hp, decide_true, Bool.true_and]
      cases S.getLsbD p <;> cases T.getLsbD p <;> rfl
    have hin : decide ((S &&& T) &&& ~~~S = 0) = true := decide_eq_true ((less_zero _ _).2 fun p hp => by
      rw [BitVec.getLsbD_and]
      cases S.getLsbD p <;> simp)
    have G1 := fun w => or_any S O w
    have G2 := fun w => less_any (S ||| O) O w
    have G3 := fun w => or_any S T w
    have G4 := fun w => and_any S T w
    have G5 := fun w => count_any (S ||| T) w
    have G6 := fun w => count_any (S &&& T) w
    have G7 := fun w => count_any S w
    have G8 := fun w => count_any T w
    have G9 := fun w => within_any (S &&& T) S w
    rw [hso] at G2
    rw [hin] at G9
    have q1 := pop_le (S ||| T)
    have q2 := pop_le (S &&& T)
    have q3 := pop_le S
    have q4 := pop_le T
    have q5 := pop_or_and S T
    generalize pop (S ||| T) = p1 at G5 q1 q5
    generalize pop (S &&& T) = p2 at G6 q2 q5
    generalize pop S = p3 at G7 q3 q5
    generalize pop T = p4 at G8 q4 q5
    have r1 : IntKind.i64.wrap ((p1 : Int) + p2) = (p3 : Int) + p4 := by rw [IntKind.wrap_i64]; omega
    have r2 : IntKind.i64.wrap ((p3 : Int) + p4) = (p3 : Int) + p4 := by rw [IntKind.wrap_i64]; omega
    have r3 := Lib.hid q5
    clear q5 hso hin hO2
    unfold sv wv at G1 G2 G3 G4 G5 G6 G7 G8 G9
    refine wp_region_after (by kernel_rfl) (by kernel_rfl) ?_
    repeat (first | go_big_quiet_step ((first | (go_at_call 18; (with_reducible (first | exact Calls.after_of (G1 _) | exact Calls.after_of (G3 _)))) | (go_at_call 19; (with_reducible (exact Calls.after_of (G4 _)))) | (go_at_call 20; (with_reducible (exact Calls.after_of (G2 _)))) | (go_at_call 13; (with_reducible (first | exact Calls.after_of (G5 _) | exact Calls.after_of (G6 _) | exact Calls.after_of (G7 _) | exact Calls.after_of (G8 _)))) | (go_at_call 21; (with_reducible (exact Calls.after_of (G9 _)))) | (go_at_call 17; exact Calls.after_of (knows_any _)))))
    refine wpQuiet_nil ?_
    intro x
    go_wp2
    go_ret
    exact ⟨rfl, hB3.trans (x.2.mono hB3.size)⟩
end Go.Proofs.Ytpdmlngbagjhjaa
