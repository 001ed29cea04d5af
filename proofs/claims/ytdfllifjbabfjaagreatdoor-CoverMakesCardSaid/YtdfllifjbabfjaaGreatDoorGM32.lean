/- The document's examples of layer 13, over what package cover answers. A set that comes in reads as 256 bits. A cube that comes in reads as two numbers of 8 bits. A slice of numbers that comes in. A table that comes in: its numbers, and its lines. A slice of sets that comes in. -/
import Derived.Test.YtdfllifjbabfjaaGreatDoorGMxMakb13
import Derived.Test.YtdfllifjbabfjaaGreatDoorRows
import Derived.Test.YtdfllifjbabfjaaGreatDoorGM01
import Derived.Test.YtdfllifjbabfjaaGreatDoorGM07
import Derived.Test.YtdfllifjbabfjaaGreatDoorGM04
import Derived.Test.YtdfllifjbabfjaaGreatDoorGM10
import Derived.Test.YtdfllifjbabfjaaGreatDoorGM14
import Derived.ProofKit
import Derived.OpenShut
import Derived.Lib.SmallJoins
import Derived.Deep.Slices
import Derived.ChangeSlices
namespace Go.Proofs.YtdfllifjbabfjaaGreatDoor
open Go.RowKit Go.Joins

theorem lit_set1 {w : World} {b : Nat} {x0 : BitVec 256} {T : TypeId} (h : w.heap[b]? = some (.cells #[.int .u64 (wd x0 0).toNat, .int .u64 (wd x0 1).toNat, .int .u64 (wd x0 2).toNat, .int .u64 (wd x0 3).toNat] T (0, 0))) : SetsAt w w.heap.size (.slice (some ⟨b, 0, none⟩) 1 1) [x0] := by
  refine ⟨_, 1, rfl, (show (1 : Nat) ≤ 9223372036854775807 by decide), fun _ => ⟨b, 0, rfl, size_of_block h, fun j X hX => ?_⟩⟩
  match j, hX with
  | 0, hX =>
    injection hX with hX
    subst hX
    unfold wv
    exact ⟨by rw [cell_of_block h]; rfl, by rw [cell_of_block h]; rfl, by rw [cell_of_block h]; rfl, by rw [cell_of_block h]; rfl⟩
theorem lit_rows2 {w : World} {b : Nat} {x y : Rw} {T : TypeId} (h : w.heap[b]? = some (.cells #[bvv x.m, bvv x.v, bvv x.o, bvv y.m, bvv y.v, bvv y.o] T (0, 0))) : RwsAt w w.heap.size (.slice (some ⟨b, 0, none⟩) 2 2) [x, y] := by
  refine ⟨_, 2, rfl, (show (2 : Nat) ≤ 9223372036854775807 by decide), fun _ => ⟨b, 0, rfl, size_of_block h, fun j X hX => ?_⟩⟩
  match j, hX with
  | 0, hX =>
    injection hX with hX
    subst hX
    exact ⟨by rw [cell_of_block h]; rfl, by rw [cell_of_block h]; rfl, by rw [cell_of_block h]; rfl⟩
  | 1, hX =>
    injection hX with hX
    subst hX
    exact ⟨by rw [cell_of_block h]; rfl, by rw [cell_of_block h]; rfl, by rw [cell_of_block h]; rfl⟩
theorem lit_int1 {w : World} {b : Nat} {x : Int} {T : TypeId} (h : w.heap[b]? = some (.cells #[.int .i64 x] T (0, 0))) : IntsAt w w.heap.size (.slice (some ⟨b, 0, none⟩) 1 1) [x] := by
  refine ⟨_, 1, rfl, (show (1 : Nat) ≤ 9223372036854775807 by decide), fun _ => ⟨b, 0, rfl, size_of_block h, fun j y hy => ?_⟩⟩
  match j, hy with
  | 0, hy =>
    injection hy with hy
    subst hy
    rw [cell_of_block h]; rfl
theorem lit_int2 {w : World} {b : Nat} {x z : Int} {T : TypeId} (h : w.heap[b]? = some (.cells #[.int .i64 x, .int .i64 z] T (0, 0))) : IntsAt w w.heap.size (.slice (some ⟨b, 0, none⟩) 2 2) [x, z] := by
  refine ⟨_, 2, rfl, (show (2 : Nat) ≤ 9223372036854775807 by decide), fun _ => ⟨b, 0, rfl, size_of_block h, fun j y hy => ?_⟩⟩
  match j, hy with
  | 0, hy =>
    injection hy with hy
    subst hy
    rw [cell_of_block h]; rfl
  | 1, hy =>
    injection hy with hy
    subst hy
    rw [cell_of_block h]; rfl
theorem lit_mat2 {w : World} {b : Nat} {u v : Value} {l m : List Int} {T : TypeId} (h : w.heap[b]? = some (.cells #[u, v] T (0, 0))) (hu : IntsAt w w.heap.size u l) (hv : IntsAt w w.heap.size v m) : MatAt w w.heap.size (.slice (some ⟨b, 0, none⟩) 2 2) [l, m] := by
  refine ⟨_, 2, rfl, (show (2 : Nat) ≤ 9223372036854775807 by decide), fun _ => ⟨b, 0, rfl, size_of_block h, fun j y hy => ?_⟩⟩
  match j, hy with
  | 0, hy =>
    injection hy with hy
    subst hy
    exact ⟨u, by rw [cell_of_block h]; rfl, hu⟩
  | 1, hy =>
    injection hy with hy
    subst hy
    exact ⟨v, by rw [cell_of_block h]; rfl, hv⟩
def rsX13 : List Rw := [⟨1, 1, 1⟩, ⟨0, 0, 1⟩]
theorem x13_may : mayE ⟨1, [3], [3]⟩ rsX13 = 0 := by decide +kernel
theorem x13_got : gotL [3] rsX13 1 0 = [[1], [0, 1]] := by decide +kernel
theorem x13_K {K : List (List Int)} (hp : K.Pairwise (fun a b => aheadL a b = true)) (hm : ∀ x, x ∈ K ↔ x ∈ gotL [3] rsX13 1 0) : K = [[1], [0, 1]] := by
  refine ahead_ext hp (by simp [aheadL]) fun x => ?_
  rw [hm, x13_got]
set_option maxHeartbeats 4000000 in
set_option maxRecDepth 100000 in
theorem knows13_any (HG : MakeGood) (HR : RightV) (HS : SolvesV) : Knows13 := by
  intro w hT
  have hW := below_alloc3 w (.cells #[.int .u64 3, .int .u64 0, .int .u64 0, .int .u64 0] 50) (.cells #[.int .u64 3, .int .u64 0, .int .u64 0, .int .u64 0] 50) (.cells #[.int .i64 1, .slice (some ⟨w.heap.size, 0, none⟩) 1 1, .slice (some ⟨w.heap.size + 1, 0, none⟩) 1 1] 24)
  have h1 := heap_alloc3_a w (.cells #[.int .u64 3, .int .u64 0, .int .u64 0, .int .u64 0] 50) (.cells #[.int .u64 3, .int .u64 0, .int .u64 0, .int .u64 0] 50) (.cells #[.int .i64 1, .slice (some ⟨w.heap.size, 0, none⟩) 1 1, .slice (some ⟨w.heap.size + 1, 0, none⟩) 1 1] 24)
  have h2 := heap_alloc3_b w (.cells #[.int .u64 3, .int .u64 0, .int .u64 0, .int .u64 0] 50) (.cells #[.int .u64 3, .int .u64 0, .int .u64 0, .int .u64 0] 50) (.cells #[.int .i64 1, .slice (some ⟨w.heap.size, 0, none⟩) 1 1, .slice (some ⟨w.heap.size + 1, 0, none⟩) 1 1] 24)
  have h3 := heap_alloc3_c w (.cells #[.int .u64 3, .int .u64 0, .int .u64 0, .int .u64 0] 50) (.cells #[.int .u64 3, .int .u64 0, .int .u64 0, .int .u64 0] 50) (.cells #[.int .i64 1, .slice (some ⟨w.heap.size, 0, none⟩) 1 1, .slice (some ⟨w.heap.size + 1, 0, none⟩) 1 1] 24)
  obtain ⟨s0, s1, s2, -⟩ := now3 h3 rfl
  go_enter Tryz.func6, Tryz.ntmps6
  go_upto_region 2 with (fail)
  generalize ((w.alloc _).alloc _).alloc _ = W at *
  have hS1 : SetsAt W W.heap.size (.slice (some ⟨w.heap.size, 0, none⟩) 1 1) [3] := lit_set1 (x0 := 3) h1
  have hS2 : SetsAt W W.heap.size (.slice (some ⟨w.heap.size + 1, 0, none⟩) 1 1) [3] := lit_set1 (x0 := 3) h2
  have hb0 := below_alloc1 W (.cells #[.int .u8 1, .int .u8 1, .int .u8 1, .int .u8 0, .int .u8 0, .int .u8 1] 44 (0, 0))
  have h4 := heap_alloc_new W (.cells #[.int .u8 1, .int .u8 1, .int .u8 1, .int .u8 0, .int .u8 0, .int .u8 1] 44 (0, 0))
  have D1 := HG 1 _ _ (.slice (some ⟨W.heap.size, 0, none⟩) 2 2) [3] [3] rsX13 (W.alloc (.cells #[.int .u8 1, .int .u8 1, .int .u8 1, .int .u8 0, .int .u8 0, .int .u8 1] 44 (0, 0))) ((hS1.below hb0).more hb0.size) ((hS2.below hb0).more hb0.size) (lit_rows2 (x := ⟨1, 1, 1⟩) (y := ⟨0, 0, 1⟩) h4) x13_may (hT.below (hW.trans (hb0.mono hW.size)))
  unfold spv at D1
  simp only [show ((rsX13.length : Nat) : Int) = 2 from rfl] at D1
  have hR1 : rightM 2 [[1], [0, 1]] = true := by decide +kernel
  have hS1' : solvesM [[1], [0, 1]] [1] = true := by decide +kernel
  have hS0' : solvesM [[1], [0, 1]] [0] = false := by decide +kernel
  go_wp2_with fail
  refine D1.mono ?_
  rintro e w1 ⟨v, K, rfl, hM, hpw, hmem, hb⟩
  have hK := x13_K hpw hmem
  subst hK
  obtain ⟨AK, cK, rfl, -, -⟩ := id hM
  have hB1 := hW.trans ((hb0.trans (hb.mono hb0.size)).mono hW.size)
  have hba := below_alloc1 w1 (.cells #[.int .i64 2, .slice AK 2 cK] 30 (0, 0))
  have hm2 := heap_alloc_new w1 (.cells #[.int .i64 2, .slice AK 2 cK] 30 (0, 0))
  have hM2 := (hM.below hba).more hba.size
  have hB2 := hB1.trans (hba.mono hB1.size)
  clear D1 hM hpw hmem hb hb0 hS1 hS2 h1 h2 h3 h4 s0 s1 s2 hba HG hB1 hW
  go_upto_region 3 with (fail)
  generalize w1.alloc _ = w2 at *
  obtain ⟨m0, m1, -⟩ := now2 hm2 rfl
  have hb3 := below_alloc3 w2 (.cells #[.int .i64 1] 3) (.cells #[.int .i64 0, .int .i64 1] 3) (.cells #[.slice (some ⟨w2.heap.size, 0, none⟩) 1 1, .slice (some ⟨w2.heap.size + 1, 0, none⟩) 2 2] 45)
  have t1 := heap_alloc3_a w2 (.cells #[.int .i64 1] 3) (.cells #[.int .i64 0, .int .i64 1] 3) (.cells #[.slice (some ⟨w2.heap.size, 0, none⟩) 1 1, .slice (some ⟨w2.heap.size + 1, 0, none⟩) 2 2] 45)
  have t2 := heap_alloc3_b w2 (.cells #[.int .i64 1] 3) (.cells #[.int .i64 0, .int .i64 1] 3) (.cells #[.slice (some ⟨w2.heap.size, 0, none⟩) 1 1, .slice (some ⟨w2.heap.size + 1, 0, none⟩) 2 2] 45)
  have t3 := heap_alloc3_c w2 (.cells #[.int .i64 1] 3) (.cells #[.int .i64 0, .int .i64 1] 3) (.cells #[.slice (some ⟨w2.heap.size, 0, none⟩) 1 1, .slice (some ⟨w2.heap.size + 1, 0, none⟩) 2 2] 45)
  go_wp2_with fail
  generalize ((w2.alloc _).alloc _).alloc _ = w3 at *
  have D3 := rsameRows13_any w3 _ _ _ _ ((hM2.below hb3).more hb3.size) (lit_mat2 t3 (lit_int1 t1) (lit_int2 t2))
  rw [decide_eq_true rfl] at D3
  have hm3 := keep_blk hb3 hm2
  have hB3 := hB2.trans (hb3.mono hB2.size)
  have hM3 := (hM2.below hb3).more hb3.size
  clear t1 t2 t3 m0 m1 hb3 hm2 hB2 hM2
  refine D3.mono ?_
  rintro e w4 ⟨rfl, hb⟩
  have hm4 := keep_blk hb hm3
  have hB4 := hB3.trans (hb.mono hB3.size)
  have hM4 := (hM3.below hb).more hb.size
  clear D3 hm3 hB3 hM3 hb
  obtain ⟨m0, m1, -⟩ := now2 hm4 rfl
  have hb5 := below_alloc1 w4 (.cells #[.int .i64 1] 3)
  have t5 := heap_alloc_new w4 (.cells #[.int .i64 1] 3)
  go_wp2_with fail
  generalize w4.alloc _ = w5 at *
  have D5 := HS 2 _ _ _ _ w5 ((hM4.below hb5).more hb5.size) (lit_int1 t5)
  rw [hR1, hS1', Bool.true_and] at D5
  unfold mtv at D5
  have hm5 := keep_blk hb5 hm4
  have hB5 := hB4.trans (hb5.mono hB4.size)
  have hM5 := (hM4.below hb5).more hb5.size
  clear t5 m0 m1 hb5 hm4 hB4 hM4
  refine D5.mono ?_
  rintro e w6 ⟨rfl, hb⟩
  have hm6 := keep_blk hb hm5
  have hB6 := hB5.trans (hb.mono hB5.size)
  have hM6 := (hM5.below hb).more hb.size
  clear D5 hm5 hB5 hM5 hb
  obtain ⟨m0, m1, -⟩ := now2 hm6 rfl
  have hb7 := below_alloc1 w6 (.cells #[.int .i64 0] 3)
  have t7 := heap_alloc_new w6 (.cells #[.int .i64 0] 3)
  go_wp2_with fail
  generalize w6.alloc _ = w7 at *
  have D7 := HS 2 _ _ _ _ w7 ((hM6.below hb7).more hb7.size) (lit_int1 t7)
  rw [hR1, hS0', Bool.true_and] at D7
  unfold mtv at D7
  have hm7 := keep_blk hb7 hm6
  have hB7 := hB6.trans (hb7.mono hB6.size)
  have hM7 := (hM6.below hb7).more hb7.size
  clear t7 m0 m1 hb7 hm6 hB6 hM6
  refine D7.mono ?_
  rintro e w8 ⟨rfl, hb⟩
  have hm8 := keep_blk hb hm7
  have hB8 := hB7.trans (hb.mono hB7.size)
  have D8 := HR 2 _ _ w8 ((hM7.below hb).more hb.size)
  rw [hR1] at D8
  unfold mtv at D8
  clear D7 hm7 hB7 hM7 hb
  obtain ⟨m0, m1, -⟩ := now2 hm8 rfl
  go_wp2_with fail
  refine D8.mono ?_
  rintro e w9 ⟨rfl, hb⟩
  have hB9 := hB8.trans (hb.mono hB8.size)
  go_wp2
  go_ret
  exact ⟨rfl, hB9⟩
end Go.Proofs.YtdfllifjbabfjaaGreatDoor
namespace Go.Proofs.YtdfllifjbabfjaaGreatDoor
open Go.ChangeShapes Go.WideShapes Go.ChangeAt Go.RowKit Go.Joins

theorem Tryz.own : ownKnob Tryz.prog.godebug = none := by kernel_rfl
theorem Tryz.laidOut : laidOutB Tryz.prog = true := by kernel_rfl
theorem Tryz.cellsSet : Tryz.prog.cellsOf 50 = 4 := by kernel_rfl
theorem Tryz.cellsWord : Tryz.prog.cellsOf 48 = 1 := by kernel_rfl

set_option maxRecDepth 100000 in
theorem word_of {H : Type} {enc : TypeId × Value → H} {w : World} {base m : Nat} {sp : Nat → Bool} {held : Bool} {c : Value} {y : DataW H × List MemPlace}
    (h : DataW.trod enc Tryz.prog w base sp held m 48 [c] = some y) : ∃ x : BitVec 64, c = wv x := by
  obtain ⟨a, e0, _, wa⟩ := DataW.trod_int Tryz.underlying48 h
  simp at e0
  subst e0
  have hb : 0 ≤ a ∧ a ≤ 18446744073709551615 := by
    simp [Lit.wf, IntKind.min, IntKind.max, IntKind.signed, IntKind.bits] at wa
    omega
  obtain ⟨n, rfl⟩ := Int.eq_ofNat_of_zero_le hb.1
  refine ⟨BitVec.ofNat 64 n, ?_⟩
  unfold wv
  rw [BitVec.toNat_ofNat, Nat.mod_eq_of_lt (by omega)]

set_option maxRecDepth 100000 in
theorem open_set {H : Type} {enc : TypeId × Value → H} {w W : World} {r : Reach} {b0 base : Nat} {sp : Nat → Bool} {held : Bool} {v : Value} {d : DataW H} {p : List MemPlace}
    (hv : Value.okWide Tryz.prog W r b0 50 v) (h : DataW.Trod enc Tryz.prog w base sp held 50 v d p) : ∃ S : BitVec 256, v = sv S := by
  have hv' : ∃ cs, v = .agg cs ∧ cs.size = Tryz.prog.cellsOf 50 := by
    unfold Value.okWide at hv
    rw [Tryz.underlying50] at hv
    obtain ⟨cs, h1, h2, _⟩ := hv
    exact ⟨cs, h1, h2⟩
  obtain ⟨cs, rfl, hsz⟩ := hv'
  obtain ⟨c0, c1, c2, c3, rfl⟩ := array4 (hsz.trans Tryz.cellsSet)
  obtain ⟨fuel, hf⟩ := h
  obtain ⟨xs, m, _, _, _, hx, he⟩ := DataW.trod_array Tryz.underlying50 hf
  rw [Tryz.cellsWord] at he
  obtain ⟨y0, y1, y2, y3, rfl⟩ : ∃ y0 y1 y2 y3, xs = [y0, y1, y2, y3] := by
    match xs, hx with
    | [y0, y1, y2, y3], _ => exact ⟨y0, y1, y2, y3, rfl⟩
  have h0 := he 0 (by omega)
  have h1 := he 1 (by omega)
  have h2 := he 2 (by omega)
  have h3 := he 3 (by omega)
  obtain ⟨x0, rfl⟩ := word_of h0
  obtain ⟨x1, rfl⟩ := word_of h1
  obtain ⟨x2, rfl⟩ := word_of h2
  obtain ⟨x3, rfl⟩ := word_of h3
  obtain ⟨S, e0, e1, e2, e3⟩ := of_words x0 x1 x2 x3
  exact ⟨S, by unfold sv; rw [e0, e1, e2, e3]⟩
end Go.Proofs.YtdfllifjbabfjaaGreatDoor
namespace Go.Proofs.YtdfllifjbabfjaaGreatDoor
open Go.ChangeShapes Go.WideShapes Go.ChangeAt Go.RowKit Go.Joins

theorem Tryz.cellsCube : Tryz.prog.cellsOf 42 = 2 := by kernel_rfl
theorem Tryz.cellsByte : Tryz.prog.cellsOf 5 = 1 := by kernel_rfl
theorem byte_of {H : Type} {enc : TypeId × Value → H} {w : World} {base m : Nat} {sp : Nat → Bool} {held : Bool} {c : Value} {y : DataW H × List MemPlace}
    (h : DataW.trod enc Tryz.prog w base sp held m 5 [c] = some y) : ∃ x : BitVec 8, c = bvv x := by
  obtain ⟨a, e0, _, wa⟩ := DataW.trod_int Tryz.underlying5 h
  simp at e0
  subst e0
  have hb : 0 ≤ a ∧ a ≤ 255 := by
    simp [Lit.wf, IntKind.min, IntKind.max, IntKind.signed, IntKind.bits] at wa
    omega
  obtain ⟨n, rfl⟩ := Int.eq_ofNat_of_zero_le hb.1
  refine ⟨BitVec.ofNat 8 n, ?_⟩
  unfold bvv
  rw [BitVec.toNat_ofNat, Nat.mod_eq_of_lt (by omega)]
set_option maxRecDepth 100000 in
theorem open_cube {H : Type} {enc : TypeId × Value → H} {w W : World} {r : Reach} {b0 base : Nat} {sp : Nat → Bool} {held : Bool} {v : Value} {d : DataW H} {p : List MemPlace}
    (hv : Value.okWide Tryz.prog W r b0 42 v) (h : DataW.Trod enc Tryz.prog w base sp held 42 v d p) : ∃ m x : BitVec 8, v = cv m x := by
  have hv' : ∃ cs, v = .agg cs ∧ cs.size = Tryz.prog.cellsOf 42 := by
    unfold Value.okWide at hv
    rw [Tryz.underlying42] at hv
    obtain ⟨cs, h1, h2, _⟩ := hv
    exact ⟨cs, h1, h2⟩
  obtain ⟨cs, rfl, hsz⟩ := hv'
  obtain ⟨c0, c1, rfl⟩ : ∃ c0 c1, cs = #[c0, c1] := by
    have h2 := hsz.trans Tryz.cellsCube
    obtain ⟨l⟩ := cs
    match l, h2 with
    | [c0, c1], _ => exact ⟨c0, c1, rfl⟩
  obtain ⟨fuel, hf⟩ := h
  obtain ⟨y0, y1, n, _, _, h0, h1⟩ := trod_struct2 Tryz.underlying42 hf
  simp only [Value.cells, List.drop_zero, Tryz.cellsByte] at h0 h1
  obtain ⟨x0, e0⟩ := byte_of h0
  obtain ⟨x1, e1⟩ := byte_of h1
  exact ⟨x0, x1, by unfold cv; rw [e0, e1]⟩
end Go.Proofs.YtdfllifjbabfjaaGreatDoor
namespace Go.Proofs.YtdfllifjbabfjaaGreatDoor
open Go.ChangeShapes Go.WideShapes Go.ChangeAt Go.RowKit Go.Joins

theorem Tryz.cellsInt : Tryz.prog.cellsOf 3 = 1 := by kernel_rfl
set_option maxRecDepth 100000 in
theorem num_of {H : Type} {enc : TypeId × Value → H} {w : World} {base m : Nat} {sp : Nat → Bool} {held : Bool} {c : Value} {y : DataW H × List MemPlace}
    (h : DataW.trod enc Tryz.prog w base sp held m 3 [c] = some y) : ∃ x : Int, c = .int .i64 x := by
  obtain ⟨a, e0, _, wa⟩ := DataW.trod_int Tryz.underlying3 h
  simp at e0
  exact ⟨a, e0⟩
theorem plain_addr {w : World} {a : Addr} {v : Value} (h : w.cell? (a.add 0) = some v) : a = ⟨a.block, a.off, none⟩ ∧ a.block < w.heap.size := by
  have h0 : w.cell? a = some v := by simpa [Addr.add] using h
  have hs := World.cell?_spot h0
  refine ⟨?_, World.block_lt_of_cell? w a h0⟩
  cases a with
  | mk b o s => simp at hs; subst hs; rfl
theorem add_plain (b off i : Nat) : (⟨b, off, none⟩ : Addr).add i = ⟨b, off + i, none⟩ := by
  unfold Addr.add
  split
  · rename_i h; subst h; rfl
  · rfl
set_option maxRecDepth 100000 in
theorem ints_of {H : Type} {enc : TypeId × Value → H} {w : World} {base m : Nat} {sp : Nat → Bool} {held : Bool} {c : Value} {y : DataW H × List MemPlace}
    (h : DataW.trod enc Tryz.prog w base sp held m 45 [c] = some y) : ∃ o, IntsAt w w.heap.size c o := by
  rcases open_ints Tryz.underlying45 Tryz.underlying3 Tryz.cellsInt h with ⟨e, _⟩ | ⟨a, len, cap, zs, e, hb, hl, hm, hz, hx, hc, hw⟩
  · simp at e
    subst e
    exact ⟨[], none, 0, rfl, by decide, fun h => absurd h (by simp)⟩
  · simp at e
    subst e
    have hle : len ≤ zs.length := by rw [hz]; split <;> omega
    have hlen : (zs.take len).length = len := by rw [List.length_take]; omega
    have hmx : maxLen = 9223372036854775807 := rfl
    refine ⟨zs.take len, some a, cap, by rw [hlen], by omega, fun h0 => ?_⟩
    obtain ⟨ea, hblk⟩ := plain_addr (hc 0 (by omega))
    refine ⟨a.block, a.off, congrArg some ea, hblk, fun j x hx => ?_⟩
    rw [List.getElem?_take] at hx
    split at hx
    · have := hc j (by omega)
      rw [ea, add_plain] at this
      rw [this, List.getD_eq_getElem?_getD, hx]
      rfl
    · cases hx
theorem slice_cells {P : Program} {W : World} {r : Reach} {b t e : Nat} {v : Value} (ht : P.underlying t = some (.slice e)) (h : Value.okWide P W r b t v) : v.cells = #[v] := by
  obtain ⟨a, len, cap, rfl⟩ := okWide_slice ht h
  rfl
theorem open_intl {H : Type} {enc : TypeId × Value → H} {w : World} {base : Nat} {sp : Nat → Bool} {held : Bool} {v : Value} {d : DataW H} {p : List MemPlace}
    (hc : v.cells = #[v]) (h : DataW.Trod enc Tryz.prog w base sp held 45 v d p) : ∃ ks, IntsAt w w.heap.size v ks := by
  obtain ⟨fuel, hf⟩ := h
  rw [hc] at hf
  exact ints_of hf
end Go.Proofs.YtdfllifjbabfjaaGreatDoor
namespace Go.Proofs.YtdfllifjbabfjaaGreatDoor
open Go.ChangeShapes Go.WideShapes Go.ChangeAt Go.RowKit Go.Joins

theorem Tryz.cellsInts : Tryz.prog.cellsOf 45 = 1 := by kernel_rfl
set_option maxRecDepth 100000 in
theorem cube_of {H : Type} {enc : TypeId × Value → H} {w : World} {base n : Nat} {sp : Nat → Bool} {held : Bool} {c0 c1 : Value} {y : DataW H × List MemPlace}
    (h : DataW.trod enc Tryz.prog w base sp held n 42 [c0, c1] = some y) : ∃ m v : BitVec 8, c0 = bvv m ∧ c1 = bvv v := by
  obtain ⟨y0, y1, n, _, _, h0, h1⟩ := trod_struct2 Tryz.underlying42 h
  simp only [List.drop_zero, Tryz.cellsByte] at h0 h1
  obtain ⟨x0, e0⟩ := byte_of h0
  obtain ⟨x1, e1⟩ := byte_of h1
  exact ⟨x0, x1, e0, e1⟩
instance : Inhabited Ln := ⟨⟨0, 0, []⟩⟩
end Go.Proofs.YtdfllifjbabfjaaGreatDoor
namespace Go.Proofs.YtdfllifjbabfjaaGreatDoor
open Go.ChangeShapes Go.WideShapes Go.ChangeAt Go.RowKit Go.Joins

theorem Tryz.cellsSet4 : Tryz.prog.cellsOf 50 = 4 := by kernel_rfl
set_option maxRecDepth 100000 in
theorem set_of {H : Type} {enc : TypeId × Value → H} {w : World} {base n : Nat} {sp : Nat → Bool} {held : Bool} {c0 c1 c2 c3 : Value} {y : DataW H × List MemPlace}
    (h : DataW.trod enc Tryz.prog w base sp held n 50 [c0, c1, c2, c3] = some y) : ∃ S : BitVec 256, c0 = wv (wd S 0) ∧ c1 = wv (wd S 1) ∧ c2 = wv (wd S 2) ∧ c3 = wv (wd S 3) := by
  obtain ⟨xs, m, _, _, _, hx, he⟩ := DataW.trod_array Tryz.underlying50 h
  rw [Tryz.cellsWord] at he
  obtain ⟨y0, y1, y2, y3, rfl⟩ : ∃ y0 y1 y2 y3, xs = [y0, y1, y2, y3] := by
    match xs, hx with
    | [a, b, c, d], _ => exact ⟨a, b, c, d, rfl⟩
  obtain ⟨x0, e0⟩ := word_of (he 0 (by decide))
  obtain ⟨x1, e1⟩ := word_of (he 1 (by decide))
  obtain ⟨x2, e2⟩ := word_of (he 2 (by decide))
  obtain ⟨x3, e3⟩ := word_of (he 3 (by decide))
  obtain ⟨S, f0, f1, f2, f3⟩ := of_words x0 x1 x2 x3
  exact ⟨S, by rw [f0]; exact e0, by rw [f1]; exact e1, by rw [f2]; exact e2, by rw [f3]; exact e3⟩
set_option maxRecDepth 100000 in
theorem sets_of {H : Type} {enc : TypeId × Value → H} {w : World} {base m : Nat} {sp : Nat → Bool} {held : Bool} {c : Value} {y : DataW H × List MemPlace}
    (h : DataW.trod enc Tryz.prog w base sp held m 22 [c] = some y) : ∃ Ss, SetsAt w w.heap.size c Ss := by
  rcases Go.Deep.open_slice Tryz.underlying22 h with ⟨e, _⟩ | ⟨a, len, cap, m, n, D, Pl, e, hb, hl, hm, hmm, hx, hel⟩
  · simp at e
    subst e
    exact ⟨[], none, 0, rfl, by decide, fun h => absurd h (by simp)⟩
  · simp at e
    subst e
    have hle : len ≤ m := by rw [hmm]; split <;> omega
    have hmx : maxLen = 9223372036854775807 := rfl
    have each : ∀ i, i < len → ∃ S : BitVec 256, w.cell? (a.add (i * 4)) = some (wv (wd S 0)) ∧ w.cell? ((a.add (i * 4)).add 1) = some (wv (wd S 1)) ∧ w.cell? ((a.add (i * 4)).add 2) = some (wv (wd S 2)) ∧ w.cell? ((a.add (i * 4)).add 3) = some (wv (wd S 3)) := by
      intro i hi
      obtain ⟨cs, hcs, ht⟩ := hel i (by omega)
      rw [Tryz.cellsSet4] at hcs
      obtain ⟨_, hn, hat⟩ := World.cells?_some hcs
      match cs, hn with
      | [c0, c1, c2, c3], _ =>
        have a0 := hat 0 (by decide)
        have a1 := hat 1 (by decide)
        have a2 := hat 2 (by decide)
        have a3 := hat 3 (by decide)
        obtain ⟨S, rfl, rfl, rfl, rfl⟩ := set_of ht
        exact ⟨S, by simpa [Addr.add] using a0, by simpa using a1, by simpa using a2, by simpa using a3⟩
    obtain ⟨F, hF⟩ := Go.Deep.choose_lt each
    refine ⟨(List.range len).map F, some a, cap, by simp, by simp; omega, fun h0 => ?_⟩
    have hl0 : 0 < len := by simpa using h0
    obtain ⟨z0, -⟩ := hF 0 hl0
    obtain ⟨ea, hblk⟩ := plain_addr (by simpa using z0)
    refine ⟨a.block, a.off, congrArg some ea, hblk, fun j l hj => ?_⟩
    rw [List.getElem?_map] at hj
    obtain ⟨j', hj', rfl⟩ := Option.map_eq_some_iff.1 hj
    obtain ⟨hlt, e⟩ := List.getElem?_eq_some_iff.1 hj'
    have e' : j' = j := by simpa using e.symm
    subst e'
    obtain ⟨q0, q1, q2, q3⟩ := hF j' (by simpa using hlt)
    rw [ea] at q0 q1 q2 q3
    simp only [add_plain] at q0 q1 q2 q3
    exact ⟨q0, q1, q2, q3⟩
set_option maxRecDepth 100000 in
theorem open_sets {H : Type} {enc : TypeId × Value → H} {w : World} {base : Nat} {sp : Nat → Bool} {held : Bool} {v : Value} {d : DataW H} {p : List MemPlace}
    (hc : v.cells = #[v]) (h : DataW.Trod enc Tryz.prog w base sp held 22 v d p) : ∃ Ss, SetsAt w w.heap.size v Ss := by
  obtain ⟨fuel, hf⟩ := h
  rw [hc] at hf
  exact sets_of hf
end Go.Proofs.YtdfllifjbabfjaaGreatDoor
