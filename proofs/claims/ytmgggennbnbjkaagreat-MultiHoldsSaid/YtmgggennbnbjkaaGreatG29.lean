/- The statements of layer 10, over what the package answers: the contracts; knows, Great. -/
import Derived.Test.YtmgggennbnbjkaaGreatG26
import Derived.Test.YtmgggennbnbjkaaGreatG28
namespace Go.Proofs.YtmgggennbnbjkaaGreat
open Go.RowKit Go.Joins

/-- What the package answers. -/
def AllM : Prop := ∀ (i : Int) (A C : Value) (on may : List (BitVec 256)) (w : World), SetsAt w w.heap.size A on → SetsAt w w.heap.size C may →
  Calls Tryz.prog 7 #[spv i A C] w fun e w' => ∃ v, e = .returned (.tuple #[v, .int .i64 (if spB ⟨i, on, may⟩ = true then 0 else 1)]) ∧ RwsAt w' w'.heap.size v (if spB ⟨i, on, may⟩ = true then rwL (primR ⟨i, on, may⟩) else []) ∧ Below w.heap.size w w'
def GrowM : Prop := ∀ (i : Int) (A C : Value) (on may : List (BitVec 256)) (x : Rw) (w : World), SetsAt w w.heap.size A on → SetsAt w w.heap.size C may →
  Calls Tryz.prog 15 #[spv i A C, rwv x] w fun e w' => e = .returned (.tuple #[rwv (if (spB ⟨i, on, may⟩ && rowIn ⟨i, on, may⟩ x) = true then growR ⟨i, on, may⟩ x else ⟨0, 0, 0⟩), .int .i64 (if (spB ⟨i, on, may⟩ && rowIn ⟨i, on, may⟩ x) = true then 0 else 1)]) ∧ Below w.heap.size w w'
def PrimeM : Prop := ∀ (i : Int) (A C : Value) (on may : List (BitVec 256)) (x : Rw) (w : World), SetsAt w w.heap.size A on → SetsAt w w.heap.size C may →
  Calls Tryz.prog 9 #[spv i A C, rwv x] w fun e w' => e = .returned (.bool (spB ⟨i, on, may⟩ && primR ⟨i, on, may⟩ x)) ∧ Below w.heap.size w w'
def WithinM : Prop := ∀ (i : Int) (A C : Value) (on may : List (BitVec 256)) (x : Rw) (w : World), SetsAt w w.heap.size A on → SetsAt w w.heap.size C may →
  Calls Tryz.prog 34 #[spv i A C, rwv x] w fun e w' => e = .returned (.bool (spB ⟨i, on, may⟩ && rowIn ⟨i, on, may⟩ x)) ∧ Below w.heap.size w w'
/- THE EXAMPLE. -/
def spX : Sp := ⟨1, [0, 0], [2, 3]⟩
theorem spX_right : spB spX = true := by decide +kernel
theorem spX_in : rowIn spX ⟨1, 1, 1⟩ = true := by decide +kernel
theorem spX_grow : growR spX ⟨1, 1, 1⟩ = ⟨1, 1, 3⟩ := by
  have h : (growR spX ⟨1, 1, 1⟩).m = 1 ∧ (growR spX ⟨1, 1, 1⟩).v = 1 ∧ (growR spX ⟨1, 1, 1⟩).o = 3 := by decide +kernel
  generalize growR spX ⟨1, 1, 1⟩ = z at *
  obtain ⟨a, b, c⟩ := z
  obtain ⟨h1, h2, h3⟩ := h
  simp only at h1 h2 h3
  rw [h1, h2, h3]
theorem spX_prim : primR spX ⟨1, 1, 3⟩ = true := by decide +kernel
theorem spX_keys : ∀ a, a < 4 → ∀ m, m < 2 → ∀ v, v < 2 → primR spX (rwK (65536 * a + (256 * m + v))) = decide (65536 * a + (256 * m + v) = 131072 ∨ 65536 * a + (256 * m + v) = 196865) := by decide +kernel
theorem spX_all : rwL (primR spX) = [⟨0, 0, 2⟩, ⟨1, 1, 3⟩] := by
  have hu : rwU (primR spX) allK = [131072, 196865] := by
    refine rise_ext (rwU_srt _ _) (by decide) fun k => ?_
    rw [rwU_mem]
    constructor
    · rintro ⟨h1, h2⟩
      have hl := rowin_low (s := spX) (n := 1) rfl (prim_in h2)
      rw [allK_eq] at h1
      obtain ⟨a, m, v, rfl, hm, hv⟩ := split_key k
      have hat := rwK_at (show a < 256 by omega) hm hv
      have e := spX_keys a (by have := hl.2.2.1; rw [hat.2.2] at this; exact this) m (by have := hl.1; rw [hat.1] at this; exact this) v (by have := hl.2.1; rw [hat.2.1] at this; exact this)
      rw [h2] at e
      have := of_decide_eq_true e.symm
      simp only [List.mem_cons, List.not_mem_nil, or_false]
      exact this
    · intro h
      simp only [List.mem_cons, List.not_mem_nil, or_false] at h
      rw [allK_eq]
      rcases h with rfl | rfl
      · exact ⟨by omega, (spX_keys 2 (by decide) 0 (by decide) 0 (by decide)).trans (by decide)⟩
      · exact ⟨by omega, (spX_keys 3 (by decide) 1 (by decide) 1 (by decide)).trans (by decide)⟩
  unfold rwL
  rw [hu]
  have h1 : (rwK 131072).m = 0 ∧ (rwK 131072).v = 0 ∧ (rwK 131072).o = 2 := by decide +kernel
  have h2 : (rwK 196865).m = 1 ∧ (rwK 196865).v = 1 ∧ (rwK 196865).o = 3 := by decide +kernel
  show [rwK 131072, rwK 196865] = _
  generalize rwK 131072 = y at *
  generalize rwK 196865 = z at *
  obtain ⟨a, b, c⟩ := y
  obtain ⟨d, e, f⟩ := z
  simp only at h1 h2
  rw [h1.1, h1.2.1, h1.2.2, h2.1, h2.2.1, h2.2.2]
theorem lit_set2 {w : World} {b : Nat} {C : Array Value} {X Y : BitVec 256} (h : w.heap[b]? = some (.cells C 41 (0, 0)))
    (hC : C = #[wv (wd X 0), wv (wd X 1), wv (wd X 2), wv (wd X 3), wv (wd Y 0), wv (wd Y 1), wv (wd Y 2), wv (wd Y 3)]) : SetsAt w w.heap.size (.slice (some ⟨b, 0, none⟩) 2 2) [X, Y] := by
  subst hC
  refine ⟨some ⟨b, 0, none⟩, 2, rfl, (show (2 : Nat) ≤ 9223372036854775807 by decide), fun _ => ⟨b, 0, rfl, size_of_block h, fun j Z hj => ?_⟩⟩
  have hj2 : j < 2 := (List.getElem?_eq_some_iff.1 hj).1
  have : j = 0 ∨ j = 1 := by omega
  rcases this with rfl | rfl
  · simp at hj
    subst hj
    exact ⟨by rw [cell_of_block h]; rfl, by rw [cell_of_block h]; rfl, by rw [cell_of_block h]; rfl, by rw [cell_of_block h]; rfl⟩
  · simp at hj
    subst hj
    exact ⟨by rw [cell_of_block h]; rfl, by rw [cell_of_block h]; rfl, by rw [cell_of_block h]; rfl, by rw [cell_of_block h]; rfl⟩
set_option maxHeartbeats 4000000 in
set_option maxRecDepth 100000 in
theorem knows10_any (HA : AllM) (HG : GrowM) (HP : PrimeM) (w : World) : Calls Tryz.prog 6 #[] w fun e w' => e = .returned (.bool true) ∧ Below w.heap.size w w' := by
  have hW := below_alloc3 w (.cells #[.int .u64 0, .int .u64 0, .int .u64 0, .int .u64 0, .int .u64 0, .int .u64 0, .int .u64 0, .int .u64 0] 41) (.cells #[.int .u64 2, .int .u64 0, .int .u64 0, .int .u64 0, .int .u64 3, .int .u64 0, .int .u64 0, .int .u64 0] 41) (.cells #[.int .i64 1, .slice (some ⟨w.heap.size, 0, none⟩) 2 2, .slice (some ⟨w.heap.size + 1, 0, none⟩) 2 2] 24)
  have h1 := heap_alloc3_a w (.cells #[.int .u64 0, .int .u64 0, .int .u64 0, .int .u64 0, .int .u64 0, .int .u64 0, .int .u64 0, .int .u64 0] 41) (.cells #[.int .u64 2, .int .u64 0, .int .u64 0, .int .u64 0, .int .u64 3, .int .u64 0, .int .u64 0, .int .u64 0] 41) (.cells #[.int .i64 1, .slice (some ⟨w.heap.size, 0, none⟩) 2 2, .slice (some ⟨w.heap.size + 1, 0, none⟩) 2 2] 24)
  have h2 := heap_alloc3_b w (.cells #[.int .u64 0, .int .u64 0, .int .u64 0, .int .u64 0, .int .u64 0, .int .u64 0, .int .u64 0, .int .u64 0] 41) (.cells #[.int .u64 2, .int .u64 0, .int .u64 0, .int .u64 0, .int .u64 3, .int .u64 0, .int .u64 0, .int .u64 0] 41) (.cells #[.int .i64 1, .slice (some ⟨w.heap.size, 0, none⟩) 2 2, .slice (some ⟨w.heap.size + 1, 0, none⟩) 2 2] 24)
  have h3 := heap_alloc3_c w (.cells #[.int .u64 0, .int .u64 0, .int .u64 0, .int .u64 0, .int .u64 0, .int .u64 0, .int .u64 0, .int .u64 0] 41) (.cells #[.int .u64 2, .int .u64 0, .int .u64 0, .int .u64 0, .int .u64 3, .int .u64 0, .int .u64 0, .int .u64 0] 41) (.cells #[.int .i64 1, .slice (some ⟨w.heap.size, 0, none⟩) 2 2, .slice (some ⟨w.heap.size + 1, 0, none⟩) 2 2] 24)
  obtain ⟨s0, s1, s2, -⟩ := now3 h3 rfl
  go_enter Tryz.func6, Tryz.ntmps6
  go_wp2_with fail
  generalize ((w.alloc _).alloc _).alloc _ = W at *
  have hS1 : SetsAt W W.heap.size (.slice (some ⟨w.heap.size, 0, none⟩) 2 2) [0, 0] := lit_set2 h1 rfl
  have hS2 : SetsAt W W.heap.size (.slice (some ⟨w.heap.size + 1, 0, none⟩) 2 2) [2, 3] := lit_set2 h2 rfl
  have HA1 := HA 1 _ _ [0, 0] [2, 3] W hS1 hS2
  rw [show (⟨1, [0, 0], [2, 3]⟩ : Sp) = spX from rfl, if_pos spX_right, if_pos spX_right, spX_all] at HA1
  refine HA1.mono ?_
  rintro e w1 ⟨v, rfl, hL, hb⟩
  obtain ⟨A, c, rfl, -, hc⟩ := hL
  obtain ⟨b, off, rfl, hB, hcell⟩ := hc (by decide)
  obtain ⟨x0, x1, x2⟩ := hcell 0 _ rfl
  obtain ⟨y0, y1, y2⟩ := hcell 1 _ rfl
  have hB1 := hW.trans (hb.mono hW.size)
  have hs1 := keep_blk hb h3
  have HG1 := HG 1 _ _ [0, 0] [2, 3] ⟨1, 1, 1⟩ w1 ((hS1.below hb).more hb.size) ((hS2.below hb).more hb.size)
  have hok : (spB spX && rowIn spX ⟨1, 1, 1⟩) = true := by rw [spX_right, spX_in]; rfl
  rw [show (⟨1, [0, 0], [2, 3]⟩ : Sp) = spX from rfl, if_pos hok, if_pos hok, spX_grow] at HG1
  have HPx := fun W1 (hb1 : Below W.heap.size W W1) => HP 1 _ _ [0, 0] [2, 3] ⟨1, 1, 3⟩ W1 ((hS1.below hb1).more hb1.size) ((hS2.below hb1).more hb1.size)
  rw [show (⟨1, [0, 0], [2, 3]⟩ : Sp) = spX from rfl, spX_right, spX_prim] at HPx
  rw [show rwv ⟨1, 1, 1⟩ = .agg #[.int .u8 1, .int .u8 1, .int .u8 1] from rfl, show rwv ⟨1, 1, 3⟩ = .agg #[.int .u8 1, .int .u8 1, .int .u8 3] from rfl] at HG1
  rw [show rwv ⟨1, 1, 3⟩ = .agg #[.int .u8 1, .int .u8 1, .int .u8 3] from rfl] at HPx
  rw [show bvv 0 = .int .u8 0 from rfl] at x0 x1
  rw [show bvv 2 = .int .u8 2 from rfl] at x2
  rw [show bvv 1 = .int .u8 1 from rfl] at y0 y1
  rw [show bvv 3 = .int .u8 3 from rfl] at y2
  simp only [Nat.zero_mul, Nat.add_zero, Nat.one_mul] at x0 x1 x2 y0 y1 y2
  clear HA HG HP HA1 hc hcell s0 s1 s2 h1 h2 h3 hS1 hS2
  obtain ⟨s0, s1, s2, -⟩ := now3 hs1 rfl
  unfold spv at HG1 HPx
  go_wp2_with fail
  refine HG1.mono ?_
  rintro e w2 ⟨rfl, hb2⟩
  have hz := heap_alloc_new w2 (.cells #[.int .u8 1, .int .u8 1, .int .u8 3] 28)
  have hA := hb2.trans ((below_alloc1 w2 (.cells #[.int .u8 1, .int .u8 1, .int .u8 3] 28)).mono hb2.size)
  have hs3 := keep_blk hA hs1
  have hB3 := hB1.trans (hA.mono hB1.size)
  have hW3 := hb.trans (hA.mono hb.size)
  have e0 := (hA.cell (p := ⟨b, off, none⟩) hB).trans x0
  have e1 := (hA.cell (p := ⟨b, off + 1, none⟩) hB).trans x1
  have e2 := (hA.cell (p := ⟨b, off + 2, none⟩) hB).trans x2
  have f0 := (hA.cell (p := ⟨b, off + 3, none⟩) hB).trans y0
  have f1 := (hA.cell (p := ⟨b, off + 3 + 1, none⟩) hB).trans y1
  have f2 := (hA.cell (p := ⟨b, off + 3 + 2, none⟩) hB).trans y2
  clear HG1 x0 x1 x2 y0 y1 y2 s0 s1 s2 hb hb2 hA hB1 hs1
  go_upto_region 4 with (fail)
  generalize w2.alloc (.cells #[.int .u8 1, .int .u8 1, .int .u8 3] 28) = w3 at *
  obtain ⟨Z0, Z1, Z2, -⟩ := box3 hz rfl
  obtain ⟨S0, S1, S2, -⟩ := box3 hs3 rfl
  have E0 := fun x : After w3 => After.cell x e0
  have E1 := fun x : After w3 => After.cell x e1
  have E2 := fun x : After w3 => After.cell x e2
  have F0 := fun x : After w3 => After.cell x f0
  have F1 := fun x : After w3 => After.cell x f1
  have F2 := fun x : After w3 => After.cell x f2
  have HPy := fun x : After w3 => HPx x.1 (hW3.trans (x.2.mono hW3.size))
  clear e0 e1 e2 f0 f1 f2 HPx
  refine wp_region_after (by kernel_rfl) (by kernel_rfl) ?_
  repeat (first | go_big_quiet_step ((go_at_call 9; exact Calls.after_of (HPy _))))
  refine wpQuiet_nil ?_
  intro x
  clear Z0 Z1 Z2 S0 S1 S2 E0 E1 E2 F0 F1 F2 HPy
  go_wp2
  go_ret
  exact ⟨rfl, hB3.trans (x.2.mono hB3.size)⟩
end Go.Proofs.YtmgggennbnbjkaaGreat
