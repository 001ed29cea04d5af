/- Coverings, plain: what solves one; rows that are chosen by flags. CoverMakes, where a covering may be made; CoverMakes. The document's examples of layer 13, over what package cover answers. A set that comes in reads as 256 bits. A slice of numbers that comes in. -/
import Derived.Test.YtdfllifjbabfjaaDoorGD15
import Derived.Test.YtdfllifjbabfjaaDoorGD23
import Derived.Test.YtdfllifjbabfjaaDoorGD22
import Derived.Test.YtdfllifjbabfjaaDoorRows
import Derived.Test.YtdfllifjbabfjaaDoorGD01
import Derived.Test.YtdfllifjbabfjaaDoorGD04
import Derived.ProofKit
import Derived.OpenShut
import Derived.Lib.SmallJoins
import Derived.Deep.Slices
import Derived.ChangeSlices
namespace Go.Proofs.YtdfllifjbabfjaaDoor
open Go.RowKit Go.Joins

theorem solves_all {ls : List (List Int)} {cols : List Int} : solvesM ls cols = true ↔ ∀ x, x ∈ ls → ∃ c, c ∈ x ∧ c ∈ cols := by
  unfold solvesM hitR
  simp only [List.all_eq_true, List.any_eq_true, decide_eq_true_iff]
  exact ⟨fun h x hx => by
    obtain ⟨a, ha, b, hb, e⟩ := h x hx
    exact ⟨a, ha, e ▸ hb⟩, fun h x hx => by
    obtain ⟨c, h1, h2⟩ := h x hx
    exact ⟨c, h1, c, h2, rfl⟩⟩
theorem mem_colsR {rs : List Rw} {o p : Nat} {c : Int} : c ∈ colsR rs o p ↔ ∃ k : Nat, c = k ∧ hitC rs o p k = true := by
  unfold colsR colsN
  rw [List.mem_map]
  constructor
  · rintro ⟨k, hk, rfl⟩
    rw [List.mem_filter] at hk
    exact ⟨k, rfl, hk.2⟩
  · rintro ⟨k, rfl, hk⟩
    refine ⟨k, ?_, rfl⟩
    rw [List.mem_filter, List.mem_range]
    refine ⟨?_, hk⟩
    unfold hitC at hk
    split at hk
    · rename_i x hx; exact (List.getElem?_eq_some_iff.1 hx).1
    · cases hk
theorem mem_got {on : List (BitVec 256)} {rs : List Rw} {x : List Int} : x ∈ gotL on rs on.length 0 ↔ ∃ (j : Nat) (X : BitVec 256) (p : Nat), on[j]? = some X ∧ p ∈ pts X ∧ x = colsR rs j p := by
  unfold gotL
  rw [List.take_zero, List.map_nil, List.append_nil, List.mem_flatMap]
  constructor
  · rintro ⟨j, hj, hx⟩
    rw [List.mem_range] at hj
    obtain ⟨p, hp, rfl⟩ := List.mem_map.1 hx
    refine ⟨j, on[j], p, List.getElem?_eq_getElem hj, ?_, rfl⟩
    simpa [List.getD, hj] using hp
  · rintro ⟨j, X, p, hX, hp, rfl⟩
    refine ⟨j, List.mem_range.2 (List.getElem?_eq_some_iff.1 hX).1, ?_⟩
    rw [show on.getD j 0 = X by simp [List.getD, hX]]
    exact List.mem_map.2 ⟨p, hp, rfl⟩
theorem solves_iff {on : List (BitVec 256)} {rs : List Rw} {K : List (List Int)} {cols : List Int} (hK : ∀ x, x ∈ K ↔ x ∈ gotL on rs on.length 0) :
    solvesM K cols = true ↔ ∀ (j : Nat) (X : BitVec 256), on[j]? = some X → ∀ p, p ∈ pts X → ∃ c : Nat, hitC rs j p c = true ∧ (c : Int) ∈ cols := by
  rw [solves_all]
  constructor
  · intro h j X hX p hp
    obtain ⟨c, h1, h2⟩ := h _ ((hK _).2 (mem_got.2 ⟨j, X, p, hX, hp, rfl⟩))
    obtain ⟨k, rfl, hk⟩ := mem_colsR.1 h1
    exact ⟨k, hk, h2⟩
  · intro h x hx
    obtain ⟨j, X, p, hX, hp, rfl⟩ := mem_got.1 ((hK x).1 hx)
    obtain ⟨k, hk, hc⟩ := h j X hX p hp
    exact ⟨k, mem_colsR.2 ⟨k, rfl, hk⟩, hc⟩
/-- A covering that is made is right. -/
theorem made_right {on : List (BitVec 256)} {rs : List Rw} {K : List (List Int)} (hK : ∀ x, x ∈ K ↔ x ∈ gotL on rs on.length 0) (hl : rs.length ≤ 4000) : rightM rs.length K = true := by
  refine right_ok (by omega) (by omega) fun i l hl2 k hk => ?_
  obtain ⟨j, X, p, hX, hp, rfl⟩ := mem_got.1 ((hK l).1 (List.mem_of_getElem? hl2))
  have hn : (colsN rs j p rs.length).Pairwise (· < ·) := List.Pairwise.filter _ List.pairwise_lt_range
  have hlen : (colsR rs j p).length = (colsN rs j p rs.length).length := by unfold colsR; rw [List.length_map]
  have hget : ∀ q, q < (colsR rs j p).length → ∃ c : Nat, (colsR rs j p).getD q 0 = c ∧ (colsN rs j p rs.length)[q]? = some c ∧ c < rs.length := by
    intro q hq
    obtain ⟨c, hc⟩ : ∃ c, (colsN rs j p rs.length)[q]? = some c := ⟨_, List.getElem?_eq_getElem (by omega)⟩
    refine ⟨c, ?_, hc, ?_⟩
    · unfold colsR
      simp [List.getD, hc]
    · have := List.mem_of_getElem? hc
      unfold colsN at this
      exact List.mem_range.1 (List.mem_filter.1 this).1
  obtain ⟨c, e1, e2, e3⟩ := hget k hk
  unfold okR
  rw [e1, decide_eq_true (by omega), decide_eq_true (by omega)]
  cases k with
  | zero => simp
  | succ m =>
    obtain ⟨d, f1, f2, f3⟩ := hget m (by omega)
    rw [Nat.add_sub_cancel, f1]
    obtain ⟨h1, h2⟩ := List.getElem?_eq_some_iff.1 e2
    obtain ⟨h3, h4⟩ := List.getElem?_eq_some_iff.1 f2
    have := List.pairwise_iff_getElem.1 hn m (m + 1) h3 h1 (by omega)
    rw [h2, h4] at this
    rw [decide_eq_true (show (d : Int) < (c : Int) by omega)]
    simp
/-- The places that flags choose. -/
def chsN (fl : List Bool) (k : Nat) : List Nat := (List.range k).filter fun i => fl.getD i false
def chsR (rs : List Rw) (fl : List Bool) : List Rw := (chsN fl rs.length).filterMap fun i => rs[i]?
theorem chosen_cov {rs : List Rw} {fl : List Bool} {p j : Nat} : covB (chsR rs fl) p j = true ↔ ∃ c : Nat, hitC rs j p c = true ∧ (c : Int) ∈ (chsN fl rs.length).map fun i : Nat => (i : Int) := by
  unfold covB chsR
  rw [List.any_eq_true]
  constructor
  · rintro ⟨x, hx, h⟩
    obtain ⟨c, hc, e⟩ := List.mem_filterMap.1 hx
    exact ⟨c, by unfold hitC; rw [e]; exact h, List.mem_map.2 ⟨c, hc, rfl⟩⟩
  · rintro ⟨c, hc, hm⟩
    obtain ⟨c', hc', e⟩ := List.mem_map.1 hm
    have : c' = c := by omega
    subst this
    unfold hitC at hc
    split at hc
    · rename_i x hx
      exact ⟨x, List.mem_filterMap.2 ⟨c', hc', hx⟩, hc⟩
    · cases hc
end Go.Proofs.YtdfllifjbabfjaaDoor
namespace Go.Proofs.YtdfllifjbabfjaaDoor
open Go.RowKit Go.Joins

theorem takeL13 {P : Program} {l : List Oper} {n : Nat} {S : World → Prop} {Q : Exit → Act → World → Prop} {i k : Nat} {o : Oper} {v : Value} {done : Array Bool} {a : Act} {w : World} (hF : tailOk l n = true) (ho : l[i]? = some o) (hi : decide (i < n) = true)
    (hf : Region.free .any l.toArray done i = true) (hr : (Region.ready .any l.toArray done).contains i = true)
    (hQ : ∀ c a w, Q (.panic c) (a.put o.dst v) w → Q (.panic c) a w) (hy : YieldsIf P l.toArray S o v a) (hS : S w)
    (h : HeadH P .any l.toArray Q S n (TailL P l Q n) k (done.setIfInBounds i true) (a.put o.dst v) w) : HeadH P .any l.toArray Q S n (TailL P l Q n) (k + 1) done a w :=
  HeadH.take hF (by simpa using ho) hi hf hr hQ hy hS h
theorem oneL13 {P : Program} {l : List Oper} {n : Nat} {S : World → Prop} {Q : Exit → Act → World → Prop} {i k : Nat} {o : Oper} {done : Array Bool} {a : Act} {w : World} (hr : Region.ready .any l.toArray done = [i]) (hi : decide (i < n) = true) (ho : l[i]? = some o)
    (h : ∀ K' : Act → World → Prop, Shut (∀ a w, S w → (S w → HeadH P .any l.toArray Q S n (TailL P l Q n) k (done.setIfInBounds i true) a w) → K' a w) → if Region.wanted o (yielded l.toArray a.tmps) = true then Oper.wp P o a w K' Q else K' (a.put o.dst undef) w) :
    HeadH P .any l.toArray Q S n (TailL P l Q n) (k + 1) done a w :=
  HeadH.one hr hi (by simpa using ho) h
def on8 (s : Sp) : Prop := s.on.length ≤ 8
theorem mayE_zero {s : Sp} {rs : List Rw} (h : mayE s rs = 0) : on8 s ∧ rs.length ≤ 4000 := by
  unfold mayE at h
  split at h
  · rename_i h1
    rw [Bool.and_eq_true] at h1
    have h2 := h1.1
    unfold spB at h2
    rw [Bool.and_eq_true] at h2
    have h3 := (headS_iff s).1 h2.1
    split at h
    · omega
    · exact ⟨by unfold on8; omega, by omega⟩
  · omega
end Go.Proofs.YtdfllifjbabfjaaDoor
namespace Go.Proofs.YtdfllifjbabfjaaDoor
open Go.RowKit Go.Joins

theorem lit_set1 {w : World} {b : Nat} {x0 : BitVec 256} {T : TypeId} (h : w.heap[b]? = some (.cells #[.int .u64 (wd x0 0).toNat, .int .u64 (wd x0 1).toNat, .int .u64 (wd x0 2).toNat, .int .u64 (wd x0 3).toNat] T (0, 0))) : SetsAt w w.heap.size (.slice (some ⟨b, 0, none⟩) 1 1) [x0] := by
  refine ⟨_, 1, rfl, (show (1 : Nat) ≤ 9223372036854775807 by decide), fun _ => ⟨b, 0, rfl, size_of_block h, fun j X hX => ?_⟩⟩
  match j, hX with
  | 0, hX =>
    injection hX with hX
    subst hX
    unfold wv
    exact ⟨by rw [cell_of_block h]; rfl, by rw [cell_of_block h]; rfl, by rw [cell_of_block h]; rfl, by rw [cell_of_block h]; rfl⟩
theorem lit_rows2 {w : World} {b : Nat} {x y : Rw} {T : TypeId} (h : w.heap[b]? = some (.cells #[bvv x.m, bvv x.v, bvv x.o, bvv y.m, bvv y.v, bvv y.o] T (0, 0))) : RwsAt w w.heap.size (.slice (some ⟨b, 0, none⟩) 2 2) [x, y] := by
  refine ⟨_, 2, rfl, (show (2 : Nat) ≤ 9223372036854775807 by decide), fun _ => ⟨b, 0, rfl, size_of_block h, fun j X hX => ?_⟩⟩
  match j, hX with
  | 0, hX =>
    injection hX with hX
    subst hX
    exact ⟨by rw [cell_of_block h]; rfl, by rw [cell_of_block h]; rfl, by rw [cell_of_block h]; rfl⟩
  | 1, hX =>
    injection hX with hX
    subst hX
    exact ⟨by rw [cell_of_block h]; rfl, by rw [cell_of_block h]; rfl, by rw [cell_of_block h]; rfl⟩
theorem lit_int1 {w : World} {b : Nat} {x : Int} {T : TypeId} (h : w.heap[b]? = some (.cells #[.int .i64 x] T (0, 0))) : IntsAt w w.heap.size (.slice (some ⟨b, 0, none⟩) 1 1) [x] := by
  refine ⟨_, 1, rfl, (show (1 : Nat) ≤ 9223372036854775807 by decide), fun _ => ⟨b, 0, rfl, size_of_block h, fun j y hy => ?_⟩⟩
  match j, hy with
  | 0, hy =>
    injection hy with hy
    subst hy
    rw [cell_of_block h]; rfl
theorem lit_int2 {w : World} {b : Nat} {x z : Int} {T : TypeId} (h : w.heap[b]? = some (.cells #[.int .i64 x, .int .i64 z] T (0, 0))) : IntsAt w w.heap.size (.slice (some ⟨b, 0, none⟩) 2 2) [x, z] := by
  refine ⟨_, 2, rfl, (show (2 : Nat) ≤ 9223372036854775807 by decide), fun _ => ⟨b, 0, rfl, size_of_block h, fun j y hy => ?_⟩⟩
  match j, hy with
  | 0, hy =>
    injection hy with hy
    subst hy
    rw [cell_of_block h]; rfl
  | 1, hy =>
    injection hy with hy
    subst hy
    rw [cell_of_block h]; rfl
theorem lit_mat2 {w : World} {b : Nat} {u v : Value} {l m : List Int} {T : TypeId} (h : w.heap[b]? = some (.cells #[u, v] T (0, 0))) (hu : IntsAt w w.heap.size u l) (hv : IntsAt w w.heap.size v m) : MatAt w w.heap.size (.slice (some ⟨b, 0, none⟩) 2 2) [l, m] := by
  refine ⟨_, 2, rfl, (show (2 : Nat) ≤ 9223372036854775807 by decide), fun _ => ⟨b, 0, rfl, size_of_block h, fun j y hy => ?_⟩⟩
  match j, hy with
  | 0, hy =>
    injection hy with hy
    subst hy
    exact ⟨u, by rw [cell_of_block h]; rfl, hu⟩
  | 1, hy =>
    injection hy with hy
    subst hy
    exact ⟨v, by rw [cell_of_block h]; rfl, hv⟩
def rsX13 : List Rw := [⟨1, 1, 1⟩, ⟨0, 0, 1⟩]
theorem x13_may : mayE ⟨1, [3], [3]⟩ rsX13 = 0 := by decide +kernel
theorem x13_got : gotL [3] rsX13 1 0 = [[1], [0, 1]] := by decide +kernel
theorem x13_K {K : List (List Int)} (hp : K.Pairwise (fun a b => aheadL a b = true)) (hm : ∀ x, x ∈ K ↔ x ∈ gotL [3] rsX13 1 0) : K = [[1], [0, 1]] := by
  refine ahead_ext hp (by simp [aheadL]) fun x => ?_
  rw [hm, x13_got]
set_option maxHeartbeats 4000000 in
set_option maxRecDepth 100000 in
theorem knows13_any (HG : MakeGood) (HR : RightV) (HS : SolvesV) : Knows13 := by
  intro w hT
  have hW := below_alloc3 w (.cells #[.int .u64 3, .int .u64 0, .int .u64 0, .int .u64 0] 34) (.cells #[.int .u64 3, .int .u64 0, .int .u64 0, .int .u64 0] 34) (.cells #[.int .i64 1, .slice (some ⟨w.heap.size, 0, none⟩) 1 1, .slice (some ⟨w.heap.size + 1, 0, none⟩) 1 1] 37)
  have h1 := heap_alloc3_a w (.cells #[.int .u64 3, .int .u64 0, .int .u64 0, .int .u64 0] 34) (.cells #[.int .u64 3, .int .u64 0, .int .u64 0, .int .u64 0] 34) (.cells #[.int .i64 1, .slice (some ⟨w.heap.size, 0, none⟩) 1 1, .slice (some ⟨w.heap.size + 1, 0, none⟩) 1 1] 37)
  have h2 := heap_alloc3_b w (.cells #[.int .u64 3, .int .u64 0, .int .u64 0, .int .u64 0] 34) (.cells #[.int .u64 3, .int .u64 0, .int .u64 0, .int .u64 0] 34) (.cells #[.int .i64 1, .slice (some ⟨w.heap.size, 0, none⟩) 1 1, .slice (some ⟨w.heap.size + 1, 0, none⟩) 1 1] 37)
  have h3 := heap_alloc3_c w (.cells #[.int .u64 3, .int .u64 0, .int .u64 0, .int .u64 0] 34) (.cells #[.int .u64 3, .int .u64 0, .int .u64 0, .int .u64 0] 34) (.cells #[.int .i64 1, .slice (some ⟨w.heap.size, 0, none⟩) 1 1, .slice (some ⟨w.heap.size + 1, 0, none⟩) 1 1] 37)
  obtain ⟨s0, s1, s2, -⟩ := now3 h3 rfl
  go_enter Tryd.func6, Tryd.ntmps6
  go_upto_region 2 with (fail)
  generalize ((w.alloc _).alloc _).alloc _ = W at *
  have hS1 : SetsAt W W.heap.size (.slice (some ⟨w.heap.size, 0, none⟩) 1 1) [3] := lit_set1 (x0 := 3) h1
  have hS2 : SetsAt W W.heap.size (.slice (some ⟨w.heap.size + 1, 0, none⟩) 1 1) [3] := lit_set1 (x0 := 3) h2
  have hb0 := below_alloc1 W (.cells #[.int .u8 1, .int .u8 1, .int .u8 1, .int .u8 0, .int .u8 0, .int .u8 1] 44 (0, 0))
  have h4 := heap_alloc_new W (.cells #[.int .u8 1, .int .u8 1, .int .u8 1, .int .u8 0, .int .u8 0, .int .u8 1] 44 (0, 0))
  have D1 := HG 1 _ _ (.slice (some ⟨W.heap.size, 0, none⟩) 2 2) [3] [3] rsX13 (W.alloc (.cells #[.int .u8 1, .int .u8 1, .int .u8 1, .int .u8 0, .int .u8 0, .int .u8 1] 44 (0, 0))) ((hS1.below hb0).more hb0.size) ((hS2.below hb0).more hb0.size) (lit_rows2 (x := ⟨1, 1, 1⟩) (y := ⟨0, 0, 1⟩) h4) x13_may (hT.below (hW.trans (hb0.mono hW.size)))
  unfold spv at D1
  simp only [show ((rsX13.length : Nat) : Int) = 2 from rfl] at D1
  have hR1 : rightM 2 [[1], [0, 1]] = true := by decide +kernel
  have hS1' : solvesM [[1], [0, 1]] [1] = true := by decide +kernel
  have hS0' : solvesM [[1], [0, 1]] [0] = false := by decide +kernel
  go_wp2_with fail
  refine D1.mono ?_
  rintro e w1 ⟨v, K, rfl, hM, hpw, hmem, hb⟩
  have hK := x13_K hpw hmem
  subst hK
  obtain ⟨AK, cK, rfl, -, -⟩ := id hM
  have hB1 := hW.trans ((hb0.trans (hb.mono hb0.size)).mono hW.size)
  have hba := below_alloc1 w1 (.cells #[.int .i64 2, .slice AK 2 cK] 24 (0, 0))
  have hm2 := heap_alloc_new w1 (.cells #[.int .i64 2, .slice AK 2 cK] 24 (0, 0))
  have hM2 := (hM.below hba).more hba.size
  have hB2 := hB1.trans (hba.mono hB1.size)
  clear D1 hM hpw hmem hb hb0 hS1 hS2 h1 h2 h3 h4 s0 s1 s2 hba HG hB1 hW
  go_upto_region 3 with (fail)
  generalize w1.alloc _ = w2 at *
  obtain ⟨m0, m1, -⟩ := now2 hm2 rfl
  have hb3 := below_alloc3 w2 (.cells #[.int .i64 1] 3) (.cells #[.int .i64 0, .int .i64 1] 3) (.cells #[.slice (some ⟨w2.heap.size, 0, none⟩) 1 1, .slice (some ⟨w2.heap.size + 1, 0, none⟩) 2 2] 25)
  have t1 := heap_alloc3_a w2 (.cells #[.int .i64 1] 3) (.cells #[.int .i64 0, .int .i64 1] 3) (.cells #[.slice (some ⟨w2.heap.size, 0, none⟩) 1 1, .slice (some ⟨w2.heap.size + 1, 0, none⟩) 2 2] 25)
  have t2 := heap_alloc3_b w2 (.cells #[.int .i64 1] 3) (.cells #[.int .i64 0, .int .i64 1] 3) (.cells #[.slice (some ⟨w2.heap.size, 0, none⟩) 1 1, .slice (some ⟨w2.heap.size + 1, 0, none⟩) 2 2] 25)
  have t3 := heap_alloc3_c w2 (.cells #[.int .i64 1] 3) (.cells #[.int .i64 0, .int .i64 1] 3) (.cells #[.slice (some ⟨w2.heap.size, 0, none⟩) 1 1, .slice (some ⟨w2.heap.size + 1, 0, none⟩) 2 2] 25)
  go_wp2_with fail
  generalize ((w2.alloc _).alloc _).alloc _ = w3 at *
  have D3 := rsameRows13_any w3 _ _ _ _ ((hM2.below hb3).more hb3.size) (lit_mat2 t3 (lit_int1 t1) (lit_int2 t2))
  rw [decide_eq_true rfl] at D3
  have hm3 := keep_blk hb3 hm2
  have hB3 := hB2.trans (hb3.mono hB2.size)
  have hM3 := (hM2.below hb3).more hb3.size
  clear t1 t2 t3 m0 m1 hb3 hm2 hB2 hM2
  refine D3.mono ?_
  rintro e w4 ⟨rfl, hb⟩
  have hm4 := keep_blk hb hm3
  have hB4 := hB3.trans (hb.mono hB3.size)
  have hM4 := (hM3.below hb).more hb.size
  clear D3 hm3 hB3 hM3 hb
  obtain ⟨m0, m1, -⟩ := now2 hm4 rfl
  have hb5 := below_alloc1 w4 (.cells #[.int .i64 1] 3)
  have t5 := heap_alloc_new w4 (.cells #[.int .i64 1] 3)
  go_wp2_with fail
  generalize w4.alloc _ = w5 at *
  have D5 := HS 2 _ _ _ _ w5 ((hM4.below hb5).more hb5.size) (lit_int1 t5)
  rw [hR1, hS1', Bool.true_and] at D5
  unfold mtv at D5
  have hm5 := keep_blk hb5 hm4
  have hB5 := hB4.trans (hb5.mono hB4.size)
  have hM5 := (hM4.below hb5).more hb5.size
  clear t5 m0 m1 hb5 hm4 hB4 hM4
  refine D5.mono ?_
  rintro e w6 ⟨rfl, hb⟩
  have hm6 := keep_blk hb hm5
  have hB6 := hB5.trans (hb.mono hB5.size)
  have hM6 := (hM5.below hb).more hb.size
  clear D5 hm5 hB5 hM5 hb
  obtain ⟨m0, m1, -⟩ := now2 hm6 rfl
  have hb7 := below_alloc1 w6 (.cells #[.int .i64 0] 3)
  have t7 := heap_alloc_new w6 (.cells #[.int .i64 0] 3)
  go_wp2_with fail
  generalize w6.alloc _ = w7 at *
  have D7 := HS 2 _ _ _ _ w7 ((hM6.below hb7).more hb7.size) (lit_int1 t7)
  rw [hR1, hS0', Bool.true_and] at D7
  unfold mtv at D7
  have hm7 := keep_blk hb7 hm6
  have hB7 := hB6.trans (hb7.mono hB6.size)
  have hM7 := (hM6.below hb7).more hb7.size
  clear t7 m0 m1 hb7 hm6 hB6 hM6
  refine D7.mono ?_
  rintro e w8 ⟨rfl, hb⟩
  have hm8 := keep_blk hb hm7
  have hB8 := hB7.trans (hb.mono hB7.size)
  have D8 := HR 2 _ _ w8 ((hM7.below hb).more hb.size)
  rw [hR1] at D8
  unfold mtv at D8
  clear D7 hm7 hB7 hM7 hb
  obtain ⟨m0, m1, -⟩ := now2 hm8 rfl
  go_wp2_with fail
  refine D8.mono ?_
  rintro e w9 ⟨rfl, hb⟩
  have hB9 := hB8.trans (hb.mono hB8.size)
  go_wp2
  go_ret
  exact ⟨rfl, hB9⟩
end Go.Proofs.YtdfllifjbabfjaaDoor
namespace Go.Proofs.YtdfllifjbabfjaaDoor
open Go.ChangeShapes Go.WideShapes Go.ChangeAt Go.RowKit Go.Joins

theorem Tryd.own : ownKnob Tryd.prog.godebug = none := by kernel_rfl
theorem Tryd.laidOut : laidOutB Tryd.prog = true := by kernel_rfl
theorem Tryd.cellsSet : Tryd.prog.cellsOf 34 = 4 := by kernel_rfl
theorem Tryd.cellsWord : Tryd.prog.cellsOf 32 = 1 := by kernel_rfl

set_option maxRecDepth 100000 in
theorem word_of {H : Type} {enc : TypeId × Value → H} {w : World} {base m : Nat} {sp : Nat → Bool} {held : Bool} {c : Value} {y : DataW H × List MemPlace}
    (h : DataW.trod enc Tryd.prog w base sp held m 32 [c] = some y) : ∃ x : BitVec 64, c = wv x := by
  obtain ⟨a, e0, _, wa⟩ := DataW.trod_int Tryd.underlying32 h
  simp at e0
  subst e0
  have hb : 0 ≤ a ∧ a ≤ 18446744073709551615 := by
    simp [Lit.wf, IntKind.min, IntKind.max, IntKind.signed, IntKind.bits] at wa
    omega
  obtain ⟨n, rfl⟩ := Int.eq_ofNat_of_zero_le hb.1
  refine ⟨BitVec.ofNat 64 n, ?_⟩
  unfold wv
  rw [BitVec.toNat_ofNat, Nat.mod_eq_of_lt (by omega)]

set_option maxRecDepth 100000 in
theorem open_set {H : Type} {enc : TypeId × Value → H} {w W : World} {r : Reach} {b0 base : Nat} {sp : Nat → Bool} {held : Bool} {v : Value} {d : DataW H} {p : List MemPlace}
    (hv : Value.okWide Tryd.prog W r b0 34 v) (h : DataW.Trod enc Tryd.prog w base sp held 34 v d p) : ∃ S : BitVec 256, v = sv S := by
  have hv' : ∃ cs, v = .agg cs ∧ cs.size = Tryd.prog.cellsOf 34 := by
    unfold Value.okWide at hv
    rw [Tryd.underlying34] at hv
    obtain ⟨cs, h1, h2, _⟩ := hv
    exact ⟨cs, h1, h2⟩
  obtain ⟨cs, rfl, hsz⟩ := hv'
  obtain ⟨c0, c1, c2, c3, rfl⟩ := array4 (hsz.trans Tryd.cellsSet)
  obtain ⟨fuel, hf⟩ := h
  obtain ⟨xs, m, _, _, _, hx, he⟩ := DataW.trod_array Tryd.underlying34 hf
  rw [Tryd.cellsWord] at he
  obtain ⟨y0, y1, y2, y3, rfl⟩ : ∃ y0 y1 y2 y3, xs = [y0, y1, y2, y3] := by
    match xs, hx with
    | [y0, y1, y2, y3], _ => exact ⟨y0, y1, y2, y3, rfl⟩
  have h0 := he 0 (by omega)
  have h1 := he 1 (by omega)
  have h2 := he 2 (by omega)
  have h3 := he 3 (by omega)
  obtain ⟨x0, rfl⟩ := word_of h0
  obtain ⟨x1, rfl⟩ := word_of h1
  obtain ⟨x2, rfl⟩ := word_of h2
  obtain ⟨x3, rfl⟩ := word_of h3
  obtain ⟨S, e0, e1, e2, e3⟩ := of_words x0 x1 x2 x3
  exact ⟨S, by unfold sv; rw [e0, e1, e2, e3]⟩
end Go.Proofs.YtdfllifjbabfjaaDoor
namespace Go.Proofs.YtdfllifjbabfjaaDoor
open Go.ChangeShapes Go.WideShapes Go.ChangeAt Go.RowKit Go.Joins

theorem Tryd.cellsInt : Tryd.prog.cellsOf 3 = 1 := by kernel_rfl
set_option maxRecDepth 100000 in
theorem num_of {H : Type} {enc : TypeId × Value → H} {w : World} {base m : Nat} {sp : Nat → Bool} {held : Bool} {c : Value} {y : DataW H × List MemPlace}
    (h : DataW.trod enc Tryd.prog w base sp held m 3 [c] = some y) : ∃ x : Int, c = .int .i64 x := by
  obtain ⟨a, e0, _, wa⟩ := DataW.trod_int Tryd.underlying3 h
  simp at e0
  exact ⟨a, e0⟩
theorem plain_addr {w : World} {a : Addr} {v : Value} (h : w.cell? (a.add 0) = some v) : a = ⟨a.block, a.off, none⟩ ∧ a.block < w.heap.size := by
  have h0 : w.cell? a = some v := by simpa [Addr.add] using h
  have hs := World.cell?_spot h0
  refine ⟨?_, World.block_lt_of_cell? w a h0⟩
  cases a with
  | mk b o s => simp at hs; subst hs; rfl
theorem add_plain (b off i : Nat) : (⟨b, off, none⟩ : Addr).add i = ⟨b, off + i, none⟩ := by
  unfold Addr.add
  split
  · rename_i h; subst h; rfl
  · rfl
set_option maxRecDepth 100000 in
theorem ints_of {H : Type} {enc : TypeId × Value → H} {w : World} {base m : Nat} {sp : Nat → Bool} {held : Bool} {c : Value} {y : DataW H × List MemPlace}
    (h : DataW.trod enc Tryd.prog w base sp held m 25 [c] = some y) : ∃ o, IntsAt w w.heap.size c o := by
  rcases open_ints Tryd.underlying25 Tryd.underlying3 Tryd.cellsInt h with ⟨e, _⟩ | ⟨a, len, cap, zs, e, hb, hl, hm, hz, hx, hc, hw⟩
  · simp at e
    subst e
    exact ⟨[], none, 0, rfl, by decide, fun h => absurd h (by simp)⟩
  · simp at e
    subst e
    have hle : len ≤ zs.length := by rw [hz]; split <;> omega
    have hlen : (zs.take len).length = len := by rw [List.length_take]; omega
    have hmx : maxLen = 9223372036854775807 := rfl
    refine ⟨zs.take len, some a, cap, by rw [hlen], by omega, fun h0 => ?_⟩
    obtain ⟨ea, hblk⟩ := plain_addr (hc 0 (by omega))
    refine ⟨a.block, a.off, congrArg some ea, hblk, fun j x hx => ?_⟩
    rw [List.getElem?_take] at hx
    split at hx
    · have := hc j (by omega)
      rw [ea, add_plain] at this
      rw [this, List.getD_eq_getElem?_getD, hx]
      rfl
    · cases hx
theorem slice_cells {P : Program} {W : World} {r : Reach} {b t e : Nat} {v : Value} (ht : P.underlying t = some (.slice e)) (h : Value.okWide P W r b t v) : v.cells = #[v] := by
  obtain ⟨a, len, cap, rfl⟩ := okWide_slice ht h
  rfl
theorem open_intl {H : Type} {enc : TypeId × Value → H} {w : World} {base : Nat} {sp : Nat → Bool} {held : Bool} {v : Value} {d : DataW H} {p : List MemPlace}
    (hc : v.cells = #[v]) (h : DataW.Trod enc Tryd.prog w base sp held 25 v d p) : ∃ ks, IntsAt w w.heap.size v ks := by
  obtain ⟨fuel, hf⟩ := h
  rw [hc] at hf
  exact ints_of hf
end Go.Proofs.YtdfllifjbabfjaaDoor
