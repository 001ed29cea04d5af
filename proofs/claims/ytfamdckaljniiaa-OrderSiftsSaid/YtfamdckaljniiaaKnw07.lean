/- The document's examples of layer 7. -/
import Derived.Test.YtfamdckaljniiaaRsf07
namespace Go.Proofs.Ytfamdckaljniiaa
open Go.RowKit Go.Joins

theorem lit_ints {w : World} {b n : Nat} {C : Array Value} {l : List Nat} (h : w.heap[b]? = some (.cells C 3 (0, 0))) (hC : C = (l.map fun i : Nat => Value.int .i64 i).toArray) (hn : l.length = n) (h8 : n ≤ 8) : IntsAt w w.heap.size (.slice (some ⟨b, 0, none⟩) n n) (ofN l) := by
  refine ints_of_cells hn h8 (fun _ => size_of_block h) fun j y hj => ?_
  rw [cell_of_block h, hC]
  simp [hj]
theorem lit_set {w : World} {b : Nat} (h : w.heap[b]? = some (.cells #[.int .u64 10, .int .u64 0, .int .u64 0, .int .u64 0] 42 (0, 0))) : SetsAt w w.heap.size (.slice (some ⟨b, 0, none⟩) 1 1) [x10] := by
  refine ⟨some ⟨b, 0, none⟩, 1, rfl, by decide, fun _ => ⟨b, 0, rfl, size_of_block h, fun j X hj => ?_⟩⟩
  match j, hj with
  | 0, hj =>
    injection hj with hj
    subst hj
    obtain ⟨c0, c1, c2, c3, -⟩ := now4 h rfl
    exact ⟨c0.trans (by kernel_rfl), c1.trans (by kernel_rfl), c2.trans (by kernel_rfl), c3.trans (by kernel_rfl)⟩
theorem ord012 : OrdOk [0, 1, 2] := ⟨by decide, by decide⟩
theorem szs10 : szs [x10] [0, 1] = 1 := by
  unfold szs
  rw [List.map_cons, List.map_nil, List.sum_cons, List.sum_nil]
  have := x10_size
  show sizeB (setF [0, 1] x10) 2 2 + 0 = 1
  omega
theorem fit10 : fitS [x10] 2 = true := by
  unfold fitS
  simp only [List.all_cons, List.all_nil, Bool.and_true]
  exact decide_eq_true x10_fit
set_option maxHeartbeats 4000000 in
set_option maxRecDepth 100000 in
theorem knows7_any (w : World) : Calls Try.prog 8 #[] w fun e w' => e = .returned (.bool true) ∧ Below w.heap.size w w' := by
  have hB0 := below_alloc1 w (.cells #[.int .i64 0, .int .i64 1, .int .i64 2] 3 (0, 0))
  have HM := omove_yes (w.alloc (.cells #[.int .i64 0, .int .i64 1, .int .i64 2] 3 (0, 0))) (.slice (some ⟨w.heap.size, 0, none⟩) 3 3) [0, 1, 2] 0 2 ord012 (by decide) (by decide) (by decide) (lit_ints (heap_alloc_new w _) (by rfl) rfl (by decide))
  have hs := sift_ok [x10] ord01 (by decide) (by decide) 1
  have HS := fun w1 : World => osize_good ((w1.alloc (.cells #[.int .u64 10, .int .u64 0, .int .u64 0, .int .u64 0] 42 (0, 0))).alloc (.cells #[.int .i64 0, .int .i64 1] 3 (0, 0))) (.slice (some ⟨w1.heap.size, 0, none⟩) 1 1) (.slice (some ⟨w1.heap.size + 1, 0, none⟩) 2 2) [x10] [0, 1]
    (lit_set (heap_alloc2_old w1 _ _)) (lit_ints (heap_alloc2_new w1 _ _) (by rfl) rfl (by decide)) ord01 (by decide) (by decide)
  have hze : szE [x10] [0, 1] = .tuple #[.int .i64 1, .int .i64 0] := by unfold szE; rw [if_pos (show fitS [x10] [0, 1].length = true from fit10), szs10]; rfl
  rw [hze] at HS
  have HT := fun w1 : World => osift_yes ((w1.alloc (.cells #[.int .u64 10, .int .u64 0, .int .u64 0, .int .u64 0] 42 (0, 0))).alloc (.cells #[.int .i64 0, .int .i64 1] 3 (0, 0))) (.slice (some ⟨w1.heap.size, 0, none⟩) 1 1) (.slice (some ⟨w1.heap.size + 1, 0, none⟩) 2 2) [x10] [0, 1] 1
    (lit_set (heap_alloc2_old w1 _ _)) (lit_ints (heap_alloc2_new w1 _ _) (by rfl) rfl (by decide)) ord01 (by decide) (by decide) fit10
  rw [show rnd 1 = 1 from rfl] at HT
  have HP := fun w => plain_yes 2 (by decide) w
  clear hze
  generalize siftN [x10] [0, 1] 1 = sn at *
  have hsn : (((ofN sn).length : Int) == 2) = true := by rw [ofN_len, hs.2.1]; rfl
  clear hs
  go_enter Try.func8, Try.ntmps8
  go_wp2_with fail
  refine HM.mono ?_
  rintro e w1 ⟨v1, rfl, hI1, hb1⟩
  have hB1 := hB0.trans (hb1.mono hB0.size)
  have HS := HS w1
  clear HM
  go_wp2_with fail
  refine HS.mono ?_
  rintro e w2 ⟨rfl, hb2⟩
  have hb2' := (below_alloc2 w1 (.cells #[.int .u64 10, .int .u64 0, .int .u64 0, .int .u64 0] 42 (0, 0)) (.cells #[.int .i64 0, .int .i64 1] 3 (0, 0))).trans (hb2.mono (below_alloc2 w1 _ _).size)
  have hB2 := hB1.trans (hb2'.mono hB1.size)
  have HT := HT w2
  clear HS
  go_wp2_with fail
  refine HT.mono ?_
  rintro e w3 ⟨v3, rfl, hI3, hb3⟩
  have hb3' := (below_alloc2 w2 (.cells #[.int .u64 10, .int .u64 0, .int .u64 0, .int .u64 0] 42 (0, 0)) (.cells #[.int .i64 0, .int .i64 1] 3 (0, 0))).trans (hb3.mono (below_alloc2 w2 _ _).size)
  have hB3 := hB2.trans (hb3'.mono hB2.size)
  have hb4 := below_alloc1 w3 (.cells #[.int .i64 1, .int .i64 2, .int .i64 0] 3 (0, 0))
  have hB4 := hB3.trans (hb4.mono hB3.size)
  have h14 := (hb2'.trans (hb3'.mono hb2'.size)).trans (hb4.mono (by have := hb2'.size; have := hb3'.size; omega))
  have HE := rsame7_any (w3.alloc (.cells #[.int .i64 1, .int .i64 2, .int .i64 0] 3 (0, 0))) v1 (.slice (some ⟨w3.heap.size, 0, none⟩) 3 3) _ (ofN [1, 2, 0]) ((hI1.below h14).more h14.size) (lit_ints (heap_alloc_new w3 _) (by rfl) rfl (by decide))
  rw [show decide (ofN (mvL [0, 1, 2] 0 2) = ofN [1, 2, 0]) = true from rfl] at HE
  obtain ⟨A1, c1, rfl, -, -⟩ := hI1
  obtain ⟨A3, c3, rfl, -, -⟩ := hI3
  clear HT hb2' hb3' h14 hb2 hb3
  go_wp2_with fail
  refine HE.mono ?_
  rintro e w5 ⟨rfl, hb5⟩
  have hB5 := hB4.trans (hb5.mono hB4.size)
  have HP := HP w5
  clear HE hb4 hB4
  go_wp2_with fail
  refine HP.mono ?_
  rintro e w6 ⟨v6, rfl, hI6, hb6⟩
  have hB6 := hB5.trans (hb6.mono hB5.size)
  have hb7 := below_alloc1 w6 (.cells #[.int .i64 0, .int .i64 1] 3 (0, 0))
  have hB7 := hB6.trans (hb7.mono hB6.size)
  have HE := rsame7_any (w6.alloc (.cells #[.int .i64 0, .int .i64 1] 3 (0, 0))) v6 (.slice (some ⟨w6.heap.size, 0, none⟩) 2 2) _ (ofN [0, 1]) ((hI6.below hb7).more hb7.size) (lit_ints (heap_alloc_new w6 _) (by rfl) rfl (by decide))
  rw [show decide (ofN (List.range 2) = ofN [0, 1]) = true from rfl] at HE
  obtain ⟨A6, c6, rfl, -, -⟩ := hI6
  clear HP hb5 hb6
  go_wp2_with fail
  refine HE.mono ?_
  rintro e w8 ⟨rfl, hb8⟩
  clear HE
  go_wp2
  go_ret
  exact ⟨rfl, hB7.trans (hb8.mono hB7.size)⟩
end Go.Proofs.Ytfamdckaljniiaa
