/- The document's own without of layer 9. -/
import Derived.Test.YtnddepijbbchiaaRfp09
namespace Go.Proofs.Ytnddepijbbchiaa
open Go.RowKit Go.Joins

theorem drG_at {w : World} {base g cap i : Nat} {m v : BitVec 8} (h : w.ownsRow base 3 1 (.slice (some ⟨g, 0, none⟩) 8 cap) 8 (litV m v 8)) (hi : i < 8) :
    GAt (drG m v i) 8 (some ⟨g, 0, none⟩) (w.setCell ⟨g, i, none⟩ (.int .i64 2)) := by
  obtain ⟨o0, -⟩ := h.stored i (.int .i64 2)
  intro j hj
  refine ⟨g, rfl, ?_⟩
  rw [o0.cellAt j (by omega)]
  unfold drG
  by_cases e : j = i
  · subst e
    rw [List.getElem?_set_self (by unfold litV; simpa using hi), if_pos rfl]
    rfl
  · rw [List.getElem?_set_ne (fun h => e h.symm), litV_get m v 8 j hj, if_neg e]
set_option maxHeartbeats 1000000 in
set_option maxRecDepth 100000 in
theorem rwithout9_any (m v : BitVec 8) (i : Nat) (hi : i < 8) (w : World) :
    Calls Try.prog 44 #[cv m v, .int .i64 i] w fun e w' => e = .returned (cv (drM m i) (drM (v &&& m) i)) ∧ Below w.heap.size w w' := by
  have HL := fun w => lits_own m v w
  have HC := fun (w1 : World) (g cap : Nat) (h : GAt (drG m v i) 8 (some ⟨g, 0, none⟩) w1) => rcube_any (drG m v i) 8 (by omega) (fun j _ => drG_le m v i j) (some ⟨g, 0, none⟩) cap w1 h
  rw [drG_m, drG_v] at HC
  have hB := below_alloc2 w (cb m v) cb0
  have hb0 := heap_alloc2_old w (cb m v) cb0
  have hb1 := heap_alloc2_new w (cb m v) cb0
  obtain ⟨a0, a1, -⟩ := now2 hb0 rfl
  unfold cv cb cb0 bvv at *
  go_enter Try.func44, Try.ntmps44
  go_wp2_with fail
  refine (HL _).mono ?_
  rintro e w1 ⟨r, rfl, hown, hb⟩
  obtain ⟨g, cap, rfl⟩ := ownsRow_form hown (by decide)
  have hg := hown.lt g rfl
  have df := hown.frozenAt
  have hcl : ∃ u, w1.cell? ⟨g, i, none⟩ = some u := ⟨_, (hown.cellAt i (by omega)).trans (litV_get m v 8 i hi)⟩
  have hG := drG_at hown hi
  have hres := keep_blk hb hb1
  have hB1 := hB.trans (hb.mono hB.size)
  have hsz : (((w.alloc (Obj.cells #[Value.int IntKind.u8 m.toNat, Value.int IntKind.u8 v.toNat] 44)).alloc (Obj.cells #[Value.int IntKind.u8 0, Value.int IntKind.u8 0] 44)).heap.size) = w.heap.size + 2 := by simp
  have hgw : w.heap.size + 2 ≤ g := by have := hg.1; omega
  have hres2 : (w1.setCell ⟨g, i, none⟩ (.int .i64 2)).heap[w.heap.size + 1]? = some (Obj.cells #[Value.int IntKind.u8 0, Value.int IntKind.u8 0] 44) := keep_set (by show w.heap.size + 1 ≠ g; omega) hres
  have hB2 : Below w.heap.size w (w1.setCell ⟨g, i, none⟩ (.int .i64 2)) := hB1.setCell (by show w.heap.size ≤ g; omega) _
  obtain ⟨u, hu⟩ := hcl
  have i0 : ¬ (i : Int) < 0 := by omega
  have i8 : (i : Int) < 8 := by omega
  have HC1 := HC _ g cap hG
  clear hown hb hb0 hb1 a0 a1 HL HC hB hB1 hres hsz hG hg
  go_wp2_with fail
  refine HC1.mono ?_
  rintro e w2 ⟨rfl, hb2⟩
  have hres3 := keep_blk hb2 hres2
  have hB3 := hB2.trans (hb2.mono hB2.size)
  obtain ⟨r0, r1, rf⟩ := now2 hres3 rfl
  clear HC1 hb2 hres2 hB2 df hu
  go_wp2
  exact bodyPost_ret (v := .agg #[.int .u8 (drM m i).toNat, .int .u8 (drM (v &&& m) i).toNat]) (by simp [results, Try.results44, go_sem, r0, r1]) rfl
    ⟨rfl, below2 (by omega) hB3⟩
end Go.Proofs.Ytnddepijbbchiaa
