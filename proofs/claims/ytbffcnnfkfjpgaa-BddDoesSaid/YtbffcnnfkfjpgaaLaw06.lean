/- BddSets: a set has an id that says it, and which leads to as many nodes as the document says. -/
import Derived.Test.YtbffcnnfkfjpgaaKnw06
namespace Go.Proofs.Ytbffcnnfkfjpgaa
open Go.RowKit Go.Joins

theorem ofN_cnt0 {o : List Nat} (h8 : o.length ≤ 8) : cnt ([] : St) + 2 ^ o.length ≤ 20000 := by
  have := two_eight h8
  have : cnt ([] : St) = 0 := rfl
  omega
theorem need0 {o : List Nat} (h8 : o.length ≤ 8) {S : St} {k : Nat} (hk : k ≤ 20) (hS : cnt S ≤ k * 255) : cnt S + 2 ^ o.length ≤ 20000 := by
  have := two_eight h8
  omega
set_option maxHeartbeats 2000000 in
theorem sets6_many (v : Value) (zs : List Int) (X : BitVec 256) (w : World) (hz : IntsAt w w.heap.size v zs) (h20 : 20 < zs.length) :
    Calls Try.prog 3 #[v, sv X] w fun e w' => e = .returned (.bool true) ∧ Below w.heap.size w w' := by
  have HK := fun w => knows6_any w
  obtain ⟨A, c, rfl, -, -⟩ := hz
  unfold sv wv
  go_enter Try.func3, Try.ntmps3
  go_wp2_with fail
  refine (HK _).mono ?_
  rintro e w1 ⟨rfl, hb1⟩
  go_wp2
  go_ret
  exact ⟨rfl, (below_alloc1 w _).trans (hb1.mono (below_alloc1 w _).size)⟩
set_option maxHeartbeats 2000000 in
theorem sets6_no (v : Value) (zs : List Int) (X : BitVec 256) (w : World) (hz : IntsAt w w.heap.size v zs) (h20 : ¬ 20 < zs.length) (ho : ¬ OrdI zs) :
    Calls Try.prog 3 #[v, sv X] w fun e w' => e = .returned (.bool true) ∧ Below w.heap.size w w' := by
  have HK := fun w => knows6_any w
  have hB := below_alloc1 w (.cells (sa X) 25)
  have HS := start6_no _ v zs ((hz.below hB).more hB.size) ho
  obtain ⟨A, c, rfl, -, -⟩ := hz
  unfold sv wv
  unfold sa wv at hB HS
  go_enter Try.func3, Try.ntmps3
  go_wp2_with fail
  refine HS.mono ?_
  rintro e w1 ⟨rfl, hb1⟩
  have hB1 := hB.trans (hb1.mono hB.size)
  clear HS
  go_wp2_with fail
  refine (HK _).mono ?_
  rintro e w2 ⟨rfl, hb2⟩
  clear HK
  go_wp2
  go_ret
  exact ⟨rfl, hB1.trans (hb2.mono hB1.size)⟩
set_option maxHeartbeats 2000000 in
theorem sets6_bad (v : Value) (o : List Nat) (X : BitVec 256) (w : World) (hz : IntsAt w w.heap.size v (ofN o)) (ho : OrdOk o) (h8 : o.length ≤ 8) (hX : ¬ (X &&& ~~~(allB o.length) = 0)) :
    Calls Try.prog 3 #[v, sv X] w fun e w' => e = .returned (.bool true) ∧ Below w.heap.size w w' := by
  have HK := fun w => knows6_any w
  have hB := below_alloc1 w (.cells (sa X) 25)
  have hbx := heap_alloc_new w (.cells (sa X) 25)
  have HS := start6_yes _ v o ((hz.below hB).more hB.size) ho h8
  have HRf := fun w => rof6_any X o.length h8 w
  rw [decide_eq_false hX] at HRf
  obtain ⟨A, c, rfl, -, -⟩ := hz
  rw [ofN_len] at HS ⊢
  unfold sv wv at *
  unfold sa wv at hB HS
  unfold sa wv at hbx
  go_enter Try.func3, Try.ntmps3
  go_wp2_with fail
  refine HS.mono ?_
  rintro e w1 ⟨bb, ab, bm, ov, rfl, h1, hb1⟩
  have hB1 := hB.trans (hb1.mono hB.size)
  have hx1 := keep_blk hb1 hbx
  have HO := bof_no h1 X hX
  unfold sv wv at HO
  obtain ⟨s0, s1, s2, s3, -⟩ := now4 hx1 rfl
  clear HS hB hbx hb1
  go_wp2_with fail
  refine HO.mono ?_
  rintro e w2 ⟨rfl, hb2⟩
  have hB2 := hB1.trans (hb2.mono hB1.size)
  have hx2 := keep_blk hb2 hx1
  clear HO s0 s1 s2 s3 h1 hB1 hb2 hx1
  obtain ⟨s0, s1, s2, s3, -⟩ := now4 hx2 rfl
  go_wp2_with fail
  refine (HRf _).mono ?_
  rintro e w3 ⟨rfl, hb3⟩
  have hB3 := hB2.trans (hb3.mono hB2.size)
  clear HRf s0 s1 s2 s3 hB2 hb3 hx2
  go_wp2_with fail
  refine (HK _).mono ?_
  rintro e w4 ⟨rfl, hb4⟩
  clear HK
  go_wp2
  go_ret
  exact ⟨rfl, hB3.trans (hb4.mono hB3.size)⟩
set_option maxHeartbeats 4000000 in
set_option maxRecDepth 100000 in
theorem sets6_good (v : Value) (o : List Nat) (X : BitVec 256) (w : World) (hz : IntsAt w w.heap.size v (ofN o)) (ho : OrdOk o) (h8 : o.length ≤ 8) (hX : X &&& ~~~(allB o.length) = 0) :
    Calls Try.prog 3 #[v, sv X] w fun e w' => e = .returned (.bool true) ∧ Below w.heap.size w w' := by
  have HK := fun w => knows6_any w
  have hB := below_alloc1 w (.cells (sa X) 25)
  have hbx := heap_alloc_new w (.cells (sa X) 25)
  have HS := start6_yes _ v o ((hz.below hB).more hB.size) ho h8
  have HRf := fun w => rof6_any X o.length h8 w
  rw [decide_eq_true hX] at HRf
  have HRz := fun w1 (hb : Below w.heap.size w w1) => rsize6_any X ho h8 v w1 ((hz.below hb).more hb.size)
  obtain ⟨A, c, rfl, -, -⟩ := hz
  rw [ofN_len] at HS HRz ⊢
  have hE := fun w => eq4_refl (wd X 0).toNat (wd X 1).toNat (wd X 2).toNat (wd X 3).toNat w
  unfold sv wv at *
  unfold sa wv at hB HS
  unfold sa wv at hbx
  go_enter Try.func3, Try.ntmps3
  go_wp2_with fail
  refine HS.mono ?_
  rintro e w1 ⟨bb, ab, bm, ov, rfl, h1, hb1⟩
  have hB1 := hB.trans (hb1.mono hB.size)
  have hlow := hB.size
  have hx1 := keep_blk hb1 hbx
  have HO := bof_yes h1 X hX
  unfold sv wv at HO
  obtain ⟨s0, s1, s2, s3, -⟩ := now4 hx1 rfl
  clear HS hB hbx hb1
  go_wp2_with fail
  refine HO.mono ?_
  rintro e w2 ⟨v2, full2, T, f, er, rfl, h2, hb2, hk2, hO⟩
  obtain ⟨rfl, f0, fs⟩ := hO.1.enough (ofN_cnt0 h8)
  have hB2 := hB1.trans (hb2.mono hlow)
  have hx2 := hk2.cells _ _ _ _ hx1 (by decide) (by decide)
  clear HO s0 s1 s2 s3 h1 hB1 hb2 hx1 hO hk2
  obtain ⟨s0, s1, s2, s3, -⟩ := now4 hx2 rfl
  go_wp2_with fail
  refine (HRf _).mono ?_
  rintro e w3 ⟨rfl, hb3⟩
  have hB3 := hB2.trans (hb3.mono hB2.size)
  have h3 := h2.below hb3
  have hx3 := keep_blk hb3 hx2
  have HSt := bset_any h3 f f0
  rw [setOf_eq ho (fit_low h8 hX) fs] at HSt
  unfold sv wv at HSt
  clear HRf s0 s1 s2 s3 hB2 hb3 hx2 h2
  go_wp2_with fail
  refine HSt.mono ?_
  rintro e w4 ⟨rfl, hb4⟩
  have hB4 := hB3.trans (hb4.mono hB3.size)
  have h4 := h3.below hb4
  have hx4 := keep_blk hb4 hx3
  clear HSt hB3 hb4 hx3 h3
  go_upto_region 10 with (fail)
  have hB5 := hB4.alloc hB4.size (.cells #[.int .u64 (wd X 0).toNat, .int .u64 (wd X 1).toNat, .int .u64 (wd X 2).toNat, .int .u64 (wd X 3).toNat] 25)
  have hx5 := keep_alloc (x := .cells #[.int .u64 (wd X 0).toNat, .int .u64 (wd X 1).toNat, .int .u64 (wd X 2).toNat, .int .u64 (wd X 3).toNat] 25) hx4
  have ht5 := heap_alloc_new w4 (.cells #[.int .u64 (wd X 0).toNat, .int .u64 (wd X 1).toNat, .int .u64 (wd X 2).toNat, .int .u64 (wd X 3).toNat] 25)
  have h5 := h4.below (below_alloc1 w4 (.cells #[.int .u64 (wd X 0).toNat, .int .u64 (wd X 1).toNat, .int .u64 (wd X 2).toNat, .int .u64 (wd X 3).toNat] 25))
  generalize w4.alloc (.cells #[.int .u64 (wd X 0).toNat, .int .u64 (wd X 1).toNat, .int .u64 (wd X 2).toNat, .int .u64 (wd X 3).toNat] 25) = W at *
  have hsz : sizeB (fun c => says T c f) o.length o.length = sizeB (setF o X) o.length o.length := by rw [show (fun c => says T c f) = setF o X from funext fs]
  have HZ := fun y : After W => bsize_any (h5.below y.2) f f0
  rw [hsz] at HZ
  have HRz := fun y : After W => HRz y.1 (hB5.trans (y.2.mono hB5.size))
  obtain ⟨s0, s1, s2, s3, -⟩ := box4 hx5 rfl
  obtain ⟨t0, t1, t2, t3, -⟩ := box4 ht5 rfl
  generalize sizeB (setF o X) o.length o.length = nz at *
  clear hB4 hx4 h4 hx5 ht5 h5 hsz fs f0
  refine wp_region_after (by kernel_rfl) (by kernel_rfl) ?_
  repeat (first | go_big_quiet_step (first | (go_at_call 12; exact Calls.after_of (HZ _)) | (go_at_call 13; exact Calls.after_of (HRz _)) | (go_at_call 7; exact Calls.after_of (HK _))))
  refine wpQuiet_nil ?_
  intro z
  have hBz := hB5.trans (z.2.mono hB5.size)
  clear s0 s1 s2 s3 t0 t1 t2 t3 HZ HRz HK
  go_wp2
  go_ret
  exact ⟨rfl, hBz⟩
end Go.Proofs.Ytbffcnnfkfjpgaa
