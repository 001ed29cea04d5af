/- BddOne: two ids say the same just if they are one. -/
import Derived.Test.YtbffcnnfkfjpgaaOnp06
import Derived.Test.YtbffcnnfkfjpgaaLaw06
namespace Go.Proofs.Ytbffcnnfkfjpgaa
open Go.RowKit Go.Joins

set_option maxHeartbeats 4000000 in
set_option maxRecDepth 100000 in
theorem one6_many (v : Value) (zs : List Int) (X Y Z : BitVec 256) (w : World) (hz : IntsAt w w.heap.size v zs) (h20 : 20 < zs.length) :
    Calls Try.prog 5 #[v, sv X, sv Y, sv Z] w fun e w' => e = .returned (.bool true) ∧ Below w.heap.size w w' := by
  have HK := fun w => knows6_any w
  have hB := below_alloc3 w (.cells (sa X) 25) (.cells (sa Y) 25) (.cells (sa Z) 25)
  obtain ⟨A, c, rfl, -, -⟩ := hz
  unfold sa wv at hB
  unfold sv wv
  go_enter Try.func5, Try.ntmps5
  go_wp2_with fail
  refine (HK _).mono ?_
  rintro e w1 ⟨rfl, hb1⟩
  go_wp2
  go_ret
  exact ⟨rfl, hB.trans (hb1.mono hB.size)⟩
set_option maxHeartbeats 4000000 in
set_option maxRecDepth 100000 in
theorem one6_no (v : Value) (zs : List Int) (X Y Z : BitVec 256) (w : World) (hz : IntsAt w w.heap.size v zs) (h20 : ¬ 20 < zs.length) (ho : ¬ OrdI zs) :
    Calls Try.prog 5 #[v, sv X, sv Y, sv Z] w fun e w' => e = .returned (.bool true) ∧ Below w.heap.size w w' := by
  have HK := fun w => knows6_any w
  have hB := below_alloc3 w (.cells (sa X) 25) (.cells (sa Y) 25) (.cells (sa Z) 25)
  have xbX := heap_alloc3_a w (.cells (sa X) 25) (.cells (sa Y) 25) (.cells (sa Z) 25)
  have xbY := heap_alloc3_b w (.cells (sa X) 25) (.cells (sa Y) 25) (.cells (sa Z) 25)
  have xbZ := heap_alloc3_c w (.cells (sa X) 25) (.cells (sa Y) 25) (.cells (sa Z) 25)
  have HS := start6_no _ v zs ((hz.below hB).more hB.size) ho
  obtain ⟨A, c, rfl, -, -⟩ := hz
  clear xbX xbY xbZ
  unfold sv wv
  unfold sa wv at hB HS
  go_enter Try.func5, Try.ntmps5
  go_wp2_with fail
  refine HS.mono ?_
  rintro e w1 ⟨rfl, hb1⟩
  have hB1 := hB.trans (hb1.mono hB.size)
  clear HS
  go_wp2_with fail
  refine (HK _).mono ?_
  rintro e w2 ⟨rfl, hb2⟩
  clear HK
  go_wp2
  go_ret
  exact ⟨rfl, hB1.trans (hb2.mono hB1.size)⟩
set_option maxHeartbeats 4000000 in
set_option maxRecDepth 100000 in
theorem one6_bad0 (v : Value) (o : List Nat) (X Y Z : BitVec 256) (w : World) (hz : IntsAt w w.heap.size v (ofN o)) (ho : OrdOk o) (h8 : o.length ≤ 8) (hX : ¬ (X &&& ~~~(allB o.length) = 0)) :
    Calls Try.prog 5 #[v, sv X, sv Y, sv Z] w fun e w' => e = .returned (.bool true) ∧ Below w.heap.size w w' := by
  have HK := fun w => knows6_any w
  have hB := below_alloc3 w (.cells (sa X) 25) (.cells (sa Y) 25) (.cells (sa Z) 25)
  have xbX := heap_alloc3_a w (.cells (sa X) 25) (.cells (sa Y) 25) (.cells (sa Z) 25)
  have xbY := heap_alloc3_b w (.cells (sa X) 25) (.cells (sa Y) 25) (.cells (sa Z) 25)
  have xbZ := heap_alloc3_c w (.cells (sa X) 25) (.cells (sa Y) 25) (.cells (sa Z) 25)
  have hlow := hB.size
  have HS := start6_yes _ v o ((hz.below hB).more hB.size) ho h8
  have HRX := fun w => rof6_any X o.length h8 w
  rw [decide_eq_false hX] at HRX
  obtain ⟨A, c, rfl, -, -⟩ := hz
  rw [ofN_len] at HS ⊢
  unfold sv wv at *
  unfold sa wv at hB HS xbX xbY xbZ
  clear xbY
  clear xbZ
  go_enter Try.func5, Try.ntmps5
  go_wp2_with fail
  refine HS.mono ?_
  rintro e w1 ⟨bb, ab, bm, ov, rfl, -, hb1⟩
  replace xbX := keep_blk hb1 xbX
  replace hB := hB.trans (hb1.mono hB.size)
  clear hb1
  obtain ⟨bX0, bX1, bX2, bX3, -⟩ := now4 xbX rfl
  go_wp2_with fail
  refine (HRX _).mono ?_
  rintro e w2 ⟨rfl, hb⟩
  clear bX0 bX1 bX2 bX3
  replace xbX := keep_blk hb xbX
  replace hB := hB.trans (hb.mono hB.size)
  clear hb
  go_wp2_with fail
  refine (HK _).mono ?_
  rintro e w3 ⟨rfl, hb⟩
  replace xbX := keep_blk hb xbX
  replace hB := hB.trans (hb.mono hB.size)
  clear hb
  go_wp2
  go_ret
  exact ⟨rfl, hB⟩
set_option maxHeartbeats 4000000 in
set_option maxRecDepth 100000 in
theorem one6_bad1 (v : Value) (o : List Nat) (X Y Z : BitVec 256) (w : World) (hz : IntsAt w w.heap.size v (ofN o)) (ho : OrdOk o) (h8 : o.length ≤ 8) (hX : (X &&& ~~~(allB o.length) = 0)) (hY : ¬ (Y &&& ~~~(allB o.length) = 0)) :
    Calls Try.prog 5 #[v, sv X, sv Y, sv Z] w fun e w' => e = .returned (.bool true) ∧ Below w.heap.size w w' := by
  have HK := fun w => knows6_any w
  have hB := below_alloc3 w (.cells (sa X) 25) (.cells (sa Y) 25) (.cells (sa Z) 25)
  have xbX := heap_alloc3_a w (.cells (sa X) 25) (.cells (sa Y) 25) (.cells (sa Z) 25)
  have xbY := heap_alloc3_b w (.cells (sa X) 25) (.cells (sa Y) 25) (.cells (sa Z) 25)
  have xbZ := heap_alloc3_c w (.cells (sa X) 25) (.cells (sa Y) 25) (.cells (sa Z) 25)
  have hlow := hB.size
  have HS := start6_yes _ v o ((hz.below hB).more hB.size) ho h8
  have HRX := fun w => rof6_any X o.length h8 w
  rw [decide_eq_true hX] at HRX
  have HRY := fun w => rof6_any Y o.length h8 w
  rw [decide_eq_false hY] at HRY
  obtain ⟨A, c, rfl, -, -⟩ := hz
  rw [ofN_len] at HS ⊢
  unfold sv wv at *
  unfold sa wv at hB HS xbX xbY xbZ
  clear xbZ
  go_enter Try.func5, Try.ntmps5
  go_wp2_with fail
  refine HS.mono ?_
  rintro e w1 ⟨bb, ab, bm, ov, rfl, -, hb1⟩
  replace xbX := keep_blk hb1 xbX
  replace xbY := keep_blk hb1 xbY
  replace hB := hB.trans (hb1.mono hB.size)
  clear hb1
  obtain ⟨bX0, bX1, bX2, bX3, -⟩ := now4 xbX rfl
  obtain ⟨bY0, bY1, bY2, bY3, -⟩ := now4 xbY rfl
  go_wp2_with fail
  refine (HRX _).mono ?_
  rintro e w2 ⟨rfl, hb⟩
  clear bX0 bX1 bX2 bX3 bY0 bY1 bY2 bY3
  replace xbX := keep_blk hb xbX
  replace xbY := keep_blk hb xbY
  replace hB := hB.trans (hb.mono hB.size)
  clear hb
  obtain ⟨bX0, bX1, bX2, bX3, -⟩ := now4 xbX rfl
  obtain ⟨bY0, bY1, bY2, bY3, -⟩ := now4 xbY rfl
  go_wp2_with fail
  refine (HRY _).mono ?_
  rintro e w3 ⟨rfl, hb⟩
  clear bX0 bX1 bX2 bX3 bY0 bY1 bY2 bY3
  replace xbX := keep_blk hb xbX
  replace xbY := keep_blk hb xbY
  replace hB := hB.trans (hb.mono hB.size)
  clear hb
  go_wp2_with fail
  refine (HK _).mono ?_
  rintro e w4 ⟨rfl, hb⟩
  replace xbX := keep_blk hb xbX
  replace xbY := keep_blk hb xbY
  replace hB := hB.trans (hb.mono hB.size)
  clear hb
  go_wp2
  go_ret
  exact ⟨rfl, hB⟩
set_option maxHeartbeats 4000000 in
set_option maxRecDepth 100000 in
theorem one6_bad2 (v : Value) (o : List Nat) (X Y Z : BitVec 256) (w : World) (hz : IntsAt w w.heap.size v (ofN o)) (ho : OrdOk o) (h8 : o.length ≤ 8) (hX : (X &&& ~~~(allB o.length) = 0)) (hY : (Y &&& ~~~(allB o.length) = 0)) (hZ : ¬ (Z &&& ~~~(allB o.length) = 0)) :
    Calls Try.prog 5 #[v, sv X, sv Y, sv Z] w fun e w' => e = .returned (.bool true) ∧ Below w.heap.size w w' := by
  have HK := fun w => knows6_any w
  have hB := below_alloc3 w (.cells (sa X) 25) (.cells (sa Y) 25) (.cells (sa Z) 25)
  have xbX := heap_alloc3_a w (.cells (sa X) 25) (.cells (sa Y) 25) (.cells (sa Z) 25)
  have xbY := heap_alloc3_b w (.cells (sa X) 25) (.cells (sa Y) 25) (.cells (sa Z) 25)
  have xbZ := heap_alloc3_c w (.cells (sa X) 25) (.cells (sa Y) 25) (.cells (sa Z) 25)
  have hlow := hB.size
  have HS := start6_yes _ v o ((hz.below hB).more hB.size) ho h8
  have HRX := fun w => rof6_any X o.length h8 w
  rw [decide_eq_true hX] at HRX
  have HRY := fun w => rof6_any Y o.length h8 w
  rw [decide_eq_true hY] at HRY
  have HRZ := fun w => rof6_any Z o.length h8 w
  rw [decide_eq_false hZ] at HRZ
  obtain ⟨A, c, rfl, -, -⟩ := hz
  rw [ofN_len] at HS ⊢
  unfold sv wv at *
  unfold sa wv at hB HS xbX xbY xbZ
  go_enter Try.func5, Try.ntmps5
  go_wp2_with fail
  refine HS.mono ?_
  rintro e w1 ⟨bb, ab, bm, ov, rfl, -, hb1⟩
  replace xbX := keep_blk hb1 xbX
  replace xbY := keep_blk hb1 xbY
  replace xbZ := keep_blk hb1 xbZ
  replace hB := hB.trans (hb1.mono hB.size)
  clear hb1
  obtain ⟨bX0, bX1, bX2, bX3, -⟩ := now4 xbX rfl
  obtain ⟨bY0, bY1, bY2, bY3, -⟩ := now4 xbY rfl
  obtain ⟨bZ0, bZ1, bZ2, bZ3, -⟩ := now4 xbZ rfl
  go_wp2_with fail
  refine (HRX _).mono ?_
  rintro e w2 ⟨rfl, hb⟩
  clear bX0 bX1 bX2 bX3 bY0 bY1 bY2 bY3 bZ0 bZ1 bZ2 bZ3
  replace xbX := keep_blk hb xbX
  replace xbY := keep_blk hb xbY
  replace xbZ := keep_blk hb xbZ
  replace hB := hB.trans (hb.mono hB.size)
  clear hb
  obtain ⟨bX0, bX1, bX2, bX3, -⟩ := now4 xbX rfl
  obtain ⟨bY0, bY1, bY2, bY3, -⟩ := now4 xbY rfl
  obtain ⟨bZ0, bZ1, bZ2, bZ3, -⟩ := now4 xbZ rfl
  go_wp2_with fail
  refine (HRY _).mono ?_
  rintro e w3 ⟨rfl, hb⟩
  clear bX0 bX1 bX2 bX3 bY0 bY1 bY2 bY3 bZ0 bZ1 bZ2 bZ3
  replace xbX := keep_blk hb xbX
  replace xbY := keep_blk hb xbY
  replace xbZ := keep_blk hb xbZ
  replace hB := hB.trans (hb.mono hB.size)
  clear hb
  obtain ⟨bX0, bX1, bX2, bX3, -⟩ := now4 xbX rfl
  obtain ⟨bY0, bY1, bY2, bY3, -⟩ := now4 xbY rfl
  obtain ⟨bZ0, bZ1, bZ2, bZ3, -⟩ := now4 xbZ rfl
  go_wp2_with fail
  refine (HRZ _).mono ?_
  rintro e w4 ⟨rfl, hb⟩
  clear bX0 bX1 bX2 bX3 bY0 bY1 bY2 bY3 bZ0 bZ1 bZ2 bZ3
  replace xbX := keep_blk hb xbX
  replace xbY := keep_blk hb xbY
  replace xbZ := keep_blk hb xbZ
  replace hB := hB.trans (hb.mono hB.size)
  clear hb
  go_wp2_with fail
  refine (HK _).mono ?_
  rintro e w5 ⟨rfl, hb⟩
  replace xbX := keep_blk hb xbX
  replace xbY := keep_blk hb xbY
  replace xbZ := keep_blk hb xbZ
  replace hB := hB.trans (hb.mono hB.size)
  clear hb
  go_wp2
  go_ret
  exact ⟨rfl, hB⟩
set_option maxHeartbeats 4000000 in
set_option maxRecDepth 100000 in
theorem one6_good (v : Value) (o : List Nat) (X Y Z : BitVec 256) (w : World) (hz : IntsAt w w.heap.size v (ofN o)) (ho : OrdOk o) (h8 : o.length ≤ 8) (hX : X &&& ~~~(allB o.length) = 0) (hY : Y &&& ~~~(allB o.length) = 0) (hZ : Z &&& ~~~(allB o.length) = 0) :
    Calls Try.prog 5 #[v, sv X, sv Y, sv Z] w fun e w' => e = .returned (.bool true) ∧ Below w.heap.size w w' := by
  have HK := fun w => knows6_any w
  have hB := below_alloc3 w (.cells (sa X) 25) (.cells (sa Y) 25) (.cells (sa Z) 25)
  have xbX := heap_alloc3_a w (.cells (sa X) 25) (.cells (sa Y) 25) (.cells (sa Z) 25)
  have xbY := heap_alloc3_b w (.cells (sa X) 25) (.cells (sa Y) 25) (.cells (sa Z) 25)
  have xbZ := heap_alloc3_c w (.cells (sa X) 25) (.cells (sa Y) 25) (.cells (sa Z) 25)
  have hlow := hB.size
  have HS := start6_yes _ v o ((hz.below hB).more hB.size) ho h8
  have HRX := fun w => rof6_any X o.length h8 w
  rw [decide_eq_true hX] at HRX
  have HRY := fun w => rof6_any Y o.length h8 w
  rw [decide_eq_true hY] at HRY
  have HRZ := fun w => rof6_any Z o.length h8 w
  rw [decide_eq_true hZ] at HRZ
  have lX := fit_low h8 hX
  have lY := fit_low h8 hY
  have hE := fun w => eq4_set X Y w
  have hE2 := fun w => eq4_refl (wd X 0).toNat (wd X 1).toNat (wd X 2).toNat (wd X 3).toNat w
  obtain ⟨A, c, rfl, -, -⟩ := hz
  rw [ofN_len] at HS ⊢
  unfold sv wv at *
  unfold sa wv at hB HS xbX xbY xbZ
  go_enter Try.func5, Try.ntmps5
  go_wp2_with fail
  refine HS.mono ?_
  rintro e w1 ⟨bb, ab, bm, ov, rfl, hd, hb1⟩
  clear HS
  replace xbX := keep_blk hb1 xbX
  replace xbY := keep_blk hb1 xbY
  replace xbZ := keep_blk hb1 xbZ
  replace hB := hB.trans (hb1.mono hB.size)
  clear hb1
  obtain ⟨bX0, bX1, bX2, bX3, -⟩ := now4 xbX rfl
  obtain ⟨bY0, bY1, bY2, bY3, -⟩ := now4 xbY rfl
  obtain ⟨bZ0, bZ1, bZ2, bZ3, -⟩ := now4 xbZ rfl
  go_wp2_with fail
  refine (HRX _).mono ?_
  rintro e w2 ⟨rfl, hb⟩
  clear bX0 bX1 bX2 bX3 bY0 bY1 bY2 bY3 bZ0 bZ1 bZ2 bZ3
  replace xbX := keep_blk hb xbX
  replace xbY := keep_blk hb xbY
  replace xbZ := keep_blk hb xbZ
  replace hB := hB.trans (hb.mono hB.size)
  replace hd := hd.below hb
  clear hb
  obtain ⟨bX0, bX1, bX2, bX3, -⟩ := now4 xbX rfl
  obtain ⟨bY0, bY1, bY2, bY3, -⟩ := now4 xbY rfl
  obtain ⟨bZ0, bZ1, bZ2, bZ3, -⟩ := now4 xbZ rfl
  go_wp2_with fail
  refine (HRY _).mono ?_
  rintro e w3 ⟨rfl, hb⟩
  clear bX0 bX1 bX2 bX3 bY0 bY1 bY2 bY3 bZ0 bZ1 bZ2 bZ3
  replace xbX := keep_blk hb xbX
  replace xbY := keep_blk hb xbY
  replace xbZ := keep_blk hb xbZ
  replace hB := hB.trans (hb.mono hB.size)
  replace hd := hd.below hb
  clear hb
  obtain ⟨bX0, bX1, bX2, bX3, -⟩ := now4 xbX rfl
  obtain ⟨bY0, bY1, bY2, bY3, -⟩ := now4 xbY rfl
  obtain ⟨bZ0, bZ1, bZ2, bZ3, -⟩ := now4 xbZ rfl
  go_wp2_with fail
  refine (HRZ _).mono ?_
  rintro e w4 ⟨rfl, hb⟩
  clear bX0 bX1 bX2 bX3 bY0 bY1 bY2 bY3 bZ0 bZ1 bZ2 bZ3
  replace xbX := keep_blk hb xbX
  replace xbY := keep_blk hb xbY
  replace xbZ := keep_blk hb xbZ
  replace hB := hB.trans (hb.mono hB.size)
  replace hd := hd.below hb
  clear hb
  clear HRX HRY HRZ
  have HO := bof_yes hd X hX
  have hV := hd.rst.vst
  unfold sv wv at HO
  obtain ⟨bX0, bX1, bX2, bX3, -⟩ := now4 xbX rfl
  obtain ⟨bY0, bY1, bY2, bY3, -⟩ := now4 xbY rfl
  obtain ⟨bZ0, bZ1, bZ2, bZ3, -⟩ := now4 xbZ rfl
  go_wp2_with fail
  refine HO.mono ?_
  rintro e w5 ⟨v5, full5, S1, f, er, rfl, hd2, hb, hk, hO⟩
  clear bX0 bX1 bX2 bX3 bY0 bY1 bY2 bY3 bZ0 bZ1 bZ2 bZ3
  clear HO
  obtain ⟨rfl, f0, fs⟩ := hO.1.enough (ofN_cnt0 h8)
  have hc1 := hO.1.less h8
  have hc0 : cnt ([] : St) = 0 := rfl
  replace xbX := hk.cells _ _ _ _ xbX (by decide) (by decide)
  replace xbY := hk.cells _ _ _ _ xbY (by decide) (by decide)
  replace xbZ := hk.cells _ _ _ _ xbZ (by decide) (by decide)
  replace hB := hB.trans (hb.mono hlow)
  clear hb
  replace hd := hd2
  clear hO hV
  have HO := bof_yes hd Z hZ
  have hV := hd.rst.vst
  unfold sv wv at HO
  obtain ⟨bX0, bX1, bX2, bX3, -⟩ := now4 xbX rfl
  obtain ⟨bY0, bY1, bY2, bY3, -⟩ := now4 xbY rfl
  obtain ⟨bZ0, bZ1, bZ2, bZ3, -⟩ := now4 xbZ rfl
  go_wp2_with fail
  refine HO.mono ?_
  rintro e w6 ⟨v6, full6, S2, q, er, rfl, hd2, hb, hk, hO⟩
  clear bX0 bX1 bX2 bX3 bY0 bY1 bY2 bY3 bZ0 bZ1 bZ2 bZ3
  clear HO
  have hc2 := hO.1.less h8
  obtain ⟨f1, fs1⟩ := says_on hV hO.1.ext f0 fs
  replace xbX := hk.cells _ _ _ _ xbX (by decide) (by decide)
  replace xbY := hk.cells _ _ _ _ xbY (by decide) (by decide)
  replace xbZ := hk.cells _ _ _ _ xbZ (by decide) (by decide)
  replace hB := hB.trans (hb.mono hlow)
  clear hb
  replace hd := hd2
  clear hO hV f0 fs
  have hba := below_alloc1 w6 (.cells #[.int .i64 f] 3 (0, 0))
  have hfx := heap_alloc_new w6 (.cells #[.int .i64 f] 3 (0, 0))
  have HW := bsweep_any (hd.below hba) (.slice (some ⟨w6.heap.size, 0, none⟩) 1 1) [f] ⟨some ⟨w6.heap.size, 0, none⟩, 1, rfl, by simp, fun _ => ⟨w6.heap.size, 0, rfl, by simp, fun j x hj => by
    match j, hj with
    | 0, hj => simp at hj; subst hj; rw [cell_of_block hfx]; rfl⟩⟩
  have hR2 := hd.rst
  replace xbX := keep_alloc (x := .cells #[.int .i64 f] 3 (0, 0)) xbX
  replace xbY := keep_alloc (x := .cells #[.int .i64 f] 3 (0, 0)) xbY
  replace xbZ := keep_alloc (x := .cells #[.int .i64 f] 3 (0, 0)) xbZ
  replace hB := hB.alloc hB.size (.cells #[.int .i64 f] 3 (0, 0))
  go_wp2_with fail
  refine HW.mono ?_
  rintro e w7 ⟨rfl, fl, hfl, hd2, hb, hk⟩
  clear HW hba hfx
  have f2 := swp_used f1 hfl
  have fs2 := fun c => (swp_says hR2 f1 hfl c).trans (fs1 c)
  have hc3 := cnt_swp S2 fl
  replace xbX := hk.cells _ _ _ _ xbX (by decide) (by decide)
  replace xbY := hk.cells _ _ _ _ xbY (by decide) (by decide)
  replace xbZ := hk.cells _ _ _ _ xbZ (by decide) (by decide)
  replace hB := hB.trans (hb.mono hlow)
  clear hb
  replace hd := hd2
  clear f1 fs1 hfl hR2
  generalize swp S2 fl = S3 at *
  have HO := bof_yes hd Y hY
  have hV := hd.rst.vst
  unfold sv wv at HO
  obtain ⟨bX0, bX1, bX2, bX3, -⟩ := now4 xbX rfl
  obtain ⟨bY0, bY1, bY2, bY3, -⟩ := now4 xbY rfl
  obtain ⟨bZ0, bZ1, bZ2, bZ3, -⟩ := now4 xbZ rfl
  go_wp2_with fail
  refine HO.mono ?_
  rintro e w8 ⟨v8, full8, S4, g, er, rfl, hd2, hb, hk, hO⟩
  clear bX0 bX1 bX2 bX3 bY0 bY1 bY2 bY3 bZ0 bZ1 bZ2 bZ3
  clear HO
  obtain ⟨rfl, g0, gs⟩ := hO.1.enough (need0 h8 (k := 2) (by omega) (by omega))
  have hc4 := hO.1.less h8
  obtain ⟨f3, fs3⟩ := says_on hV hO.1.ext f2 fs2
  replace xbX := hk.cells _ _ _ _ xbX (by decide) (by decide)
  replace xbY := hk.cells _ _ _ _ xbY (by decide) (by decide)
  replace xbZ := hk.cells _ _ _ _ xbZ (by decide) (by decide)
  replace hB := hB.trans (hb.mono hlow)
  clear hb
  replace hd := hd2
  clear hO hV f2 fs2
  have HO := bor_any hd f g f3 g0
  have hV := hd.rst.vst
  obtain ⟨bX0, bX1, bX2, bX3, -⟩ := now4 xbX rfl
  obtain ⟨bY0, bY1, bY2, bY3, -⟩ := now4 xbY rfl
  obtain ⟨bZ0, bZ1, bZ2, bZ3, -⟩ := now4 xbZ rfl
  go_wp2_with fail
  refine HO.mono ?_
  rintro e w9 ⟨v9, full9, S5, x, er, rfl, hd2, hb, hk, hO⟩
  clear bX0 bX1 bX2 bX3 bY0 bY1 bY2 bY3 bZ0 bZ1 bZ2 bZ3
  clear HO
  obtain ⟨rfl, x0, xs⟩ := hO.enough (need0 h8 (k := 3) (by omega) (by omega))
  have hc5 := hO.less h8
  replace xs := fun c => (xs c).trans (ite_or fs3 gs c)
  obtain ⟨f4, fs4⟩ := says_on hV hO.ext f3 fs3
  obtain ⟨g1, gs1⟩ := says_on hV hO.ext g0 gs
  replace xbX := hk.cells _ _ _ _ xbX (by decide) (by decide)
  replace xbY := hk.cells _ _ _ _ xbY (by decide) (by decide)
  replace xbZ := hk.cells _ _ _ _ xbZ (by decide) (by decide)
  replace hB := hB.trans (hb.mono hlow)
  clear hb
  replace hd := hd2
  clear hO hV f3 fs3 g0 gs
  have HO := band_any hd f g f4 g1
  have hV := hd.rst.vst
  obtain ⟨bX0, bX1, bX2, bX3, -⟩ := now4 xbX rfl
  obtain ⟨bY0, bY1, bY2, bY3, -⟩ := now4 xbY rfl
  obtain ⟨bZ0, bZ1, bZ2, bZ3, -⟩ := now4 xbZ rfl
  go_wp2_with fail
  refine HO.mono ?_
  rintro e w10 ⟨v10, full10, S6, y, er, rfl, hd2, hb, hk, hO⟩
  clear bX0 bX1 bX2 bX3 bY0 bY1 bY2 bY3 bZ0 bZ1 bZ2 bZ3
  clear HO
  obtain ⟨rfl, y0, ys⟩ := hO.enough (need0 h8 (k := 4) (by omega) (by omega))
  have hc6 := hO.less h8
  replace ys := fun c => (ys c).trans (ite_and fs4 gs1 c)
  obtain ⟨f5, fs5⟩ := says_on hV hO.ext f4 fs4
  obtain ⟨g2, gs2⟩ := says_on hV hO.ext g1 gs1
  obtain ⟨x1, xs1⟩ := says_on hV hO.ext x0 xs
  replace xbX := hk.cells _ _ _ _ xbX (by decide) (by decide)
  replace xbY := hk.cells _ _ _ _ xbY (by decide) (by decide)
  replace xbZ := hk.cells _ _ _ _ xbZ (by decide) (by decide)
  replace hB := hB.trans (hb.mono hlow)
  clear hb
  replace hd := hd2
  clear hO hV f4 fs4 g1 gs1 x0 xs
  have HO := bite_any hd f 1 g f5 (by rw [lvl_end (.inr rfl)]; decide) g2
  have hV := hd.rst.vst
  obtain ⟨bX0, bX1, bX2, bX3, -⟩ := now4 xbX rfl
  obtain ⟨bY0, bY1, bY2, bY3, -⟩ := now4 xbY rfl
  obtain ⟨bZ0, bZ1, bZ2, bZ3, -⟩ := now4 xbZ rfl
  go_wp2_with fail
  refine HO.mono ?_
  rintro e w11 ⟨v11, full11, S7, z, er, rfl, hd2, hb, hk, hO⟩
  clear bX0 bX1 bX2 bX3 bY0 bY1 bY2 bY3 bZ0 bZ1 bZ2 bZ3
  clear HO
  obtain ⟨rfl, z0, zs⟩ := hO.enough (need0 h8 (k := 5) (by omega) (by omega))
  replace zs := fun c => (zs c).trans (ite_or fs5 gs2 c)
  obtain ⟨f6, fs6⟩ := says_on hV hO.ext f5 fs5
  obtain ⟨g3, gs3⟩ := says_on hV hO.ext g2 gs2
  obtain ⟨x2, xs2⟩ := says_on hV hO.ext x1 xs1
  obtain ⟨y1, ys1⟩ := says_on hV hO.ext y0 ys
  replace xbX := hk.cells _ _ _ _ xbX (by decide) (by decide)
  replace xbY := hk.cells _ _ _ _ xbY (by decide) (by decide)
  replace xbZ := hk.cells _ _ _ _ xbZ (by decide) (by decide)
  replace hB := hB.trans (hb.mono hlow)
  clear hb
  replace hd := hd2
  clear hO hV f5 fs5 g2 gs2 x1 xs1 y0 ys
  have hfg := one_sets hd.rst ho f6 g3 lX lY fs6 gs3
  have hxy : (x == y) = decide (X = Y) := (one_sets hd.rst ho x2 y1 (low_or lX lY) (low_and Y lX) xs2 ys1).trans (decide_eq_decide.2 (or_and_same X Y))
  obtain rfl : x = z := (says_eq hd.rst x2 z0).1 fun c => (xs2 c).trans (zs c).symm
  have HT := bset_any hd f f6
  rw [setOf_eq ho lX fs6] at HT
  unfold sv wv at HT
  obtain ⟨bX0, bX1, bX2, bX3, -⟩ := now4 xbX rfl
  obtain ⟨bY0, bY1, bY2, bY3, -⟩ := now4 xbY rfl
  obtain ⟨bZ0, bZ1, bZ2, bZ3, -⟩ := now4 xbZ rfl
  go_wp2_with fail
  refine HT.mono ?_
  rintro e w12 ⟨rfl, hb⟩
  clear bX0 bX1 bX2 bX3 bY0 bY1 bY2 bY3 bZ0 bZ1 bZ2 bZ3
  clear HT
  replace xbX := keep_blk hb xbX
  replace xbY := keep_blk hb xbY
  replace xbZ := keep_blk hb xbZ
  replace hB := hB.trans (hb.mono hB.size)
  replace hd := hd.below hb
  clear hb
  replace xbX := keep_alloc (x := .cells #[.int .u64 (wd X 0).toNat, .int .u64 (wd X 1).toNat, .int .u64 (wd X 2).toNat, .int .u64 (wd X 3).toNat] 25) xbX
  replace xbY := keep_alloc (x := .cells #[.int .u64 (wd X 0).toNat, .int .u64 (wd X 1).toNat, .int .u64 (wd X 2).toNat, .int .u64 (wd X 3).toNat] 25) xbY
  replace xbZ := keep_alloc (x := .cells #[.int .u64 (wd X 0).toNat, .int .u64 (wd X 1).toNat, .int .u64 (wd X 2).toNat, .int .u64 (wd X 3).toNat] 25) xbZ
  have xt := heap_alloc_new w12 (.cells #[.int .u64 (wd X 0).toNat, .int .u64 (wd X 1).toNat, .int .u64 (wd X 2).toNat, .int .u64 (wd X 3).toNat] 25)
  replace hd := hd.below (below_alloc1 w12 (.cells #[.int .u64 (wd X 0).toNat, .int .u64 (wd X 1).toNat, .int .u64 (wd X 2).toNat, .int .u64 (wd X 3).toNat] 25))
  replace hB := hB.alloc hB.size (.cells #[.int .u64 (wd X 0).toNat, .int .u64 (wd X 1).toNat, .int .u64 (wd X 2).toNat, .int .u64 (wd X 3).toNat] 25)
  obtain ⟨bX0, bX1, bX2, bX3, -⟩ := now4 xbX rfl
  obtain ⟨bY0, bY1, bY2, bY3, -⟩ := now4 xbY rfl
  obtain ⟨t0, t1, t2, t3, -⟩ := now4 xt rfl
  generalize decide (X = Y) = bl at *
  go_wp2_with fail
  refine (HK _).mono ?_
  rintro e w13 ⟨rfl, hb⟩
  clear bX0 bX1 bX2 bX3 bY0 bY1 bY2 bY3 t0 t1 t2 t3
  go_wp2
  go_ret
  exact ⟨rfl, hB.trans (hb.mono hB.size)⟩
end Go.Proofs.Ytbffcnnfkfjpgaa
