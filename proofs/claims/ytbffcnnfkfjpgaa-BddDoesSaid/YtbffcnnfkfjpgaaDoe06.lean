/- BddDoes: sets that do not fit, lists that are no orders; an input that there is not. -/
import Derived.Test.YtbffcnnfkfjpgaaDop06
import Derived.Test.YtbffcnnfkfjpgaaLaw06
namespace Go.Proofs.Ytbffcnnfkfjpgaa
open Go.RowKit Go.Joins

set_option maxHeartbeats 4000000 in
set_option maxRecDepth 100000 in
theorem does6_many (v : Value) (zs : List Int) (X Y Z : BitVec 256) (m : Int) (w : World) (hz : IntsAt w w.heap.size v zs) (h20 : 20 < zs.length) :
    Calls Try.prog 4 #[v, sv X, sv Y, sv Z, .int .i64 m] w fun e w' => e = .returned (.bool true) ∧ Below w.heap.size w w' := by
  have HK := fun w => knows6_any w
  have hB := below_alloc3 w (.cells (sa X) 25) (.cells (sa Y) 25) (.cells (sa Z) 25)
  obtain ⟨A, c, rfl, -, -⟩ := hz
  unfold sa wv at hB
  unfold sv wv
  go_enter Try.func4, Try.ntmps4
  go_wp2_with fail
  refine (HK _).mono ?_
  rintro e w1 ⟨rfl, hb1⟩
  go_wp2
  go_ret
  exact ⟨rfl, hB.trans (hb1.mono hB.size)⟩
set_option maxHeartbeats 4000000 in
set_option maxRecDepth 100000 in
theorem does6_no (v : Value) (zs : List Int) (X Y Z : BitVec 256) (m : Int) (w : World) (hz : IntsAt w w.heap.size v zs) (h20 : ¬ 20 < zs.length) (ho : ¬ OrdI zs) :
    Calls Try.prog 4 #[v, sv X, sv Y, sv Z, .int .i64 m] w fun e w' => e = .returned (.bool true) ∧ Below w.heap.size w w' := by
  have HK := fun w => knows6_any w
  have hB := below_alloc3 w (.cells (sa X) 25) (.cells (sa Y) 25) (.cells (sa Z) 25)
  have xbX := heap_alloc3_a w (.cells (sa X) 25) (.cells (sa Y) 25) (.cells (sa Z) 25)
  have xbY := heap_alloc3_b w (.cells (sa X) 25) (.cells (sa Y) 25) (.cells (sa Z) 25)
  have xbZ := heap_alloc3_c w (.cells (sa X) 25) (.cells (sa Y) 25) (.cells (sa Z) 25)
  have HS := start6_no _ v zs ((hz.below hB).more hB.size) ho
  obtain ⟨A, c, rfl, -, -⟩ := hz
  clear xbX xbY xbZ
  unfold sv wv
  unfold sa wv at hB HS
  go_enter Try.func4, Try.ntmps4
  go_wp2_with fail
  refine HS.mono ?_
  rintro e w1 ⟨rfl, hb1⟩
  have hB1 := hB.trans (hb1.mono hB.size)
  clear HS
  go_wp2_with fail
  refine (HK _).mono ?_
  rintro e w2 ⟨rfl, hb2⟩
  clear HK
  go_wp2
  go_ret
  exact ⟨rfl, hB1.trans (hb2.mono hB1.size)⟩
set_option maxHeartbeats 4000000 in
set_option maxRecDepth 100000 in
theorem does6_bad_yyn (v : Value) (o : List Nat) (X Y Z : BitVec 256) (m : Int) (w : World) (hz : IntsAt w w.heap.size v (ofN o)) (ho : OrdOk o) (h8 : o.length ≤ 8) (hX : (X &&& ~~~(allB o.length) = 0)) (hY : (Y &&& ~~~(allB o.length) = 0)) (hZ : ¬ (Z &&& ~~~(allB o.length) = 0)) :
    Calls Try.prog 4 #[v, sv X, sv Y, sv Z, .int .i64 m] w fun e w' => e = .returned (.bool true) ∧ Below w.heap.size w w' := by
  have HK := fun w => knows6_any w
  have hB := below_alloc3 w (.cells (sa X) 25) (.cells (sa Y) 25) (.cells (sa Z) 25)
  have xbX := heap_alloc3_a w (.cells (sa X) 25) (.cells (sa Y) 25) (.cells (sa Z) 25)
  have xbY := heap_alloc3_b w (.cells (sa X) 25) (.cells (sa Y) 25) (.cells (sa Z) 25)
  have xbZ := heap_alloc3_c w (.cells (sa X) 25) (.cells (sa Y) 25) (.cells (sa Z) 25)
  have hlow := hB.size
  have HS := start6_yes _ v o ((hz.below hB).more hB.size) ho h8
  have HRX := fun w => rof6_any X o.length h8 w
  rw [decide_eq_true hX] at HRX
  have HRY := fun w => rof6_any Y o.length h8 w
  rw [decide_eq_true hY] at HRY
  have HRZ := fun w => rof6_any Z o.length h8 w
  rw [decide_eq_false hZ] at HRZ
  obtain ⟨A, c, rfl, -, -⟩ := hz
  rw [ofN_len] at HS ⊢
  unfold sv wv at *
  unfold sa wv at hB HS xbX xbY xbZ
  go_enter Try.func4, Try.ntmps4
  go_wp2_with fail
  refine HS.mono ?_
  rintro e w1 ⟨bb, ab, bm, ov, rfl, hd, hb1⟩
  clear HS
  replace xbX := keep_blk hb1 xbX
  replace xbY := keep_blk hb1 xbY
  replace xbZ := keep_blk hb1 xbZ
  replace hB := hB.trans (hb1.mono hB.size)
  clear hb1
  have hc0 : cnt ([] : St) = 0 := rfl
  have HO := bof_yes hd X hX
  have hV := hd.rst.vst
  unfold sv wv at HO
  obtain ⟨bX0, bX1, bX2, bX3, -⟩ := now4 xbX rfl
  obtain ⟨bY0, bY1, bY2, bY3, -⟩ := now4 xbY rfl
  obtain ⟨bZ0, bZ1, bZ2, bZ3, -⟩ := now4 xbZ rfl
  go_wp2_with fail
  refine HO.mono ?_
  rintro e w2 ⟨v2, full2, S1, f, er, rfl, hd2, hb, hk, hO⟩
  clear bX0 bX1 bX2 bX3 bY0 bY1 bY2 bY3 bZ0 bZ1 bZ2 bZ3
  clear HO
  obtain ⟨rfl, f0, fs⟩ := hO.1.enough (need0 h8 (k := 0) (by omega) (by omega))
  have hc1 := hO.1.less h8
  replace xbX := hk.cells _ _ _ _ xbX (by decide) (by decide)
  replace xbY := hk.cells _ _ _ _ xbY (by decide) (by decide)
  replace xbZ := hk.cells _ _ _ _ xbZ (by decide) (by decide)
  replace hB := hB.trans (hb.mono hlow)
  clear hb
  replace hd := hd2
  clear hO hV
  have HO := bof_yes hd Y hY
  have hV := hd.rst.vst
  unfold sv wv at HO
  obtain ⟨bX0, bX1, bX2, bX3, -⟩ := now4 xbX rfl
  obtain ⟨bY0, bY1, bY2, bY3, -⟩ := now4 xbY rfl
  obtain ⟨bZ0, bZ1, bZ2, bZ3, -⟩ := now4 xbZ rfl
  go_wp2_with fail
  refine HO.mono ?_
  rintro e w3 ⟨v3, full3, S2, g, er, rfl, hd2, hb, hk, hO⟩
  clear bX0 bX1 bX2 bX3 bY0 bY1 bY2 bY3 bZ0 bZ1 bZ2 bZ3
  clear HO
  obtain ⟨rfl, g0, gs⟩ := hO.1.enough (need0 h8 (k := 1) (by omega) (by omega))
  have hc2 := hO.1.less h8
  obtain ⟨f0', fs'⟩ := says_on hV hO.1.ext f0 fs
  clear f0 fs
  have f0 := f0'
  have fs := fs'
  clear f0' fs'
  replace xbX := hk.cells _ _ _ _ xbX (by decide) (by decide)
  replace xbY := hk.cells _ _ _ _ xbY (by decide) (by decide)
  replace xbZ := hk.cells _ _ _ _ xbZ (by decide) (by decide)
  replace hB := hB.trans (hb.mono hlow)
  clear hb
  replace hd := hd2
  clear hO hV
  have HO := bof_no hd Z hZ
  unfold sv wv at HO
  obtain ⟨bX0, bX1, bX2, bX3, -⟩ := now4 xbX rfl
  obtain ⟨bY0, bY1, bY2, bY3, -⟩ := now4 xbY rfl
  obtain ⟨bZ0, bZ1, bZ2, bZ3, -⟩ := now4 xbZ rfl
  go_wp2_with fail
  refine HO.mono ?_
  rintro e w4 ⟨rfl, hb⟩
  clear bX0 bX1 bX2 bX3 bY0 bY1 bY2 bY3 bZ0 bZ1 bZ2 bZ3
  clear HO
  replace xbX := keep_blk hb xbX
  replace xbY := keep_blk hb xbY
  replace xbZ := keep_blk hb xbZ
  replace hB := hB.trans (hb.mono hB.size)
  replace hd := hd.below hb
  clear hb
  obtain ⟨bX0, bX1, bX2, bX3, -⟩ := now4 xbX rfl
  obtain ⟨bY0, bY1, bY2, bY3, -⟩ := now4 xbY rfl
  obtain ⟨bZ0, bZ1, bZ2, bZ3, -⟩ := now4 xbZ rfl
  go_wp2_with fail
  refine (HRX _).mono ?_
  rintro e w5 ⟨rfl, hb⟩
  clear bX0 bX1 bX2 bX3 bY0 bY1 bY2 bY3 bZ0 bZ1 bZ2 bZ3
  replace xbX := keep_blk hb xbX
  replace xbY := keep_blk hb xbY
  replace xbZ := keep_blk hb xbZ
  replace hB := hB.trans (hb.mono hB.size)
  clear hb
  obtain ⟨bX0, bX1, bX2, bX3, -⟩ := now4 xbX rfl
  obtain ⟨bY0, bY1, bY2, bY3, -⟩ := now4 xbY rfl
  obtain ⟨bZ0, bZ1, bZ2, bZ3, -⟩ := now4 xbZ rfl
  go_wp2_with fail
  refine (HRY _).mono ?_
  rintro e w6 ⟨rfl, hb⟩
  clear bX0 bX1 bX2 bX3 bY0 bY1 bY2 bY3 bZ0 bZ1 bZ2 bZ3
  replace xbX := keep_blk hb xbX
  replace xbY := keep_blk hb xbY
  replace xbZ := keep_blk hb xbZ
  replace hB := hB.trans (hb.mono hB.size)
  clear hb
  obtain ⟨bX0, bX1, bX2, bX3, -⟩ := now4 xbX rfl
  obtain ⟨bY0, bY1, bY2, bY3, -⟩ := now4 xbY rfl
  obtain ⟨bZ0, bZ1, bZ2, bZ3, -⟩ := now4 xbZ rfl
  go_wp2_with fail
  refine (HRZ _).mono ?_
  rintro e w7 ⟨rfl, hb⟩
  clear bX0 bX1 bX2 bX3 bY0 bY1 bY2 bY3 bZ0 bZ1 bZ2 bZ3
  replace xbX := keep_blk hb xbX
  replace xbY := keep_blk hb xbY
  replace xbZ := keep_blk hb xbZ
  replace hB := hB.trans (hb.mono hB.size)
  clear hb
  go_wp2_with fail
  refine (HK _).mono ?_
  rintro e w8 ⟨rfl, hb⟩
  go_wp2
  go_ret
  exact ⟨rfl, hB.trans (hb.mono hB.size)⟩
set_option maxHeartbeats 4000000 in
set_option maxRecDepth 100000 in
theorem does6_bad_yny (v : Value) (o : List Nat) (X Y Z : BitVec 256) (m : Int) (w : World) (hz : IntsAt w w.heap.size v (ofN o)) (ho : OrdOk o) (h8 : o.length ≤ 8) (hX : (X &&& ~~~(allB o.length) = 0)) (hY : ¬ (Y &&& ~~~(allB o.length) = 0)) (hZ : (Z &&& ~~~(allB o.length) = 0)) :
    Calls Try.prog 4 #[v, sv X, sv Y, sv Z, .int .i64 m] w fun e w' => e = .returned (.bool true) ∧ Below w.heap.size w w' := by
  have HK := fun w => knows6_any w
  have hB := below_alloc3 w (.cells (sa X) 25) (.cells (sa Y) 25) (.cells (sa Z) 25)
  have xbX := heap_alloc3_a w (.cells (sa X) 25) (.cells (sa Y) 25) (.cells (sa Z) 25)
  have xbY := heap_alloc3_b w (.cells (sa X) 25) (.cells (sa Y) 25) (.cells (sa Z) 25)
  have xbZ := heap_alloc3_c w (.cells (sa X) 25) (.cells (sa Y) 25) (.cells (sa Z) 25)
  have hlow := hB.size
  have HS := start6_yes _ v o ((hz.below hB).more hB.size) ho h8
  have HRX := fun w => rof6_any X o.length h8 w
  rw [decide_eq_true hX] at HRX
  have HRY := fun w => rof6_any Y o.length h8 w
  rw [decide_eq_false hY] at HRY
  obtain ⟨A, c, rfl, -, -⟩ := hz
  rw [ofN_len] at HS ⊢
  unfold sv wv at *
  unfold sa wv at hB HS xbX xbY xbZ
  go_enter Try.func4, Try.ntmps4
  go_wp2_with fail
  refine HS.mono ?_
  rintro e w1 ⟨bb, ab, bm, ov, rfl, hd, hb1⟩
  clear HS
  replace xbX := keep_blk hb1 xbX
  replace xbY := keep_blk hb1 xbY
  replace xbZ := keep_blk hb1 xbZ
  replace hB := hB.trans (hb1.mono hB.size)
  clear hb1
  have hc0 : cnt ([] : St) = 0 := rfl
  have HO := bof_yes hd X hX
  have hV := hd.rst.vst
  unfold sv wv at HO
  obtain ⟨bX0, bX1, bX2, bX3, -⟩ := now4 xbX rfl
  obtain ⟨bY0, bY1, bY2, bY3, -⟩ := now4 xbY rfl
  obtain ⟨bZ0, bZ1, bZ2, bZ3, -⟩ := now4 xbZ rfl
  go_wp2_with fail
  refine HO.mono ?_
  rintro e w2 ⟨v2, full2, S1, f, er, rfl, hd2, hb, hk, hO⟩
  clear bX0 bX1 bX2 bX3 bY0 bY1 bY2 bY3 bZ0 bZ1 bZ2 bZ3
  clear HO
  obtain ⟨rfl, f0, fs⟩ := hO.1.enough (need0 h8 (k := 0) (by omega) (by omega))
  have hc1 := hO.1.less h8
  replace xbX := hk.cells _ _ _ _ xbX (by decide) (by decide)
  replace xbY := hk.cells _ _ _ _ xbY (by decide) (by decide)
  replace xbZ := hk.cells _ _ _ _ xbZ (by decide) (by decide)
  replace hB := hB.trans (hb.mono hlow)
  clear hb
  replace hd := hd2
  clear hO hV
  have HO := bof_no hd Y hY
  unfold sv wv at HO
  obtain ⟨bX0, bX1, bX2, bX3, -⟩ := now4 xbX rfl
  obtain ⟨bY0, bY1, bY2, bY3, -⟩ := now4 xbY rfl
  obtain ⟨bZ0, bZ1, bZ2, bZ3, -⟩ := now4 xbZ rfl
  go_wp2_with fail
  refine HO.mono ?_
  rintro e w3 ⟨rfl, hb⟩
  clear bX0 bX1 bX2 bX3 bY0 bY1 bY2 bY3 bZ0 bZ1 bZ2 bZ3
  clear HO
  replace xbX := keep_blk hb xbX
  replace xbY := keep_blk hb xbY
  replace xbZ := keep_blk hb xbZ
  replace hB := hB.trans (hb.mono hB.size)
  replace hd := hd.below hb
  clear hb
  have HO := bof_yes hd Z hZ
  have hV := hd.rst.vst
  unfold sv wv at HO
  obtain ⟨bX0, bX1, bX2, bX3, -⟩ := now4 xbX rfl
  obtain ⟨bY0, bY1, bY2, bY3, -⟩ := now4 xbY rfl
  obtain ⟨bZ0, bZ1, bZ2, bZ3, -⟩ := now4 xbZ rfl
  go_wp2_with fail
  refine HO.mono ?_
  rintro e w4 ⟨v4, full4, S2, k, er, rfl, hd2, hb, hk, hO⟩
  clear bX0 bX1 bX2 bX3 bY0 bY1 bY2 bY3 bZ0 bZ1 bZ2 bZ3
  clear HO
  obtain ⟨rfl, k0, ks⟩ := hO.1.enough (need0 h8 (k := 1) (by omega) (by omega))
  have hc2 := hO.1.less h8
  obtain ⟨f0', fs'⟩ := says_on hV hO.1.ext f0 fs
  clear f0 fs
  have f0 := f0'
  have fs := fs'
  clear f0' fs'
  replace xbX := hk.cells _ _ _ _ xbX (by decide) (by decide)
  replace xbY := hk.cells _ _ _ _ xbY (by decide) (by decide)
  replace xbZ := hk.cells _ _ _ _ xbZ (by decide) (by decide)
  replace hB := hB.trans (hb.mono hlow)
  clear hb
  replace hd := hd2
  clear hO hV
  obtain ⟨bX0, bX1, bX2, bX3, -⟩ := now4 xbX rfl
  obtain ⟨bY0, bY1, bY2, bY3, -⟩ := now4 xbY rfl
  obtain ⟨bZ0, bZ1, bZ2, bZ3, -⟩ := now4 xbZ rfl
  go_wp2_with fail
  refine (HRX _).mono ?_
  rintro e w5 ⟨rfl, hb⟩
  clear bX0 bX1 bX2 bX3 bY0 bY1 bY2 bY3 bZ0 bZ1 bZ2 bZ3
  replace xbX := keep_blk hb xbX
  replace xbY := keep_blk hb xbY
  replace xbZ := keep_blk hb xbZ
  replace hB := hB.trans (hb.mono hB.size)
  clear hb
  obtain ⟨bX0, bX1, bX2, bX3, -⟩ := now4 xbX rfl
  obtain ⟨bY0, bY1, bY2, bY3, -⟩ := now4 xbY rfl
  obtain ⟨bZ0, bZ1, bZ2, bZ3, -⟩ := now4 xbZ rfl
  go_wp2_with fail
  refine (HRY _).mono ?_
  rintro e w6 ⟨rfl, hb⟩
  clear bX0 bX1 bX2 bX3 bY0 bY1 bY2 bY3 bZ0 bZ1 bZ2 bZ3
  replace xbX := keep_blk hb xbX
  replace xbY := keep_blk hb xbY
  replace xbZ := keep_blk hb xbZ
  replace hB := hB.trans (hb.mono hB.size)
  clear hb
  go_wp2_with fail
  refine (HK _).mono ?_
  rintro e w7 ⟨rfl, hb⟩
  go_wp2
  go_ret
  exact ⟨rfl, hB.trans (hb.mono hB.size)⟩
set_option maxHeartbeats 4000000 in
set_option maxRecDepth 100000 in
theorem does6_bad_ynn (v : Value) (o : List Nat) (X Y Z : BitVec 256) (m : Int) (w : World) (hz : IntsAt w w.heap.size v (ofN o)) (ho : OrdOk o) (h8 : o.length ≤ 8) (hX : (X &&& ~~~(allB o.length) = 0)) (hY : ¬ (Y &&& ~~~(allB o.length) = 0)) (hZ : ¬ (Z &&& ~~~(allB o.length) = 0)) :
    Calls Try.prog 4 #[v, sv X, sv Y, sv Z, .int .i64 m] w fun e w' => e = .returned (.bool true) ∧ Below w.heap.size w w' := by
  have HK := fun w => knows6_any w
  have hB := below_alloc3 w (.cells (sa X) 25) (.cells (sa Y) 25) (.cells (sa Z) 25)
  have xbX := heap_alloc3_a w (.cells (sa X) 25) (.cells (sa Y) 25) (.cells (sa Z) 25)
  have xbY := heap_alloc3_b w (.cells (sa X) 25) (.cells (sa Y) 25) (.cells (sa Z) 25)
  have xbZ := heap_alloc3_c w (.cells (sa X) 25) (.cells (sa Y) 25) (.cells (sa Z) 25)
  have hlow := hB.size
  have HS := start6_yes _ v o ((hz.below hB).more hB.size) ho h8
  have HRX := fun w => rof6_any X o.length h8 w
  rw [decide_eq_true hX] at HRX
  have HRY := fun w => rof6_any Y o.length h8 w
  rw [decide_eq_false hY] at HRY
  obtain ⟨A, c, rfl, -, -⟩ := hz
  rw [ofN_len] at HS ⊢
  unfold sv wv at *
  unfold sa wv at hB HS xbX xbY xbZ
  go_enter Try.func4, Try.ntmps4
  go_wp2_with fail
  refine HS.mono ?_
  rintro e w1 ⟨bb, ab, bm, ov, rfl, hd, hb1⟩
  clear HS
  replace xbX := keep_blk hb1 xbX
  replace xbY := keep_blk hb1 xbY
  replace xbZ := keep_blk hb1 xbZ
  replace hB := hB.trans (hb1.mono hB.size)
  clear hb1
  have hc0 : cnt ([] : St) = 0 := rfl
  have HO := bof_yes hd X hX
  have hV := hd.rst.vst
  unfold sv wv at HO
  obtain ⟨bX0, bX1, bX2, bX3, -⟩ := now4 xbX rfl
  obtain ⟨bY0, bY1, bY2, bY3, -⟩ := now4 xbY rfl
  obtain ⟨bZ0, bZ1, bZ2, bZ3, -⟩ := now4 xbZ rfl
  go_wp2_with fail
  refine HO.mono ?_
  rintro e w2 ⟨v2, full2, S1, f, er, rfl, hd2, hb, hk, hO⟩
  clear bX0 bX1 bX2 bX3 bY0 bY1 bY2 bY3 bZ0 bZ1 bZ2 bZ3
  clear HO
  obtain ⟨rfl, f0, fs⟩ := hO.1.enough (need0 h8 (k := 0) (by omega) (by omega))
  have hc1 := hO.1.less h8
  replace xbX := hk.cells _ _ _ _ xbX (by decide) (by decide)
  replace xbY := hk.cells _ _ _ _ xbY (by decide) (by decide)
  replace xbZ := hk.cells _ _ _ _ xbZ (by decide) (by decide)
  replace hB := hB.trans (hb.mono hlow)
  clear hb
  replace hd := hd2
  clear hO hV
  have HO := bof_no hd Y hY
  unfold sv wv at HO
  obtain ⟨bX0, bX1, bX2, bX3, -⟩ := now4 xbX rfl
  obtain ⟨bY0, bY1, bY2, bY3, -⟩ := now4 xbY rfl
  obtain ⟨bZ0, bZ1, bZ2, bZ3, -⟩ := now4 xbZ rfl
  go_wp2_with fail
  refine HO.mono ?_
  rintro e w3 ⟨rfl, hb⟩
  clear bX0 bX1 bX2 bX3 bY0 bY1 bY2 bY3 bZ0 bZ1 bZ2 bZ3
  clear HO
  replace xbX := keep_blk hb xbX
  replace xbY := keep_blk hb xbY
  replace xbZ := keep_blk hb xbZ
  replace hB := hB.trans (hb.mono hB.size)
  replace hd := hd.below hb
  clear hb
  have HO := bof_no hd Z hZ
  unfold sv wv at HO
  obtain ⟨bX0, bX1, bX2, bX3, -⟩ := now4 xbX rfl
  obtain ⟨bY0, bY1, bY2, bY3, -⟩ := now4 xbY rfl
  obtain ⟨bZ0, bZ1, bZ2, bZ3, -⟩ := now4 xbZ rfl
  go_wp2_with fail
  refine HO.mono ?_
  rintro e w4 ⟨rfl, hb⟩
  clear bX0 bX1 bX2 bX3 bY0 bY1 bY2 bY3 bZ0 bZ1 bZ2 bZ3
  clear HO
  replace xbX := keep_blk hb xbX
  replace xbY := keep_blk hb xbY
  replace xbZ := keep_blk hb xbZ
  replace hB := hB.trans (hb.mono hB.size)
  replace hd := hd.below hb
  clear hb
  obtain ⟨bX0, bX1, bX2, bX3, -⟩ := now4 xbX rfl
  obtain ⟨bY0, bY1, bY2, bY3, -⟩ := now4 xbY rfl
  obtain ⟨bZ0, bZ1, bZ2, bZ3, -⟩ := now4 xbZ rfl
  go_wp2_with fail
  refine (HRX _).mono ?_
  rintro e w5 ⟨rfl, hb⟩
  clear bX0 bX1 bX2 bX3 bY0 bY1 bY2 bY3 bZ0 bZ1 bZ2 bZ3
  replace xbX := keep_blk hb xbX
  replace xbY := keep_blk hb xbY
  replace xbZ := keep_blk hb xbZ
  replace hB := hB.trans (hb.mono hB.size)
  clear hb
  obtain ⟨bX0, bX1, bX2, bX3, -⟩ := now4 xbX rfl
  obtain ⟨bY0, bY1, bY2, bY3, -⟩ := now4 xbY rfl
  obtain ⟨bZ0, bZ1, bZ2, bZ3, -⟩ := now4 xbZ rfl
  go_wp2_with fail
  refine (HRY _).mono ?_
  rintro e w6 ⟨rfl, hb⟩
  clear bX0 bX1 bX2 bX3 bY0 bY1 bY2 bY3 bZ0 bZ1 bZ2 bZ3
  replace xbX := keep_blk hb xbX
  replace xbY := keep_blk hb xbY
  replace xbZ := keep_blk hb xbZ
  replace hB := hB.trans (hb.mono hB.size)
  clear hb
  go_wp2_with fail
  refine (HK _).mono ?_
  rintro e w7 ⟨rfl, hb⟩
  go_wp2
  go_ret
  exact ⟨rfl, hB.trans (hb.mono hB.size)⟩
set_option maxHeartbeats 4000000 in
set_option maxRecDepth 100000 in
theorem does6_bad_nyy (v : Value) (o : List Nat) (X Y Z : BitVec 256) (m : Int) (w : World) (hz : IntsAt w w.heap.size v (ofN o)) (ho : OrdOk o) (h8 : o.length ≤ 8) (hX : ¬ (X &&& ~~~(allB o.length) = 0)) (hY : (Y &&& ~~~(allB o.length) = 0)) (hZ : (Z &&& ~~~(allB o.length) = 0)) :
    Calls Try.prog 4 #[v, sv X, sv Y, sv Z, .int .i64 m] w fun e w' => e = .returned (.bool true) ∧ Below w.heap.size w w' := by
  have HK := fun w => knows6_any w
  have hB := below_alloc3 w (.cells (sa X) 25) (.cells (sa Y) 25) (.cells (sa Z) 25)
  have xbX := heap_alloc3_a w (.cells (sa X) 25) (.cells (sa Y) 25) (.cells (sa Z) 25)
  have xbY := heap_alloc3_b w (.cells (sa X) 25) (.cells (sa Y) 25) (.cells (sa Z) 25)
  have xbZ := heap_alloc3_c w (.cells (sa X) 25) (.cells (sa Y) 25) (.cells (sa Z) 25)
  have hlow := hB.size
  have HS := start6_yes _ v o ((hz.below hB).more hB.size) ho h8
  have HRX := fun w => rof6_any X o.length h8 w
  rw [decide_eq_false hX] at HRX
  obtain ⟨A, c, rfl, -, -⟩ := hz
  rw [ofN_len] at HS ⊢
  unfold sv wv at *
  unfold sa wv at hB HS xbX xbY xbZ
  go_enter Try.func4, Try.ntmps4
  go_wp2_with fail
  refine HS.mono ?_
  rintro e w1 ⟨bb, ab, bm, ov, rfl, hd, hb1⟩
  clear HS
  replace xbX := keep_blk hb1 xbX
  replace xbY := keep_blk hb1 xbY
  replace xbZ := keep_blk hb1 xbZ
  replace hB := hB.trans (hb1.mono hB.size)
  clear hb1
  have hc0 : cnt ([] : St) = 0 := rfl
  have HO := bof_no hd X hX
  unfold sv wv at HO
  obtain ⟨bX0, bX1, bX2, bX3, -⟩ := now4 xbX rfl
  obtain ⟨bY0, bY1, bY2, bY3, -⟩ := now4 xbY rfl
  obtain ⟨bZ0, bZ1, bZ2, bZ3, -⟩ := now4 xbZ rfl
  go_wp2_with fail
  refine HO.mono ?_
  rintro e w2 ⟨rfl, hb⟩
  clear bX0 bX1 bX2 bX3 bY0 bY1 bY2 bY3 bZ0 bZ1 bZ2 bZ3
  clear HO
  replace xbX := keep_blk hb xbX
  replace xbY := keep_blk hb xbY
  replace xbZ := keep_blk hb xbZ
  replace hB := hB.trans (hb.mono hB.size)
  replace hd := hd.below hb
  clear hb
  have HO := bof_yes hd Y hY
  have hV := hd.rst.vst
  unfold sv wv at HO
  obtain ⟨bX0, bX1, bX2, bX3, -⟩ := now4 xbX rfl
  obtain ⟨bY0, bY1, bY2, bY3, -⟩ := now4 xbY rfl
  obtain ⟨bZ0, bZ1, bZ2, bZ3, -⟩ := now4 xbZ rfl
  go_wp2_with fail
  refine HO.mono ?_
  rintro e w3 ⟨v3, full3, S1, g, er, rfl, hd2, hb, hk, hO⟩
  clear bX0 bX1 bX2 bX3 bY0 bY1 bY2 bY3 bZ0 bZ1 bZ2 bZ3
  clear HO
  obtain ⟨rfl, g0, gs⟩ := hO.1.enough (need0 h8 (k := 0) (by omega) (by omega))
  have hc1 := hO.1.less h8
  replace xbX := hk.cells _ _ _ _ xbX (by decide) (by decide)
  replace xbY := hk.cells _ _ _ _ xbY (by decide) (by decide)
  replace xbZ := hk.cells _ _ _ _ xbZ (by decide) (by decide)
  replace hB := hB.trans (hb.mono hlow)
  clear hb
  replace hd := hd2
  clear hO hV
  have HO := bof_yes hd Z hZ
  have hV := hd.rst.vst
  unfold sv wv at HO
  obtain ⟨bX0, bX1, bX2, bX3, -⟩ := now4 xbX rfl
  obtain ⟨bY0, bY1, bY2, bY3, -⟩ := now4 xbY rfl
  obtain ⟨bZ0, bZ1, bZ2, bZ3, -⟩ := now4 xbZ rfl
  go_wp2_with fail
  refine HO.mono ?_
  rintro e w4 ⟨v4, full4, S2, k, er, rfl, hd2, hb, hk, hO⟩
  clear bX0 bX1 bX2 bX3 bY0 bY1 bY2 bY3 bZ0 bZ1 bZ2 bZ3
  clear HO
  obtain ⟨rfl, k0, ks⟩ := hO.1.enough (need0 h8 (k := 1) (by omega) (by omega))
  have hc2 := hO.1.less h8
  obtain ⟨g0', gs'⟩ := says_on hV hO.1.ext g0 gs
  clear g0 gs
  have g0 := g0'
  have gs := gs'
  clear g0' gs'
  replace xbX := hk.cells _ _ _ _ xbX (by decide) (by decide)
  replace xbY := hk.cells _ _ _ _ xbY (by decide) (by decide)
  replace xbZ := hk.cells _ _ _ _ xbZ (by decide) (by decide)
  replace hB := hB.trans (hb.mono hlow)
  clear hb
  replace hd := hd2
  clear hO hV
  obtain ⟨bX0, bX1, bX2, bX3, -⟩ := now4 xbX rfl
  obtain ⟨bY0, bY1, bY2, bY3, -⟩ := now4 xbY rfl
  obtain ⟨bZ0, bZ1, bZ2, bZ3, -⟩ := now4 xbZ rfl
  go_wp2_with fail
  refine (HRX _).mono ?_
  rintro e w5 ⟨rfl, hb⟩
  clear bX0 bX1 bX2 bX3 bY0 bY1 bY2 bY3 bZ0 bZ1 bZ2 bZ3
  replace xbX := keep_blk hb xbX
  replace xbY := keep_blk hb xbY
  replace xbZ := keep_blk hb xbZ
  replace hB := hB.trans (hb.mono hB.size)
  clear hb
  go_wp2_with fail
  refine (HK _).mono ?_
  rintro e w6 ⟨rfl, hb⟩
  go_wp2
  go_ret
  exact ⟨rfl, hB.trans (hb.mono hB.size)⟩
set_option maxHeartbeats 4000000 in
set_option maxRecDepth 100000 in
theorem does6_bad_nyn (v : Value) (o : List Nat) (X Y Z : BitVec 256) (m : Int) (w : World) (hz : IntsAt w w.heap.size v (ofN o)) (ho : OrdOk o) (h8 : o.length ≤ 8) (hX : ¬ (X &&& ~~~(allB o.length) = 0)) (hY : (Y &&& ~~~(allB o.length) = 0)) (hZ : ¬ (Z &&& ~~~(allB o.length) = 0)) :
    Calls Try.prog 4 #[v, sv X, sv Y, sv Z, .int .i64 m] w fun e w' => e = .returned (.bool true) ∧ Below w.heap.size w w' := by
  have HK := fun w => knows6_any w
  have hB := below_alloc3 w (.cells (sa X) 25) (.cells (sa Y) 25) (.cells (sa Z) 25)
  have xbX := heap_alloc3_a w (.cells (sa X) 25) (.cells (sa Y) 25) (.cells (sa Z) 25)
  have xbY := heap_alloc3_b w (.cells (sa X) 25) (.cells (sa Y) 25) (.cells (sa Z) 25)
  have xbZ := heap_alloc3_c w (.cells (sa X) 25) (.cells (sa Y) 25) (.cells (sa Z) 25)
  have hlow := hB.size
  have HS := start6_yes _ v o ((hz.below hB).more hB.size) ho h8
  have HRX := fun w => rof6_any X o.length h8 w
  rw [decide_eq_false hX] at HRX
  obtain ⟨A, c, rfl, -, -⟩ := hz
  rw [ofN_len] at HS ⊢
  unfold sv wv at *
  unfold sa wv at hB HS xbX xbY xbZ
  go_enter Try.func4, Try.ntmps4
  go_wp2_with fail
  refine HS.mono ?_
  rintro e w1 ⟨bb, ab, bm, ov, rfl, hd, hb1⟩
  clear HS
  replace xbX := keep_blk hb1 xbX
  replace xbY := keep_blk hb1 xbY
  replace xbZ := keep_blk hb1 xbZ
  replace hB := hB.trans (hb1.mono hB.size)
  clear hb1
  have hc0 : cnt ([] : St) = 0 := rfl
  have HO := bof_no hd X hX
  unfold sv wv at HO
  obtain ⟨bX0, bX1, bX2, bX3, -⟩ := now4 xbX rfl
  obtain ⟨bY0, bY1, bY2, bY3, -⟩ := now4 xbY rfl
  obtain ⟨bZ0, bZ1, bZ2, bZ3, -⟩ := now4 xbZ rfl
  go_wp2_with fail
  refine HO.mono ?_
  rintro e w2 ⟨rfl, hb⟩
  clear bX0 bX1 bX2 bX3 bY0 bY1 bY2 bY3 bZ0 bZ1 bZ2 bZ3
  clear HO
  replace xbX := keep_blk hb xbX
  replace xbY := keep_blk hb xbY
  replace xbZ := keep_blk hb xbZ
  replace hB := hB.trans (hb.mono hB.size)
  replace hd := hd.below hb
  clear hb
  have HO := bof_yes hd Y hY
  have hV := hd.rst.vst
  unfold sv wv at HO
  obtain ⟨bX0, bX1, bX2, bX3, -⟩ := now4 xbX rfl
  obtain ⟨bY0, bY1, bY2, bY3, -⟩ := now4 xbY rfl
  obtain ⟨bZ0, bZ1, bZ2, bZ3, -⟩ := now4 xbZ rfl
  go_wp2_with fail
  refine HO.mono ?_
  rintro e w3 ⟨v3, full3, S1, g, er, rfl, hd2, hb, hk, hO⟩
  clear bX0 bX1 bX2 bX3 bY0 bY1 bY2 bY3 bZ0 bZ1 bZ2 bZ3
  clear HO
  obtain ⟨rfl, g0, gs⟩ := hO.1.enough (need0 h8 (k := 0) (by omega) (by omega))
  have hc1 := hO.1.less h8
  replace xbX := hk.cells _ _ _ _ xbX (by decide) (by decide)
  replace xbY := hk.cells _ _ _ _ xbY (by decide) (by decide)
  replace xbZ := hk.cells _ _ _ _ xbZ (by decide) (by decide)
  replace hB := hB.trans (hb.mono hlow)
  clear hb
  replace hd := hd2
  clear hO hV
  have HO := bof_no hd Z hZ
  unfold sv wv at HO
  obtain ⟨bX0, bX1, bX2, bX3, -⟩ := now4 xbX rfl
  obtain ⟨bY0, bY1, bY2, bY3, -⟩ := now4 xbY rfl
  obtain ⟨bZ0, bZ1, bZ2, bZ3, -⟩ := now4 xbZ rfl
  go_wp2_with fail
  refine HO.mono ?_
  rintro e w4 ⟨rfl, hb⟩
  clear bX0 bX1 bX2 bX3 bY0 bY1 bY2 bY3 bZ0 bZ1 bZ2 bZ3
  clear HO
  replace xbX := keep_blk hb xbX
  replace xbY := keep_blk hb xbY
  replace xbZ := keep_blk hb xbZ
  replace hB := hB.trans (hb.mono hB.size)
  replace hd := hd.below hb
  clear hb
  obtain ⟨bX0, bX1, bX2, bX3, -⟩ := now4 xbX rfl
  obtain ⟨bY0, bY1, bY2, bY3, -⟩ := now4 xbY rfl
  obtain ⟨bZ0, bZ1, bZ2, bZ3, -⟩ := now4 xbZ rfl
  go_wp2_with fail
  refine (HRX _).mono ?_
  rintro e w5 ⟨rfl, hb⟩
  clear bX0 bX1 bX2 bX3 bY0 bY1 bY2 bY3 bZ0 bZ1 bZ2 bZ3
  replace xbX := keep_blk hb xbX
  replace xbY := keep_blk hb xbY
  replace xbZ := keep_blk hb xbZ
  replace hB := hB.trans (hb.mono hB.size)
  clear hb
  go_wp2_with fail
  refine (HK _).mono ?_
  rintro e w6 ⟨rfl, hb⟩
  go_wp2
  go_ret
  exact ⟨rfl, hB.trans (hb.mono hB.size)⟩
set_option maxHeartbeats 4000000 in
set_option maxRecDepth 100000 in
theorem does6_bad_nny (v : Value) (o : List Nat) (X Y Z : BitVec 256) (m : Int) (w : World) (hz : IntsAt w w.heap.size v (ofN o)) (ho : OrdOk o) (h8 : o.length ≤ 8) (hX : ¬ (X &&& ~~~(allB o.length) = 0)) (hY : ¬ (Y &&& ~~~(allB o.length) = 0)) (hZ : (Z &&& ~~~(allB o.length) = 0)) :
    Calls Try.prog 4 #[v, sv X, sv Y, sv Z, .int .i64 m] w fun e w' => e = .returned (.bool true) ∧ Below w.heap.size w w' := by
  have HK := fun w => knows6_any w
  have hB := below_alloc3 w (.cells (sa X) 25) (.cells (sa Y) 25) (.cells (sa Z) 25)
  have xbX := heap_alloc3_a w (.cells (sa X) 25) (.cells (sa Y) 25) (.cells (sa Z) 25)
  have xbY := heap_alloc3_b w (.cells (sa X) 25) (.cells (sa Y) 25) (.cells (sa Z) 25)
  have xbZ := heap_alloc3_c w (.cells (sa X) 25) (.cells (sa Y) 25) (.cells (sa Z) 25)
  have hlow := hB.size
  have HS := start6_yes _ v o ((hz.below hB).more hB.size) ho h8
  have HRX := fun w => rof6_any X o.length h8 w
  rw [decide_eq_false hX] at HRX
  obtain ⟨A, c, rfl, -, -⟩ := hz
  rw [ofN_len] at HS ⊢
  unfold sv wv at *
  unfold sa wv at hB HS xbX xbY xbZ
  go_enter Try.func4, Try.ntmps4
  go_wp2_with fail
  refine HS.mono ?_
  rintro e w1 ⟨bb, ab, bm, ov, rfl, hd, hb1⟩
  clear HS
  replace xbX := keep_blk hb1 xbX
  replace xbY := keep_blk hb1 xbY
  replace xbZ := keep_blk hb1 xbZ
  replace hB := hB.trans (hb1.mono hB.size)
  clear hb1
  have hc0 : cnt ([] : St) = 0 := rfl
  have HO := bof_no hd X hX
  unfold sv wv at HO
  obtain ⟨bX0, bX1, bX2, bX3, -⟩ := now4 xbX rfl
  obtain ⟨bY0, bY1, bY2, bY3, -⟩ := now4 xbY rfl
  obtain ⟨bZ0, bZ1, bZ2, bZ3, -⟩ := now4 xbZ rfl
  go_wp2_with fail
  refine HO.mono ?_
  rintro e w2 ⟨rfl, hb⟩
  clear bX0 bX1 bX2 bX3 bY0 bY1 bY2 bY3 bZ0 bZ1 bZ2 bZ3
  clear HO
  replace xbX := keep_blk hb xbX
  replace xbY := keep_blk hb xbY
  replace xbZ := keep_blk hb xbZ
  replace hB := hB.trans (hb.mono hB.size)
  replace hd := hd.below hb
  clear hb
  have HO := bof_no hd Y hY
  unfold sv wv at HO
  obtain ⟨bX0, bX1, bX2, bX3, -⟩ := now4 xbX rfl
  obtain ⟨bY0, bY1, bY2, bY3, -⟩ := now4 xbY rfl
  obtain ⟨bZ0, bZ1, bZ2, bZ3, -⟩ := now4 xbZ rfl
  go_wp2_with fail
  refine HO.mono ?_
  rintro e w3 ⟨rfl, hb⟩
  clear bX0 bX1 bX2 bX3 bY0 bY1 bY2 bY3 bZ0 bZ1 bZ2 bZ3
  clear HO
  replace xbX := keep_blk hb xbX
  replace xbY := keep_blk hb xbY
  replace xbZ := keep_blk hb xbZ
  replace hB := hB.trans (hb.mono hB.size)
  replace hd := hd.below hb
  clear hb
  have HO := bof_yes hd Z hZ
  have hV := hd.rst.vst
  unfold sv wv at HO
  obtain ⟨bX0, bX1, bX2, bX3, -⟩ := now4 xbX rfl
  obtain ⟨bY0, bY1, bY2, bY3, -⟩ := now4 xbY rfl
  obtain ⟨bZ0, bZ1, bZ2, bZ3, -⟩ := now4 xbZ rfl
  go_wp2_with fail
  refine HO.mono ?_
  rintro e w4 ⟨v4, full4, S1, k, er, rfl, hd2, hb, hk, hO⟩
  clear bX0 bX1 bX2 bX3 bY0 bY1 bY2 bY3 bZ0 bZ1 bZ2 bZ3
  clear HO
  obtain ⟨rfl, k0, ks⟩ := hO.1.enough (need0 h8 (k := 0) (by omega) (by omega))
  have hc1 := hO.1.less h8
  replace xbX := hk.cells _ _ _ _ xbX (by decide) (by decide)
  replace xbY := hk.cells _ _ _ _ xbY (by decide) (by decide)
  replace xbZ := hk.cells _ _ _ _ xbZ (by decide) (by decide)
  replace hB := hB.trans (hb.mono hlow)
  clear hb
  replace hd := hd2
  clear hO hV
  obtain ⟨bX0, bX1, bX2, bX3, -⟩ := now4 xbX rfl
  obtain ⟨bY0, bY1, bY2, bY3, -⟩ := now4 xbY rfl
  obtain ⟨bZ0, bZ1, bZ2, bZ3, -⟩ := now4 xbZ rfl
  go_wp2_with fail
  refine (HRX _).mono ?_
  rintro e w5 ⟨rfl, hb⟩
  clear bX0 bX1 bX2 bX3 bY0 bY1 bY2 bY3 bZ0 bZ1 bZ2 bZ3
  replace xbX := keep_blk hb xbX
  replace xbY := keep_blk hb xbY
  replace xbZ := keep_blk hb xbZ
  replace hB := hB.trans (hb.mono hB.size)
  clear hb
  go_wp2_with fail
  refine (HK _).mono ?_
  rintro e w6 ⟨rfl, hb⟩
  go_wp2
  go_ret
  exact ⟨rfl, hB.trans (hb.mono hB.size)⟩
set_option maxHeartbeats 4000000 in
set_option maxRecDepth 100000 in
theorem does6_bad_nnn (v : Value) (o : List Nat) (X Y Z : BitVec 256) (m : Int) (w : World) (hz : IntsAt w w.heap.size v (ofN o)) (ho : OrdOk o) (h8 : o.length ≤ 8) (hX : ¬ (X &&& ~~~(allB o.length) = 0)) (hY : ¬ (Y &&& ~~~(allB o.length) = 0)) (hZ : ¬ (Z &&& ~~~(allB o.length) = 0)) :
    Calls Try.prog 4 #[v, sv X, sv Y, sv Z, .int .i64 m] w fun e w' => e = .returned (.bool true) ∧ Below w.heap.size w w' := by
  have HK := fun w => knows6_any w
  have hB := below_alloc3 w (.cells (sa X) 25) (.cells (sa Y) 25) (.cells (sa Z) 25)
  have xbX := heap_alloc3_a w (.cells (sa X) 25) (.cells (sa Y) 25) (.cells (sa Z) 25)
  have xbY := heap_alloc3_b w (.cells (sa X) 25) (.cells (sa Y) 25) (.cells (sa Z) 25)
  have xbZ := heap_alloc3_c w (.cells (sa X) 25) (.cells (sa Y) 25) (.cells (sa Z) 25)
  have hlow := hB.size
  have HS := start6_yes _ v o ((hz.below hB).more hB.size) ho h8
  have HRX := fun w => rof6_any X o.length h8 w
  rw [decide_eq_false hX] at HRX
  obtain ⟨A, c, rfl, -, -⟩ := hz
  rw [ofN_len] at HS ⊢
  unfold sv wv at *
  unfold sa wv at hB HS xbX xbY xbZ
  go_enter Try.func4, Try.ntmps4
  go_wp2_with fail
  refine HS.mono ?_
  rintro e w1 ⟨bb, ab, bm, ov, rfl, hd, hb1⟩
  clear HS
  replace xbX := keep_blk hb1 xbX
  replace xbY := keep_blk hb1 xbY
  replace xbZ := keep_blk hb1 xbZ
  replace hB := hB.trans (hb1.mono hB.size)
  clear hb1
  have hc0 : cnt ([] : St) = 0 := rfl
  have HO := bof_no hd X hX
  unfold sv wv at HO
  obtain ⟨bX0, bX1, bX2, bX3, -⟩ := now4 xbX rfl
  obtain ⟨bY0, bY1, bY2, bY3, -⟩ := now4 xbY rfl
  obtain ⟨bZ0, bZ1, bZ2, bZ3, -⟩ := now4 xbZ rfl
  go_wp2_with fail
  refine HO.mono ?_
  rintro e w2 ⟨rfl, hb⟩
  clear bX0 bX1 bX2 bX3 bY0 bY1 bY2 bY3 bZ0 bZ1 bZ2 bZ3
  clear HO
  replace xbX := keep_blk hb xbX
  replace xbY := keep_blk hb xbY
  replace xbZ := keep_blk hb xbZ
  replace hB := hB.trans (hb.mono hB.size)
  replace hd := hd.below hb
  clear hb
  have HO := bof_no hd Y hY
  unfold sv wv at HO
  obtain ⟨bX0, bX1, bX2, bX3, -⟩ := now4 xbX rfl
  obtain ⟨bY0, bY1, bY2, bY3, -⟩ := now4 xbY rfl
  obtain ⟨bZ0, bZ1, bZ2, bZ3, -⟩ := now4 xbZ rfl
  go_wp2_with fail
  refine HO.mono ?_
  rintro e w3 ⟨rfl, hb⟩
  clear bX0 bX1 bX2 bX3 bY0 bY1 bY2 bY3 bZ0 bZ1 bZ2 bZ3
  clear HO
  replace xbX := keep_blk hb xbX
  replace xbY := keep_blk hb xbY
  replace xbZ := keep_blk hb xbZ
  replace hB := hB.trans (hb.mono hB.size)
  replace hd := hd.below hb
  clear hb
  have HO := bof_no hd Z hZ
  unfold sv wv at HO
  obtain ⟨bX0, bX1, bX2, bX3, -⟩ := now4 xbX rfl
  obtain ⟨bY0, bY1, bY2, bY3, -⟩ := now4 xbY rfl
  obtain ⟨bZ0, bZ1, bZ2, bZ3, -⟩ := now4 xbZ rfl
  go_wp2_with fail
  refine HO.mono ?_
  rintro e w4 ⟨rfl, hb⟩
  clear bX0 bX1 bX2 bX3 bY0 bY1 bY2 bY3 bZ0 bZ1 bZ2 bZ3
  clear HO
  replace xbX := keep_blk hb xbX
  replace xbY := keep_blk hb xbY
  replace xbZ := keep_blk hb xbZ
  replace hB := hB.trans (hb.mono hB.size)
  replace hd := hd.below hb
  clear hb
  obtain ⟨bX0, bX1, bX2, bX3, -⟩ := now4 xbX rfl
  obtain ⟨bY0, bY1, bY2, bY3, -⟩ := now4 xbY rfl
  obtain ⟨bZ0, bZ1, bZ2, bZ3, -⟩ := now4 xbZ rfl
  go_wp2_with fail
  refine (HRX _).mono ?_
  rintro e w5 ⟨rfl, hb⟩
  clear bX0 bX1 bX2 bX3 bY0 bY1 bY2 bY3 bZ0 bZ1 bZ2 bZ3
  replace xbX := keep_blk hb xbX
  replace xbY := keep_blk hb xbY
  replace xbZ := keep_blk hb xbZ
  replace hB := hB.trans (hb.mono hB.size)
  clear hb
  go_wp2_with fail
  refine (HK _).mono ?_
  rintro e w6 ⟨rfl, hb⟩
  go_wp2
  go_ret
  exact ⟨rfl, hB.trans (hb.mono hB.size)⟩
set_option maxHeartbeats 4000000 in
set_option maxRecDepth 100000 in
theorem does6_out (v : Value) (o : List Nat) (X Y Z : BitVec 256) (m : Int) (w : World) (hz : IntsAt w w.heap.size v (ofN o)) (ho : OrdOk o) (h8 : o.length ≤ 8) (hX : X &&& ~~~(allB o.length) = 0) (hY : Y &&& ~~~(allB o.length) = 0) (hZ : Z &&& ~~~(allB o.length) = 0) (hm : m < 0 ∨ (o.length : Int) ≤ m) :
    Calls Try.prog 4 #[v, sv X, sv Y, sv Z, .int .i64 m] w fun e w' => e = .returned (.bool true) ∧ Below w.heap.size w w' := by
  have HK := fun w => knows6_any w
  have hB := below_alloc3 w (.cells (sa X) 25) (.cells (sa Y) 25) (.cells (sa Z) 25)
  have xbX := heap_alloc3_a w (.cells (sa X) 25) (.cells (sa Y) 25) (.cells (sa Z) 25)
  have xbY := heap_alloc3_b w (.cells (sa X) 25) (.cells (sa Y) 25) (.cells (sa Z) 25)
  have xbZ := heap_alloc3_c w (.cells (sa X) 25) (.cells (sa Y) 25) (.cells (sa Z) 25)
  have hlow := hB.size
  have HS := start6_yes _ v o ((hz.below hB).more hB.size) ho h8
  have lX := fit_low h8 hX
  have lY := fit_low h8 hY
  have lZ := fit_low h8 hZ
  have HAl := fun w => refall_any o.length h8 w
  have hE0 := fun w => eq4_refl (wd ((X &&& Y) ||| (Z &&& ~~~X)) 0).toNat (wd ((X &&& Y) ||| (Z &&& ~~~X)) 1).toNat (wd ((X &&& Y) ||| (Z &&& ~~~X)) 2).toNat (wd ((X &&& Y) ||| (Z &&& ~~~X)) 3).toNat w
  have hE1 := fun w => eq4_refl (wd (allB o.length &&& ~~~X) 0).toNat (wd (allB o.length &&& ~~~X) 1).toNat (wd (allB o.length &&& ~~~X) 2).toNat (wd (allB o.length &&& ~~~X) 3).toNat w
  have hE2 := fun w => eq4_refl (wd (X &&& Y) 0).toNat (wd (X &&& Y) 1).toNat (wd (X &&& Y) 2).toNat (wd (X &&& Y) 3).toNat w
  have hE3 := fun w => eq4_refl (wd (X ||| Y) 0).toNat (wd (X ||| Y) 1).toNat (wd (X ||| Y) 2).toNat (wd (X ||| Y) 3).toNat w
  have lA : ∀ p, 2 ^ o.length ≤ p → (allB o.length).getLsbD p = false := fun p hp => by rw [allB_bit6 _ _ h8]; exact decide_eq_false (by omega)
  obtain ⟨A, c, rfl, -, -⟩ := hz
  rw [ofN_len] at HS ⊢
  unfold sv wv at *
  unfold sa wv at hB HS xbX xbY xbZ
  go_enter Try.func4, Try.ntmps4
  go_wp2_with fail
  refine HS.mono ?_
  rintro e w1 ⟨bb, ab, bm, ov, rfl, hd, hb1⟩
  clear HS
  replace xbX := keep_blk hb1 xbX
  replace xbY := keep_blk hb1 xbY
  replace xbZ := keep_blk hb1 xbZ
  replace hB := hB.trans (hb1.mono hB.size)
  clear hb1
  have hc0 : cnt ([] : St) = 0 := rfl
  have HO := bof_yes hd X hX
  have hV := hd.rst.vst
  unfold sv wv at HO
  obtain ⟨bX0, bX1, bX2, bX3, -⟩ := now4 xbX rfl
  obtain ⟨bY0, bY1, bY2, bY3, -⟩ := now4 xbY rfl
  obtain ⟨bZ0, bZ1, bZ2, bZ3, -⟩ := now4 xbZ rfl
  go_wp2_with fail
  refine HO.mono ?_
  rintro e w2 ⟨v2, full2, S1, f, er, rfl, hd2, hb, hk, hO⟩
  clear bX0 bX1 bX2 bX3 bY0 bY1 bY2 bY3 bZ0 bZ1 bZ2 bZ3
  clear HO
  obtain ⟨rfl, f0, fs⟩ := hO.1.enough (need0 h8 (k := 0) (by omega) (by omega))
  have hc1 := hO.1.less h8
  replace xbX := hk.cells _ _ _ _ xbX (by decide) (by decide)
  replace xbY := hk.cells _ _ _ _ xbY (by decide) (by decide)
  replace xbZ := hk.cells _ _ _ _ xbZ (by decide) (by decide)
  replace hB := hB.trans (hb.mono hlow)
  clear hb
  replace hd := hd2
  clear hO hV
  have HO := bof_yes hd Y hY
  have hV := hd.rst.vst
  unfold sv wv at HO
  obtain ⟨bX0, bX1, bX2, bX3, -⟩ := now4 xbX rfl
  obtain ⟨bY0, bY1, bY2, bY3, -⟩ := now4 xbY rfl
  obtain ⟨bZ0, bZ1, bZ2, bZ3, -⟩ := now4 xbZ rfl
  go_wp2_with fail
  refine HO.mono ?_
  rintro e w3 ⟨v3, full3, S2, g, er, rfl, hd2, hb, hk, hO⟩
  clear bX0 bX1 bX2 bX3 bY0 bY1 bY2 bY3 bZ0 bZ1 bZ2 bZ3
  clear HO
  obtain ⟨rfl, g0, gs⟩ := hO.1.enough (need0 h8 (k := 1) (by omega) (by omega))
  have hc2 := hO.1.less h8
  obtain ⟨f0', fs'⟩ := says_on hV hO.1.ext f0 fs
  clear f0 fs
  have f0 := f0'
  have fs := fs'
  clear f0' fs'
  replace xbX := hk.cells _ _ _ _ xbX (by decide) (by decide)
  replace xbY := hk.cells _ _ _ _ xbY (by decide) (by decide)
  replace xbZ := hk.cells _ _ _ _ xbZ (by decide) (by decide)
  replace hB := hB.trans (hb.mono hlow)
  clear hb
  replace hd := hd2
  clear hO hV
  have HO := bof_yes hd Z hZ
  have hV := hd.rst.vst
  unfold sv wv at HO
  obtain ⟨bX0, bX1, bX2, bX3, -⟩ := now4 xbX rfl
  obtain ⟨bY0, bY1, bY2, bY3, -⟩ := now4 xbY rfl
  obtain ⟨bZ0, bZ1, bZ2, bZ3, -⟩ := now4 xbZ rfl
  go_wp2_with fail
  refine HO.mono ?_
  rintro e w4 ⟨v4, full4, S3, k, er, rfl, hd2, hb, hk, hO⟩
  clear bX0 bX1 bX2 bX3 bY0 bY1 bY2 bY3 bZ0 bZ1 bZ2 bZ3
  clear HO
  obtain ⟨rfl, k0, ks⟩ := hO.1.enough (need0 h8 (k := 2) (by omega) (by omega))
  have hc3 := hO.1.less h8
  obtain ⟨f0', fs'⟩ := says_on hV hO.1.ext f0 fs
  clear f0 fs
  have f0 := f0'
  have fs := fs'
  clear f0' fs'
  obtain ⟨g0', gs'⟩ := says_on hV hO.1.ext g0 gs
  clear g0 gs
  have g0 := g0'
  have gs := gs'
  clear g0' gs'
  replace xbX := hk.cells _ _ _ _ xbX (by decide) (by decide)
  replace xbY := hk.cells _ _ _ _ xbY (by decide) (by decide)
  replace xbZ := hk.cells _ _ _ _ xbZ (by decide) (by decide)
  replace hB := hB.trans (hb.mono hlow)
  clear hb
  replace hd := hd2
  clear hO hV
  have HO := bite_any hd f g k f0 g0 k0
  have hV := hd.rst.vst
  obtain ⟨bX0, bX1, bX2, bX3, -⟩ := now4 xbX rfl
  obtain ⟨bY0, bY1, bY2, bY3, -⟩ := now4 xbY rfl
  obtain ⟨bZ0, bZ1, bZ2, bZ3, -⟩ := now4 xbZ rfl
  go_wp2_with fail
  refine HO.mono ?_
  rintro e w5 ⟨v5, full5, S4, ai, er, rfl, hd2, hb, hk, hO⟩
  clear bX0 bX1 bX2 bX3 bY0 bY1 bY2 bY3 bZ0 bZ1 bZ2 bZ3
  clear HO
  obtain ⟨rfl, ai0, ais⟩ := hO.enough (need0 h8 (k := 3) (by omega) (by omega))
  have hc4 := hO.less h8
  replace ais := fun c => (ais c).trans (ite_ite ho h8 fs gs ks c)
  obtain ⟨f0', fs'⟩ := says_on hV hO.ext f0 fs
  clear f0 fs
  have f0 := f0'
  have fs := fs'
  clear f0' fs'
  obtain ⟨g0', gs'⟩ := says_on hV hO.ext g0 gs
  clear g0 gs
  have g0 := g0'
  have gs := gs'
  clear g0' gs'
  obtain ⟨k0', ks'⟩ := says_on hV hO.ext k0 ks
  clear k0 ks
  have k0 := k0'
  have ks := ks'
  clear k0' ks'
  replace xbX := hk.cells _ _ _ _ xbX (by decide) (by decide)
  replace xbY := hk.cells _ _ _ _ xbY (by decide) (by decide)
  replace xbZ := hk.cells _ _ _ _ xbZ (by decide) (by decide)
  replace hB := hB.trans (hb.mono hlow)
  clear hb
  replace hd := hd2
  clear hO hV
  have HO := bnot_any hd f f0
  have hV := hd.rst.vst
  obtain ⟨bX0, bX1, bX2, bX3, -⟩ := now4 xbX rfl
  obtain ⟨bY0, bY1, bY2, bY3, -⟩ := now4 xbY rfl
  obtain ⟨bZ0, bZ1, bZ2, bZ3, -⟩ := now4 xbZ rfl
  go_wp2_with fail
  refine HO.mono ?_
  rintro e w6 ⟨v6, full6, S5, ni, er, rfl, hd2, hb, hk, hO⟩
  clear bX0 bX1 bX2 bX3 bY0 bY1 bY2 bY3 bZ0 bZ1 bZ2 bZ3
  clear HO
  obtain ⟨rfl, ni0, nis⟩ := hO.enough (need0 h8 (k := 4) (by omega) (by omega))
  have hc5 := hO.less h8
  replace nis := fun c => (nis c).trans (ite_not ho h8 fs c)
  obtain ⟨f0', fs'⟩ := says_on hV hO.ext f0 fs
  clear f0 fs
  have f0 := f0'
  have fs := fs'
  clear f0' fs'
  obtain ⟨g0', gs'⟩ := says_on hV hO.ext g0 gs
  clear g0 gs
  have g0 := g0'
  have gs := gs'
  clear g0' gs'
  obtain ⟨k0', ks'⟩ := says_on hV hO.ext k0 ks
  clear k0 ks
  have k0 := k0'
  have ks := ks'
  clear k0' ks'
  obtain ⟨ai0', ais'⟩ := says_on hV hO.ext ai0 ais
  clear ai0 ais
  have ai0 := ai0'
  have ais := ais'
  clear ai0' ais'
  replace xbX := hk.cells _ _ _ _ xbX (by decide) (by decide)
  replace xbY := hk.cells _ _ _ _ xbY (by decide) (by decide)
  replace xbZ := hk.cells _ _ _ _ xbZ (by decide) (by decide)
  replace hB := hB.trans (hb.mono hlow)
  clear hb
  replace hd := hd2
  clear hO hV
  have HO := band_any hd f g f0 g0
  have hV := hd.rst.vst
  obtain ⟨bX0, bX1, bX2, bX3, -⟩ := now4 xbX rfl
  obtain ⟨bY0, bY1, bY2, bY3, -⟩ := now4 xbY rfl
  obtain ⟨bZ0, bZ1, bZ2, bZ3, -⟩ := now4 xbZ rfl
  go_wp2_with fail
  refine HO.mono ?_
  rintro e w7 ⟨v7, full7, S6, ci, er, rfl, hd2, hb, hk, hO⟩
  clear bX0 bX1 bX2 bX3 bY0 bY1 bY2 bY3 bZ0 bZ1 bZ2 bZ3
  clear HO
  obtain ⟨rfl, ci0, cis⟩ := hO.enough (need0 h8 (k := 5) (by omega) (by omega))
  have hc6 := hO.less h8
  replace cis := fun c => (cis c).trans (ite_and fs gs c)
  obtain ⟨f0', fs'⟩ := says_on hV hO.ext f0 fs
  clear f0 fs
  have f0 := f0'
  have fs := fs'
  clear f0' fs'
  obtain ⟨g0', gs'⟩ := says_on hV hO.ext g0 gs
  clear g0 gs
  have g0 := g0'
  have gs := gs'
  clear g0' gs'
  obtain ⟨k0', ks'⟩ := says_on hV hO.ext k0 ks
  clear k0 ks
  have k0 := k0'
  have ks := ks'
  clear k0' ks'
  obtain ⟨ai0', ais'⟩ := says_on hV hO.ext ai0 ais
  clear ai0 ais
  have ai0 := ai0'
  have ais := ais'
  clear ai0' ais'
  obtain ⟨ni0', nis'⟩ := says_on hV hO.ext ni0 nis
  clear ni0 nis
  have ni0 := ni0'
  have nis := nis'
  clear ni0' nis'
  replace xbX := hk.cells _ _ _ _ xbX (by decide) (by decide)
  replace xbY := hk.cells _ _ _ _ xbY (by decide) (by decide)
  replace xbZ := hk.cells _ _ _ _ xbZ (by decide) (by decide)
  replace hB := hB.trans (hb.mono hlow)
  clear hb
  replace hd := hd2
  clear hO hV
  have HO := bor_any hd f g f0 g0
  have hV := hd.rst.vst
  obtain ⟨bX0, bX1, bX2, bX3, -⟩ := now4 xbX rfl
  obtain ⟨bY0, bY1, bY2, bY3, -⟩ := now4 xbY rfl
  obtain ⟨bZ0, bZ1, bZ2, bZ3, -⟩ := now4 xbZ rfl
  go_wp2_with fail
  refine HO.mono ?_
  rintro e w8 ⟨v8, full8, S7, oi, er, rfl, hd2, hb, hk, hO⟩
  clear bX0 bX1 bX2 bX3 bY0 bY1 bY2 bY3 bZ0 bZ1 bZ2 bZ3
  clear HO
  obtain ⟨rfl, oi0, ois⟩ := hO.enough (need0 h8 (k := 6) (by omega) (by omega))
  have hc7 := hO.less h8
  replace ois := fun c => (ois c).trans (ite_or fs gs c)
  obtain ⟨f0', fs'⟩ := says_on hV hO.ext f0 fs
  clear f0 fs
  have f0 := f0'
  have fs := fs'
  clear f0' fs'
  obtain ⟨g0', gs'⟩ := says_on hV hO.ext g0 gs
  clear g0 gs
  have g0 := g0'
  have gs := gs'
  clear g0' gs'
  obtain ⟨k0', ks'⟩ := says_on hV hO.ext k0 ks
  clear k0 ks
  have k0 := k0'
  have ks := ks'
  clear k0' ks'
  obtain ⟨ai0', ais'⟩ := says_on hV hO.ext ai0 ais
  clear ai0 ais
  have ai0 := ai0'
  have ais := ais'
  clear ai0' ais'
  obtain ⟨ni0', nis'⟩ := says_on hV hO.ext ni0 nis
  clear ni0 nis
  have ni0 := ni0'
  have nis := nis'
  clear ni0' nis'
  obtain ⟨ci0', cis'⟩ := says_on hV hO.ext ci0 cis
  clear ci0 cis
  have ci0 := ci0'
  have cis := cis'
  clear ci0' cis'
  replace xbX := hk.cells _ _ _ _ xbX (by decide) (by decide)
  replace xbY := hk.cells _ _ _ _ xbY (by decide) (by decide)
  replace xbZ := hk.cells _ _ _ _ xbZ (by decide) (by decide)
  replace hB := hB.trans (hb.mono hlow)
  clear hb
  replace hd := hd2
  clear hO hV
  clear g0 gs k0 ks
  have HO := bsome_no hd f m f0 hm
  obtain ⟨bX0, bX1, bX2, bX3, -⟩ := now4 xbX rfl
  obtain ⟨bY0, bY1, bY2, bY3, -⟩ := now4 xbY rfl
  obtain ⟨bZ0, bZ1, bZ2, bZ3, -⟩ := now4 xbZ rfl
  go_wp2_with fail
  refine HO.mono ?_
  rintro e w9 ⟨rfl, hb⟩
  clear bX0 bX1 bX2 bX3 bY0 bY1 bY2 bY3 bZ0 bZ1 bZ2 bZ3
  clear HO
  replace xbX := keep_blk hb xbX
  replace xbY := keep_blk hb xbY
  replace xbZ := keep_blk hb xbZ
  replace hB := hB.trans (hb.mono hB.size)
  replace hd := hd.below hb
  clear hb
  clear f0 fs hc0 hc1 hc2 hc3 hc4 hc5 hc6 hc7
  obtain ⟨bX0, bX1, bX2, bX3, -⟩ := now4 xbX rfl
  obtain ⟨bY0, bY1, bY2, bY3, -⟩ := now4 xbY rfl
  obtain ⟨bZ0, bZ1, bZ2, bZ3, -⟩ := now4 xbZ rfl
  go_wp2_with fail
  refine (HAl _).mono ?_
  rintro e w10 ⟨wb, rfl, hwlo, hwlt, hwc, hb⟩
  clear bX0 bX1 bX2 bX3 bY0 bY1 bY2 bY3 bZ0 bZ1 bZ2 bZ3
  clear HAl hwlo
  replace xbX := keep_blk hb xbX
  replace xbY := keep_blk hb xbY
  replace xbZ := keep_blk hb xbZ
  replace hB := hB.trans (hb.mono hB.size)
  replace hd := hd.below hb
  clear hb
  have HSt := refset_any (fun p => decide (p < 2 ^ o.length)) wb 256 w10 hwlt hwc
  rw [show (bvOf fun p => decide (p < 2 ^ o.length)) = allB o.length from rfl] at HSt
  unfold sv wv at HSt
  obtain ⟨bX0, bX1, bX2, bX3, -⟩ := now4 xbX rfl
  obtain ⟨bY0, bY1, bY2, bY3, -⟩ := now4 xbY rfl
  obtain ⟨bZ0, bZ1, bZ2, bZ3, -⟩ := now4 xbZ rfl
  go_wp2_with fail
  refine HSt.mono ?_
  rintro e w11 ⟨rfl, hb⟩
  clear bX0 bX1 bX2 bX3 bY0 bY1 bY2 bY3 bZ0 bZ1 bZ2 bZ3
  clear HSt hwlt hwc
  replace xbX := keep_blk hb xbX
  replace xbY := keep_blk hb xbY
  replace xbZ := keep_blk hb xbZ
  replace hB := hB.trans (hb.mono hB.size)
  replace hd := hd.below hb
  clear hb
  replace xbX := keep_alloc (x := .cells #[.int .u64 (wd (allB o.length) 0).toNat, .int .u64 (wd (allB o.length) 1).toNat, .int .u64 (wd (allB o.length) 2).toNat, .int .u64 (wd (allB o.length) 3).toNat] 25) xbX
  replace xbY := keep_alloc (x := .cells #[.int .u64 (wd (allB o.length) 0).toNat, .int .u64 (wd (allB o.length) 1).toNat, .int .u64 (wd (allB o.length) 2).toNat, .int .u64 (wd (allB o.length) 3).toNat] 25) xbY
  replace xbZ := keep_alloc (x := .cells #[.int .u64 (wd (allB o.length) 0).toNat, .int .u64 (wd (allB o.length) 1).toNat, .int .u64 (wd (allB o.length) 2).toNat, .int .u64 (wd (allB o.length) 3).toNat] 25) xbZ
  have xl := heap_alloc_new w11 (.cells #[.int .u64 (wd (allB o.length) 0).toNat, .int .u64 (wd (allB o.length) 1).toNat, .int .u64 (wd (allB o.length) 2).toNat, .int .u64 (wd (allB o.length) 3).toNat] 25)
  replace hd := hd.below (below_alloc1 w11 (.cells #[.int .u64 (wd (allB o.length) 0).toNat, .int .u64 (wd (allB o.length) 1).toNat, .int .u64 (wd (allB o.length) 2).toNat, .int .u64 (wd (allB o.length) 3).toNat] 25))
  replace hB := hB.alloc hB.size (.cells #[.int .u64 (wd (allB o.length) 0).toNat, .int .u64 (wd (allB o.length) 1).toNat, .int .u64 (wd (allB o.length) 2).toNat, .int .u64 (wd (allB o.length) 3).toNat] 25)
  have HT := bset_any hd ai ai0
  rw [setOf_eq ho (low_or (low_and Y lX) (low_and (~~~X) lZ)) ais] at HT
  unfold sv wv at HT
  clear ai0 ais
  obtain ⟨bX0, bX1, bX2, bX3, -⟩ := now4 xbX rfl
  obtain ⟨bY0, bY1, bY2, bY3, -⟩ := now4 xbY rfl
  obtain ⟨bZ0, bZ1, bZ2, bZ3, -⟩ := now4 xbZ rfl
  obtain ⟨l0, l1, l2, l3, -⟩ := now4 xl rfl
  go_wp2_with fail
  refine HT.mono ?_
  rintro e w12 ⟨rfl, hb⟩
  clear bX0 bX1 bX2 bX3 bY0 bY1 bY2 bY3 bZ0 bZ1 bZ2 bZ3 l0 l1 l2 l3
  clear HT
  replace xbX := keep_blk hb xbX
  replace xbY := keep_blk hb xbY
  replace xbZ := keep_blk hb xbZ
  replace xl := keep_blk hb xl
  replace hB := hB.trans (hb.mono hB.size)
  replace hd := hd.below hb
  clear hb
  replace xbX := keep_alloc (x := .cells #[.int .u64 (wd ((X &&& Y) ||| (Z &&& ~~~X)) 0).toNat, .int .u64 (wd ((X &&& Y) ||| (Z &&& ~~~X)) 1).toNat, .int .u64 (wd ((X &&& Y) ||| (Z &&& ~~~X)) 2).toNat, .int .u64 (wd ((X &&& Y) ||| (Z &&& ~~~X)) 3).toNat] 25) xbX
  replace xbY := keep_alloc (x := .cells #[.int .u64 (wd ((X &&& Y) ||| (Z &&& ~~~X)) 0).toNat, .int .u64 (wd ((X &&& Y) ||| (Z &&& ~~~X)) 1).toNat, .int .u64 (wd ((X &&& Y) ||| (Z &&& ~~~X)) 2).toNat, .int .u64 (wd ((X &&& Y) ||| (Z &&& ~~~X)) 3).toNat] 25) xbY
  replace xbZ := keep_alloc (x := .cells #[.int .u64 (wd ((X &&& Y) ||| (Z &&& ~~~X)) 0).toNat, .int .u64 (wd ((X &&& Y) ||| (Z &&& ~~~X)) 1).toNat, .int .u64 (wd ((X &&& Y) ||| (Z &&& ~~~X)) 2).toNat, .int .u64 (wd ((X &&& Y) ||| (Z &&& ~~~X)) 3).toNat] 25) xbZ
  replace xl := keep_alloc (x := .cells #[.int .u64 (wd ((X &&& Y) ||| (Z &&& ~~~X)) 0).toNat, .int .u64 (wd ((X &&& Y) ||| (Z &&& ~~~X)) 1).toNat, .int .u64 (wd ((X &&& Y) ||| (Z &&& ~~~X)) 2).toNat, .int .u64 (wd ((X &&& Y) ||| (Z &&& ~~~X)) 3).toNat] 25) xl
  have xta := heap_alloc_new w12 (.cells #[.int .u64 (wd ((X &&& Y) ||| (Z &&& ~~~X)) 0).toNat, .int .u64 (wd ((X &&& Y) ||| (Z &&& ~~~X)) 1).toNat, .int .u64 (wd ((X &&& Y) ||| (Z &&& ~~~X)) 2).toNat, .int .u64 (wd ((X &&& Y) ||| (Z &&& ~~~X)) 3).toNat] 25)
  replace hd := hd.below (below_alloc1 w12 (.cells #[.int .u64 (wd ((X &&& Y) ||| (Z &&& ~~~X)) 0).toNat, .int .u64 (wd ((X &&& Y) ||| (Z &&& ~~~X)) 1).toNat, .int .u64 (wd ((X &&& Y) ||| (Z &&& ~~~X)) 2).toNat, .int .u64 (wd ((X &&& Y) ||| (Z &&& ~~~X)) 3).toNat] 25))
  replace hB := hB.alloc hB.size (.cells #[.int .u64 (wd ((X &&& Y) ||| (Z &&& ~~~X)) 0).toNat, .int .u64 (wd ((X &&& Y) ||| (Z &&& ~~~X)) 1).toNat, .int .u64 (wd ((X &&& Y) ||| (Z &&& ~~~X)) 2).toNat, .int .u64 (wd ((X &&& Y) ||| (Z &&& ~~~X)) 3).toNat] 25)
  have HT := bset_any hd ni ni0
  rw [setOf_eq ho (low_and (~~~X) lA) nis] at HT
  unfold sv wv at HT
  clear ni0 nis
  obtain ⟨bX0, bX1, bX2, bX3, -⟩ := now4 xbX rfl
  obtain ⟨bY0, bY1, bY2, bY3, -⟩ := now4 xbY rfl
  obtain ⟨bZ0, bZ1, bZ2, bZ3, -⟩ := now4 xbZ rfl
  obtain ⟨l0, l1, l2, l3, -⟩ := now4 xl rfl
  obtain ⟨ta0, ta1, ta2, ta3, -⟩ := now4 xta rfl
  go_wp2_with fail
  refine HT.mono ?_
  rintro e w13 ⟨rfl, hb⟩
  clear bX0 bX1 bX2 bX3 bY0 bY1 bY2 bY3 bZ0 bZ1 bZ2 bZ3 l0 l1 l2 l3 ta0 ta1 ta2 ta3
  clear HT
  replace xbX := keep_blk hb xbX
  replace xbY := keep_blk hb xbY
  replace xbZ := keep_blk hb xbZ
  replace xl := keep_blk hb xl
  replace xta := keep_blk hb xta
  replace hB := hB.trans (hb.mono hB.size)
  replace hd := hd.below hb
  clear hb
  replace xbX := keep_alloc (x := .cells #[.int .u64 (wd (allB o.length &&& ~~~X) 0).toNat, .int .u64 (wd (allB o.length &&& ~~~X) 1).toNat, .int .u64 (wd (allB o.length &&& ~~~X) 2).toNat, .int .u64 (wd (allB o.length &&& ~~~X) 3).toNat] 25) xbX
  replace xbY := keep_alloc (x := .cells #[.int .u64 (wd (allB o.length &&& ~~~X) 0).toNat, .int .u64 (wd (allB o.length &&& ~~~X) 1).toNat, .int .u64 (wd (allB o.length &&& ~~~X) 2).toNat, .int .u64 (wd (allB o.length &&& ~~~X) 3).toNat] 25) xbY
  replace xbZ := keep_alloc (x := .cells #[.int .u64 (wd (allB o.length &&& ~~~X) 0).toNat, .int .u64 (wd (allB o.length &&& ~~~X) 1).toNat, .int .u64 (wd (allB o.length &&& ~~~X) 2).toNat, .int .u64 (wd (allB o.length &&& ~~~X) 3).toNat] 25) xbZ
  replace xl := keep_alloc (x := .cells #[.int .u64 (wd (allB o.length &&& ~~~X) 0).toNat, .int .u64 (wd (allB o.length &&& ~~~X) 1).toNat, .int .u64 (wd (allB o.length &&& ~~~X) 2).toNat, .int .u64 (wd (allB o.length &&& ~~~X) 3).toNat] 25) xl
  replace xta := keep_alloc (x := .cells #[.int .u64 (wd (allB o.length &&& ~~~X) 0).toNat, .int .u64 (wd (allB o.length &&& ~~~X) 1).toNat, .int .u64 (wd (allB o.length &&& ~~~X) 2).toNat, .int .u64 (wd (allB o.length &&& ~~~X) 3).toNat] 25) xta
  have xtn := heap_alloc_new w13 (.cells #[.int .u64 (wd (allB o.length &&& ~~~X) 0).toNat, .int .u64 (wd (allB o.length &&& ~~~X) 1).toNat, .int .u64 (wd (allB o.length &&& ~~~X) 2).toNat, .int .u64 (wd (allB o.length &&& ~~~X) 3).toNat] 25)
  replace hd := hd.below (below_alloc1 w13 (.cells #[.int .u64 (wd (allB o.length &&& ~~~X) 0).toNat, .int .u64 (wd (allB o.length &&& ~~~X) 1).toNat, .int .u64 (wd (allB o.length &&& ~~~X) 2).toNat, .int .u64 (wd (allB o.length &&& ~~~X) 3).toNat] 25))
  replace hB := hB.alloc hB.size (.cells #[.int .u64 (wd (allB o.length &&& ~~~X) 0).toNat, .int .u64 (wd (allB o.length &&& ~~~X) 1).toNat, .int .u64 (wd (allB o.length &&& ~~~X) 2).toNat, .int .u64 (wd (allB o.length &&& ~~~X) 3).toNat] 25)
  have HT := bset_any hd ci ci0
  rw [setOf_eq ho (low_and Y lX) cis] at HT
  unfold sv wv at HT
  clear ci0 cis
  obtain ⟨bX0, bX1, bX2, bX3, -⟩ := now4 xbX rfl
  obtain ⟨bY0, bY1, bY2, bY3, -⟩ := now4 xbY rfl
  obtain ⟨bZ0, bZ1, bZ2, bZ3, -⟩ := now4 xbZ rfl
  obtain ⟨l0, l1, l2, l3, -⟩ := now4 xl rfl
  obtain ⟨ta0, ta1, ta2, ta3, -⟩ := now4 xta rfl
  obtain ⟨tn0, tn1, tn2, tn3, -⟩ := now4 xtn rfl
  go_wp2_with fail
  refine HT.mono ?_
  rintro e w14 ⟨rfl, hb⟩
  clear bX0 bX1 bX2 bX3 bY0 bY1 bY2 bY3 bZ0 bZ1 bZ2 bZ3 l0 l1 l2 l3 ta0 ta1 ta2 ta3 tn0 tn1 tn2 tn3
  clear HT
  replace xbX := keep_blk hb xbX
  replace xbY := keep_blk hb xbY
  replace xbZ := keep_blk hb xbZ
  replace xl := keep_blk hb xl
  replace xta := keep_blk hb xta
  replace xtn := keep_blk hb xtn
  replace hB := hB.trans (hb.mono hB.size)
  replace hd := hd.below hb
  clear hb
  replace xbX := keep_alloc (x := .cells #[.int .u64 (wd (X &&& Y) 0).toNat, .int .u64 (wd (X &&& Y) 1).toNat, .int .u64 (wd (X &&& Y) 2).toNat, .int .u64 (wd (X &&& Y) 3).toNat] 25) xbX
  replace xbY := keep_alloc (x := .cells #[.int .u64 (wd (X &&& Y) 0).toNat, .int .u64 (wd (X &&& Y) 1).toNat, .int .u64 (wd (X &&& Y) 2).toNat, .int .u64 (wd (X &&& Y) 3).toNat] 25) xbY
  replace xbZ := keep_alloc (x := .cells #[.int .u64 (wd (X &&& Y) 0).toNat, .int .u64 (wd (X &&& Y) 1).toNat, .int .u64 (wd (X &&& Y) 2).toNat, .int .u64 (wd (X &&& Y) 3).toNat] 25) xbZ
  replace xl := keep_alloc (x := .cells #[.int .u64 (wd (X &&& Y) 0).toNat, .int .u64 (wd (X &&& Y) 1).toNat, .int .u64 (wd (X &&& Y) 2).toNat, .int .u64 (wd (X &&& Y) 3).toNat] 25) xl
  replace xta := keep_alloc (x := .cells #[.int .u64 (wd (X &&& Y) 0).toNat, .int .u64 (wd (X &&& Y) 1).toNat, .int .u64 (wd (X &&& Y) 2).toNat, .int .u64 (wd (X &&& Y) 3).toNat] 25) xta
  replace xtn := keep_alloc (x := .cells #[.int .u64 (wd (X &&& Y) 0).toNat, .int .u64 (wd (X &&& Y) 1).toNat, .int .u64 (wd (X &&& Y) 2).toNat, .int .u64 (wd (X &&& Y) 3).toNat] 25) xtn
  have xtc := heap_alloc_new w14 (.cells #[.int .u64 (wd (X &&& Y) 0).toNat, .int .u64 (wd (X &&& Y) 1).toNat, .int .u64 (wd (X &&& Y) 2).toNat, .int .u64 (wd (X &&& Y) 3).toNat] 25)
  replace hd := hd.below (below_alloc1 w14 (.cells #[.int .u64 (wd (X &&& Y) 0).toNat, .int .u64 (wd (X &&& Y) 1).toNat, .int .u64 (wd (X &&& Y) 2).toNat, .int .u64 (wd (X &&& Y) 3).toNat] 25))
  replace hB := hB.alloc hB.size (.cells #[.int .u64 (wd (X &&& Y) 0).toNat, .int .u64 (wd (X &&& Y) 1).toNat, .int .u64 (wd (X &&& Y) 2).toNat, .int .u64 (wd (X &&& Y) 3).toNat] 25)
  have HT := bset_any hd oi oi0
  rw [setOf_eq ho (low_or lX lY) ois] at HT
  unfold sv wv at HT
  clear oi0 ois
  obtain ⟨bX0, bX1, bX2, bX3, -⟩ := now4 xbX rfl
  obtain ⟨bY0, bY1, bY2, bY3, -⟩ := now4 xbY rfl
  obtain ⟨bZ0, bZ1, bZ2, bZ3, -⟩ := now4 xbZ rfl
  obtain ⟨l0, l1, l2, l3, -⟩ := now4 xl rfl
  obtain ⟨ta0, ta1, ta2, ta3, -⟩ := now4 xta rfl
  obtain ⟨tn0, tn1, tn2, tn3, -⟩ := now4 xtn rfl
  obtain ⟨tc0, tc1, tc2, tc3, -⟩ := now4 xtc rfl
  go_wp2_with fail
  refine HT.mono ?_
  rintro e w15 ⟨rfl, hb⟩
  clear bX0 bX1 bX2 bX3 bY0 bY1 bY2 bY3 bZ0 bZ1 bZ2 bZ3 l0 l1 l2 l3 ta0 ta1 ta2 ta3 tn0 tn1 tn2 tn3 tc0 tc1 tc2 tc3
  clear HT
  replace xbX := keep_blk hb xbX
  replace xbY := keep_blk hb xbY
  replace xbZ := keep_blk hb xbZ
  replace xl := keep_blk hb xl
  replace xta := keep_blk hb xta
  replace xtn := keep_blk hb xtn
  replace xtc := keep_blk hb xtc
  replace hB := hB.trans (hb.mono hB.size)
  replace hd := hd.below hb
  clear hb
  go_upto_region 21 with (fail)
  replace xbX := keep_alloc (x := .cells #[.int .u64 (wd (X ||| Y) 0).toNat, .int .u64 (wd (X ||| Y) 1).toNat, .int .u64 (wd (X ||| Y) 2).toNat, .int .u64 (wd (X ||| Y) 3).toNat] 25) xbX
  replace xbY := keep_alloc (x := .cells #[.int .u64 (wd (X ||| Y) 0).toNat, .int .u64 (wd (X ||| Y) 1).toNat, .int .u64 (wd (X ||| Y) 2).toNat, .int .u64 (wd (X ||| Y) 3).toNat] 25) xbY
  replace xbZ := keep_alloc (x := .cells #[.int .u64 (wd (X ||| Y) 0).toNat, .int .u64 (wd (X ||| Y) 1).toNat, .int .u64 (wd (X ||| Y) 2).toNat, .int .u64 (wd (X ||| Y) 3).toNat] 25) xbZ
  replace xl := keep_alloc (x := .cells #[.int .u64 (wd (X ||| Y) 0).toNat, .int .u64 (wd (X ||| Y) 1).toNat, .int .u64 (wd (X ||| Y) 2).toNat, .int .u64 (wd (X ||| Y) 3).toNat] 25) xl
  replace xta := keep_alloc (x := .cells #[.int .u64 (wd (X ||| Y) 0).toNat, .int .u64 (wd (X ||| Y) 1).toNat, .int .u64 (wd (X ||| Y) 2).toNat, .int .u64 (wd (X ||| Y) 3).toNat] 25) xta
  replace xtn := keep_alloc (x := .cells #[.int .u64 (wd (X ||| Y) 0).toNat, .int .u64 (wd (X ||| Y) 1).toNat, .int .u64 (wd (X ||| Y) 2).toNat, .int .u64 (wd (X ||| Y) 3).toNat] 25) xtn
  replace xtc := keep_alloc (x := .cells #[.int .u64 (wd (X ||| Y) 0).toNat, .int .u64 (wd (X ||| Y) 1).toNat, .int .u64 (wd (X ||| Y) 2).toNat, .int .u64 (wd (X ||| Y) 3).toNat] 25) xtc
  have xto := heap_alloc_new w15 (.cells #[.int .u64 (wd (X ||| Y) 0).toNat, .int .u64 (wd (X ||| Y) 1).toNat, .int .u64 (wd (X ||| Y) 2).toNat, .int .u64 (wd (X ||| Y) 3).toNat] 25)
  replace hd := hd.below (below_alloc1 w15 (.cells #[.int .u64 (wd (X ||| Y) 0).toNat, .int .u64 (wd (X ||| Y) 1).toNat, .int .u64 (wd (X ||| Y) 2).toNat, .int .u64 (wd (X ||| Y) 3).toNat] 25))
  replace hB := hB.alloc hB.size (.cells #[.int .u64 (wd (X ||| Y) 0).toNat, .int .u64 (wd (X ||| Y) 1).toNat, .int .u64 (wd (X ||| Y) 2).toNat, .int .u64 (wd (X ||| Y) 3).toNat] 25)
  generalize w15.alloc (.cells #[.int .u64 (wd (X ||| Y) 0).toNat, .int .u64 (wd (X ||| Y) 1).toNat, .int .u64 (wd (X ||| Y) 2).toNat, .int .u64 (wd (X ||| Y) 3).toNat] 25) = W at *
  have HA := fun y : After W => and_any X Y y.1
  have HL1 := fun y : After W => less_any Z X y.1
  have HL2 := fun y : After W => less_any (allB o.length) X y.1
  have HO1 := fun y : After W => or_any (X &&& Y) (Z &&& ~~~X) y.1
  have HO2 := fun y : After W => or_any X Y y.1
  unfold sv wv at HA HL1 HL2 HO1 HO2
  obtain ⟨bX0, bX1, bX2, bX3, -⟩ := box4 xbX rfl
  obtain ⟨bY0, bY1, bY2, bY3, -⟩ := box4 xbY rfl
  obtain ⟨bZ0, bZ1, bZ2, bZ3, -⟩ := box4 xbZ rfl
  obtain ⟨l0, l1, l2, l3, -⟩ := box4 xl rfl
  obtain ⟨ta0, ta1, ta2, ta3, -⟩ := box4 xta rfl
  obtain ⟨tn0, tn1, tn2, tn3, -⟩ := box4 xtn rfl
  obtain ⟨tc0, tc1, tc2, tc3, -⟩ := box4 xtc rfl
  obtain ⟨to0, to1, to2, to3, -⟩ := box4 xto rfl
  refine wp_region_after (by kernel_rfl) (by kernel_rfl) ?_
  repeat (first | go_big_quiet_step (first | (go_at_call 22; exact Calls.after_of (HA _)) | (go_at_call_of 23 (Value.agg #[Value.int IntKind.u64 (wd Z 0).toNat, Value.int IntKind.u64 (wd Z 1).toNat, Value.int IntKind.u64 (wd Z 2).toNat, Value.int IntKind.u64 (wd Z 3).toNat]); exact Calls.after_of (HL1 _)) | (go_at_call_of 23 (Value.agg #[Value.int IntKind.u64 (wd (allB o.length) 0).toNat, Value.int IntKind.u64 (wd (allB o.length) 1).toNat, Value.int IntKind.u64 (wd (allB o.length) 2).toNat, Value.int IntKind.u64 (wd (allB o.length) 3).toNat]); exact Calls.after_of (HL2 _)) | (go_at_call_of 21 (Value.agg #[Value.int IntKind.u64 (wd (X &&& Y) 0).toNat, Value.int IntKind.u64 (wd (X &&& Y) 1).toNat, Value.int IntKind.u64 (wd (X &&& Y) 2).toNat, Value.int IntKind.u64 (wd (X &&& Y) 3).toNat]); exact Calls.after_of (HO1 _)) | (go_at_call_of 21 (Value.agg #[Value.int IntKind.u64 (wd Y 0).toNat, Value.int IntKind.u64 (wd Y 1).toNat, Value.int IntKind.u64 (wd Y 2).toNat, Value.int IntKind.u64 (wd Y 3).toNat]); exact Calls.after_of (HO2 _))))
  refine wpQuiet_nil ?_
  intro y
  clear HA HL1 HL2 HO1 HO2 bX0 bX1 bX2 bX3 bY0 bY1 bY2 bY3 bZ0 bZ1 bZ2 bZ3 l0 l1 l2 l3 ta0 ta1 ta2 ta3 tn0 tn1 tn2 tn3 tc0 tc1 tc2 tc3 to0 to1 to2 to3
  obtain ⟨W1, hy⟩ := y
  dsimp only at *
  clear xbY
  clear xbZ
  clear xl
  clear xta
  clear xtn
  clear xtc
  clear xto
  replace xbX := keep_blk hy xbX
  replace hB := hB.trans (hy.mono hB.size)
  replace hd := hd.below hy
  clear hy
  rcases hm with hm | hm
  · go_wp2_with fail
    refine (HK _).mono ?_
    rintro e w99 ⟨rfl, hb⟩
    go_wp2
    go_ret
    exact ⟨rfl, hB.trans (hb.mono hB.size)⟩
  · have hm0 : ¬ m < 0 := by omega
    go_wp2_with fail
    refine (HK _).mono ?_
    rintro e w99 ⟨rfl, hb⟩
    go_wp2
    go_ret
    exact ⟨rfl, hB.trans (hb.mono hB.size)⟩
end Go.Proofs.Ytbffcnnfkfjpgaa
