/- BddRoom: with little room. -/
import Derived.Test.YtbffcnnfkfjpgaaOnp06
import Derived.Test.YtbffcnnfkfjpgaaLaw06
namespace Go.Proofs.Ytbffcnnfkfjpgaa
open Go.RowKit Go.Joins

set_option maxHeartbeats 4000000 in
set_option maxRecDepth 100000 in
theorem rom6_many (v : Value) (zs : List Int) (X Y : BitVec 256) (n : Nat) (w : World) (hz : IntsAt w w.heap.size v zs) (h20 : 20 < zs.length) :
    Calls Try.prog 6 #[v, sv X, sv Y, .int .u8 n] w fun e w' => e = .returned (.bool true) ∧ Below w.heap.size w w' := by
  have HK := fun w => knows6_any w
  have hB := below_alloc2 w (.cells (sa X) 25) (.cells (sa Y) 25)
  obtain ⟨A, c, rfl, -, -⟩ := hz
  unfold sa wv at hB
  unfold sv wv
  go_enter Try.func6, Try.ntmps6
  go_wp2_with fail
  refine (HK _).mono ?_
  rintro e w1 ⟨rfl, hb1⟩
  go_wp2
  go_ret
  exact ⟨rfl, hB.trans (hb1.mono hB.size)⟩
set_option maxHeartbeats 4000000 in
set_option maxRecDepth 100000 in
theorem rom6_no (v : Value) (zs : List Int) (X Y : BitVec 256) (n : Nat) (w : World) (hz : IntsAt w w.heap.size v zs) (h20 : ¬ 20 < zs.length) (ho : ¬ OrdI zs) :
    Calls Try.prog 6 #[v, sv X, sv Y, .int .u8 n] w fun e w' => e = .returned (.bool true) ∧ Below w.heap.size w w' := by
  have HK := fun w => knows6_any w
  have hB := below_alloc2 w (.cells (sa X) 25) (.cells (sa Y) 25)
  have xbX := heap_alloc2_old w (.cells (sa X) 25) (.cells (sa Y) 25)
  have xbY := heap_alloc2_new w (.cells (sa X) 25) (.cells (sa Y) 25)
  have HS := rorder_any _ v zs ((hz.below hB).more hB.size)
  rw [decide_eq_false ho] at HS
  obtain ⟨A, c, rfl, -, -⟩ := hz
  clear xbX xbY
  unfold sv wv
  unfold sa wv at hB HS
  go_enter Try.func6, Try.ntmps6
  go_wp2_with fail
  refine HS.mono ?_
  rintro e w1 ⟨rfl, hb⟩
  clear HS
  replace hB := hB.trans (hb.mono hB.size)
  clear hb
  go_wp2_with fail
  refine (HK _).mono ?_
  rintro e w2 ⟨rfl, hb⟩
  go_wp2
  go_ret
  exact ⟨rfl, hB.trans (hb.mono hB.size)⟩
set_option maxHeartbeats 4000000 in
set_option maxRecDepth 100000 in
theorem rom6_bad0 (v : Value) (o : List Nat) (X Y : BitVec 256) (n : Nat) (w : World) (hz : IntsAt w w.heap.size v (ofN o)) (ho : OrdOk o) (h8 : o.length ≤ 8) (hX : ¬ (X &&& ~~~(allB o.length) = 0)) :
    Calls Try.prog 6 #[v, sv X, sv Y, .int .u8 n] w fun e w' => e = .returned (.bool true) ∧ Below w.heap.size w w' := by
  have HK := fun w => knows6_any w
  have hB := below_alloc2 w (.cells (sa X) 25) (.cells (sa Y) 25)
  have xbX := heap_alloc2_old w (.cells (sa X) 25) (.cells (sa Y) 25)
  have xbY := heap_alloc2_new w (.cells (sa X) 25) (.cells (sa Y) 25)
  have HS := rorder_any _ v (ofN o) ((hz.below hB).more hB.size)
  rw [decide_eq_true (nat_ordI ho h8)] at HS
  have HRX := fun w => rof6_any X o.length h8 w
  rw [decide_eq_false hX] at HRX
  obtain ⟨A, c, rfl, -, -⟩ := hz
  rw [ofN_len] at HS ⊢
  unfold sv wv at *
  unfold sa wv at hB HS xbX xbY
  clear xbY
  go_enter Try.func6, Try.ntmps6
  go_wp2_with fail
  refine HS.mono ?_
  rintro e w1 ⟨rfl, hb1⟩
  clear HS
  replace xbX := keep_blk hb1 xbX
  replace hB := hB.trans (hb1.mono hB.size)
  clear hb1
  obtain ⟨bX0, bX1, bX2, bX3, -⟩ := now4 xbX rfl
  go_wp2_with fail
  refine (HRX _).mono ?_
  rintro e w2 ⟨rfl, hb⟩
  clear bX0 bX1 bX2 bX3
  replace xbX := keep_blk hb xbX
  replace hB := hB.trans (hb.mono hB.size)
  clear hb
  go_wp2_with fail
  refine (HK _).mono ?_
  rintro e w3 ⟨rfl, hb⟩
  go_wp2
  go_ret
  exact ⟨rfl, hB.trans (hb.mono hB.size)⟩
set_option maxHeartbeats 4000000 in
set_option maxRecDepth 100000 in
theorem rom6_bad1 (v : Value) (o : List Nat) (X Y : BitVec 256) (n : Nat) (w : World) (hz : IntsAt w w.heap.size v (ofN o)) (ho : OrdOk o) (h8 : o.length ≤ 8) (hX : (X &&& ~~~(allB o.length) = 0)) (hY : ¬ (Y &&& ~~~(allB o.length) = 0)) :
    Calls Try.prog 6 #[v, sv X, sv Y, .int .u8 n] w fun e w' => e = .returned (.bool true) ∧ Below w.heap.size w w' := by
  have HK := fun w => knows6_any w
  have hB := below_alloc2 w (.cells (sa X) 25) (.cells (sa Y) 25)
  have xbX := heap_alloc2_old w (.cells (sa X) 25) (.cells (sa Y) 25)
  have xbY := heap_alloc2_new w (.cells (sa X) 25) (.cells (sa Y) 25)
  have HS := rorder_any _ v (ofN o) ((hz.below hB).more hB.size)
  rw [decide_eq_true (nat_ordI ho h8)] at HS
  have HRX := fun w => rof6_any X o.length h8 w
  rw [decide_eq_true hX] at HRX
  have HRY := fun w => rof6_any Y o.length h8 w
  rw [decide_eq_false hY] at HRY
  obtain ⟨A, c, rfl, -, -⟩ := hz
  rw [ofN_len] at HS ⊢
  unfold sv wv at *
  unfold sa wv at hB HS xbX xbY
  go_enter Try.func6, Try.ntmps6
  go_wp2_with fail
  refine HS.mono ?_
  rintro e w1 ⟨rfl, hb1⟩
  clear HS
  replace xbX := keep_blk hb1 xbX
  replace xbY := keep_blk hb1 xbY
  replace hB := hB.trans (hb1.mono hB.size)
  clear hb1
  obtain ⟨bX0, bX1, bX2, bX3, -⟩ := now4 xbX rfl
  obtain ⟨bY0, bY1, bY2, bY3, -⟩ := now4 xbY rfl
  go_wp2_with fail
  refine (HRX _).mono ?_
  rintro e w2 ⟨rfl, hb⟩
  clear bX0 bX1 bX2 bX3 bY0 bY1 bY2 bY3
  replace xbX := keep_blk hb xbX
  replace xbY := keep_blk hb xbY
  replace hB := hB.trans (hb.mono hB.size)
  clear hb
  obtain ⟨bX0, bX1, bX2, bX3, -⟩ := now4 xbX rfl
  obtain ⟨bY0, bY1, bY2, bY3, -⟩ := now4 xbY rfl
  go_wp2_with fail
  refine (HRY _).mono ?_
  rintro e w3 ⟨rfl, hb⟩
  clear bX0 bX1 bX2 bX3 bY0 bY1 bY2 bY3
  replace xbX := keep_blk hb xbX
  replace xbY := keep_blk hb xbY
  replace hB := hB.trans (hb.mono hB.size)
  clear hb
  go_wp2_with fail
  refine (HK _).mono ?_
  rintro e w4 ⟨rfl, hb⟩
  go_wp2
  go_ret
  exact ⟨rfl, hB.trans (hb.mono hB.size)⟩
set_option maxHeartbeats 4000000 in
set_option maxRecDepth 100000 in
theorem rom6_good (v : Value) (o : List Nat) (X Y : BitVec 256) (n : Nat) (w : World) (hn : n ≤ 255) (hz : IntsAt w w.heap.size v (ofN o)) (ho : OrdOk o) (h8 : o.length ≤ 8) (hX : X &&& ~~~(allB o.length) = 0) (hY : Y &&& ~~~(allB o.length) = 0) :
    Calls Try.prog 6 #[v, sv X, sv Y, .int .u8 n] w fun e w' => e = .returned (.bool true) ∧ Below w.heap.size w w' := by
  have HK := fun w => knows6_any w
  have hB := below_alloc2 w (.cells (sa X) 25) (.cells (sa Y) 25)
  have xbX := heap_alloc2_old w (.cells (sa X) 25) (.cells (sa Y) 25)
  have xbY := heap_alloc2_new w (.cells (sa X) 25) (.cells (sa Y) 25)
  have hlowA := hB.size
  have HS := rorder_any _ v (ofN o) ((hz.below hB).more hB.size)
  rw [decide_eq_true (nat_ordI ho h8)] at HS
  have HRX := fun w => rof6_any X o.length h8 w
  rw [decide_eq_true hX] at HRX
  have HRY := fun w => rof6_any Y o.length h8 w
  rw [decide_eq_true hY] at HRY
  have lX := fit_low h8 hX
  have lY := fit_low h8 hY
  have hE2 := fun w => eq4_refl (wd X 0).toNat (wd X 1).toNat (wd X 2).toNat (wd X 3).toNat w
  have hE3 := fun w => eq4_refl (wd (X &&& Y) 0).toNat (wd (X &&& Y) 1).toNat (wd (X &&& Y) 2).toNat (wd (X &&& Y) 3).toNat w
  have HRz := fun w1 (hb : Below w.heap.size w w1) => rsize6_any X ho h8 v w1 ((hz.below hb).more hb.size)
  have HNw := fun w1 (hb : Below w.heap.size w w1) => bnew_yes w1 v o n ((hz.below hb).more hb.size) ho h8 (by omega)
  obtain ⟨A, c, rfl, -, -⟩ := hz
  rw [ofN_len] at HS HRz HNw ⊢
  unfold sv wv at *
  unfold sa wv at hB HS xbX xbY
  go_enter Try.func6, Try.ntmps6
  go_wp2_with fail
  refine HS.mono ?_
  rintro e w1 ⟨rfl, hb1⟩
  clear HS
  replace xbX := keep_blk hb1 xbX
  replace xbY := keep_blk hb1 xbY
  replace hB := hB.trans (hb1.mono hB.size)
  clear hb1
  obtain ⟨bX0, bX1, bX2, bX3, -⟩ := now4 xbX rfl
  obtain ⟨bY0, bY1, bY2, bY3, -⟩ := now4 xbY rfl
  go_wp2_with fail
  refine (HRX _).mono ?_
  rintro e w2 ⟨rfl, hb⟩
  clear bX0 bX1 bX2 bX3 bY0 bY1 bY2 bY3
  replace xbX := keep_blk hb xbX
  replace xbY := keep_blk hb xbY
  replace hB := hB.trans (hb.mono hB.size)
  clear hb
  obtain ⟨bX0, bX1, bX2, bX3, -⟩ := now4 xbX rfl
  obtain ⟨bY0, bY1, bY2, bY3, -⟩ := now4 xbY rfl
  go_wp2_with fail
  refine (HRY _).mono ?_
  rintro e w3 ⟨rfl, hb⟩
  clear bX0 bX1 bX2 bX3 bY0 bY1 bY2 bY3
  replace xbX := keep_blk hb xbX
  replace xbY := keep_blk hb xbY
  replace hB := hB.trans (hb.mono hB.size)
  clear hb
  clear HRX HRY
  replace HNw := HNw w3 hB
  have hlow := hB.size
  go_wp2_with fail
  refine HNw.mono ?_
  rintro e w4 ⟨bb, ab, bm, ov, rfl, hd, hb⟩
  clear HNw
  replace xbX := keep_blk hb xbX
  replace xbY := keep_blk hb xbY
  replace hB := hB.trans (hb.mono hB.size)
  clear hb
  have HO := bof_yes hd X hX
  have hV := hd.rst.vst
  unfold sv wv at HO
  obtain ⟨bX0, bX1, bX2, bX3, -⟩ := now4 xbX rfl
  obtain ⟨bY0, bY1, bY2, bY3, -⟩ := now4 xbY rfl
  go_wp2_with fail
  refine HO.mono ?_
  rintro e w5 ⟨v5, full5, S1, f, er, rfl, hd2, hb, hk, hO⟩
  clear bX0 bX1 bX2 bX3 bY0 bY1 bY2 bY3
  clear HO
  replace xbX := hk.cells _ _ _ _ xbX (by decide) (by decide)
  replace xbY := hk.cells _ _ _ _ xbY (by decide) (by decide)
  replace hB := hB.trans (hb.mono hlow)
  clear hb
  replace hd := hd2
  rcases hO.1.kind with rfl | ⟨rfl, rfl⟩
  · obtain ⟨f0, -, fs⟩ := hO.1.good
    clear hO hV HRz
    have HO := bof_yes hd Y hY
    have hV := hd.rst.vst
    unfold sv wv at HO
    obtain ⟨bX0, bX1, bX2, bX3, -⟩ := now4 xbX rfl
    obtain ⟨bY0, bY1, bY2, bY3, -⟩ := now4 xbY rfl
    go_wp2_with fail
    refine HO.mono ?_
    rintro e w6 ⟨v6, full6, S2, g, er, rfl, hd2, hb, hk, hO⟩
    clear bX0 bX1 bX2 bX3 bY0 bY1 bY2 bY3
    clear HO
    obtain ⟨f1, fs1⟩ := says_on hV hO.1.ext f0 fs
    replace xbX := hk.cells _ _ _ _ xbX (by decide) (by decide)
    replace xbY := hk.cells _ _ _ _ xbY (by decide) (by decide)
    replace hB := hB.trans (hb.mono hlow)
    clear hb
    replace hd := hd2
    clear f0 fs hV
    rcases hO.1.kind with rfl | ⟨rfl, rfl⟩
    · obtain ⟨g0, -, gs⟩ := hO.1.good
      clear hO
      have HO := band_any hd f g f1 g0
      have hV := hd.rst.vst
      obtain ⟨bX0, bX1, bX2, bX3, -⟩ := now4 xbX rfl
      obtain ⟨bY0, bY1, bY2, bY3, -⟩ := now4 xbY rfl
      go_wp2_with fail
      refine HO.mono ?_
      rintro e w7 ⟨v7, full7, S3, x, er, rfl, hd2, hb, hk, hO⟩
      clear bX0 bX1 bX2 bX3 bY0 bY1 bY2 bY3
      clear HO
      obtain ⟨f2, fs2⟩ := says_on hV hO.ext f1 fs1
      replace xbX := hk.cells _ _ _ _ xbX (by decide) (by decide)
      replace xbY := hk.cells _ _ _ _ xbY (by decide) (by decide)
      replace hB := hB.trans (hb.mono hlow)
      clear hb
      replace hd := hd2
      rcases hO.kind with rfl | ⟨rfl, rfl⟩
      · obtain ⟨x0, -, xs⟩ := hO.good
        replace xs := fun c => (xs c).trans (ite_and fs1 gs c)
        clear hO hV f1 fs1 g0 gs
        have HT := bset_any hd f f2
        rw [setOf_eq ho lX fs2] at HT
        unfold sv wv at HT
        obtain ⟨bX0, bX1, bX2, bX3, -⟩ := now4 xbX rfl
        obtain ⟨bY0, bY1, bY2, bY3, -⟩ := now4 xbY rfl
        go_wp2_with fail
        refine HT.mono ?_
        rintro e w8 ⟨rfl, hb⟩
        clear bX0 bX1 bX2 bX3 bY0 bY1 bY2 bY3
        clear HT
        replace xbX := keep_blk hb xbX
        replace xbY := keep_blk hb xbY
        replace hB := hB.trans (hb.mono hB.size)
        replace hd := hd.below hb
        clear hb
        replace xbX := keep_alloc (x := .cells #[.int .u64 (wd X 0).toNat, .int .u64 (wd X 1).toNat, .int .u64 (wd X 2).toNat, .int .u64 (wd X 3).toNat] 25) xbX
        replace xbY := keep_alloc (x := .cells #[.int .u64 (wd X 0).toNat, .int .u64 (wd X 1).toNat, .int .u64 (wd X 2).toNat, .int .u64 (wd X 3).toNat] 25) xbY
        have xt := heap_alloc_new w8 (.cells #[.int .u64 (wd X 0).toNat, .int .u64 (wd X 1).toNat, .int .u64 (wd X 2).toNat, .int .u64 (wd X 3).toNat] 25)
        replace hd := hd.below (below_alloc1 w8 (.cells #[.int .u64 (wd X 0).toNat, .int .u64 (wd X 1).toNat, .int .u64 (wd X 2).toNat, .int .u64 (wd X 3).toNat] 25))
        replace hB := hB.alloc hB.size (.cells #[.int .u64 (wd X 0).toNat, .int .u64 (wd X 1).toNat, .int .u64 (wd X 2).toNat, .int .u64 (wd X 3).toNat] 25)
        obtain ⟨bX0, bX1, bX2, bX3, -⟩ := now4 xbX rfl
        obtain ⟨bY0, bY1, bY2, bY3, -⟩ := now4 xbY rfl
        obtain ⟨t0, t1, t2, t3, -⟩ := now4 xt rfl
        have HT := bset_any hd x x0
        rw [setOf_eq ho (low_and Y lX) xs] at HT
        unfold sv wv at HT
        clear fs2 xs
        go_wp2_with fail
        refine HT.mono ?_
        rintro e w9 ⟨rfl, hb⟩
        clear bX0 bX1 bX2 bX3 bY0 bY1 bY2 bY3 t0 t1 t2 t3
        clear HT
        replace xbX := keep_blk hb xbX
        replace xbY := keep_blk hb xbY
        replace xt := keep_blk hb xt
        replace hB := hB.trans (hb.mono hB.size)
        replace hd := hd.below hb
        clear hb
        go_upto_region 17 with (fail)
        replace xbX := keep_alloc (x := .cells #[.int .u64 (wd (X &&& Y) 0).toNat, .int .u64 (wd (X &&& Y) 1).toNat, .int .u64 (wd (X &&& Y) 2).toNat, .int .u64 (wd (X &&& Y) 3).toNat] 25) xbX
        replace xbY := keep_alloc (x := .cells #[.int .u64 (wd (X &&& Y) 0).toNat, .int .u64 (wd (X &&& Y) 1).toNat, .int .u64 (wd (X &&& Y) 2).toNat, .int .u64 (wd (X &&& Y) 3).toNat] 25) xbY
        replace xt := keep_alloc (x := .cells #[.int .u64 (wd (X &&& Y) 0).toNat, .int .u64 (wd (X &&& Y) 1).toNat, .int .u64 (wd (X &&& Y) 2).toNat, .int .u64 (wd (X &&& Y) 3).toNat] 25) xt
        have xy := heap_alloc_new w9 (.cells #[.int .u64 (wd (X &&& Y) 0).toNat, .int .u64 (wd (X &&& Y) 1).toNat, .int .u64 (wd (X &&& Y) 2).toNat, .int .u64 (wd (X &&& Y) 3).toNat] 25)
        replace hd := hd.below (below_alloc1 w9 (.cells #[.int .u64 (wd (X &&& Y) 0).toNat, .int .u64 (wd (X &&& Y) 1).toNat, .int .u64 (wd (X &&& Y) 2).toNat, .int .u64 (wd (X &&& Y) 3).toNat] 25))
        replace hB := hB.alloc hB.size (.cells #[.int .u64 (wd (X &&& Y) 0).toNat, .int .u64 (wd (X &&& Y) 1).toNat, .int .u64 (wd (X &&& Y) 2).toNat, .int .u64 (wd (X &&& Y) 3).toNat] 25)
        generalize w9.alloc (.cells #[.int .u64 (wd (X &&& Y) 0).toNat, .int .u64 (wd (X &&& Y) 1).toNat, .int .u64 (wd (X &&& Y) 2).toNat, .int .u64 (wd (X &&& Y) 3).toNat] 25) = W at *
        have HA := fun y : After W => and_any X Y y.1
        unfold sv wv at HA
        obtain ⟨bX0, bX1, bX2, bX3, -⟩ := box4 xbX rfl
        obtain ⟨bY0, bY1, bY2, bY3, -⟩ := box4 xbY rfl
        obtain ⟨t0, t1, t2, t3, -⟩ := box4 xt rfl
        obtain ⟨y0, y1, y2, y3, -⟩ := box4 xy rfl
        refine wp_region_after (by kernel_rfl) (by kernel_rfl) ?_
        repeat (first | go_big_quiet_step (first | (go_at_call 22; exact Calls.after_of (HA _)) | (go_at_call 7; exact Calls.after_of (HK _))))
        refine wpQuiet_nil ?_
        intro z
        have hBz := hB.trans (z.2.mono hB.size)
        clear HA bX0 bX1 bX2 bX3 bY0 bY1 bY2 bY3 t0 t1 t2 t3 y0 y1 y2 y3
        go_wp2
        go_ret
        exact ⟨rfl, hBz⟩
      · clear hO hV
        have HT := bset_any hd f f2
        rw [setOf_eq ho lX fs2] at HT
        unfold sv wv at HT
        obtain ⟨bX0, bX1, bX2, bX3, -⟩ := now4 xbX rfl
        obtain ⟨bY0, bY1, bY2, bY3, -⟩ := now4 xbY rfl
        go_wp2_with fail
        refine HT.mono ?_
        rintro e w8 ⟨rfl, hb⟩
        clear bX0 bX1 bX2 bX3 bY0 bY1 bY2 bY3
        clear HT
        replace xbX := keep_blk hb xbX
        replace xbY := keep_blk hb xbY
        replace hB := hB.trans (hb.mono hB.size)
        replace hd := hd.below hb
        clear hb
        replace xbX := keep_alloc (x := .cells #[.int .u64 (wd X 0).toNat, .int .u64 (wd X 1).toNat, .int .u64 (wd X 2).toNat, .int .u64 (wd X 3).toNat] 25) xbX
        replace xbY := keep_alloc (x := .cells #[.int .u64 (wd X 0).toNat, .int .u64 (wd X 1).toNat, .int .u64 (wd X 2).toNat, .int .u64 (wd X 3).toNat] 25) xbY
        have xt := heap_alloc_new w8 (.cells #[.int .u64 (wd X 0).toNat, .int .u64 (wd X 1).toNat, .int .u64 (wd X 2).toNat, .int .u64 (wd X 3).toNat] 25)
        replace hd := hd.below (below_alloc1 w8 (.cells #[.int .u64 (wd X 0).toNat, .int .u64 (wd X 1).toNat, .int .u64 (wd X 2).toNat, .int .u64 (wd X 3).toNat] 25))
        replace hB := hB.alloc hB.size (.cells #[.int .u64 (wd X 0).toNat, .int .u64 (wd X 1).toNat, .int .u64 (wd X 2).toNat, .int .u64 (wd X 3).toNat] 25)
        obtain ⟨bX0, bX1, bX2, bX3, -⟩ := now4 xbX rfl
        obtain ⟨bY0, bY1, bY2, bY3, -⟩ := now4 xbY rfl
        obtain ⟨t0, t1, t2, t3, -⟩ := now4 xt rfl
        go_wp2_with fail
        refine (HK _).mono ?_
        rintro e w9 ⟨rfl, hb⟩
        clear bX0 bX1 bX2 bX3 bY0 bY1 bY2 bY3 t0 t1 t2 t3
        go_wp2
        go_ret
        exact ⟨rfl, hB.trans (hb.mono hB.size)⟩
    · clear hO
      have g0 : 0 ≤ lvl S2 0 := by rw [lvl_end (.inl rfl)]; decide
      have HO := band_any hd f 0 f1 g0
      have hV := hd.rst.vst
      obtain ⟨bX0, bX1, bX2, bX3, -⟩ := now4 xbX rfl
      obtain ⟨bY0, bY1, bY2, bY3, -⟩ := now4 xbY rfl
      go_wp2_with fail
      refine HO.mono ?_
      rintro e w7 ⟨v7, full7, S3, x, er, rfl, hd2, hb, hk, hO⟩
      clear bX0 bX1 bX2 bX3 bY0 bY1 bY2 bY3
      clear HO
      obtain ⟨f2, fs2⟩ := says_on hV hO.ext f1 fs1
      replace xbX := hk.cells _ _ _ _ xbX (by decide) (by decide)
      replace xbY := hk.cells _ _ _ _ xbY (by decide) (by decide)
      replace hB := hB.trans (hb.mono hlow)
      clear hb
      replace hd := hd2
      rcases hO.kind with rfl | ⟨rfl, rfl⟩
      · clear hO hV
        have HT := bset_any hd f f2
        rw [setOf_eq ho lX fs2] at HT
        unfold sv wv at HT
        obtain ⟨bX0, bX1, bX2, bX3, -⟩ := now4 xbX rfl
        obtain ⟨bY0, bY1, bY2, bY3, -⟩ := now4 xbY rfl
        go_wp2_with fail
        refine HT.mono ?_
        rintro e w8 ⟨rfl, hb⟩
        clear bX0 bX1 bX2 bX3 bY0 bY1 bY2 bY3
        clear HT
        replace xbX := keep_blk hb xbX
        replace xbY := keep_blk hb xbY
        replace hB := hB.trans (hb.mono hB.size)
        replace hd := hd.below hb
        clear hb
        replace xbX := keep_alloc (x := .cells #[.int .u64 (wd X 0).toNat, .int .u64 (wd X 1).toNat, .int .u64 (wd X 2).toNat, .int .u64 (wd X 3).toNat] 25) xbX
        replace xbY := keep_alloc (x := .cells #[.int .u64 (wd X 0).toNat, .int .u64 (wd X 1).toNat, .int .u64 (wd X 2).toNat, .int .u64 (wd X 3).toNat] 25) xbY
        have xt := heap_alloc_new w8 (.cells #[.int .u64 (wd X 0).toNat, .int .u64 (wd X 1).toNat, .int .u64 (wd X 2).toNat, .int .u64 (wd X 3).toNat] 25)
        replace hd := hd.below (below_alloc1 w8 (.cells #[.int .u64 (wd X 0).toNat, .int .u64 (wd X 1).toNat, .int .u64 (wd X 2).toNat, .int .u64 (wd X 3).toNat] 25))
        replace hB := hB.alloc hB.size (.cells #[.int .u64 (wd X 0).toNat, .int .u64 (wd X 1).toNat, .int .u64 (wd X 2).toNat, .int .u64 (wd X 3).toNat] 25)
        obtain ⟨bX0, bX1, bX2, bX3, -⟩ := now4 xbX rfl
        obtain ⟨bY0, bY1, bY2, bY3, -⟩ := now4 xbY rfl
        obtain ⟨t0, t1, t2, t3, -⟩ := now4 xt rfl
        go_wp2_with fail
        refine (HK _).mono ?_
        rintro e w9 ⟨rfl, hb⟩
        clear bX0 bX1 bX2 bX3 bY0 bY1 bY2 bY3 t0 t1 t2 t3
        go_wp2
        go_ret
        exact ⟨rfl, hB.trans (hb.mono hB.size)⟩
      · clear hO hV
        have HT := bset_any hd f f2
        rw [setOf_eq ho lX fs2] at HT
        unfold sv wv at HT
        obtain ⟨bX0, bX1, bX2, bX3, -⟩ := now4 xbX rfl
        obtain ⟨bY0, bY1, bY2, bY3, -⟩ := now4 xbY rfl
        go_wp2_with fail
        refine HT.mono ?_
        rintro e w8 ⟨rfl, hb⟩
        clear bX0 bX1 bX2 bX3 bY0 bY1 bY2 bY3
        clear HT
        replace xbX := keep_blk hb xbX
        replace xbY := keep_blk hb xbY
        replace hB := hB.trans (hb.mono hB.size)
        replace hd := hd.below hb
        clear hb
        replace xbX := keep_alloc (x := .cells #[.int .u64 (wd X 0).toNat, .int .u64 (wd X 1).toNat, .int .u64 (wd X 2).toNat, .int .u64 (wd X 3).toNat] 25) xbX
        replace xbY := keep_alloc (x := .cells #[.int .u64 (wd X 0).toNat, .int .u64 (wd X 1).toNat, .int .u64 (wd X 2).toNat, .int .u64 (wd X 3).toNat] 25) xbY
        have xt := heap_alloc_new w8 (.cells #[.int .u64 (wd X 0).toNat, .int .u64 (wd X 1).toNat, .int .u64 (wd X 2).toNat, .int .u64 (wd X 3).toNat] 25)
        replace hd := hd.below (below_alloc1 w8 (.cells #[.int .u64 (wd X 0).toNat, .int .u64 (wd X 1).toNat, .int .u64 (wd X 2).toNat, .int .u64 (wd X 3).toNat] 25))
        replace hB := hB.alloc hB.size (.cells #[.int .u64 (wd X 0).toNat, .int .u64 (wd X 1).toNat, .int .u64 (wd X 2).toNat, .int .u64 (wd X 3).toNat] 25)
        obtain ⟨bX0, bX1, bX2, bX3, -⟩ := now4 xbX rfl
        obtain ⟨bY0, bY1, bY2, bY3, -⟩ := now4 xbY rfl
        obtain ⟨t0, t1, t2, t3, -⟩ := now4 xt rfl
        go_wp2_with fail
        refine (HK _).mono ?_
        rintro e w9 ⟨rfl, hb⟩
        clear bX0 bX1 bX2 bX3 bY0 bY1 bY2 bY3 t0 t1 t2 t3
        go_wp2
        go_ret
        exact ⟨rfl, hB.trans (hb.mono hB.size)⟩
  · have hgt : (n : Int) < (sizeB (setF o X) o.length o.length : Int) := by
      have := (hO.2 trivial (Need.nil _ _)).2 rfl
      omega
    replace HRz := HRz w5 hB
    generalize sizeB (setF o X) o.length o.length = nz at *
    clear hO hV hd hd2
    obtain ⟨bX0, bX1, bX2, bX3, -⟩ := now4 xbX rfl
    obtain ⟨bY0, bY1, bY2, bY3, -⟩ := now4 xbY rfl
    go_wp2_with fail
    refine HRz.mono ?_
    rintro e w6 ⟨rfl, hb⟩
    clear bX0 bX1 bX2 bX3 bY0 bY1 bY2 bY3
    clear HRz
    replace xbX := keep_blk hb xbX
    replace xbY := keep_blk hb xbY
    replace hB := hB.trans (hb.mono hB.size)
    clear hb
    go_wp2_with fail
    refine (HK _).mono ?_
    rintro e w7 ⟨rfl, hb⟩
    go_wp2
    go_ret
    exact ⟨rfl, hB.trans (hb.mono hB.size)⟩
end Go.Proofs.Ytbffcnnfkfjpgaa
