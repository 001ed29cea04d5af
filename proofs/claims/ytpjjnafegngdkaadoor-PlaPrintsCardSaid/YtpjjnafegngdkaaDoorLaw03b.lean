/- The statement PlaPrints, walked. -/
import Derived.Test.YtpjjnafegngdkaaDoorLaw03
namespace Go.Proofs.YtpjjnafegngdkaaDoor
open Go.RowKit Go.Joins

theorem heap2_c (w : World) (o1 o2 : Obj) : ((w.alloc o1).alloc o2).heap[w.heap.size]? = some o1 := heap_alloc2_old _ _ _
set_option maxHeartbeats 1000000 in
set_option maxRecDepth 100000 in
theorem plaPrints_great (k i n : Int) (L : Value) (ls : List Ln) (k' i' n' : Int) (L' : Value) (ls' : List Ln) (w : World) (hL : LinesAt w w.heap.size L ls) (hL' : LinesAt w w.heap.size L' ls') (hkw : KW w) (hg : greatL ls = true) :
    Calls Tryd.prog 3 #[tv k i n L, tv k' i' n' L'] w fun e w' => e = .returned (.bool true) ∧ Below w.heap.size w w' := by
  have hB := below_alloc2 w (tb k i n L) (tb k' i' n' L')
  have HG := great_any k i n L ls _ ((hL.below hB).more hB.size)
  rw [hg] at HG
  have hkw0 := hkw.below hB
  obtain ⟨A, c, rfl, hlen, -⟩ := hL
  obtain ⟨A', c', rfl, hlen', -⟩ := hL'
  unfold tv at *
  unfold tb at *
  clear hkw hg
  go_enter Tryd.func3, Tryd.ntmps3
  go_wp2_with fail
  refine HG.mono ?_
  rintro e w1 ⟨rfl, hb1⟩
  have HK := knows3_any w1 (hkw0.below hb1)
  have hB1 := hB.trans (hb1.mono hB.size)
  clear HG hb1 hkw0
  go_wp2_with fail
  refine HK.mono ?_
  rintro e w2 ⟨rfl, hb2⟩
  have hB2 := hB1.trans (hb2.mono hB1.size)
  clear HK
  go_wp2
  go_ret
  exact ⟨rfl, hB2⟩
set_option maxHeartbeats 1000000 in
set_option maxRecDepth 100000 in
theorem plaPrints_great2 (k i n : Int) (L : Value) (ls : List Ln) (k' i' n' : Int) (L' : Value) (ls' : List Ln) (w : World) (hL : LinesAt w w.heap.size L ls) (hL' : LinesAt w w.heap.size L' ls') (hkw : KW w) (hg : greatL ls = false) (hg' : greatL ls' = true) :
    Calls Tryd.prog 3 #[tv k i n L, tv k' i' n' L'] w fun e w' => e = .returned (.bool true) ∧ Below w.heap.size w w' := by
  have hB := below_alloc2 w (tb k i n L) (tb k' i' n' L')
  have HG := great_any k i n L ls _ ((hL.below hB).more hB.size)
  rw [hg] at HG
  have HG' := fun w1 (hb : Below w.heap.size w w1) => great_any k' i' n' L' ls' w1 ((hL'.below hb).more hb.size)
  rw [hg'] at HG'
  have hkw0 := hkw.below hB
  have hbu := heap2_b w (tb k i n L) (tb k' i' n' L')
  obtain ⟨A, c, rfl, hlen, -⟩ := hL
  obtain ⟨A', c', rfl, hlen', -⟩ := hL'
  unfold tv at *
  have hbu' := Lib.hid hbu
  unfold tb at HG hB hkw0 hbu'
  clear hkw hg hg' hbu
  go_enter Tryd.func3, Tryd.ntmps3
  go_wp2_with fail
  refine HG.mono ?_
  rintro e w1 ⟨rfl, hb1⟩
  have hbu1 := keep_blk hb1 hbu'.out
  obtain ⟨u0, u1, u2, u3, -⟩ := nowT hbu1
  have hkw1 := hkw0.below hb1
  have hB1 := hB.trans (hb1.mono hB.size)
  have HG1 := HG' w1 hB1
  clear HG hb1 hkw0 HG' hbu1
  go_wp2_with fail
  refine HG1.mono ?_
  rintro e w2 ⟨rfl, hb2⟩
  have HK := knows3_any w2 (hkw1.below hb2)
  have hB2 := hB1.trans (hb2.mono hB1.size)
  clear HG1 hb2 hkw1
  go_wp2_with fail
  refine HK.mono ?_
  rintro e w3 ⟨rfl, hb3⟩
  have hB3 := hB2.trans (hb3.mono hB2.size)
  clear HK
  go_wp2
  go_ret
  exact ⟨rfl, hB3⟩
set_option maxHeartbeats 2000000 in
set_option maxRecDepth 100000 in
theorem plaPrints_no (k i n : Int) (L : Value) (ls : List Ln) (k' i' n' : Int) (L' : Value) (ls' : List Ln) (w : World) (hL : LinesAt w w.heap.size L ls) (hL' : LinesAt w w.heap.size L' ls') (hkw : KW w) (hg : greatL ls = false) (hg' : greatL ls' = false) (hr : rightT ⟨k, i, n, ls⟩ = false) :
    Calls Tryd.prog 3 #[tv k i n L, tv k' i' n' L'] w fun e w' => e = .returned (.bool true) ∧ Below w.heap.size w w' := by
  have hB := below_alloc2 w (tb k i n L) (tb k' i' n' L')
  have HG := great_any k i n L ls _ ((hL.below hB).more hB.size)
  rw [hg] at HG
  have HG' := fun w1 (hb : Below w.heap.size w w1) => great_any k' i' n' L' ls' w1 ((hL'.below hb).more hb.size)
  rw [hg'] at HG'
  have HP := fun w1 (hb : Below w.heap.size w w1) => pprint_no k i n L ls w1 ((hL.below hb).more hb.size) hr
  have HR := fun w1 (hb : Below w.heap.size w w1) => rright3_any k i n L ls w1 ((hL.below hb).more hb.size)
  have HR2 := fun w1 (hb : Below w.heap.size w w1) => pright_any k i n L ls w1 ((hL.below hb).more hb.size)
  rw [hr] at HR HR2
  have HS := fun w1 (hb : Below w.heap.size w w1) => psame_any k i n L ls k' i' n' L' ls' w1 ((hL.below hb).more hb.size) ((hL'.below hb).more hb.size)
  have HS2 := fun w1 (hb : Below w.heap.size w w1) => rsame_any k i n L ls k' i' n' L' ls' w1 ((hL.below hb).more hb.size) ((hL'.below hb).more hb.size)
  have hst : (sameT ⟨k, i, n, ls⟩ ⟨k', i', n', ls'⟩ != sameT ⟨k, i, n, ls⟩ ⟨k', i', n', ls'⟩) = false := by simp
  generalize sameT ⟨k, i, n, ls⟩ ⟨k', i', n', ls'⟩ = st at *
  have hkw0 := hkw.below hB
  have hbt := Lib.hid (heap2_c w (tb k i n L) (tb k' i' n' L'))
  have hbu := Lib.hid (heap2_b w (tb k i n L) (tb k' i' n' L'))
  obtain ⟨A, c, rfl, hlen, -⟩ := hL
  obtain ⟨A', c', rfl, hlen', -⟩ := hL'
  unfold tv at *
  unfold tb at HG hB hkw0 hbt hbu
  clear hkw hg hg' hr
  go_enter Tryd.func3, Tryd.ntmps3
  go_wp2_with fail
  refine HG.mono ?_
  rintro e w1 ⟨rfl, hb1⟩
  have hbt1 := Lib.hid (keep_blk hb1 hbt.out)
  have hbu1 := Lib.hid (keep_blk hb1 hbu.out)
  obtain ⟨u0, u1, u2, u3, -⟩ := nowT hbu1.out
  have hkw1 := hkw0.below hb1
  have hB1 := hB.trans (hb1.mono hB.size)
  have HG1 := HG' w1 hB1
  clear HG hb1 hkw0 HG' hbt hbu hB
  go_wp2_with fail
  refine HG1.mono ?_
  rintro e w2 ⟨rfl, hb2⟩
  have hbt2 := Lib.hid (keep_blk hb2 hbt1.out)
  have hbu2 := Lib.hid (keep_blk hb2 hbu1.out)
  obtain ⟨t0, t1, t2, t3, -⟩ := nowT hbt2.out
  have hkw2 := hkw1.below hb2
  have hB2 := hB1.trans (hb2.mono hB1.size)
  have HP2 := HP w2 hB2
  clear HG1 hb2 hkw1 HP hbt1 hbu1 hB1 u0 u1 u2 u3
  go_wp2_with fail
  refine HP2.mono ?_
  rintro e w3 ⟨rfl, hb3⟩
  have hbt3 := Lib.hid (keep_blk hb3 hbt2.out)
  have hbu3 := Lib.hid (keep_blk hb3 hbu2.out)
  have hkw3 := hkw2.below hb3
  have hB3 := hB2.trans (hb3.mono hB2.size)
  have HR3 := HR w3 hB3
  clear t0 t1 t2 t3
  obtain ⟨t0, t1, t2, t3, -⟩ := nowT hbt3.out
  clear HP2 hb3 hkw2 HR hbt2 hbu2 hB2
  go_wp2_with fail
  refine HR3.mono ?_
  rintro e w4 ⟨rfl, hb4⟩
  have hbt4 := Lib.hid (keep_blk hb4 hbt3.out)
  have hbu4 := Lib.hid (keep_blk hb4 hbu3.out)
  have hkw4 := hkw3.below hb4
  have hB4 := hB3.trans (hb4.mono hB3.size)
  clear t0 t1 t2 t3 HR3 hb4 hkw3 hbt3 hbu3 hB3
  obtain ⟨t0, t1, t2, t3, -⟩ := box4 hbt4.out rfl
  obtain ⟨u0, u1, u2, u3, -⟩ := box4 hbu4.out rfl
  have HRx := fun X : After w4 => HR2 X.1 (hB4.trans (X.2.mono hB4.size))
  have HSx := fun X : After w4 => HS X.1 (hB4.trans (X.2.mono hB4.size))
  have HSy := fun X : After w4 => HS2 X.1 (hB4.trans (X.2.mono hB4.size))
  have HK := fun X : After w4 => knows3_any X.1 (hkw4.below X.2)
  clear HR2 HS HS2 hkw4
  go_wp2_with fail
  refine wp_region_after (by kernel_rfl) (by kernel_rfl) ?_
  repeat (first | go_big_quiet_step ((first | (go_at_call 9; exact Calls.after_of (HRx _)) | (go_at_call 10; exact Calls.after_of (HSx _)) | (go_at_call 11; exact Calls.after_of (HSy _)))))
  refine wpQuiet_nil ?_
  intro X
  have HKX := HK X
  have hBX := hB4.trans (X.2.mono hB4.size)
  clear HK HRx HSx HSy t0 t1 t2 t3 u0 u1 u2 u3 hbt4 hbu4
  go_wp2_with fail
  refine HKX.mono ?_
  rintro e w5 ⟨rfl, hb5⟩
  have hB5 := hBX.trans (hb5.mono hBX.size)
  clear HKX
  go_wp2
  go_ret
  exact ⟨rfl, hB5⟩
end Go.Proofs.YtpjjnafegngdkaaDoor
