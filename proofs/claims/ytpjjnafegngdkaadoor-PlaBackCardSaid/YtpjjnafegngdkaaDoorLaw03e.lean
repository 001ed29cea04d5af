/- The statement PlaBack, walked. -/
import Derived.Test.YtpjjnafegngdkaaDoorLaw03d
namespace Go.Proofs.YtpjjnafegngdkaaDoor
open Go.RowKit Go.Joins

set_option maxHeartbeats 2000000 in
set_option maxRecDepth 100000 in
theorem plaBack_no_bad (k i n : Int) (L : Value) (ls : List Ln) (S : List UInt8) (hS : S.length ≤ 9000) (w : World) (hL : LinesAt w w.heap.size L ls) (hkw : KW w) (hg : greatL ls = false) (hr : rightT ⟨k, i, n, ls⟩ = false) (hpt : parseT S = none) :
    Calls Tryd.prog 4 #[tv k i n L, .string (str S)] w fun e w' => e = .returned (.bool true) ∧ Below w.heap.size w w' := by
  have hB := below_alloc1 w (tb k i n L)
  have HG := great_any k i n L ls _ ((hL.below hB).more hB.size)
  rw [hg] at HG
  have hkw0 := hkw.below hB
  have hbt := Lib.hid (heap2_d w (tb k i n L))
  have hs := size_str S
  have h9 : ¬ (9000 : Int) < ((str S).size : Int) := by omega
  have h9b : (str S).size ≤ 9000 := by omega
  have HPS := fun w1 (hk : KW w1) => parse_any S hS w1 hk
  clear hs hS
  have HP := fun w1 (hb : Below w.heap.size w w1) => pprint_no k i n L ls w1 ((hL.below hb).more hb.size) hr
  obtain ⟨A, c, rfl, hlen, -⟩ := hL
  generalize str S = s at *
  unfold tv at *
  unfold tb at HG hB hkw0
  clear hkw hg hr
  go_enter Tryd.func4, Tryd.ntmps4
  go_wp2_with fail
  refine HG.mono ?_
  rintro e w1 ⟨rfl, hb1⟩
  have hbt1 := Lib.hid (keep_blk hb1 hbt.out)
  obtain ⟨t0, t1, t2, t3, -⟩ := nowT hbt1.out
  have hkw1 := hkw0.below hb1
  have hB1 := hB.trans (hb1.mono hB.size)
  have HP1 := HP w1 hB1
  clear HG hb1 hkw0 hbt hB HP
  go_wp2_with fail
  refine HP1.mono ?_
  rintro e w2 ⟨rfl, hb2⟩
  have hkw2 := hkw1.below hb2
  have hB2 := hB1.trans (hb2.mono hB1.size)
  clear HP1 hb2 hkw1 hB1 hbt1 t0 t1 t2 t3
  have HS2 := HPS w2 hkw2
  clear HPS
  go_wp2_with fail
  refine HS2.mono ?_
  clear HS2
  intro e w3 hX
  obtain ⟨hb3, ⟨u, LL, hu, rfl, hLL⟩ | ⟨hu, hE, rfl⟩⟩ := hX
  · rw [hpt] at hu; cases hu
  have hxb : ((parseE S).2 != 0) = true := by rw [bne_iff_ne]; exact hE
  generalize (parseE S).1 = e1 at *
  generalize (parseE S).2 = e2 at *
  clear hE hu hpt
  have hB3 := hB2.trans (hb3.mono hB2.size)
  have hB3a := hB3.alloc hB3.size (tb 0 0 0 (.slice none 0 0))
  have hkw3 := (hkw2.below hb3).below (below_alloc1 w3 (tb 0 0 0 (.slice none 0 0)))
  have HZ := rsame_any 0 0 0 (.slice none 0 0) [] 0 0 0 (.slice none 0 0) [] (w3.alloc (tb 0 0 0 (.slice none 0 0))) ⟨none, 0, rfl, by decide, fun h => absurd h (by decide)⟩ ⟨none, 0, rfl, by decide, fun h => absurd h (by decide)⟩
  rw [(sameT_iff ⟨0, 0, 0, []⟩ _).2 rfl] at HZ
  clear hb3 hkw2 hB2 hB3
  unfold tv
  unfold tv at HZ
  unfold tb at HZ hB3a hkw3
  go_wp2_with fail
  refine HZ.mono ?_
  rintro e w4 ⟨rfl, hb4⟩
  have hkw4 := hkw3.below hb4
  have hB4 := hB3a.trans (hb4.mono hB3a.size)
  clear HZ hb4
  have HK5 := knows3_any w4 hkw4
  go_wp2_with fail
  refine HK5.mono ?_
  rintro e w5 ⟨rfl, hb5⟩
  have hB5 := hB4.trans (hb5.mono hB4.size)
  clear HK5
  go_wp2
  go_ret
  exact ⟨rfl, hB5⟩
set_option maxHeartbeats 2000000 in
set_option maxRecDepth 100000 in
theorem plaBack_no_ok (k i n : Int) (L : Value) (ls : List Ln) (S : List UInt8) (hS : S.length ≤ 9000) (w : World) (hL : LinesAt w w.heap.size L ls) (hkw : KW w) (hg : greatL ls = false) (hr : rightT ⟨k, i, n, ls⟩ = false) (K2 I2 N2 : Nat) (ls2 : List Ln) (hpt : parseT S = some ⟨K2, I2, N2, ls2⟩) (hrt : rightT ⟨K2, I2, N2, ls2⟩ = true) :
    Calls Tryd.prog 4 #[tv k i n L, .string (str S)] w fun e w' => e = .returned (.bool true) ∧ Below w.heap.size w w' := by
  have hB := below_alloc1 w (tb k i n L)
  have HG := great_any k i n L ls _ ((hL.below hB).more hB.size)
  rw [hg] at HG
  have hkw0 := hkw.below hB
  have hbt := Lib.hid (heap2_d w (tb k i n L))
  have hs := size_str S
  have h9 : ¬ (9000 : Int) < ((str S).size : Int) := by omega
  have h9b : (str S).size ≤ 9000 := by omega
  have HPS := fun w1 (hk : KW w1) => parse_any S hS w1 hk
  clear hs hS
  have HP := fun w1 (hb : Below w.heap.size w w1) => pprint_no k i n L ls w1 ((hL.below hb).more hb.size) hr
  obtain ⟨A, c, rfl, hlen, -⟩ := hL
  generalize str S = s at *
  unfold tv at *
  unfold tb at HG hB hkw0
  clear hkw hg hr
  go_enter Tryd.func4, Tryd.ntmps4
  go_wp2_with fail
  refine HG.mono ?_
  rintro e w1 ⟨rfl, hb1⟩
  have hbt1 := Lib.hid (keep_blk hb1 hbt.out)
  obtain ⟨t0, t1, t2, t3, -⟩ := nowT hbt1.out
  have hkw1 := hkw0.below hb1
  have hB1 := hB.trans (hb1.mono hB.size)
  have HP1 := HP w1 hB1
  clear HG hb1 hkw0 hbt hB HP
  go_wp2_with fail
  refine HP1.mono ?_
  rintro e w2 ⟨rfl, hb2⟩
  have hkw2 := hkw1.below hb2
  have hB2 := hB1.trans (hb2.mono hB1.size)
  clear HP1 hb2 hkw1 hB1 hbt1 t0 t1 t2 t3
  have HS2 := HPS w2 hkw2
  clear HPS
  go_wp2_with fail
  refine HS2.mono ?_
  clear HS2
  intro e w3 hX
  obtain ⟨hb3, ⟨u, LL, hu, rfl, hLL⟩ | ⟨hu, hE, rfl⟩⟩ := hX
  case inr => rw [hpt] at hu; cases hu
  rw [hpt] at hu
  cases hu
  dsimp only at hLL
  have hLL0 := hLL
  obtain ⟨A5, c5, rfl, hlen5, -⟩ := hLL
  have hB3 := hB2.trans (hb3.mono hB2.size)
  have hB3a := hB3.alloc hB3.size (tb K2 I2 N2 (.slice A5 ls2.length c5))
  have hA3 := below_alloc1 w3 (tb K2 I2 N2 (.slice A5 ls2.length c5))
  have hkw3 := (hkw2.below hb3).below hA3
  have hL3 := (hLL0.below hA3).more hA3.size
  have HQ := pprint_yes K2 I2 N2 (.slice A5 ls2.length c5) ls2 _ hL3 hrt hkw3
  have HB5 := fun w1 (hk : KW w1) => back_parse hrt w1 hk
  have hst := Lib.hid ((sameT_iff (⟨K2, I2, N2, ls2⟩ : Tb) _).2 rfl)
  have HR5 := fun w1 h1 A6 c6 h2 => rsame_any K2 I2 N2 (.slice A5 ls2.length c5) ls2 K2 I2 N2 (.slice A6 ls2.length c6) ls2 w1 h1 h2
  rw [hst.out] at HR5
  dsimp only at HB5
  generalize str (textT ⟨K2, I2, N2, ls2⟩) = ty at *
  have hbx := Lib.hid (heap2_d w3 (tb K2 I2 N2 (.slice A5 ls2.length c5)))
  clear hb3 hkw2 hB2 hB3 hrt hpt hst hA3 hLL0
  unfold tv
  unfold tv at HQ HR5
  unfold tb at HQ hB3a hkw3 hL3
  go_wp2_with fail
  refine HQ.mono ?_
  rintro e w4 ⟨rfl, hb4⟩
  have hkw4 := hkw3.below hb4
  have hB4 := hB3a.trans (hb4.mono hB3a.size)
  have hbx4 := Lib.hid (keep_blk hb4 hbx.out)
  have hL4 := (hL3.below hb4).more hb4.size
  have HB4 := HB5 w4 hkw4
  clear HQ hb4 hkw3 hB3a hbx hL3 HB5
  go_wp2_with fail
  refine HB4.mono ?_
  rintro e w5 ⟨hb5, A6, c6, rfl, hLy⟩
  have hbx5 := Lib.hid (keep_alloc (x := tb K2 I2 N2 (.slice A6 ls2.length c6)) (keep_blk hb5 hbx4.out))
  have hB5 := hB4.trans (hb5.mono hB4.size)
  have hB5a := hB5.alloc hB5.size (tb K2 I2 N2 (.slice A6 ls2.length c6))
  have hAy := below_alloc1 w5 (tb K2 I2 N2 (.slice A6 ls2.length c6))
  have hL5 := (((hL4.below hb5).more hb5.size).below hAy).more hAy.size
  have HR6 := HR5 _ hL5 A6 c6 ((hLy.below hAy).more hAy.size)
  have hkw5 := (hkw4.below hb5).below hAy
  obtain ⟨t0, t1, t2, t3, -⟩ := nowT hbx5.out
  clear HB4 hb5 hkw4 hB4 hB5 hbx4 hbx5 hL4 hL5 hLy HR5 hAy
  unfold tb at HR6 hB5a hkw5 t0 t1 t2 t3
  go_wp2_with fail
  refine HR6.mono ?_
  rintro e w6 ⟨rfl, hb6⟩
  have hkw6 := hkw5.below hb6
  have hB6 := hB5a.trans (hb6.mono hB5a.size)
  clear HR6 hb6 t0 t1 t2 t3
  have HK7 := knows3_any w6 hkw6
  go_wp2_with fail
  refine HK7.mono ?_
  rintro e w7 ⟨rfl, hb7⟩
  have hB7 := hB6.trans (hb7.mono hB6.size)
  clear HK7
  go_wp2
  go_ret
  exact ⟨rfl, hB7⟩
set_option maxHeartbeats 2000000 in
set_option maxRecDepth 100000 in
theorem plaBack_yes_bad (k i n : Nat) (L : Value) (ls : List Ln) (S : List UInt8) (hS : S.length ≤ 9000) (w : World) (hL : LinesAt w w.heap.size L ls) (hkw : KW w) (hg : greatL ls = false) (hr : rightT ⟨k, i, n, ls⟩ = true) (hpt : parseT S = none) :
    Calls Tryd.prog 4 #[tv k i n L, .string (str S)] w fun e w' => e = .returned (.bool true) ∧ Below w.heap.size w w' := by
  have hB := below_alloc1 w (tb k i n L)
  have HG := great_any k i n L ls _ ((hL.below hB).more hB.size)
  rw [hg] at HG
  have hkw0 := hkw.below hB
  have hbt := Lib.hid (heap2_d w (tb k i n L))
  have hs := size_str S
  have h9 : ¬ (9000 : Int) < ((str S).size : Int) := by omega
  have h9b : (str S).size ≤ 9000 := by omega
  have HPS := fun w1 (hk : KW w1) => parse_any S hS w1 hk
  clear hs hS
  have HP := fun w1 (hb : Below w.heap.size w w1) (hk : KW w1) => pprint_yes k i n L ls w1 ((hL.below hb).more hb.size) hr hk
  have HB := fun w1 (hk : KW w1) => back_parse hr w1 hk
  have HR := fun w1 (hb : Below w.heap.size w w1) A2 c2 (hL2 : LinesAt w1 w1.heap.size (.slice A2 ls.length c2) ls) => rsame_any k i n L ls k i n (.slice A2 ls.length c2) ls w1 ((hL.below hb).more hb.size) hL2
  rw [(sameT_iff ⟨k, i, n, ls⟩ _).2 rfl] at HR
  dsimp only at HB
  generalize str (textT ⟨k, i, n, ls⟩) = tx at *
  obtain ⟨A, c, rfl, hlen, -⟩ := hL
  generalize str S = s at *
  unfold tv at *
  unfold tb at HG hB hkw0
  clear hkw hg hr
  go_enter Tryd.func4, Tryd.ntmps4
  go_wp2_with fail
  refine HG.mono ?_
  rintro e w1 ⟨rfl, hb1⟩
  have hbt1 := Lib.hid (keep_blk hb1 hbt.out)
  obtain ⟨t0, t1, t2, t3, -⟩ := nowT hbt1.out
  have hkw1 := hkw0.below hb1
  have hB1 := hB.trans (hb1.mono hB.size)
  have HP1 := HP w1 hB1 hkw1
  clear HG hb1 hkw0 hbt hB HP
  go_wp2_with fail
  refine HP1.mono ?_
  rintro e w2 ⟨rfl, hb2⟩
  have hkw2 := hkw1.below hb2
  have hB2 := hB1.trans (hb2.mono hB1.size)
  have hbt2 := Lib.hid (keep_blk hb2 hbt1.out)
  have HB2 := HB w2 hkw2
  clear HP1 hb2 hkw1 hB1 hbt1 t0 t1 t2 t3 HB
  go_wp2_with fail
  refine HB2.mono ?_
  rintro e w3 ⟨hb3, A2, c2, rfl, hL3⟩
  have hbt3 := Lib.hid (keep_alloc (x := tb k i n (.slice A2 ls.length c2)) (keep_blk hb3 hbt2.out))
  have hB3 := hB2.trans (hb3.mono hB2.size)
  have hB3a := hB3.alloc hB3.size (tb k i n (.slice A2 ls.length c2))
  have hA3 := below_alloc1 w3 (tb k i n (.slice A2 ls.length c2))
  have HR3 := HR _ hB3a A2 c2 ((hL3.below hA3).more hA3.size)
  have hkw3 := (hkw2.below hb3).below hA3
  obtain ⟨t0, t1, t2, t3, -⟩ := nowT hbt3.out
  clear HB2 hb3 hbt2 hB2 hkw2 hL3 hB3 hbt3 HR hA3
  unfold tb at HR3 hB3a hkw3 t0 t1 t2 t3
  go_wp2_with fail
  refine HR3.mono ?_
  rintro e w4 ⟨rfl, hb4⟩
  have hkw4 := hkw3.below hb4
  have hB4 := hB3a.trans (hb4.mono hB3a.size)
  clear HR3 hb4 hkw3 hB3a t0 t1 t2 t3
  have HS4 := HPS w4 hkw4
  clear HPS
  go_wp2_with fail
  refine HS4.mono ?_
  clear HS4
  intro e w5 hX
  obtain ⟨hb5, ⟨u, LL, hu, rfl, hLL⟩ | ⟨hu, hE, rfl⟩⟩ := hX
  · rw [hpt] at hu; cases hu
  have hxb : ((parseE S).2 != 0) = true := by rw [bne_iff_ne]; exact hE
  generalize (parseE S).1 = e1 at *
  generalize (parseE S).2 = e2 at *
  clear hE hu hpt
  have hB5 := hB4.trans (hb5.mono hB4.size)
  have hB5a := hB5.alloc hB5.size (tb 0 0 0 (.slice none 0 0))
  have hkw5 := (hkw4.below hb5).below (below_alloc1 w5 (tb 0 0 0 (.slice none 0 0)))
  have HZ := rsame_any 0 0 0 (.slice none 0 0) [] 0 0 0 (.slice none 0 0) [] (w5.alloc (tb 0 0 0 (.slice none 0 0))) ⟨none, 0, rfl, by decide, fun h => absurd h (by decide)⟩ ⟨none, 0, rfl, by decide, fun h => absurd h (by decide)⟩
  rw [(sameT_iff ⟨0, 0, 0, []⟩ _).2 rfl] at HZ
  clear hb5 hkw4 hB4 hB5
  unfold tv
  unfold tv at HZ
  unfold tb at HZ hB5a hkw5
  go_wp2_with fail
  refine HZ.mono ?_
  rintro e w6 ⟨rfl, hb6⟩
  have hkw6 := hkw5.below hb6
  have hB6 := hB5a.trans (hb6.mono hB5a.size)
  clear HZ hb6
  have HK7 := knows3_any w6 hkw6
  go_wp2_with fail
  refine HK7.mono ?_
  rintro e w7 ⟨rfl, hb7⟩
  have hB7 := hB6.trans (hb7.mono hB6.size)
  clear HK7
  go_wp2
  go_ret
  exact ⟨rfl, hB7⟩
set_option maxHeartbeats 2000000 in
set_option maxRecDepth 100000 in
theorem plaBack_yes_ok (k i n : Nat) (L : Value) (ls : List Ln) (S : List UInt8) (hS : S.length ≤ 9000) (w : World) (hL : LinesAt w w.heap.size L ls) (hkw : KW w) (hg : greatL ls = false) (hr : rightT ⟨k, i, n, ls⟩ = true) (K2 I2 N2 : Nat) (ls2 : List Ln) (hpt : parseT S = some ⟨K2, I2, N2, ls2⟩) (hrt : rightT ⟨K2, I2, N2, ls2⟩ = true) :
    Calls Tryd.prog 4 #[tv k i n L, .string (str S)] w fun e w' => e = .returned (.bool true) ∧ Below w.heap.size w w' := by
  have hB := below_alloc1 w (tb k i n L)
  have HG := great_any k i n L ls _ ((hL.below hB).more hB.size)
  rw [hg] at HG
  have hkw0 := hkw.below hB
  have hbt := Lib.hid (heap2_d w (tb k i n L))
  have hs := size_str S
  have h9 : ¬ (9000 : Int) < ((str S).size : Int) := by omega
  have h9b : (str S).size ≤ 9000 := by omega
  have HPS := fun w1 (hk : KW w1) => parse_any S hS w1 hk
  clear hs hS
  have HP := fun w1 (hb : Below w.heap.size w w1) (hk : KW w1) => pprint_yes k i n L ls w1 ((hL.below hb).more hb.size) hr hk
  have HB := fun w1 (hk : KW w1) => back_parse hr w1 hk
  have HR := fun w1 (hb : Below w.heap.size w w1) A2 c2 (hL2 : LinesAt w1 w1.heap.size (.slice A2 ls.length c2) ls) => rsame_any k i n L ls k i n (.slice A2 ls.length c2) ls w1 ((hL.below hb).more hb.size) hL2
  rw [(sameT_iff ⟨k, i, n, ls⟩ _).2 rfl] at HR
  dsimp only at HB
  generalize str (textT ⟨k, i, n, ls⟩) = tx at *
  obtain ⟨A, c, rfl, hlen, -⟩ := hL
  generalize str S = s at *
  unfold tv at *
  unfold tb at HG hB hkw0
  clear hkw hg hr
  go_enter Tryd.func4, Tryd.ntmps4
  go_wp2_with fail
  refine HG.mono ?_
  rintro e w1 ⟨rfl, hb1⟩
  have hbt1 := Lib.hid (keep_blk hb1 hbt.out)
  obtain ⟨t0, t1, t2, t3, -⟩ := nowT hbt1.out
  have hkw1 := hkw0.below hb1
  have hB1 := hB.trans (hb1.mono hB.size)
  have HP1 := HP w1 hB1 hkw1
  clear HG hb1 hkw0 hbt hB HP
  go_wp2_with fail
  refine HP1.mono ?_
  rintro e w2 ⟨rfl, hb2⟩
  have hkw2 := hkw1.below hb2
  have hB2 := hB1.trans (hb2.mono hB1.size)
  have hbt2 := Lib.hid (keep_blk hb2 hbt1.out)
  have HB2 := HB w2 hkw2
  clear HP1 hb2 hkw1 hB1 hbt1 t0 t1 t2 t3 HB
  go_wp2_with fail
  refine HB2.mono ?_
  rintro e w3 ⟨hb3, A2, c2, rfl, hL3⟩
  have hbt3 := Lib.hid (keep_alloc (x := tb k i n (.slice A2 ls.length c2)) (keep_blk hb3 hbt2.out))
  have hB3 := hB2.trans (hb3.mono hB2.size)
  have hB3a := hB3.alloc hB3.size (tb k i n (.slice A2 ls.length c2))
  have hA3 := below_alloc1 w3 (tb k i n (.slice A2 ls.length c2))
  have HR3 := HR _ hB3a A2 c2 ((hL3.below hA3).more hA3.size)
  have hkw3 := (hkw2.below hb3).below hA3
  obtain ⟨t0, t1, t2, t3, -⟩ := nowT hbt3.out
  clear HB2 hb3 hbt2 hB2 hkw2 hL3 hB3 hbt3 HR hA3
  unfold tb at HR3 hB3a hkw3 t0 t1 t2 t3
  go_wp2_with fail
  refine HR3.mono ?_
  rintro e w4 ⟨rfl, hb4⟩
  have hkw4 := hkw3.below hb4
  have hB4 := hB3a.trans (hb4.mono hB3a.size)
  clear HR3 hb4 hkw3 hB3a t0 t1 t2 t3
  have HS4 := HPS w4 hkw4
  clear HPS
  go_wp2_with fail
  refine HS4.mono ?_
  clear HS4
  intro e w5 hX
  obtain ⟨hb5, ⟨u, LL, hu, rfl, hLL⟩ | ⟨hu, hE, rfl⟩⟩ := hX
  case inr => rw [hpt] at hu; cases hu
  rw [hpt] at hu
  cases hu
  dsimp only at hLL
  have hLL0 := hLL
  obtain ⟨A5, c5, rfl, hlen5, -⟩ := hLL
  have hB5 := hB4.trans (hb5.mono hB4.size)
  have hB5a := hB5.alloc hB5.size (tb K2 I2 N2 (.slice A5 ls2.length c5))
  have hA5 := below_alloc1 w5 (tb K2 I2 N2 (.slice A5 ls2.length c5))
  have hkw5 := (hkw4.below hb5).below hA5
  have hL5 := (hLL0.below hA5).more hA5.size
  have HQ := pprint_yes K2 I2 N2 (.slice A5 ls2.length c5) ls2 _ hL5 hrt hkw5
  have HB5 := fun w1 (hk : KW w1) => back_parse hrt w1 hk
  have hst := Lib.hid ((sameT_iff (⟨K2, I2, N2, ls2⟩ : Tb) _).2 rfl)
  have HR5 := fun w1 h1 A6 c6 h2 => rsame_any K2 I2 N2 (.slice A5 ls2.length c5) ls2 K2 I2 N2 (.slice A6 ls2.length c6) ls2 w1 h1 h2
  rw [hst.out] at HR5
  dsimp only at HB5
  generalize str (textT ⟨K2, I2, N2, ls2⟩) = ty at *
  have hbx := Lib.hid (heap2_d w5 (tb K2 I2 N2 (.slice A5 ls2.length c5)))
  clear hb5 hkw4 hB4 hB5 hrt hpt hst hA5 hLL0
  unfold tv
  unfold tv at HQ HR5
  unfold tb at HQ hB5a hkw5 hL5
  go_wp2_with fail
  refine HQ.mono ?_
  rintro e w6 ⟨rfl, hb6⟩
  have hkw6 := hkw5.below hb6
  have hB6 := hB5a.trans (hb6.mono hB5a.size)
  have hbx6 := Lib.hid (keep_blk hb6 hbx.out)
  have hL6 := (hL5.below hb6).more hb6.size
  have HB6 := HB5 w6 hkw6
  clear HQ hb6 hkw5 hB5a hbx hL5 HB5
  go_wp2_with fail
  refine HB6.mono ?_
  rintro e w7 ⟨hb7, A6, c6, rfl, hLy⟩
  have hbx7 := Lib.hid (keep_alloc (x := tb K2 I2 N2 (.slice A6 ls2.length c6)) (keep_blk hb7 hbx6.out))
  have hB7 := hB6.trans (hb7.mono hB6.size)
  have hB7a := hB7.alloc hB7.size (tb K2 I2 N2 (.slice A6 ls2.length c6))
  have hAy := below_alloc1 w7 (tb K2 I2 N2 (.slice A6 ls2.length c6))
  have hL7 := (((hL6.below hb7).more hb7.size).below hAy).more hAy.size
  have HR6 := HR5 _ hL7 A6 c6 ((hLy.below hAy).more hAy.size)
  have hkw7 := (hkw6.below hb7).below hAy
  obtain ⟨t0, t1, t2, t3, -⟩ := nowT hbx7.out
  clear HB6 hb7 hkw6 hB6 hB7 hbx6 hbx7 hL6 hL7 hLy HR5 hAy
  unfold tb at HR6 hB7a hkw7 t0 t1 t2 t3
  go_wp2_with fail
  refine HR6.mono ?_
  rintro e w8 ⟨rfl, hb8⟩
  have hkw8 := hkw7.below hb8
  have hB8 := hB7a.trans (hb8.mono hB7a.size)
  clear HR6 hb8 t0 t1 t2 t3
  have HK9 := knows3_any w8 hkw8
  go_wp2_with fail
  refine HK9.mono ?_
  rintro e w9 ⟨rfl, hb9⟩
  have hB9 := hB8.trans (hb9.mono hB8.size)
  clear HK9
  go_wp2
  go_ret
  exact ⟨rfl, hB9⟩
theorem str_of (s : ByteArray) : s = str s.data.toList := by
  apply ByteArray.ext
  apply Array.ext'
  simp [str]
theorem nats {t : Tb} (hr : rightT t = true) : ∃ (K I N : Nat), t = ⟨K, I, N, t.ls⟩ := by
  obtain ⟨⟨⟨hk0, _⟩, ⟨hi0, _⟩, hn0, _⟩, _⟩ := (rightT_iff _).1 hr
  obtain ⟨K, hK⟩ := Int.eq_ofNat_of_zero_le hk0
  obtain ⟨I, hI⟩ := Int.eq_ofNat_of_zero_le hi0
  obtain ⟨N, hN⟩ := Int.eq_ofNat_of_zero_le (show (0 : Int) ≤ t.n from Int.le_trans (by decide) hn0)
  refine ⟨K, I, N, ?_⟩
  cases t
  simp at hK hI hN
  subst hK hI hN
  rfl
theorem plaBack_any (k i n : Int) (L : Value) (ls : List Ln) (s : ByteArray) (hs : s.size ≤ maxLen) (w : World) (hL : LinesAt w w.heap.size L ls) (hkw : KW w) :
    Calls Tryd.prog 4 #[tv k i n L, .string s] w fun e w' => e = .returned (.bool true) ∧ Below w.heap.size w w' := by
  cases hg : greatL ls
  case true => exact plaBack_great k i n L ls s w hL hkw hg
  rcases Nat.lt_or_ge 9000 s.size with h9 | h9
  · exact plaBack_long k i n L ls s hs w hL hkw hg h9
  rw [str_of s] at h9 ⊢
  rw [size_str] at h9
  cases hr : rightT ⟨k, i, n, ls⟩
  · cases hp : parseT s.data.toList with
    | none => exact plaBack_no_bad k i n L ls _ h9 w hL hkw hg hr hp
    | some t =>
      have ht := parse_right hp
      obtain ⟨K, I, N, e⟩ := nats ht
      rw [e] at ht hp
      exact plaBack_no_ok k i n L ls _ h9 w hL hkw hg hr K I N _ hp ht
  · obtain ⟨K0, I0, N0, e0⟩ := nats hr
    cases e0
    cases hp : parseT s.data.toList with
    | none => exact plaBack_yes_bad K0 I0 N0 L ls _ h9 w hL hkw hg hr hp
    | some t =>
      have ht := parse_right hp
      obtain ⟨K, I, N, e⟩ := nats ht
      rw [e] at ht hp
      exact plaBack_yes_ok K0 I0 N0 L ls _ h9 w hL hkw hg hr K I N _ hp ht
end Go.Proofs.YtpjjnafegngdkaaDoor
