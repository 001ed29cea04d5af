/- The statement SpecReads, walked. -/
import Derived.Test.YtckmjampgeojbaaDoorJ13
import Derived.Test.YtckmjampgeojbaaDoorJ14
namespace Go.Proofs.YtckmjampgeojbaaDoor
open Go.RowKit Go.Joins

theorem sets_nil (w : World) (B : Nat) : SetsAt w B (.slice none 0 0) [] := ⟨none, 0, rfl, by decide, fun h => absurd h (by simp)⟩
theorem within_bits {S T : BitVec 256} (h : ∀ p, p < 256 → S.getLsbD p = true → T.getLsbD p = true) : S &&& ~~~T = 0 :=
  (less_zero S T).2 (fun p hp => by
    cases hs : S.getLsbD p
    · rfl
    · rw [h p hp hs]; rfl)
theorem mayK_low {k : Int} {i n : Nat} {ls : List Ln} {o p : Nat} (hi : i ≤ 8) (h : (mayK ⟨k, i, n, ls⟩ o).getLsbD p = true) : p < 2 ^ i := by
  unfold mayK at h
  simp only [Int.toNat_natCast] at h
  split at h
  · rw [ptsM_bit _ _ _ _ _ hi] at h; simp at h; exact h.1
  · split at h
    · rw [BitVec.getLsbD_or, ptsM_bit _ _ _ _ _ hi, ptsM_bit _ _ _ _ _ hi] at h
      by_cases hp : p < 2 ^ i
      · exact hp
      · simp [hp] at h
    · rw [BitVec.getLsbD_and, allB_low _ _ hi] at h
      simp at h
      exact h.1
theorem on_may {k : Int} {i n : Nat} {ls : List Ln} {o : Nat} (hi : i ≤ 8) (hk0 : 0 ≤ k) (hb : bothK ⟨k, i, n, ls⟩ o = false) {p : Nat} (hp : p < 256) (h : (ptsM ls i o 1).getLsbD p = true) : (mayK ⟨k, i, n, ls⟩ o).getLsbD p = true := by
  have h1 := h
  rw [ptsM_bit _ _ _ _ _ hi] at h1
  obtain ⟨hpi, hm⟩ := Bool.and_eq_true_iff.1 h1
  unfold mayK
  simp only [Int.toNat_natCast]
  split
  · exact h
  · split
    · rw [BitVec.getLsbD_or, h]; rfl
    · rename_i h0 h1'
      rw [BitVec.getLsbD_and, allB_low _ _ hi, hpi, BitVec.getLsbD_not]
      unfold bothK at hb
      simp only [Int.toNat_natCast] at hb
      have hk : 2 ≤ k := by omega
      rw [decide_eq_true hk, Bool.true_and] at hb
      have he : ptsM ls i o 1 &&& ptsM ls i o 0 = 0 := by simpa using hb
      have hx := congrArg (fun x => x.getLsbD p) he
      simp only [BitVec.getLsbD_and, h, Bool.true_and] at hx
      have hz : (ptsM ls i o 0).getLsbD p = false := by rw [hx]; exact BitVec.getLsbD_zero
      rw [hz]; simp [hp]
theorem getD_map_range {α : Type} (f : Nat → α) (n j : Nat) (d : α) (h : j < n) : ((List.range n).map f).getD j d = f j := by
  rw [List.getD_eq_getElem?_getD, List.getElem?_map, List.getElem?_range h]; rfl
theorem ofS_right {t : Tb} (h : ofE t = 0) : spB (ofS t) = true := by
  unfold ofE at h
  cases hr : rightT t
  · rw [hr] at h; simp at h
  · rw [hr, if_pos rfl] at h
    obtain ⟨⟨⟨hk0, -⟩, ⟨hi0, hi8⟩, hn1, hn4⟩, -⟩ := (rightT_iff t).1 hr
    obtain ⟨k, i, n, ls⟩ := t
    dsimp only at hk0 hi0 hi8 hn1 hn4 h
    obtain ⟨I, rfl⟩ := Int.eq_ofNat_of_zero_le hi0
    obtain ⟨N, rfl⟩ := Int.eq_ofNat_of_zero_le (show 0 ≤ n by omega)
    have hI : I ≤ 8 := by omega
    have hb : ∀ q, q < N → bothK ⟨k, I, N, ls⟩ q = false := by
      intro q hq
      cases hx : bothK ⟨k, I, N, ls⟩ q
      · rfl
      · rw [if_pos (List.any_eq_true.2 ⟨q, by simpa using hq, hx⟩)] at h; simp at h
    refine spB_all ((headS_iff _).2 ?_) ?_
    · simp [ofS]; omega
    · intro j hj
      have hj' : j < N := by simpa [ofS] using hj
      unfold sideB ofS
      simp only [Int.toNat_natCast]
      have e1 := getD_map_range (fun o => ptsM ls I o 1) N j 0 hj'
      have e2 := getD_map_range (mayK ⟨k, I, N, ls⟩) N j 0 hj'
      rw [Bool.and_eq_true_iff]
      refine ⟨decide_eq_true ?_, decide_eq_true ?_⟩
      · rw [e1, e2]; exact within_bits fun p hp hs => on_may hI hk0 (hb j hj') hp hs
      · rw [e2]
        exact within_bits fun p hp hs => by rw [allB_low _ _ hI, decide_eq_true (mayK_low hI hs)]
set_option maxHeartbeats 2000000 in
set_option maxRecDepth 100000 in
theorem specReads_great (t : Tb) (L : Value) (w : World) (hL : LinesAt w w.heap.size L t.ls) (hkw : KW w) (hg : greatL t.ls = true) :
    Calls Tryd.prog 3 #[tv t.k t.i t.n L] w fun e w' => e = .returned (.bool true) ∧ Below w.heap.size w w' := by
  have hB0 := below_alloc1 w (tb t.k t.i t.n L)
  have HG := great_any t.k t.i t.n L t.ls _ ((hL.below hB0).more hB0.size)
  rw [hg] at HG
  obtain ⟨A, c, rfl, hlen, -⟩ := hL
  unfold tv tb at *
  go_enter Tryd.func3, Tryd.ntmps3
  go_wp2_with fail
  refine HG.mono ?_
  rintro e w1 ⟨rfl, hb1⟩
  have hB1 := hB0.trans (hb1.mono hB0.size)
  have HK := knows4_any w1 (hkw.below hB1)
  clear HG hb1
  go_wp2_with fail
  refine HK.mono ?_
  rintro e w2 ⟨rfl, hb2⟩
  have hB2 := hB1.trans (hb2.mono hB1.size)
  clear HK
  go_wp2
  go_ret
  exact ⟨rfl, hB2⟩
set_option maxHeartbeats 4000000 in
set_option maxRecDepth 100000 in
theorem specReads_small (t : Tb) (L : Value) (w : World) (hL : LinesAt w w.heap.size L t.ls) (hkw : KW w) (hg : greatL t.ls = false) :
    Calls Tryd.prog 3 #[tv t.k t.i t.n L] w fun e w' => e = .returned (.bool true) ∧ Below w.heap.size w w' := by
  have hB0 := below_alloc1 w (tb t.k t.i t.n L)
  have ht0 := heap_alloc_new w (tb t.k t.i t.n L)
  have HG := great_any t.k t.i t.n L t.ls _ ((hL.below hB0).more hB0.size)
  rw [hg] at HG
  have HO := fun W (hW : Below w.heap.size w W) => of_any t L W ((hL.below hW).more hW.size)
  have HR := fun W (hW : Below w.heap.size w W) => rof_any t L W ((hL.below hW).more hW.size)
  have hright := Lib.hid (fun h => ofS_right (t := t) h)
  obtain ⟨A, c, rfl, hlen, -⟩ := hL
  unfold tv tb at *
  clear hg
  go_enter Tryd.func3, Tryd.ntmps3
  go_wp2_with fail
  refine HG.mono ?_
  rintro e w1 ⟨rfl, hb1⟩
  have hB1 := hB0.trans (hb1.mono hB0.size)
  have ht1 := keep_blk hb1 ht0
  obtain ⟨q0, q1, q2, q3, -⟩ := now4 ht1 rfl
  have HO1 := HO w1 hB1
  clear HG hb1 ht0 HO hB0
  go_wp2_with fail
  refine HO1.mono ?_
  rintro e w2 ⟨hb2, hO⟩
  have hB2 := hB1.trans (hb2.mono hB1.size)
  have ht2 := keep_blk hb2 ht1
  clear HO1 ht1 hb2 hB1 q0 q1 q2 q3
  rcases hO with ⟨hE, rfl⟩ | ⟨hE, X, Y, rfl, hX, hY⟩
  · have ht3 := keep_alloc (x := spb 0 (.slice none 0 0) (.slice none 0 0)) ht2
    have hs3 := heap_alloc_new w2 (spb 0 (.slice none 0 0) (.slice none 0 0))
    have hB3 := hB2.alloc hB2.size (spb 0 (.slice none 0 0) (.slice none 0 0))
    have HR3 := HR _ hB3
    obtain ⟨q0, q1, q2, q3, -⟩ := now4 ht3 rfl
    have hEn : ((ofE t : Int) != 0) = true := by rw [bne_iff_ne]; exact hE
    have hE' := Lib.hid hE
    clear hE HR
    unfold spv spb at *
    go_wp2_with fail
    refine HR3.mono ?_
    rintro e w4 ⟨hb4, ⟨-, rfl⟩ | ⟨hE4, -⟩⟩
    · unfold spv
      have hs4 := keep_blk hb4 hs3
      have hB4 := hB3.trans (hb4.mono hB3.size)
      have hs5 := keep_alloc (x := .cells #[.int .i64 0, .slice none 0 0, .slice none 0 0] 29 (0, 0)) hs4
      have hr5 := heap_alloc_new w4 (.cells #[.int .i64 0, .slice none 0 0, .slice none 0 0] 29 (0, 0))
      have hB5 := hB4.alloc hB4.size (.cells #[.int .i64 0, .slice none 0 0, .slice none 0 0] 29 (0, 0))
      have HS := rsame4_any ⟨0, [], []⟩ ⟨0, [], []⟩ (.slice none 0 0) (.slice none 0 0) (.slice none 0 0) (.slice none 0 0) (w4.alloc (.cells #[.int .i64 0, .slice none 0 0, .slice none 0 0] 29 (0, 0))) (sets_nil _ _) (sets_nil _ _) (sets_nil _ _) (sets_nil _ _)
      rw [show sameSp ⟨0, [], []⟩ ⟨0, [], []⟩ = true from rfl] at HS
      unfold spv at HS
      obtain ⟨s0, s1, s2, -⟩ := now3 hs5 rfl
      obtain ⟨r0, r1, r2, -⟩ := now3 hr5 rfl
      clear HR3 hb4 hB3 hB4 hs4 ht3 hs3 q0 q1 q2 q3 ht2 hB2
      go_wp2_with fail
      refine HS.mono ?_
      rintro e w6 ⟨rfl, hb6⟩
      have hB6 := hB5.trans (hb6.mono hB5.size)
      have HK := knows4_any w6 (hkw.below hB6)
      clear HS hb6
      go_wp2_with fail
      refine HK.mono ?_
      rintro e w7 ⟨rfl, hb7⟩
      have hB7 := hB6.trans (hb7.mono hB6.size)
      clear HK
      go_wp2
      go_ret
      exact ⟨rfl, hB7⟩
    · exact absurd hE4 hE'.out
  · have hXs := hX
    have hYs := hY
    obtain ⟨X, x, rfl, -, -⟩ := hX
    obtain ⟨Y, y, rfl, -, -⟩ := hY
    have ht3 := keep_alloc (x := spb t.i (.slice X (ofS t).on.length x) (.slice Y (ofS t).may.length y)) ht2
    have hs3 := heap_alloc_new w2 (spb t.i (.slice X (ofS t).on.length x) (.slice Y (ofS t).may.length y))
    have hbs3 := below_alloc1 w2 (spb t.i (.slice X (ofS t).on.length x) (.slice Y (ofS t).may.length y))
    have hB3 := hB2.alloc hB2.size (spb t.i (.slice X (ofS t).on.length x) (.slice Y (ofS t).may.length y))
    have hX3 := (hXs.below hbs3).more hbs3.size
    have hY3 := (hYs.below hbs3).more hbs3.size
    have HR3 := HR _ hB3
    obtain ⟨q0, q1, q2, q3, -⟩ := now4 ht3 rfl
    have hE' := Lib.hid hE
    clear hE HR hXs hYs hbs3 ht2 hB2
    unfold spv spb at *
    go_wp2_with fail
    refine HR3.mono ?_
    rintro e w4 ⟨hb4, ⟨hE4, -⟩ | ⟨-, X2, Y2, rfl, hX4, hY4⟩⟩
    · exact absurd hE'.out hE4
    · have hXs := hX4
      have hYs := hY4
      obtain ⟨X2, x2, rfl, -, -⟩ := hX4
      obtain ⟨Y2, y2, rfl, -, -⟩ := hY4
      have hs4 := keep_blk hb4 hs3
      have hB4 := hB3.trans (hb4.mono hB3.size)
      have hs5 := keep_alloc (x := spb t.i (.slice X2 (ofS t).on.length x2) (.slice Y2 (ofS t).may.length y2)) hs4
      have hr5 := heap_alloc_new w4 (spb t.i (.slice X2 (ofS t).on.length x2) (.slice Y2 (ofS t).may.length y2))
      have hbs5 := below_alloc1 w4 (spb t.i (.slice X2 (ofS t).on.length x2) (.slice Y2 (ofS t).may.length y2))
      have hB5 := hB4.alloc hB4.size (spb t.i (.slice X2 (ofS t).on.length x2) (.slice Y2 (ofS t).may.length y2))
      have hX5 := (((hX3.below hb4).more hb4.size).below hbs5).more hbs5.size
      have hY5 := (((hY3.below hb4).more hb4.size).below hbs5).more hbs5.size
      have HS := rsame4_any (ofS t) (ofS t) _ _ _ _ _ hX5 hY5 ((hXs.below hbs5).more hbs5.size) ((hYs.below hbs5).more hbs5.size)
      rw [show sameSp (ofS t) (ofS t) = true by unfold sameSp; simp, show (ofS t).i = t.i from rfl] at HS
      have HRt := fun W (hW : Below (w4.alloc (spb t.i (.slice X2 (ofS t).on.length x2) (.slice Y2 (ofS t).may.length y2))).heap.size (w4.alloc (spb t.i (.slice X2 (ofS t).on.length x2) (.slice Y2 (ofS t).may.length y2))) W) => sright_any t.i _ _ (ofS t).on (ofS t).may W ((hX5.below hW).more hW.size) ((hY5.below hW).more hW.size)
      rw [show spB ⟨t.i, (ofS t).on, (ofS t).may⟩ = true from hright.out hE'.out] at HRt
      obtain ⟨s0, s1, s2, -⟩ := now3 hs5 rfl
      obtain ⟨r0, r1, r2, -⟩ := now3 hr5 rfl
      unfold spv spb at *
      clear HR3 hb4 hB3 hB4 hs4 ht3 hs3 q0 q1 q2 q3 hX3 hY3 hX5 hY5 hXs hYs hbs5 hright
      go_wp2_with fail
      refine HS.mono ?_
      rintro e w6 ⟨rfl, hb6⟩
      have hB6 := hB5.trans (hb6.mono hB5.size)
      have hs6 := keep_blk hb6 hs5
      obtain ⟨s0, s1, s2, -⟩ := now3 hs6 rfl
      have HRt6 := HRt w6 hb6
      clear HS hb6 HRt
      go_wp2_with fail
      refine HRt6.mono ?_
      rintro e w7 ⟨rfl, hb7⟩
      have hB7 := hB6.trans (hb7.mono hB6.size)
      have HK := knows4_any w7 (hkw.below hB7)
      clear HRt6 hb7
      go_wp2_with fail
      refine HK.mono ?_
      rintro e w8 ⟨rfl, hb8⟩
      have hB8 := hB7.trans (hb8.mono hB7.size)
      clear HK
      go_wp2
      go_ret
      exact ⟨rfl, hB8⟩
theorem specReads_any (t : Tb) (L : Value) (w : World) (hL : LinesAt w w.heap.size L t.ls) (hkw : KW w) :
    Calls Tryd.prog 3 #[tv t.k t.i t.n L] w fun e w' => e = .returned (.bool true) ∧ Below w.heap.size w w' := by
  cases hg : greatL t.ls
  · exact specReads_small t L w hL hkw hg
  · exact specReads_great t L w hL hkw hg
end Go.Proofs.YtckmjampgeojbaaDoor
