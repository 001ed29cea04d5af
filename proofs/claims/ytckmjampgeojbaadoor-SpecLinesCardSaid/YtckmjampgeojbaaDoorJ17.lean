/- The statement SpecLines, walked. -/
import Derived.Test.YtckmjampgeojbaaDoorJ15
namespace Go.Proofs.YtckmjampgeojbaaDoor
open Go.RowKit Go.Joins

/-- The row of a line: the outputs that it says 1 of. -/
def rwOf (n : Nat) (l : Ln) : Rw := ⟨l.m, l.v, vB (fun q => (l.o.getD q 9).toNat) n⟩
def rowsF (n : Nat) (ls : List Ln) : List Rw := (ls.map (rwOf n)).filter fun x => decide (x.o ≠ 0)
theorem rowsF_step {ls : List Ln} {j : Nat} {l : Ln} (h : ls[j]? = some l) (n : Nat) : rowsF n (ls.take (j + 1)) = rowsF n (ls.take j) ++ (if (rwOf n l).o = 0 then [] else [rwOf n l]) := by
  have hk : j < ls.length := (List.getElem?_eq_some_iff.1 h).1
  have e : ls[j] = l := (List.getElem?_eq_some_iff.1 h).2
  unfold rowsF
  rw [List.take_succ_eq_append_getElem hk, List.map_append, List.filter_append, e]
  congr 1
  by_cases h0 : (rwOf n l).o = 0
  · simp [h0]
  · simp only [List.map_cons, List.map_nil, List.filter_cons, List.filter_nil, decide_eq_true h0, if_true, if_neg h0]
theorem rowsF_len (n : Nat) (ls : List Ln) : (rowsF n ls).length ≤ ls.length := by
  unfold rowsF
  exact Nat.le_trans (List.length_filter_le _ _) (by simp)
theorem rwOf_bit (n : Nat) (hn : n ≤ 4) (l : Ln) (q : Nat) (hq : q < n) (hr : ∀ x ∈ l.o, 0 ≤ x ∧ x ≤ 2) (hl : q < l.o.length) : (rwOf n l).o.getLsbD q = decide (l.o.getD q 9 = 1) := by
  obtain ⟨x, hx⟩ : ∃ x, l.o[q]? = some x := ⟨_, List.getElem?_eq_getElem hl⟩
  have h2 := hr x (List.mem_of_getElem? hx)
  unfold rwOf
  simp only
  rw [vB_bit, getD_of hx]
  simp only [show q < 8 by omega, hq, decide_true, Bool.true_and]
  rw [Bool.eq_iff_iff, decide_eq_true_eq, decide_eq_true_eq]
  omega
theorem rowsF_cov {n : Nat} (hn : n ≤ 4) {ls : List Ln} (hls : ∀ l ∈ ls, l.o.length = n ∧ ∀ x ∈ l.o, 0 ≤ x ∧ x ≤ 2) (p q : Nat) (hq : q < n) : covB (rowsF n ls) p q = markB ls p q 1 := by
  unfold covB rowsF markB
  rw [Bool.eq_iff_iff, List.any_eq_true, List.any_eq_true]
  constructor
  · rintro ⟨x, hx, hc⟩
    obtain ⟨hx1, -⟩ := List.mem_filter.1 hx
    obtain ⟨l, hl, rfl⟩ := List.mem_map.1 hx1
    obtain ⟨h1, h2⟩ := hls l hl
    rw [rwOf_bit n hn l q hq h2 (by omega)] at hc
    exact ⟨l, hl, hc⟩
  · rintro ⟨l, hl, hc⟩
    obtain ⟨h1, h2⟩ := hls l hl
    have hb := rwOf_bit n hn l q hq h2 (by omega)
    refine ⟨rwOf n l, List.mem_filter.2 ⟨List.mem_map.2 ⟨l, hl, rfl⟩, ?_⟩, ?_⟩
    · rw [decide_eq_true_eq]
      intro h0
      rw [h0, (by simp : (0 : BitVec 8).getLsbD q = false)] at hb
      rw [← hb] at hc
      simp at hc
    · rw [hb]; exact hc
theorem self_within (S : BitVec 256) : S &&& ~~~S = 0 := within_bits fun _ _ h => h
theorem lines_cover {k : Int} {i n : Nat} {ls : List Ln} (hr : rightT ⟨k, i, n, ls⟩ = true) : ofE ⟨0, i, n, ls⟩ = 0 ∧ (spB ⟨i, (ofS ⟨0, i, n, ls⟩).on, (ofS ⟨0, i, n, ls⟩).may⟩ && coversB ⟨i, (ofS ⟨0, i, n, ls⟩).on, (ofS ⟨0, i, n, ls⟩).may⟩ (rowsF n ls)) = true := by
  obtain ⟨⟨-, ⟨hi0, hi8⟩, hn1, hn4⟩, h64, hlines⟩ := (rightT_iff _).1 hr
  dsimp only at hi0 hi8 hn1 hn4 h64 hlines
  have hr0 : rightT ⟨0, i, n, ls⟩ = true := (rightT_iff _).2 ⟨⟨⟨show (0 : Int) ≤ 0 by decide, show (0 : Int) ≤ 3 by decide⟩, ⟨hi0, hi8⟩, hn1, hn4⟩, h64, hlines⟩
  have hE : ofE ⟨0, i, n, ls⟩ = 0 := ofE_zero hr0 (fun q _ => by unfold bothK; simp)
  have hI : i ≤ 8 := by omega
  have hN : n ≤ 4 := by omega
  have hlo : ∀ l ∈ ls, rightB l.m l.v i = true ∧ l.o.length = n ∧ ∀ x ∈ l.o, 0 ≤ x ∧ x ≤ 2 := fun l hl => by
    obtain ⟨a, b, d⟩ := (lineB_iff l i n).1 (hlines l hl)
    exact ⟨a, by omega, d⟩
  refine ⟨hE, ?_⟩
  have hsp : spB (ofS ⟨0, i, n, ls⟩) = true := ofS_right hE
  rw [show (⟨(i : Int), (ofS ⟨0, i, n, ls⟩).on, (ofS ⟨0, i, n, ls⟩).may⟩ : Sp) = ofS ⟨0, i, n, ls⟩ from rfl, hsp, Bool.true_and]
  have hlen : (ofS ⟨0, i, n, ls⟩).on.length = n := by simp [ofS]
  refine coversB_all ?_ ?_
  · unfold mayB
    rw [Bool.and_eq_true_iff, List.all_eq_true, List.all_eq_true]
    refine ⟨fun x hx => ?_, fun x hx => ?_⟩
    · obtain ⟨hx1, -⟩ := List.mem_filter.1 hx
      obtain ⟨l, hl, rfl⟩ := List.mem_map.1 hx1
      exact (hlo l hl).1
    · obtain ⟨hx1, hx0⟩ := List.mem_filter.1 hx
      obtain ⟨l, hl, rfl⟩ := List.mem_map.1 hx1
      unfold outsB
      rw [hx0, Bool.true_and, hlen, decide_eq_true_eq, shr_zero]
      intro q hq
      unfold rwOf
      simp only
      rw [vB_bit]
      simp [show ¬ q < n by omega]
  · intro j hj
    rw [hlen] at hj
    have e1 : (ofS ⟨0, i, n, ls⟩).on.getD j 0 = ptsM ls i j 1 := getD_map_range (fun o => ptsM ls i o 1) n j 0 hj
    have e2 : (ofS ⟨0, i, n, ls⟩).may.getD j 0 = ptsM ls i j 1 := (getD_map_range (mayK ⟨0, i, n, ls⟩) n j 0 hj).trans (by unfold mayK; rfl)
    have e3 : ptsR (rowsF n ls) i j = ptsM ls i j 1 := by
      unfold ptsR ptsM
      congr 1
      funext p
      rw [rowsF_cov hN (fun l hl => (hlo l hl).2) p j hj]
    unfold coB
    rw [Bool.and_eq_true_iff, decide_eq_true_eq, decide_eq_true_eq]
    rw [e1, e2, show (ofS ⟨0, i, n, ls⟩).i.toNat = i from rfl, e3]
    exact ⟨self_within _, self_within _⟩
def rwsV (rs : List Rw) : List Value := rs.flatMap fun x => [bvv x.m, bvv x.v, bvv x.o]
theorem rwsV_snoc (rs : List Rw) (x : Rw) : rwsV (rs ++ [x]) = rwsV rs ++ [bvv x.m, bvv x.v, bvv x.o] := by unfold rwsV; simp
theorem rwsV_at : ∀ (rs : List Rw) (j : Nat) (x : Rw), rs[j]? = some x → (rwsV rs)[j * 3]? = some (bvv x.m) ∧ (rwsV rs)[j * 3 + 1]? = some (bvv x.v) ∧ (rwsV rs)[j * 3 + 2]? = some (bvv x.o)
  | [], _, _, h => by simp at h
  | a :: rs, 0, x, h => by
    simp at h
    subst h
    exact ⟨rfl, rfl, rfl⟩
  | a :: rs, j + 1, x, h => by
    obtain ⟨x1, y, z⟩ := rwsV_at rs j x (by simpa using h)
    have e : rwsV (a :: rs) = bvv a.m :: bvv a.v :: bvv a.o :: rwsV rs := rfl
    rw [e, show (j + 1) * 3 = j * 3 + 3 by omega]
    exact ⟨x1, y, z⟩
theorem own_rws {w : World} {bd : Nat} {v : Value} {rs : List Rw} (h : w.ownsRow bd 47 3 v rs.length (rwsV rs)) : RwsAt w w.heap.size v rs := by
  rcases Nat.eq_zero_or_pos rs.length with h0 | h0
  · obtain ⟨A, c, rfl⟩ := own_form h
    exact ⟨A, c, rfl, by omega, fun h => by omega⟩
  · obtain ⟨g, c, rfl, hg, hlen, hc⟩ := own_cells h h0
    refine ⟨_, c, rfl, hlen, fun _ => ⟨g, 0, rfl, hg, fun j x hx => ?_⟩⟩
    obtain ⟨a, b, d⟩ := rwsV_at rs j x hx
    rw [Nat.zero_add]
    exact ⟨hc _ _ a, hc _ _ b, hc _ _ d⟩
theorem Tryd.infoRow : (Tryd.prog.info? 47).map (fun i => (i.zero, i.size, i.bytes)) = some (some (.agg #[.int .u8 0, .int .u8 0, .int .u8 0]), 3, 3) := by kernel_rfl
set_option maxHeartbeats 2000000 in
set_option maxRecDepth 100000 in
theorem specLines_great (t : Tb) (L : Value) (w : World) (hL : LinesAt w w.heap.size L t.ls) (hkw : KW w) (hg : greatL t.ls = true) :
    Calls Tryd.prog 5 #[tv t.k t.i t.n L] w fun e w' => e = .returned (.bool true) ∧ Below w.heap.size w w' := by
  have hB0 := below_alloc1 w (tb t.k t.i t.n L)
  have HG := great_any t.k t.i t.n L t.ls _ ((hL.below hB0).more hB0.size)
  rw [hg] at HG
  obtain ⟨A, c, rfl, hlen, -⟩ := hL
  unfold tv tb at *
  go_enter Tryd.func5, Tryd.ntmps5
  go_wp2_with fail
  refine HG.mono ?_
  rintro e w1 ⟨rfl, hb1⟩
  have hB1 := hB0.trans (hb1.mono hB0.size)
  have HK := knows4_any w1 (hkw.below hB1)
  clear HG hb1
  go_wp2_with fail
  refine HK.mono ?_
  rintro e w2 ⟨rfl, hb2⟩
  have hB2 := hB1.trans (hb2.mono hB1.size)
  clear HK
  go_wp2
  go_ret
  exact ⟨rfl, hB2⟩
set_option maxHeartbeats 2000000 in
set_option maxRecDepth 100000 in
theorem specLines_wrong (t : Tb) (L : Value) (w : World) (hL : LinesAt w w.heap.size L t.ls) (hkw : KW w) (hg : greatL t.ls = false) (hr : rightT t = false) :
    Calls Tryd.prog 5 #[tv t.k t.i t.n L] w fun e w' => e = .returned (.bool true) ∧ Below w.heap.size w w' := by
  have hB0 := below_alloc1 w (tb t.k t.i t.n L)
  have ht0 := heap_alloc_new w (tb t.k t.i t.n L)
  have HG := great_any t.k t.i t.n L t.ls _ ((hL.below hB0).more hB0.size)
  rw [hg] at HG
  have HR := fun W (hW : Below w.heap.size w W) => rright3_any t.k t.i t.n L t.ls W ((hL.below hW).more hW.size)
  rw [show (⟨t.k, t.i, t.n, t.ls⟩ : Tb) = t from rfl, hr] at HR
  obtain ⟨A, c, rfl, hlen, -⟩ := hL
  unfold tv tb at *
  clear hr hg
  go_enter Tryd.func5, Tryd.ntmps5
  go_wp2_with fail
  refine HG.mono ?_
  rintro e w1 ⟨rfl, hb1⟩
  have hB1 := hB0.trans (hb1.mono hB0.size)
  have ht1 := keep_blk hb1 ht0
  obtain ⟨q0, q1, q2, q3, -⟩ := now4 ht1 rfl
  have HR1 := HR w1 hB1
  clear HG hb1 HR
  go_wp2_with fail
  refine HR1.mono ?_
  rintro e w2 ⟨rfl, hb2⟩
  have hB2 := hB1.trans (hb2.mono hB1.size)
  have HK := knows4_any w2 (hkw.below hB2)
  clear HR1 hb2
  go_wp2_with fail
  refine HK.mono ?_
  rintro e w3 ⟨rfl, hb3⟩
  have hB3 := hB2.trans (hb3.mono hB2.size)
  clear HK
  go_wp2
  go_ret
  exact ⟨rfl, hB3⟩
set_option maxHeartbeats 8000000 in
set_option maxRecDepth 100000 in
theorem specLines_right (k : Int) (i n : Nat) (ls : List Ln) (L : Value) (w : World) (hL : LinesAt w w.heap.size L ls) (hkw : KW w) (hg : greatL ls = false) (hr : rightT ⟨k, i, n, ls⟩ = true) :
    Calls Tryd.prog 5 #[tv k i n L] w fun e w' => e = .returned (.bool true) ∧ Below w.heap.size w w' := by
  have hB0 := below_alloc1 w (tb k i n L)
  have ht0 := heap_alloc_new w (tb k i n L)
  have HG := great_any k i n L ls _ ((hL.below hB0).more hB0.size)
  rw [hg] at HG
  have HR := fun W (hW : Below w.heap.size w W) => rright3_any k i n L ls W ((hL.below hW).more hW.size)
  rw [hr] at HR
  have HO := fun W (hW : Below w.heap.size w W) => of_any ⟨0, i, n, ls⟩ L W ((hL.below hW).more hW.size)
  obtain ⟨hE, hcov⟩ := lines_cover hr
  obtain ⟨⟨-, ⟨hi0, hi8⟩, hn1, hn4⟩, h64, hlines⟩ := (rightT_iff _).1 hr
  dsimp only at hi0 hi8 hn1 hn4 h64 hlines
  have hlo := Lib.hid (fun (j : Nat) (l : Ln) (h : ls[j]? = some l) => (show l.o.length = n ∧ ∀ x ∈ l.o, 0 ≤ x ∧ x ≤ 2 by
    obtain ⟨a, b, d⟩ := (lineB_iff l i n).1 (hlines l (List.mem_of_getElem? h))
    exact ⟨by omega, d⟩))
  generalize hOn : (ofS ⟨0, i, n, ls⟩).on = on at *
  generalize hMy : (ofS ⟨0, i, n, ls⟩).may = may at *
  have hfst := Lib.hid (fun (j : Nat) (l : Ln) (h : ls[j]? = some l) => rowsF_step h n)
  have hfln := Lib.hid (fun (j : Nat) => rowsF_len n (ls.take j))
  have hfz : rowsF n (ls.take 0) = [] := by simp [rowsF]
  have hfe : Hid (rowsF n (ls.take ls.length) = rowsF n ls) := Lib.hid (by rw [List.take_length])
  have hHO : ∀ W, Below w.heap.size w W → Calls Tryd.prog 8 #[tv 0 i n L] W fun e w' => Below W.heap.size W w' ∧ ∃ X Y, e = .returned (.tuple #[spv i X Y, .int .i64 0]) ∧ SetsAt w' w'.heap.size X on ∧ SetsAt w' w'.heap.size Y may := fun W hW => by
    refine (HO W hW).mono ?_
    rintro e w' ⟨hB, ⟨h, -⟩ | ⟨-, X, Y, rfl, hX, hY⟩⟩
    · exact absurd hE h
    · rw [hOn] at hX
      rw [hMy] at hY
      exact ⟨hB, X, Y, rfl, hX, hY⟩
  obtain ⟨A, c, hLe, hlen, hA⟩ := id hL
  subst hLe
  obtain ⟨i0, hi0', hz0, hz1', hz2'⟩ := info_parts Tryd.infoRow
  unfold tv tb at *
  clear HO hOn hMy hE hr hlines hg hL
  go_enter Tryd.func5, Tryd.ntmps5
  go_wp2_with fail
  refine HG.mono ?_
  rintro e w1 ⟨rfl, hb1⟩
  have hB1 := hB0.trans (hb1.mono hB0.size)
  have ht1 := keep_blk hb1 ht0
  obtain ⟨q0, q1, q2, q3, -⟩ := now4 ht1 rfl
  have HR1 := HR w1 hB1
  clear HG hb1 HR hB0 ht0
  go_wp2_with fail
  refine HR1.mono ?_
  rintro e w2 ⟨rfl, hb2⟩
  have hB2 := hB1.trans (hb2.mono hB1.size)
  have ht2 := keep_blk hb2 ht1
  have ht3 := block_setCell (i := 0) ht2 (.int .i64 0)
  have hB3 := hB2.setCell (p := ⟨w.heap.size, 0, none⟩) (Nat.le_refl _) (.int .i64 0)
  have HO3 := hHO _ hB3
  obtain ⟨q0, q1, q2, q3, qf⟩ := now4 ht2 rfl
  have ht3' : (w2.setCell ⟨w.heap.size, 0, none⟩ (.int .i64 0)).heap[w.heap.size]? = some (.cells #[Value.int .i64 0, .int .i64 i, .int .i64 n, .slice A ls.length c] 24 (0, 0)) := ht3
  obtain ⟨r0, r1, r2, r3, -⟩ := now4 ht3' rfl
  clear HR1 hb2 hB1 ht1 hHO hB2 ht3
  go_wp2_with fail
  refine HO3.mono ?_
  rintro e w4 ⟨hb4, X, Y, rfl, hX, hY⟩
  unfold spv
  have hXs := hX
  have hYs := hY
  obtain ⟨X, x, rfl, -, -⟩ := hX
  obtain ⟨Y, y, rfl, -, -⟩ := hY
  have ht4 := keep_blk hb4 ht3'
  have hB4 := hB3.trans (hb4.mono hB3.size)
  have ht5 := keep_alloc (x := .cells #[Value.int .i64 i, .slice X on.length x, .slice Y may.length y] 29 (0, 0)) ht4
  have hs5 := heap_alloc_new w4 (.cells #[Value.int .i64 i, .slice X on.length x, .slice Y may.length y] 29 (0, 0))
  have hB5 := hB4.alloc hB4.size (.cells #[Value.int .i64 i, .slice X on.length x, .slice Y may.length y] 29 (0, 0))
  have hbs5 := below_alloc1 w4 (.cells #[Value.int .i64 i, .slice X on.length x, .slice Y may.length y] 29 (0, 0))
  have hX5 := (hXs.below hbs5).more hbs5.size
  have hY5 := (hYs.below hbs5).more hbs5.size
  obtain ⟨r0, r1, r2, r3, -⟩ := now4 ht5 rfl
  clear HO3 hb4 ht2 ht3' ht4 hB3 hB4 hXs hYs hbs5 q0 q1 q2 q3 qf
  go_wp2
  clear r0 r1 r2 r3
  generalize hbs : w4.heap.size = bs at *
  generalize w4.alloc (.cells #[Value.int .i64 i, .slice X on.length x, .slice Y may.length y] 29 (0, 0)) = w5 at *
  have hzs := size_of_block hs5
  have hsz := hB5.size
  go_loopw [5, 6, 7, 8, 9] (fun V t _ _ _ wr => ∃ j : Nat, j ≤ ls.length ∧ t = .int .i64 j ∧ Below w5.heap.size w5 wr ∧ wr.ownsRow w5.heap.size 47 3 V (rowsF n (ls.take j)).length (rwsV (rowsF n (ls.take j)))) (fun _ t _ _ _ _ => ls.length - (intOf t).toNat)
  case atStart => exact ⟨0, by omega, rfl, Below.refl _ _, by rw [hfz]; exact World.ownsRow_nil _ _ _ _⟩
  case round =>
    obtain ⟨j, hj, rfl, hb, hoV⟩ := hrel
    obtain ⟨VA, Vc, rfl⟩ := own_form hoV
    have htr := keep_blk hb ht5
    obtain ⟨q0, q1, q2, q3, -⟩ := now4 htr rfl
    have hbw : Below w.heap.size w wr := hB5.trans (hb.mono hsz)
    by_cases hlt : j < ls.length
    · obtain ⟨b, off, rfl, hBb, hc⟩ := hA (by omega)
      obtain ⟨l, hl⟩ : ∃ l, ls[j]? = some l := ⟨_, List.getElem?_eq_getElem hlt⟩
      obtain ⟨ov, c0, c1, c2, hO⟩ := hc j l hl
      obtain ⟨A2, cap2, rfl, hol, hO⟩ := hO
      obtain ⟨hln, hl2⟩ := hlo.out j l hl
      obtain ⟨b3, off3, rfl, hB3b, hv⟩ := hO (by omega)
      have d0 := (hbw.cell (p := ⟨b, off + j * 3, none⟩) hBb).trans c0
      have d1 := (hbw.cell (p := ⟨b, off + j * 3 + 1, none⟩) hBb).trans c1
      have hcell2 : Hid (∀ W, Below w.heap.size w W → W.cell? ⟨b, off + j * 3 + 2, none⟩ = some (.slice (some ⟨b3, off3, none⟩) l.o.length cap2)) := Lib.hid (fun W hW => (hW.cell (p := ⟨b, off + j * 3 + 2, none⟩) hBb).trans c2)
      have hcellv : Hid (∀ W, Below w.heap.size w W → ∀ q v, l.o[q]? = some v → W.cell? ⟨b3, off3 + q, none⟩ = some (.int .i64 v)) := Lib.hid (fun W hW q v hq => (hW.cell (p := ⟨b3, off3 + q, none⟩) hB3b).trans (hv q v hq))
      have hst := Lib.hid (hfst.out j l hl)
      have hlv : Hid (∀ (q : Nat) (v : Int), l.o[q]? = some v → 0 ≤ v ∧ v ≤ 2) := Lib.hid (fun q v h => hl2 v (List.mem_of_getElem? h))
      have hfl : (rowsF n (ls.take j)).length ≤ 64 := Nat.le_trans (hfln.out j) (by rw [List.length_take]; omega)
      have hx1 := heap_alloc_new wr (.cells #[bvv l.m, bvv l.v, bvv 0] 47 (0, 0))
      have hb1 := hb.alloc hb.size (.cells #[bvv l.m, bvv l.v, bvv 0] 47 (0, 0))
      have hoV1 := owns_below hoV (below_alloc1 wr (.cells #[bvv l.m, bvv l.v, bvv 0] 47 (0, 0)))
      have hVx : (Value.slice VA (rowsF n (ls.take j)).length Vc).ownBlock ≠ some wr.heap.size := fun e => Nat.lt_irrefl _ (hoV.lt _ e).2
      have hVx' := Lib.hid hVx
      generalize hRd : rowsF n (ls.take j) = RJ at *
      generalize hRd2 : rowsF n (ls.take (j + 1)) = RJ1 at *
      have hRd1 := Lib.hid hRd2
      have hbx : w5.heap.size ≤ wr.heap.size := hb.size
      have hln' := Lib.hid hln
      have hro : Hid (rwOf n l = ⟨l.m, l.v, vB (fun q => (l.o.getD q 9).toNat) n⟩) := Lib.hid rfl
      clear hc c0 c1 c2 hO hv hl hl2 hA hVx hRd hRd2 hlo hfst hfln hfz hfe hoV hln
      unfold bvv at *
      go_wp2
      clear q0 q1 q2 q3
      generalize wr.heap.size = bx at *
      generalize hgd : (fun q => (l.o.getD q 9).toNat) = g at *
      have hgd' : Hid (∀ q, g q = (l.o.getD q 9).toNat) := Lib.hid (fun q => by rw [← hgd])
      go_loopw [8, 9] (fun p t wi => ∃ q : Nat, q ≤ n ∧ t = .int .i64 q ∧ p = .int .u8 (pw q : Nat) ∧ Below w5.heap.size w5 wi ∧ wi.heap[bx]? = some (.cells #[.int .u8 l.m.toNat, .int .u8 l.v.toNat, .int .u8 (vB g q).toNat] 47 (0, 0)) ∧ wi.ownsRow w5.heap.size 47 3 (.slice VA RJ.length Vc) RJ.length (rwsV RJ)) (fun _ t _ => n - (intOf t).toNat)
      case atStart => exact ⟨0, by omega, rfl, rfl, hb1, by rw [vB_zero]; exact hx1, hoV1⟩
      case round =>
        clear hb1 hx1 hoV1 htr hbw d0 d1 hb
        obtain ⟨q, hq, rfl, rfl, hbi, hx, hoI⟩ := hrel
        have htr := keep_blk hbi ht5
        obtain ⟨q0, q1, q2, q3, -⟩ := now4 htr rfl
        have hbwi := hB5.trans (hbi.mono hsz)
        have e2 := hcell2.out wr hbwi
        obtain ⟨x0, x1, x2, xf⟩ := now3 hx rfl
        by_cases hqn : q < n
        · have hql : q < l.o.length := by have := hln'.out; omega
          obtain ⟨v, hv⟩ : ∃ v, l.o[q]? = some v := ⟨_, List.getElem?_eq_getElem hql⟩
          have ev := hcellv.out wr hbwi q v hv
          have hv2 := hlv.out q v hv
          have hgq : g q = v.toNat := by rw [hgd'.out, getD_of hv]
          have hps := Lib.hid (pw_step q)
          have hpl : pw q < 256 := Nat.mod_lt _ (by decide)
          have hpk := pw_low q (by omega)
          have hmi := Lib.hid hbi
          clear hv hcell2 hcellv hlv
          by_cases h1 : v = 1
          · subst h1
            have hvs := vB_step g q (by omega) (by rw [hgq]; rfl)
            rw [← hpk] at hvs
            have hvl := (vB g (q + 1)).isLt
            have hsm : (vB g q).toNat + pw q < 256 := by omega
            have hvs' := Lib.hid hvs
            clear hvs hvl hpk hgq hv2
            generalize hpd : pw q = p at *
            have hset := block_setCell (i := 2) hx (.int .u8 (((vB g q).toNat : Int) + p))
            have hbs2 := hbi.setCell (p := ⟨bx, 2, none⟩) (by show w5.heap.size ≤ bx; omega) (.int .u8 (((vB g q).toNat : Int) + p))
            have hoS := own_set hoI hVx'.out 2 (.int .u8 (((vB g q).toNat : Int) + p))
            clear hbi hx hoI
            go_wp2
            go_roundw
            case rel =>
              refine ⟨q + 1, by omega, by go_num, ?_, hbs2, ?_, hoS⟩
              · congr 1
                have := hps.out
                omega
              · rw [hset, hvs'.out]; rfl
            case measure => simp [intOf]; omega
          · have hd : ((v : Int) == 1) = false := by rw [beq_eq_false_iff_ne]; exact h1
            have hvs := Lib.hid (vB_same g q (by rw [hgq]; omega))
            clear h1 hpk hgq hv2
            generalize hpd : pw q = p at *
            go_wp2
            go_roundw
            case rel =>
              refine ⟨q + 1, by omega, by go_num, ?_, hbi, by rw [hvs.out]; exact hx, hoI⟩
              congr 1
              have := hps.out
              omega
            case measure => simp [intOf]; omega
        · have e : q = n := by omega
          subst e
          have hroo := hro.out
          rw [hroo] at hst
          clear hcell2 hcellv hlv hro hroo hgd' hgd
          generalize hOd : vB g q = O at *
          clear hOd
          by_cases h0 : O = 0
          · have hz : ((O.toNat : Nat) : Int) = 0 := by rw [h0]; rfl
            have hR : RJ1 = RJ := by
              have h := hst.out
              simp only at h
              rw [if_pos h0] at h
              simpa using h
            have hz' : ¬ 0 < ((O.toNat : Nat) : Int) := by omega
            have hR' := Lib.hid hR
            clear h0 hz hR hst
            go_wp2
            go_roundw
            case rel => exact ⟨j + 1, by omega, by go_num, hbi, by rw [show rowsF q (ls.take (j + 1)) = RJ from hRd1.out.trans hR'.out]; exact hoI⟩
            case measure => simp [intOf]; omega
          · have hz : 0 < ((O.toNat : Nat) : Int) := by
              have : O.toNat ≠ 0 := fun e => h0 (BitVec.eq_of_toNat_eq (by simpa using e))
              omega
            have hR : RJ1 = RJ ++ [⟨l.m, l.v, O⟩] := by
              have h := hst.out
              simp only at h
              rwa [if_neg h0] at h
            have hR' := Lib.hid hR
            have hzx := size_of_block hx
            have hbsz := hbi.size
            clear h0 hR hst
            go_wp2_with (at_builtin; go_loud (refine wpList_append_own _ rfl _ _ 37 rfl w5.heap.size 47 i0 (.agg #[.int .u8 0, .int .u8 0, .int .u8 0]) 3 3 Tryd.underlying37 hi0' hz0 hz1' hz2' rfl (by decide) _ _ _ rfl (hoI.alloc _) ⟨wr.heap.size, 0, none⟩ 1 1 [.int .u8 l.m.toNat, .int .u8 l.v.toNat, .int .u8 O.toNat] rfl rfl ?c1 ?c2 ?c3 ?c4 ?c5 ?_))
            case c1 => exact World.news_of_block (cs := #[.int .u8 l.m.toNat, .int .u8 l.v.toNat, .int .u8 O.toNat]) (t := 47) (fr := (0, 0)) (heap_alloc_new wr _)
            case c2 => intro u hu; simp at hu; rcases hu with rfl | rfl | rfl <;> rfl
            case c3 => unfold maxLen; omega
            case c4 => omega
            case c5 => simp; omega
            intro v' w8 ho8 hg8 _
            have hB8 := grown_below (hoI.alloc (.cells #[.int .u8 l.m.toNat, .int .u8 l.v.toNat, .int .u8 O.toNat] 47)) hg8 (hbi.alloc hbi.size _) (Nat.le_refl _) (by simp; omega)
            have ho8' : w8.ownsRow w5.heap.size 47 3 v' (rowsF q (ls.take (j + 1))).length (rwsV (rowsF q (ls.take (j + 1)))) := by
              rw [show rowsF q (ls.take (j + 1)) = RJ ++ [⟨l.m, l.v, O⟩] from hRd1.out.trans hR'.out, rwsV_snoc, List.length_append]
              exact ho8
            clear hg8 hoI ho8
            go_wp2
            go_roundw
            case rel => exact ⟨j + 1, by omega, by go_num, hB8, ho8'⟩
            case measure => simp [intOf]; omega
    · have e : j = ls.length := by omega
      rw [e, hfe.out] at hoV
      have hs6 := keep_blk hb hs5
      obtain ⟨s0, s1, s2, -⟩ := now3 hs6 rfl
      have hRw := own_rws hoV
      have HC := scovers_any i _ _ _ on may (rowsF n ls) wr ((hX5.below hb).more hb.size) ((hY5.below hb).more hb.size) hRw
      rw [hcov] at HC
      have hlV : (ls.take j) = ls := by rw [e, List.take_length]
      rw [hlV] at *
      unfold spv at HC
      clear hA hfst hfln hfz hfe hlo hRw hX5 hY5 hoV
      go_wp2_with fail
      refine HC.mono ?_
      rintro e w7 ⟨rfl, hb7⟩
      have hB7 := hbw.trans (hb7.mono hbw.size)
      have HK := knows4_any w7 (hkw.below hB7)
      clear HC hb7
      go_wp2_with fail
      refine HK.mono ?_
      rintro e w8 ⟨rfl, hb8⟩
      have hB8 := hB7.trans (hb8.mono hB7.size)
      clear HK
      go_wp2
      go_ret
      exact ⟨rfl, hB8⟩
theorem specLines_any (t : Tb) (L : Value) (w : World) (hL : LinesAt w w.heap.size L t.ls) (hkw : KW w) :
    Calls Tryd.prog 5 #[tv t.k t.i t.n L] w fun e w' => e = .returned (.bool true) ∧ Below w.heap.size w w' := by
  cases hg : greatL t.ls
  · cases hr : rightT t
    · exact specLines_wrong t L w hL hkw hg hr
    · obtain ⟨⟨-, ⟨hi0, -⟩, hn1, -⟩, -⟩ := (rightT_iff t).1 hr
      obtain ⟨k, i, n, ls⟩ := t
      dsimp only at hi0 hn1 hL hg
      obtain ⟨I, rfl⟩ := Int.eq_ofNat_of_zero_le hi0
      obtain ⟨N, rfl⟩ := Int.eq_ofNat_of_zero_le (show 0 ≤ n by omega)
      exact specLines_right k I N ls L w hL hkw hg hr
  · exact specLines_great t L w hL hkw hg
end Go.Proofs.YtckmjampgeojbaaDoor
