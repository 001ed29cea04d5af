/- The document's own Make, for every row of nodes and all numbers. -/
import Derived.Test.YtkcchdaadajjcaaCpy05
import Derived.Deep.CutRange
import Derived.IntWalk
namespace Go.Proofs.Ytkcchdaadajjcaa
open Go.RowKit Go.Joins

theorem Try.infoRnode : (Try.prog.info? 45).map (fun i => (i.zero, i.size, i.bytes)) = some (some (.agg #[.int .i64 0, .int .i64 0, .int .i64 0, .bool false]), 4, 32) := by kernel_rfl
/-- The first place from k on that is none. -/
def freeFrom (S : St) (k : Nat) : Nat := k + (S.drop k).findIdx (·.isNone)
theorem freeFrom_len (S : St) : freeFrom S S.length = S.length := by unfold freeFrom; simp
theorem freeFrom_zero (S : St) : freeFrom S 0 = freeI S := by unfold freeFrom freeI; simp
theorem freeFrom_none {S : St} {k : Nat} (h : S[k]? = some none) : freeFrom S k = k := by
  have hl := (List.getElem?_eq_some_iff.1 h).1
  unfold freeFrom
  rw [List.drop_eq_getElem_cons hl, List.findIdx_cons]
  rw [List.getElem?_eq_getElem hl] at h
  injection h with h
  rw [h]; rfl
theorem freeFrom_some {S : St} {k : Nat} {n : Nd} (h : S[k]? = some (some n)) : freeFrom S k = freeFrom S (k + 1) := by
  have hl := (List.getElem?_eq_some_iff.1 h).1
  unfold freeFrom
  rw [List.drop_eq_getElem_cons hl, List.findIdx_cons]
  rw [List.getElem?_eq_getElem hl] at h
  injection h with h
  rw [h]
  simp
  omega
theorem nodes_one (L : List Rn) : ∀ u ∈ nodesV L, u.oneCell' = true := by
  intro u hu
  unfold nodesV at hu
  rw [List.mem_flatMap] at hu
  obtain ⟨x, _, hx⟩ := hu
  simp [nodeL] at hx
  rcases hx with rfl | rfl | rfl | rfl <;> rfl
/-- What the document's Make hands back. -/
def RMakeDone (w : World) (B : Nat) (room : Nat) (L : List Rn) (n : Nd) (e : Ending) (w' : World) : Prop :=
  ∃ v' L', e = .returned (.tuple #[raV room v', .int .i64 (mkS room (stOf L) n).2.1, .int .i64 (mkS room (stOf L) n).2.2]) ∧ RefAt w' B v' L' ∧ stOf L' = (mkS room (stOf L) n).1 ∧ Below w.heap.size w w'
set_option maxHeartbeats 2000000 in
set_option maxRecDepth 100000 in
theorem rmake_bad {w : World} {B : Nat} {v : Value} {L : List Rn} (room : Nat) (h : RefAt w B v L) (hl : L.length ≤ 20000) (l lo hi : Int) (hk : okN (stOf L) (l, lo, hi) = false) :
    Calls Try.prog 11 #[raV room v, .int .i64 l, .int .i64 lo, .int .i64 hi] w (RMakeDone w B room L (l, lo, hi)) := by
  obtain ⟨A, c, rfl⟩ := own_form h
  have hB := below_alloc2 w (raB room (.slice A L.length c)) (raB 0 (.slice none 0 0))
  have hb := heap_alloc2_old w (raB room (.slice A L.length c)) (raB 0 (.slice none 0 0))
  have hz := heap_alloc2_new w (raB room (.slice A L.length c)) (raB 0 (.slice none 0 0))
  have h1 := owns_below h hB
  have HL := rlevel_any room h1 hl lo
  have HH := fun (w2 : World) (hb2 : Below ((w.alloc (raB room (.slice A L.length c))).alloc (raB 0 (.slice none 0 0))).heap.size ((w.alloc (raB room (.slice A L.length c))).alloc (raB 0 (.slice none 0 0))) w2) => rlevel_any room (owns_below h1 hb2) hl hi
  have hR := Lib.hid (show mkS room (stOf L) (l, lo, hi) = (stOf L, 0, 1) by unfold mkS; rw [if_pos hk])
  have hRw := Lib.hid (fun w2 => owns_below (w1 := w2) h1)
  have hzs : w.heap.size + 1 < ((w.alloc (raB room (.slice A L.length c))).alloc (raB 0 (.slice none 0 0))).heap.size := size_of_block hz
  unfold raV raB at *
  generalize hla : lvl (stOf L) lo = a at *
  generalize hlb : lvl (stOf L) hi = b at *
  obtain ⟨z0, z1, zf⟩ := now2 hz rfl
  have fin : ∀ w3 : World, Below ((w.alloc (raB room (.slice A L.length c))).alloc (raB 0 (.slice none 0 0))).heap.size ((w.alloc (raB room (.slice A L.length c))).alloc (raB 0 (.slice none 0 0))) w3 →
      RMakeDone w B room L (l, lo, hi) (.returned (.tuple #[.agg #[.int .i64 room, .slice A L.length c], .int .i64 0, .int .i64 1])) ((w3.setCell ⟨w.heap.size + 1, 0, none⟩ (.int .i64 room)).setCell ⟨w.heap.size + 1, 1, none⟩ (.slice A L.length c)) := fun w3 hb3 => by
    have hown := owns_below h1 hb3
    have hz3 := keep_blk hb3 hz
    unfold raB at hz3
    refine ⟨.slice A L.length c, L, by rw [hR.out]; rfl, own_set (own_set hown (own_ne hown hz3 (by decide)) _ _) (own_ne hown hz3 (by decide)) _ _, by rw [hR.out], ((hB.trans (hb3.mono hB.size)).setCell (by simp) _).setCell (by simp) _⟩
  by_cases h0 : l < 0
  · clear HL HH hk
    go_enter Try.func11, Try.ntmps11
    go_wp2
    exact bodyPost_ret (v := .tuple #[.agg #[.int .i64 room, .slice A L.length c], .int .i64 0, .int .i64 1]) (by simp [results, Try.results11, go_sem]) rfl ⟨.slice A L.length c, L, by rw [hR.out]; rfl, owns_below h (below_alloc2 w _ _), by rw [hR.out], below_alloc2 w _ _⟩
  · by_cases h23 : 23 < l
    · clear HL HH hk
      go_enter Try.func11, Try.ntmps11
      go_wp2
      exact bodyPost_ret (v := .tuple #[.agg #[.int .i64 room, .slice A L.length c], .int .i64 0, .int .i64 1]) (by simp [results, Try.results11, go_sem]) rfl ⟨.slice A L.length c, L, by rw [hR.out]; rfl, owns_below h (below_alloc2 w _ _), by rw [hR.out], below_alloc2 w _ _⟩
    · by_cases ha : a ≤ l
      · clear HH hk
        go_enter Try.func11, Try.ntmps11
        go_wp2_with fail
        refine HL.mono ?_
        rintro e w3 ⟨rfl, hb3⟩
        have hb' := keep_blk hb3 hb
        have hz' := keep_blk hb3 hz
        obtain ⟨b0, b1, bf⟩ := now2 hb' rfl
        obtain ⟨z0, z1, zf⟩ := now2 hz' rfl
        clear HL
        go_wp2
        exact bodyPost_ret (v := .tuple #[.agg #[.int .i64 room, .slice A L.length c], .int .i64 0, .int .i64 1]) (by simp [results, Try.results11, go_sem, z0, z1]) rfl (fin _ hb3)
      · have hbl : b ≤ l := by
          rcases Int.lt_or_le l b with hlt | hle
          · exfalso
            have : okN (stOf L) (l, lo, hi) = true := (okN_iff _ _).2 ⟨by omega, by show l < 24; omega, by show l < lvl (stOf L) lo; omega, by show l < lvl (stOf L) hi; omega⟩
            rw [hk] at this
            cases this
          · exact hle
        clear hk hla hlb
        go_enter Try.func11, Try.ntmps11
        go_wp2_with fail
        refine HL.mono ?_
        rintro e w3 ⟨rfl, hb3⟩
        have hb' := keep_blk hb3 hb
        have hz' := keep_blk hb3 hz
        obtain ⟨b0, b1, bf⟩ := now2 hb' rfl
        have HH := HH w3 hb3
        clear HL
        go_wp2_with fail
        refine HH.mono ?_
        rintro e w4 ⟨rfl, hb4⟩
        have hb'' := keep_blk hb4 hb'
        have hz'' := keep_blk hb4 hz'
        obtain ⟨b0, b1, bf⟩ := now2 hb'' rfl
        obtain ⟨z0, z1, zf⟩ := now2 hz'' rfl
        clear HH
        go_wp2
        exact bodyPost_ret (v := .tuple #[.agg #[.int .i64 room, .slice A L.length c], .int .i64 0, .int .i64 1]) (by simp [results, Try.results11, go_sem, z0, z1]) rfl (fin _ (hb3.trans (hb4.mono hb3.size)))
set_option maxHeartbeats 4000000 in
set_option maxRecDepth 100000 in
theorem rmake_ok {w : World} {B : Nat} {v : Value} {L : List Rn} (room : Nat) (h : RefAt w B v L) (hBw : B ≤ w.heap.size) (hV : VSt (stOf L)) (hl : L.length ≤ 20000) (l lo hi : Int) (hk : okN (stOf L) (l, lo, hi) = true) :
    Calls Try.prog 11 #[raV room v, .int .i64 l, .int .i64 lo, .int .i64 hi] w (RMakeDone w B room L (l, lo, hi)) := by
  obtain ⟨A, c, rfl⟩ := own_form h
  have hB := below_alloc2 w (raB room (.slice A L.length c)) (raB 0 (.slice none 0 0))
  have hb := heap_alloc2_old w (raB room (.slice A L.length c)) (raB 0 (.slice none 0 0))
  have hz := heap_alloc2_new w (raB room (.slice A L.length c)) (raB 0 (.slice none 0 0))
  have h1 := owns_below h hB
  have HL := rlevel_any room h1 hl lo
  have HH := fun (w2 : World) (hb2 : Below ((w.alloc (raB room (.slice A L.length c))).alloc (raB 0 (.slice none 0 0))).heap.size ((w.alloc (raB room (.slice A L.length c))).alloc (raB 0 (.slice none 0 0))) w2) => rlevel_any room (owns_below h1 hb2) hl hi
  obtain ⟨k0, k1, k2, k3⟩ := (okN_iff _ _).1 hk
  have hmk : ∀ i, whereN (stOf L) (l, lo, hi) = some i → mkS room (stOf L) (l, lo, hi) = (stOf L, (i : Int) + 2, 0) := fun i hi => by unfold mkS; rw [if_neg (by rw [hk]; decide), hi]
  have hmn : whereN (stOf L) (l, lo, hi) = none → mkS room (stOf L) (l, lo, hi) = if room ≤ cnt (stOf L) then (stOf L, 0, 5) else (putS (stOf L) (freeI (stOf L)) (l, lo, hi), (freeI (stOf L) : Int) + 2, 0) := fun hi => by unfold mkS; rw [if_neg (by rw [hk]; decide), hi]
  have hmk' := Lib.hid hmk
  have hmn' := Lib.hid hmn
  unfold raV raB at *
  dsimp only at k0 k1 k2 k3
  generalize hla : lvl (stOf L) lo = a at *
  generalize hlb : lvl (stOf L) hi = b at *
  have hx1 : ¬ l < 0 := by omega
  have hx2 : ¬ 23 < l := by omega
  have hx3 : ¬ a ≤ l := by omega
  have hx4 : ¬ b ≤ l := by omega
  clear hmk hmn hk hla hlb
  go_enter Try.func11, Try.ntmps11
  go_wp2_with fail
  refine HL.mono ?_
  rintro e w3 ⟨rfl, hb3⟩
  have hb' := keep_blk hb3 hb
  have hz' := keep_blk hb3 hz
  have h3 := owns_below h1 hb3
  have HH := HH w3 hb3
  have hB3 := hB.trans (hb3.mono hB.size)
  obtain ⟨b0, b1, bf⟩ := now2 hb' rfl
  clear HL hb hz h1 hb3 hB
  go_wp2_with fail
  refine HH.mono ?_
  rintro e w4 ⟨rfl, hb4⟩
  have hb := keep_blk hb4 hb'
  have hz := keep_blk hb4 hz'
  have h4 := owns_below h3 hb4
  have hB4 := hB3.trans (hb4.mono hB3.size)
  obtain ⟨b0, b1, bf⟩ := now2 hb rfl
  clear HH hb' hz' h3 hb4 hB3
  go_wp2
  go_loopw [11, 12, 13] (fun q t _ wr => ∃ k : Nat, k ≤ L.length ∧ t = .int .i64 ((k : Int) - 1) ∧ q = .int .i64 (freeFrom (stOf L) k) ∧ Hid (∀ j, k ≤ j → (stOf L)[j]? ≠ some (some (l, lo, hi))) ∧ Below w.heap.size w wr ∧ wr.heap[w.heap.size]? = some (.cells #[.int .i64 room, .slice A L.length c] 30 (0, 0)) ∧ wr.heap[w.heap.size + 1]? = some (.cells #[.int .i64 0, .slice none 0 0] 30 (0, 0))) (fun _ t _ _ => (intOf t + 1).toNat)
  case atStart => exact ⟨L.length, by omega, rfl, by rw [← stOf_len, freeFrom_len], Lib.hid (fun j hj e => by have := (List.getElem?_eq_some_iff.1 e).1; rw [stOf_len] at this; omega), hB4, hb, hz⟩
  case round =>
    clear hb hz hB4 b0 b1 bf h4
    obtain ⟨k, hk, ht, rfl, hH, hbw, hb, hz⟩ := hrel
    obtain ⟨b0, b1, bf⟩ := now2 hb rfl
    cases k with
    | succ q =>
      rw [show (((q + 1 : Nat) : Int) - 1) = (q : Int) by omega] at ht
      subst ht
      have hlt : q < L.length := by omega
      obtain ⟨x, hx⟩ : ∃ x, L[q]? = some x := ⟨_, List.getElem?_eq_getElem hlt⟩
      obtain ⟨g, cg, hA⟩ := own_some h (by omega)
      obtain rfl : A = some ⟨g, 0, none⟩ := by injection hA
      have hown := owns_below h hbw
      obtain ⟨d0, d1, d2, d3⟩ := nodes_at hown hx
      have hS := stOf_at hx
      obtain ⟨⟨x0, y0, z0⟩, gone⟩ := x
      dsimp only at *
      cases gone
      · simp only [Bool.false_eq_true, if_false] at hS
        by_cases hne : x0 = l ∧ y0 = lo ∧ z0 = hi
        · obtain ⟨rfl, rfl, rfl⟩ := hne
          have hR := Lib.hid (hmk'.out q (whereN_eq hV hS))
          obtain ⟨z0', z1', zf⟩ := now2 hz rfl
          have hzs := size_of_block hz
          have hbk := keep_alloc (x := .cells #[.int .i64 x0, .int .i64 y0, .int .i64 z0, .bool false] 45 (0, 0)) hb
          obtain ⟨b0', b1', bf'⟩ := now2 hbk rfl
          clear hx hA hS hH hmk' hmn'
          go_wp2
          have hz2 : ((wr.setCell ⟨w.heap.size + 1, 0, none⟩ (.int .i64 room)).setCell ⟨w.heap.size + 1, 1, none⟩ (.slice (some ⟨g, 0, none⟩) L.length c)).heap[w.heap.size + 1]? = some (.cells #[.int .i64 room, .slice (some ⟨g, 0, none⟩) L.length c] 30 (0, 0)) := by
            rw [block_setCell (block_setCell hz _) _]; rfl
          obtain ⟨p0, p1, -⟩ := now2 (keep_alloc (x := .cells #[.int .i64 x0, .int .i64 y0, .int .i64 z0, .bool false] 45 (0, 0)) hz2) rfl
          have hne2 := own_ne hown hz (by decide)
          exact bodyPost_ret (v := .tuple #[.agg #[.int .i64 room, .slice (some ⟨g, 0, none⟩) L.length c], .int .i64 ((q : Int) + 2), .int .i64 0]) (by simp [results, Try.results11, go_sem, p0, p1]) rfl
            ⟨.slice (some ⟨g, 0, none⟩) L.length c, L, by rw [hR.out]; rfl, (own_set (own_set hown hne2 _ _) hne2 _ _).alloc _, by rw [hR.out], ((hbw.setCell (by simp) _).setCell (by simp) _).alloc (by have := hbw.size; simpa [World.setCell] using this) _⟩
        · have hff := Lib.hid (freeFrom_some hS)
          have hH' : Hid (∀ j, q ≤ j → (stOf L)[j]? ≠ some (some (l, lo, hi))) := Lib.hid (fun j hj e => by
            rcases Nat.eq_or_lt_of_le hj with e2 | hlt2
            · subst e2
              rw [hS] at e
              injection e with e; injection e with e
              injection e with e0 e; injection e with e1 e
              exact hne ⟨e0, e1, e⟩
            · exact hH.out j hlt2 e)
          clear hx hA hS hown hH
          by_cases e0 : x0 = l
          · subst e0
            by_cases e1 : y0 = lo
            · subst e1
              have e2 : (z0 == hi) = false := by rw [beq_eq_false_iff_ne]; intro e; exact hne ⟨rfl, rfl, e⟩
              clear hne
              go_wp2
              go_roundw
              case rel => exact ⟨q, by omega, rfl, by rw [hff.out], hH', hbw.alloc hbw.size _, keep_alloc hb, keep_alloc hz⟩
              case measure => simp [intOf]
            · have e2 : (y0 == lo) = false := by rw [beq_eq_false_iff_ne]; exact e1
              clear hne e1
              go_wp2
              go_roundw
              case rel => exact ⟨q, by omega, rfl, by rw [hff.out], hH', hbw.alloc hbw.size _, keep_alloc hb, keep_alloc hz⟩
              case measure => simp [intOf]
          · have e2 : (x0 == l) = false := by rw [beq_eq_false_iff_ne]; exact e0
            clear hne e0
            go_wp2
            go_roundw
            case rel => exact ⟨q, by omega, rfl, by rw [hff.out], hH', hbw.alloc hbw.size _, keep_alloc hb, keep_alloc hz⟩
            case measure => simp [intOf]
      · simp only [if_true] at hS
        have hff := Lib.hid (freeFrom_none hS)
        have hH' : Hid (∀ j, q ≤ j → (stOf L)[j]? ≠ some (some (l, lo, hi))) := Lib.hid (fun j hj e => by
          rcases Nat.eq_or_lt_of_le hj with e2 | hlt2
          · subst e2; rw [hS] at e; injection e with e; cases e
          · exact hH.out j hlt2 e)
        clear hx hA hS hown hH
        go_wp2
        go_roundw
        case rel => exact ⟨q, by omega, rfl, by rw [hff.out], hH', hbw.alloc hbw.size _, keep_alloc hb, keep_alloc hz⟩
        case measure => simp [intOf]
    | zero =>
      rw [show (((0 : Nat) : Int) - 1) = -1 by omega] at ht
      subst ht
      have hown := owns_below h hbw
      have hwn : whereN (stOf L) (l, lo, hi) = none := by
        cases hx : whereN (stOf L) (l, lo, hi) with
        | none => rfl
        | some j => exact absurd (whereN_some hx) (hH.out j (Nat.zero_le _))
      have hm := hmn'.out hwn
      have hf0 := freeFrom_zero (stOf L)
      have hwnH := Lib.hid hwn
      rw [hf0]
      have HLn := fun x : After wr => rlen_any room (owns_below hown x.2) hl
      unfold raV at HLn
      obtain ⟨b0, b1, bf⟩ := box2 hb rfl
      have hmH := Lib.hid hm
      clear hf0 hH hmk' hmn' hm hwn
      go_wp2
      refine wp_region_after (by kernel_rfl) (by kernel_rfl) ?_
      repeat (first | go_big_quiet_step ((go_at_call 13; exact Calls.after_of (HLn _))))
      refine wpQuiet_nil ?_
      intro x5
      have hb5 := keep_blk x5.2 hb
      have hz5 := keep_blk x5.2 hz
      have ho5 := owns_below hown x5.2
      have hB5 := hbw.trans (x5.2.mono hbw.size)
      clear HLn b0 b1 bf hb hz hown hbw
      obtain ⟨w5, hx5⟩ := x5
      dsimp only at *
      clear hx5
      obtain ⟨b0, b1, bf⟩ := now2 hb5 rfl
      by_cases hroom : room ≤ cnt (stOf L)
      · have hR := Lib.hid (hmH.out.trans (if_pos hroom))
        have hroom' : (room : Int) ≤ (cnt (stOf L) : Nat) := by omega
        obtain ⟨z0', z1', zf⟩ := now2 hz5 rfl
        have hne2 := own_ne ho5 hz5 (by decide)
        obtain ⟨p0, p1, -⟩ := now2 (put2 (x0 := .int .i64 room) (x1 := .slice A L.length c) hz5) rfl
        clear hmH
        go_wp2
        exact bodyPost_ret (v := .tuple #[.agg #[.int .i64 room, .slice A L.length c], .int .i64 0, .int .i64 5]) (by simp [results, Try.results11, go_sem, p0, p1]) rfl
          ⟨.slice A L.length c, L, by rw [hR.out]; rfl, own_set (own_set ho5 hne2 _ _) hne2 _ _, by rw [hR.out], (hB5.setCell (by simp) _).setCell (by simp) _⟩
      · have hR := Lib.hid (hmH.out.trans (if_neg hroom))
        have hroom' : ¬ (room : Int) ≤ (cnt (stOf L) : Nat) := by omega
        clear hmH hroom
        go_upto_region 14 with (fail)
        go_cut [14] from 43 to 91 (fun s14 wc => ∃ (bo c2 : Nat) (A2 : Option Addr), s14 = .pointer (some ⟨bo, 0, none⟩) ∧ wc.heap[bo]? = some (.cells #[.int .i64 room, .slice A2 L.length c2] 30 (0, 0)) ∧ wc.ownsRow w5.heap.size 45 4 (.slice A2 L.length c2) L.length (nodesV L) ∧ Below w5.heap.size w5 wc ∧ w5.heap.size ≤ bo)
        case first =>
          obtain ⟨i0, hi0, hz0, hz1, hz2⟩ := info_parts Try.infoRnode
          have hone := nodes_one L
          have hzw := size_of_block hb5
          obtain ⟨g0, g1⟩ := later2 hb5
          obtain ⟨g2, g3⟩ := later3 hb5
          go_region_law (first | (refine step_copy_row (w5 := w5) (w := (w5.alloc (.cells #[] 45)).drew) (b := w5.heap.size) (by rfl) _ _ 28 (by rfl) Try.underlying28 hi0 hz0 hz1 hz2 rfl (by decide) (by rfl) (by rfl) ((Below.refl _ w5).alloc (Nat.le_refl _) _).drew (heap_alloc_new w5 _) (by omega) ho5 hone (by unfold maxLen; omega) (by omega) ?_; intro A2 c2 wa ho1 hg1; have hgs := hg1.size; have hbW := ((Below.refl _ w5).alloc (Nat.le_refl _) _).drew.grown hg1 (by first | (simp; done) | (simp; omega)) (by intro k hk; injection hk with hk; omega); have hkb := (hg1.block w.heap.size (by first | (simp; done) | (simp; omega)) (by first | (simp; done) | (simp; omega))).trans (keep_alloc hb5); obtain ⟨a0, a1, af⟩ := now2 hkb rfl; obtain ⟨a2, a3⟩ := later2 hkb; skip) | (refine step_copy_row (w5 := w5) (w := ((w5.alloc (.cells #[] 45)).alloc (.cells #[.int .i64 0, .slice none 0 0] 30)).drew) (b := w5.heap.size) (by rfl) _ _ 28 (by rfl) Try.underlying28 hi0 hz0 hz1 hz2 rfl (by decide) (by rfl) (by rfl) (((Below.refl _ w5).alloc (Nat.le_refl _) _).alloc (by simp) _).drew (heap_alloc2_old w5 _ _) (by omega) ho5 hone (by unfold maxLen; omega) (by omega) ?_; intro A2 c2 wa ho1 hg1; have hgs := hg1.size; have hbW := (((Below.refl _ w5).alloc (Nat.le_refl _) _).alloc (by simp) _).drew.grown hg1 (by first | (simp; done) | (simp; omega)) (by intro k hk; injection hk with hk; omega); have hkb := (hg1.block w.heap.size (by first | (simp; done) | (simp; omega)) (by first | (simp; done) | (simp; omega))).trans (keep_alloc (keep_alloc hb5)); obtain ⟨a0, a1, af⟩ := now2 hkb rfl; obtain ⟨a2, a3⟩ := later2 hkb; have hk := (hg1.block (w5.heap.size + 1) (by first | (simp; done) | (simp; omega)) (by first | (simp; done) | (simp; omega))).trans (heap_alloc2_new w5 _ _); obtain ⟨y0, y1, yf⟩ := now2 hk rfl) | (refine step_copy_row (w5 := w5) (w := ((w5.alloc (.cells #[.int .i64 0, .slice none 0 0] 30)).alloc (.cells #[] 45)).drew) (b := w5.heap.size + 1) (by rfl) _ _ 28 (by rfl) Try.underlying28 hi0 hz0 hz1 hz2 rfl (by decide) (by rfl) (by rfl) (((Below.refl _ w5).alloc (Nat.le_refl _) _).alloc (by simp) _).drew (heap_alloc2_new w5 _ _) (by omega) ho5 hone (by unfold maxLen; omega) (by omega) ?_; intro A2 c2 wa ho1 hg1; have hgs := hg1.size; have hbW := (((Below.refl _ w5).alloc (Nat.le_refl _) _).alloc (by simp) _).drew.grown hg1 (by first | (simp; done) | (simp; omega)) (by intro k hk; injection hk with hk; omega); have hkb := (hg1.block w.heap.size (by first | (simp; done) | (simp; omega)) (by first | (simp; done) | (simp; omega))).trans (keep_alloc (keep_alloc hb5)); obtain ⟨a0, a1, af⟩ := now2 hkb rfl; obtain ⟨a2, a3⟩ := later2 hkb; have hk := (hg1.block w5.heap.size (by first | (simp; done) | (simp; omega)) (by simp)).trans (heap_alloc2_old w5 _ _); obtain ⟨y0, y1, yf⟩ := now2 hk rfl))
          all_goals
            go_wp2_with fail
            go_meet
            first
              | exact ⟨_, c2, A2, rfl, heap_alloc_new wa _, ho1.alloc _, hbW.alloc hbW.size _, hbW.size⟩
              | exact ⟨_, c2, A2, rfl, put2 hk, own_set (own_set ho1 (own_ne ho1 hk (by decide)) _ _) (own_ne ho1 hk (by decide)) _ _, (hbW.setCell (by simp) _).setCell (by simp) _, by omega⟩
        case rest =>
          obtain ⟨bo, c3, A2, rfl, hbo, hox, hBx, hge⟩ := hcut
          have hz6 := keep_blk hBx hz5
          have hBw6 := hB5.trans (hBx.mono hB5.size)
          have hfl := freeI_le (stOf L)
          rw [stOf_len] at hfl
          have hw5z := size_of_block hz5
          have hBxs := hBx.size
          clear hb5 hz5 b0 b1 bf ho5
          obtain ⟨c0, c1, cf⟩ := now2 hbo rfl
          by_cases hfe : freeI (stOf L) = L.length
          · obtain ⟨i0, hi0, hz0, hz1, hz2⟩ := info_parts Try.infoRnode
            have heq : ((freeI (stOf L) : Int) == (L.length : Int)) = true := by rw [beq_iff_eq]; omega
            have hst : Hid (stOf ((L ++ [((0, 0, 0), false)]).set (freeI (stOf L)) ((l, lo, hi), false)) = putS (stOf L) (freeI (stOf L)) (l, lo, hi)) := Lib.hid (by
              unfold putS
              rw [stOf_len, if_pos hfe, hfe, List.set_append_right _ _ (Nat.le_refl _)]
              unfold stOf
              simp)
            have hboz := size_of_block hbo
            have hfeH := Lib.hid hfe
            clear hfe
            go_wp2_with (at_builtin; go_loud (refine wpList_append_own_at _ rfl _ _ 28 rfl w5.heap.size 45 i0 (.agg #[.int .i64 0, .int .i64 0, .int .i64 0, .bool false]) 4 32 Try.underlying28 hi0 hz0 hz1 hz2 rfl (by decide) _ _ _ rfl (hox.alloc _) ⟨wc.heap.size, 0, none⟩ 1 1 [.int .i64 0, .int .i64 0, .int .i64 0, .bool false] rfl rfl ?c1 ?c2 ?c3 ?c4 ?c5 ?_))
            case c2 => exact ⟨rfl, rfl⟩
            case c3 => unfold maxLen; omega
            case c4 => omega
            case c5 => omega
            intro v7 w7 ho7 hg7 _ hloc
            have hne7 := own_ne hox hbo (by decide)
            have hnez := own_ne hox hz6 (by decide)
            have hbo7 := (hg7.block bo (by simp; omega) (fun e => hne7 e.symm)).trans (keep_alloc hbo)
            have hz7 := (hg7.block (w.heap.size + 1) (by have := size_of_block hz6; simp; omega) (fun e => hnez e.symm)).trans (keep_alloc hz6)
            have hB7 : Below w.heap.size w w7 := grown_below (hox.alloc (.cells #[.int .i64 0, .int .i64 0, .int .i64 0, .bool false] 45)) hg7 (hBw6.alloc hBw6.size _) (by omega) (by have := hBw6.size; simp; omega)
            have ho7' : w7.ownsRow w5.heap.size 45 4 v7 (L.length + 1) (nodesV (L ++ [((0, 0, 0), false)])) := by
              have e : nodesV (L ++ [((0, 0, 0), false)]) = nodesV L ++ [.int .i64 0, .int .i64 0, .int .i64 0, .bool false] := by unfold nodesV; simp [nodeL]
              rw [e]; exact ho7
            obtain ⟨g2, c4, rfl⟩ := own_some ho7' (by omega)
            have hge2 : w5.heap.size ≤ g2 := (ho7'.lt g2 rfl).1
            obtain ⟨c0, c1, cf⟩ := now2 hbo7 rfl
            clear hox hbo hg7 hloc ho7 hz6 hBx hne7 hnez
            go_upto_region 17 with (fail)
            have hbo7' : (w7.setCell ⟨bo, 1, none⟩ (.slice (some ⟨g2, 0, none⟩) (L.length + 1) c4)).heap[bo]? = some (.cells #[.int .i64 room, .slice (some ⟨g2, 0, none⟩) (L.length + 1) c4] 30 (0, 0)) := by
              rw [block_setCell hbo7]; rfl
            have hz7' := keep_set (a := ⟨bo, 1, none⟩) (u := .slice (some ⟨g2, 0, none⟩) (L.length + 1) c4) (show w.heap.size + 1 ≠ bo by omega) hz7
            have ho7s := own_set ho7' (own_ne ho7' hbo7 (by decide)) 1 (.slice (some ⟨g2, 0, none⟩) (L.length + 1) c4)
            have hB7' := hB7.setCell (p := ⟨bo, 1, none⟩) (by show w.heap.size ≤ bo; omega) (.slice (some ⟨g2, 0, none⟩) (L.length + 1) c4)
            clear c0 c1 cf hbo7 hz7 ho7' hB7
            generalize w7.setCell ⟨bo, 1, none⟩ (.slice (some ⟨g2, 0, none⟩) (L.length + 1) c4) = w6 at *
            obtain ⟨c0, c1, cf⟩ := now2 hbo7' rfl
            have hlt7 : freeI (stOf L) < (L ++ [((0, 0, 0), false)]).length := by rw [hfeH.out]; simp
            have hltI : (freeI (stOf L) : Int) < (L.length : Int) + 1 := by rw [hfeH.out]; omega
            have ho7l : RefAt w6 w5.heap.size (.slice (some ⟨g2, 0, none⟩) (L ++ [((0, 0, 0), false)]).length c4) (L ++ [((0, 0, 0), false)]) := by unfold RefAt; rw [List.length_append]; exact ho7s
            obtain ⟨d0, d1, d2, d3⟩ := nodes_at (i := freeI (stOf L)) (x := ((0, 0, 0), false)) ho7l (by rw [hfeH.out]; simp)
            have df := ho7s.frozenAt
            obtain ⟨ho8, hg8⟩ := own_put4 (f := nodeL) (l := L ++ [((0, 0, 0), false)]) ho7s nodeL_len ((l, lo, hi), false) (v0 := .int .i64 l) (v1 := .int .i64 lo) (v2 := .int .i64 hi) (v3 := .bool false) rfl hlt7
            have hbo8 := (hg8.block bo (size_of_block hbo7') (fun e => own_ne ho7s hbo7' (by decide) e.symm)).trans hbo7'
            have hz8 := (hg8.block _ (size_of_block hz7') (fun e => own_ne ho7s hz7' (by decide) e.symm)).trans hz7'
            have hB8 := hB7'.grown hg8 hB7'.size (fun k hk => by injection hk with hk; omega)
            clear ho7l hg8 ho7s hbo7' hz7' hB7'
            go_upto_region 18 with (fail)
            generalize (((w6.setCell ⟨g2, freeI (stOf L) * 4, none⟩ (.int .i64 l)).setCell ⟨g2, freeI (stOf L) * 4 + 1, none⟩ (.int .i64 lo)).setCell ⟨g2, freeI (stOf L) * 4 + 2, none⟩ (.int .i64 hi)).setCell ⟨g2, freeI (stOf L) * 4 + 3, none⟩ (.bool false) = w8 at *
            clear d0 d1 d2 d3 df c0 c1 cf
            obtain ⟨y0, y1, yf⟩ := now2 hbo8 rfl
            obtain ⟨z0', z1', zf⟩ := now2 hz8 rfl
            obtain ⟨p0, p1, -⟩ := now2 (put2 (x0 := .int .i64 room) (x1 := .slice (some ⟨g2, 0, none⟩) (L.length + 1) c4) hz8) rfl
            have hne2 := own_ne ho8 hz8 (by decide)
            have ho8' := Lib.hid ho8
            clear ho8
            go_wp2
            exact bodyPost_ret (v := .tuple #[.agg #[.int .i64 room, .slice (some ⟨g2, 0, none⟩) (L.length + 1) c4], .int .i64 ((freeI (stOf L) : Int) + 2), .int .i64 0]) (by simp [results, Try.results11, go_sem, p0, p1]) rfl
              ⟨.slice (some ⟨g2, 0, none⟩) (L.length + 1) c4, (L ++ [((0, 0, 0), false)]).set (freeI (stOf L)) ((l, lo, hi), false), by rw [hR.out]; rfl, by unfold RefAt; rw [List.length_set, List.length_append, List.length_singleton]; exact own_set (own_set (own_more ho8'.out (by omega)) hne2 _ _) hne2 _ _, by rw [hR.out]; exact hst.out, (hB8.setCell (by simp) _).setCell (by simp) _⟩
          · have hlt7 : freeI (stOf L) < L.length := by omega
            have hltI : (freeI (stOf L) : Int) < (L.length : Int) := by omega
            have heq : ((freeI (stOf L) : Int) == (L.length : Int)) = false := by rw [beq_eq_false_iff_ne]; omega
            have hst : Hid (stOf (L.set (freeI (stOf L)) ((l, lo, hi), false)) = putS (stOf L) (freeI (stOf L)) (l, lo, hi)) := Lib.hid (by
              unfold putS
              rw [stOf_len, if_neg hfe]
              unfold stOf
              rw [List.map_set]
              simp)
            obtain ⟨g2, c4, hA⟩ := own_some hox (by omega)
            obtain ⟨rfl, rfl⟩ : A2 = some ⟨g2, 0, none⟩ ∧ c3 = c4 := by injection hA with e1 e2 e3; exact ⟨e1, e3⟩
            have hge2 : w5.heap.size ≤ g2 := (hox.lt g2 rfl).1
            obtain ⟨x, hx⟩ : ∃ x, L[freeI (stOf L)]? = some x := ⟨_, List.getElem?_eq_getElem hlt7⟩
            obtain ⟨d0, d1, d2, d3⟩ := nodes_at (L := L) hox hx
            have df := hox.frozenAt
            obtain ⟨ho8, hg8⟩ := own_put4 (f := nodeL) (l := L) hox nodeL_len ((l, lo, hi), false) (v0 := .int .i64 l) (v1 := .int .i64 lo) (v2 := .int .i64 hi) (v3 := .bool false) rfl hlt7
            have hbo8 := (hg8.block bo (size_of_block hbo) (fun e => own_ne hox hbo (by decide) e.symm)).trans hbo
            have hz8 := (hg8.block _ (size_of_block hz6) (fun e => own_ne hox hz6 (by decide) e.symm)).trans hz6
            have hB8 := hBw6.grown hg8 hBw6.size (fun k hk => by injection hk with hk; omega)
            clear hA hx hfe hg8 hox hbo hz6 hBw6 hBx
            go_upto_region 18 with (fail)
            generalize (((wc.setCell ⟨g2, freeI (stOf L) * 4, none⟩ (.int .i64 l)).setCell ⟨g2, freeI (stOf L) * 4 + 1, none⟩ (.int .i64 lo)).setCell ⟨g2, freeI (stOf L) * 4 + 2, none⟩ (.int .i64 hi)).setCell ⟨g2, freeI (stOf L) * 4 + 3, none⟩ (.bool false) = w8 at *
            clear d0 d1 d2 d3 df c0 c1 cf
            obtain ⟨y0, y1, yf⟩ := now2 hbo8 rfl
            obtain ⟨z0', z1', zf⟩ := now2 hz8 rfl
            obtain ⟨p0, p1, -⟩ := now2 (put2 (x0 := .int .i64 room) (x1 := .slice (some ⟨g2, 0, none⟩) L.length c3) hz8) rfl
            have hne2 := own_ne ho8 hz8 (by decide)
            have ho8' := Lib.hid ho8
            clear ho8
            go_wp2
            exact bodyPost_ret (v := .tuple #[.agg #[.int .i64 room, .slice (some ⟨g2, 0, none⟩) L.length c3], .int .i64 ((freeI (stOf L) : Int) + 2), .int .i64 0]) (by simp [results, Try.results11, go_sem, p0, p1]) rfl
              ⟨.slice (some ⟨g2, 0, none⟩) L.length c3, L.set (freeI (stOf L)) ((l, lo, hi), false), by rw [hR.out]; rfl, by unfold RefAt; rw [List.length_set]; exact own_set (own_set (own_more ho8'.out (by omega)) hne2 _ _) hne2 _ _, by rw [hR.out]; exact hst.out, (hB8.setCell (by simp) _).setCell (by simp) _⟩
theorem rmake_any {w : World} {B : Nat} {v : Value} {L : List Rn} (room : Nat) (h : RefAt w B v L) (hBw : B ≤ w.heap.size) (hV : VSt (stOf L)) (hl : L.length ≤ 20000) (l lo hi : Int) :
    Calls Try.prog 11 #[raV room v, .int .i64 l, .int .i64 lo, .int .i64 hi] w (RMakeDone w B room L (l, lo, hi)) := by
  cases hk : okN (stOf L) (l, lo, hi) with
  | false => exact rmake_bad room h hl l lo hi hk
  | true => exact rmake_ok room h hBw hV hl l lo hi hk
end Go.Proofs.Ytkcchdaadajjcaa
