/- The greedy choice: plain facts, slices.Max and slices.Min, the function that strikes rows. take of the package reduce. -/
import Derived.Test.YtcbhcclickjpnaaGK15
import Derived.Test.YtcbhcclickjpnaaShelf
import Derived.Test.YtcbhcclickjpnaaGK14
namespace Go.Proofs.Ytcbhcclickjpnaa
open Go.RowKit Go.Joins

theorem maxF {m : Int} : ∀ (zs : List Int), (zs.foldl max m = m ∨ zs.foldl max m ∈ zs) ∧ m ≤ zs.foldl max m ∧ ∀ x, x ∈ zs → x ≤ zs.foldl max m
  | [] => ⟨.inl rfl, Int.le_refl _, fun x h => absurd h List.not_mem_nil⟩
  | z :: zs => by
    obtain ⟨h1, h2, h3⟩ := maxF (m := max m z) zs
    rw [List.foldl_cons]
    refine ⟨?_, by omega, fun x hx => ?_⟩
    · rcases h1 with h1 | h1
      · rw [h1]
        by_cases e : m ≤ z
        · exact .inr (by rw [show max m z = z by omega]; exact List.mem_cons_self ..)
        · exact .inl (by omega)
      · exact .inr (List.mem_cons_of_mem _ h1)
    · rcases List.mem_cons.1 hx with rfl | hx
      · omega
      · exact h3 x hx
theorem maxOf_spec {l : List Int} (h : l ≠ []) : Lib.maxOf l ∈ l ∧ ∀ x, x ∈ l → x ≤ Lib.maxOf l := by
  match l, h with
  | z :: zs, _ =>
    obtain ⟨h1, h2, h3⟩ := maxF (m := max z z) zs
    have e : Lib.maxOf (z :: zs) = zs.foldl max (max z z) := rfl
    rw [e]
    have e2 : max z z = z := by omega
    rw [e2] at h1 h2 h3 ⊢
    refine ⟨?_, fun x hx => ?_⟩
    · rcases h1 with h1 | h1
      · rw [h1]; exact List.mem_cons_self ..
      · exact List.mem_cons_of_mem _ h1
    · rcases List.mem_cons.1 hx with rfl | hx
      · exact h2
      · exact h3 x hx
theorem minF {m : Int} : ∀ (zs : List Int), zs.foldl min m = m ∨ zs.foldl min m ∈ zs
  | [] => .inl rfl
  | z :: zs => by
    rw [List.foldl_cons]
    rcases minF (m := min m z) zs with h1 | h1
    · rw [h1]
      by_cases e : z ≤ m
      · exact .inr (by rw [show min m z = z by omega]; exact List.mem_cons_self ..)
      · exact .inl (by omega)
    · exact .inr (List.mem_cons_of_mem _ h1)
theorem minOf_mem {l : List Int} (h : l ≠ []) : Lib.minOf l ∈ l := by
  match l, h with
  | z :: zs, _ =>
    have e : Lib.minOf (z :: zs) = zs.foldl min (min z z) := rfl
    have e2 : min z z = z := by omega
    rw [e, e2]
    rcases minF (m := z) zs with h1 | h1
    · rw [h1]; exact List.mem_cons_self ..
    · exact List.mem_cons_of_mem _ h1
theorem ints_cells15 {w : World} {B : Nat} {v : Value} {l : List Int} (h : IntsAt w B v l) (h0 : 0 < l.length) : ∃ b off c, v = .slice (some ⟨b, off, none⟩) l.length c ∧ l.length ≤ 9223372036854775807 ∧ ∀ j, j < l.length → w.cell? ⟨b, off + j, none⟩ = some (.int .i64 (l.getD j 0)) := by
  obtain ⟨A, c, rfl, hl, hc⟩ := h
  obtain ⟨b, off, rfl, hb, hcc⟩ := hc h0
  refine ⟨b, off, c, rfl, hl, fun j hj => ?_⟩
  rw [List.getD_eq_getElem?_getD, List.getElem?_eq_getElem hj]
  exact hcc j _ (List.getElem?_eq_getElem hj)
theorem max15_any {w : World} {B : Nat} {v : Value} {l : List Int} (h : IntsAt w B v l) (h0 : 0 < l.length) : Calls Try.prog 41 #[v] w fun e w' => e = .returned (.int .i64 (Lib.maxOf l)) ∧ Below w.heap.size w w' := by
  obtain ⟨b, off, c, rfl, hl, hc⟩ := ints_cells15 h h0
  refine (Try.slices_Max_int b off l.length c l w h0 (Nat.le_refl _) hl hc).mono ?_
  rintro e w' ⟨rfl, rfl⟩
  exact ⟨by rw [List.take_length], Below.refl _ _⟩
theorem min15_any {w : World} {B : Nat} {v : Value} {l : List Int} (h : IntsAt w B v l) (h0 : 0 < l.length) : Calls Try.prog 61 #[v] w fun e w' => e = .returned (.int .i64 (Lib.minOf l)) ∧ Below w.heap.size w w' := by
  obtain ⟨b, off, c, rfl, hl, hc⟩ := ints_cells15 h h0
  refine (Try.slices_Min_int b off l.length c l w h0 (Nat.le_refl _) hl hc).mono ?_
  rintro e w' ⟨rfl, rfl⟩
  exact ⟨by rw [List.take_length], Below.refl _ _⟩
/-- How many of the rows have each column. -/
def manyL (ls : List (List Int)) (n : Nat) : List Int := (List.range n).map fun p : Nat => (cntC ls p : Int)
theorem many_get {ls : List (List Int)} {n j : Nat} {x : Int} (h : (manyL ls n)[j]? = some x) : j < n ∧ x = (cntC ls j : Nat) := by
  unfold manyL at h
  rw [List.getElem?_map] at h
  obtain ⟨i, hi, rfl⟩ := Option.map_eq_some_iff.1 h
  have := (List.getElem?_eq_some_iff.1 hi).1
  rw [List.length_range] at this
  rw [List.getElem?_range this] at hi
  injection hi with hi
  subst hi
  exact ⟨this, rfl⟩
theorem many_len (ls : List (List Int)) (n : Nat) : (manyL ls n).length = n := by unfold manyL; simp
theorem mst_before (ls : List (List Int)) : ∀ k c, c < mstC ls k → cntC ls c < cntC ls (mstC ls k)
  | 0, c, h => absurd h (Nat.not_lt_zero _)
  | k + 1, c, h => by
    unfold mstC at h ⊢
    by_cases e : cntC ls (mstC ls k) < cntC ls k
    · rw [if_pos e] at h ⊢
      have := mst_max ls k c h
      omega
    · rw [if_neg e] at h ⊢
      exact mst_before ls k c h
/-- The first of the most. -/
theorem first_most {ls : List (List Int)} {n : Nat} (hn : 0 < n) : firstI (fun x => decide (x = Lib.maxOf (manyL ls n))) (manyL ls n) = (mstC ls n : Nat) := by
  have hne : manyL ls n ≠ [] := fun e => by have := many_len ls n; rw [e] at this; simp at this; omega
  obtain ⟨hm, hx⟩ := maxOf_spec hne
  have hlt : mstC ls n < n := by rcases mst_lt ls n with h | h <;> omega
  have hg : ∀ j, j < n → (manyL ls n)[j]? = some ((cntC ls j : Nat) : Int) := fun j hj => by
    unfold manyL
    rw [List.getElem?_map, List.getElem?_range hj]; rfl
  have e : Lib.maxOf (manyL ls n) = ((cntC ls (mstC ls n) : Nat) : Int) := by
    obtain ⟨j, hj⟩ := List.mem_iff_getElem?.1 hm
    obtain ⟨h1, h2⟩ := many_get hj
    have h3 := mst_max ls n j h1
    have h4 := hx _ (List.mem_of_getElem? (hg _ hlt))
    omega
  rw [e]
  refine isX_at (hg _ hlt) fun j x hj hxj => ?_
  obtain ⟨h1, h2⟩ := many_get hxj
  have := mst_before ls n j hj
  omega
/-- How many rows have a column, when some have been struck. -/
def mnyJ (l : List (List Int)) (c : Int) (j p : Nat) : Nat := cntC (tkR (l.take j) c ++ l.drop j) p
theorem mny_0 (l : List (List Int)) (c : Int) (p : Nat) : mnyJ l c 0 p = cntC l p := by unfold mnyJ; rfl
theorem mny_end (l : List (List Int)) (c : Int) (p : Nat) : mnyJ l c l.length p = cntC (tkR l c) p := by
  unfold mnyJ
  rw [List.take_length, List.drop_length, List.append_nil]
theorem mny_step {l : List (List Int)} {c : Int} {j : Nat} {r : List Int} (h : l[j]? = some r) (p : Nat) : (mnyJ l c (j + 1) p : Int) = (mnyJ l c j p : Nat) - if c ∈ r ∧ (p : Int) ∈ r then 1 else 0 := by
  unfold mnyJ cntC
  have hd : l.drop j = r :: l.drop (j + 1) := by
    obtain ⟨h1, h2⟩ := List.getElem?_eq_some_iff.1 h
    rw [List.drop_eq_getElem_cons h1, h2]
  have ht : tkR (l.take (j + 1)) c = tkR (l.take j) c ++ if c ∈ r then [] else [r] := by
    unfold tkR
    rw [List.take_add_one, h, List.filter_append]
    congr 1
    show List.filter _ [r] = _
    by_cases e : c ∈ r <;> simp [e]
  rw [ht, hd, List.countP_append, List.countP_append, List.countP_append, List.countP_cons]
  by_cases e : c ∈ r <;> by_cases e2 : (p : Int) ∈ r <;> simp [e, e2] <;> omega
theorem mny_le (l : List (List Int)) (c : Int) (j p : Nat) : mnyJ l c j p ≤ l.length := by
  unfold mnyJ
  refine Nat.le_trans (cnt_le _ _) ?_
  rw [List.length_append, List.length_drop]
  have h1 : (tkR (l.take j) c).length ≤ (l.take j).length := List.length_filter_le _ _
  rw [List.length_take] at h1
  by_cases h : j ≤ l.length
  · omega
  · omega
/-- What the function that strikes rows keeps. -/
structure StrI (B n c bc bm mt : Nat) (l : List (List Int)) (w0 : World) (j : Nat) (W : World) : Prop where
  xc : W.heap[bc]? = some (.cells #[.int .i64 c] 3 (0, 0))
  xm : W.heap[bm]? = some (.cells #[.slice (some ⟨mt, 0, none⟩) n n] 30 (0, 0))
  xt : W.heap[mt]? = some (celO 3 n fun p => .int .i64 (mnyJ l c j p : Nat))
  xb : Below B w0 W
set_option maxHeartbeats 2000000 in
set_option maxRecDepth 100000 in
theorem grd1_any15 (B n c bc bm mt : Nat) (l : List (List Int)) (w0 : World) (j : Nat) (r : List Int) (v : Value) (W : World) (hr : l[j]? = some r) (hris : risL n r) (hv : IntsAt w0 B v r) (hI : StrI B n c bc bm mt l w0 j W) (hl : l.length ≤ 4000) (hrl : r.length ≤ 4000)
    (hbc : bc ≠ mt) (hbm : bm ≠ mt) (hB : B ≤ mt) (hB0 : B ≤ w0.heap.size) :
    Calls Try.prog 43 #[v, .pointer (some ⟨bc, 0, none⟩), .pointer (some ⟨bm, 0, none⟩)] W fun e W' => e = .returned (.bool (decide ((c : Int) ∈ r))) ∧ StrI B n c bc bm mt l w0 (j + 1) W' ∧ W.heap.size ≤ W'.heap.size ∧ ∀ b, b < W.heap.size → b ≠ mt → W'.heap[b]? = W.heap[b]? := by
  have hvW := hv.below hI.xb
  have hsz := hI.xb.size
  have HC := contI14_any v r c W (hvW.more (by omega))
  have hmst := Lib.hid (fun p => mny_step (c := (c : Int)) hr p)
  have hml := Lib.hid (fun p => mny_le l (c : Int) j p)
  obtain ⟨Ar, cr, rfl, hlr, hcr⟩ := hvW
  obtain ⟨h1, h2, h3, h4⟩ := hI
  have c0 : W.cell? ⟨bc, 0, none⟩ = some (.int .i64 c) := by rw [cell_of_block h1]; rfl
  have hsz1 := size_of_block h1
  have hsz2 := size_of_block h2
  have hsz3 := size_of_block h3
  have hlow := Lib.hid hris.1
  have hfr := Lib.hid (fun (i : Nat) (x : Int) (h : r[i]? = some x) => ris_fresh hris h)
  by_cases hc : (c : Int) ∈ r
  · have hd : decide ((c : Int) ∈ r) = true := decide_eq_true hc
    rw [hd] at HC ⊢
    have hst : Hid (∀ p : Nat, (mnyJ l c (j + 1) p : Int) = (mnyJ l c j p : Nat) - if (p : Int) ∈ r then 1 else 0) := Lib.hid (fun p => by
      rw [hmst.out p]; simp only [hc, true_and])
    have h1H := Lib.hid h1
    have h2H := Lib.hid h2
    have h3H := Lib.hid h3
    clear hmst hd hr hris hv h1 h2 h3 hc
    go_enter Try.func43, Try.ntmps43
    go_wp2_with fail
    refine HC.mono ?_
    rintro e w1 ⟨rfl, hb1⟩
    have q1 := keep_blk hb1 h1H.out
    have q2 := keep_blk hb1 h2H.out
    have q3 := keep_blk hb1 h3H.out
    have q4 := h4.trans (hb1.mono (by omega))
    have q5 : Hid (∀ b, b < W.heap.size → b ≠ mt → w1.heap[b]? = W.heap[b]?) := Lib.hid (fun b hb _ => hb1.block b hb)
    have hsW := hb1.size
    have q30 : w1.heap[mt]? = some (celO 3 n fun p => .int .i64 ((mnyJ l c j p : Int) - if (p : Int) ∈ r.take 0 then 1 else 0)) := by simpa using q3
    have hsb := hb1.size
    clear HC c0 q3 h1H h2H h3H
    go_wp2
    go_loopw [6, 13] (fun _ t wi => ∃ i : Nat, i ≤ r.length ∧ t = .int .i64 i ∧ wi.heap[mt]? = some (celO 3 n fun p => .int .i64 ((mnyJ l c j p : Int) - if (p : Int) ∈ r.take i then 1 else 0)) ∧ wi.heap[bc]? = some (.cells #[.int .i64 c] 3 (0, 0)) ∧
      wi.heap[bm]? = some (.cells #[.slice (some ⟨mt, 0, none⟩) n n] 30 (0, 0)) ∧ Hid (∀ b, b < W.heap.size → b ≠ mt → wi.heap[b]? = W.heap[b]?) ∧ W.heap.size ≤ wi.heap.size ∧ Below B w0 wi) (fun _ t _ => r.length - (intOf t).toNat)
    case atStart => exact ⟨0, by omega, rfl, q30, q1, q2, q5, hsW, q4⟩
    case round =>
      clear q30 q1 q2 q5 q4 hsW
      obtain ⟨i, hi, rfl, k3, k1, k2, k5, k6, k4⟩ := hrel
      by_cases hlt : i < r.length
      · obtain ⟨br, offr, rfl, hBr, hccr⟩ := hcr (by omega)
        obtain ⟨x, hx⟩ : ∃ x, r[i]? = some x := ⟨_, List.getElem?_eq_getElem hlt⟩
        obtain ⟨x0, x1⟩ := hlow.out x (List.mem_of_getElem? hx)
        obtain ⟨y, rfl⟩ := Int.eq_ofNat_of_zero_le x0
        have d0 : wr.cell? ⟨br, offr + i, none⟩ = some (.int .i64 (y : Int)) := ((k4.cell (p := ⟨br, offr + i, none⟩) hBr).trans (h4.cell (p := ⟨br, offr + i, none⟩) hBr).symm).trans (hccr i _ hx)
        have hyn : y < n := by omega
        have hfy := hfr.out i y hx
        have hmy := hml.out y
        have m0 : wr.cell? ⟨bm, 0, none⟩ = some (.slice (some ⟨mt, 0, none⟩) n n) := by rw [cell_of_block k2]; rfl
        obtain ⟨y0, yf⟩ := cel_cell k3 hyn
        rw [if_neg hfy, Int.sub_zero] at y0
        have hg2 : (wr.setCell ⟨mt, y, none⟩ (.int .i64 ((mnyJ l c j y : Int) - 1))).heap[mt]? = some (celO 3 n fun p => .int .i64 ((mnyJ l c j p : Int) - if (p : Int) ∈ r.take (i + 1) then 1 else 0)) := by
          refine (cel_set k3 _).trans (congrArg some (celO_ext fun z hz => ?_))
          rw [List.take_add_one, hx]
          by_cases e : z = y
          · subst e; simp
          · have e2 : ¬ (z : Int) = (y : Int) := by omega
            rw [if_neg e]
            simp [e2]
        have e1 := cel_other (u := .int .i64 ((mnyJ l c j y : Int) - 1)) (p := y) k1 hbc
        have e2 := cel_other (u := .int .i64 ((mnyJ l c j y : Int) - 1)) (p := y) k2 hbm
        have e5 : Hid (∀ b, b < W.heap.size → b ≠ mt → (wr.setCell ⟨mt, y, none⟩ (.int .i64 ((mnyJ l c j y : Int) - 1))).heap[b]? = W.heap[b]?) := Lib.hid (fun b hb hne => (Below.heap_setCell _ _ _ _ hne).trans (k5.out b hb hne))
        have e6 : W.heap.size ≤ (wr.setCell ⟨mt, y, none⟩ (.int .i64 ((mnyJ l c j y : Int) - 1))).heap.size := by simpa [World.setCell] using k6
        have e4 := k4.setCell (p := ⟨mt, y, none⟩) hB (.int .i64 ((mnyJ l c j y : Int) - 1))
        have j0 : (0 : Int) ≤ (i : Int) := by omega
        have j1 : (i : Int) < (r.length : Int) := by omega
        have w0 : (0 : Int) ≤ (y : Int) := by omega
        have w1 : (y : Int) < (n : Int) := by omega
        generalize mnyJ l c j y = q1 at *
        clear hfr hlow hml hst hccr hcr hx k1 k2 k3 k4 k5 k6 h4 x0 x1
        go_wp2
        go_roundw
        case rel => exact ⟨i + 1, by omega, by go_num, hg2, e1, e2, e5, e6, e4⟩
        case measure => simp [intOf]; omega
      · have e : i = r.length := by omega
        have hjd : ¬ (i : Int) < (r.length : Int) := by omega
        have k3' : wr.heap[mt]? = some (celO 3 n fun p => .int .i64 (mnyJ l c (j + 1) p : Nat)) := by
          rw [k3, e, List.take_length]
          exact congrArg some (celO_ext fun z _ => by rw [hst.out z])
        clear e k3 hst hfr hlow hml hcr
        go_wp2
        go_ret
        exact ⟨rfl, ⟨k1, k2, k3', k4⟩, k6, k5.out⟩
  · have hd : decide ((c : Int) ∈ r) = false := decide_eq_false hc
    rw [hd] at HC ⊢
    have hst : Hid (∀ p : Nat, (mnyJ l c (j + 1) p : Int) = (mnyJ l c j p : Nat)) := Lib.hid (fun p => by
      rw [hmst.out p]; simp only [hc, false_and]; simp)
    have hall : Hid (StrI B n c bc bm mt l w0 (j + 1) W) := Lib.hid ⟨h1, h2, by
      rw [h3]
      exact congrArg some (celO_ext fun z _ => by rw [hst.out z]), h4⟩
    clear hmst hd hr hris hv h1 h2 h3 hc hst hfr hlow hml hcr
    go_enter Try.func43, Try.ntmps43
    go_wp2_with fail
    refine HC.mono ?_
    rintro e w1 ⟨rfl, hb1⟩
    go_wp2
    go_ret
    obtain ⟨a1, a2, a3, a4⟩ := hall.out
    exact ⟨rfl, ⟨keep_blk hb1 a1, keep_blk hb1 a2, keep_blk hb1 a3, a4.trans (hb1.mono (by omega))⟩, hb1.size, fun b hb _ => hb1.block b hb⟩
end Go.Proofs.Ytcbhcclickjpnaa
namespace Go.Proofs.Ytcbhcclickjpnaa
open Go.RowKit Go.Joins

set_option maxRecDepth 100000 in
theorem ctake1_any14 (w : World) (v : Value) (l : List Int) (hv : IntsAt w w.heap.size v l) :
    Calls Try.prog 98 (#[v] ++ #[]) w fun e w' => e = .returned (.bool (decide (l.length = 1))) ∧ Below w.heap.size w w' := by
  obtain ⟨A, c, rfl, -, -⟩ := hv
  have he : Hid (((l.length : Int) == 1) = decide (l.length = 1)) := Lib.hid (by rw [Bool.eq_iff_iff, beq_iff_eq, decide_eq_true_iff]; omega)
  go_enter Try.func98, Try.ntmps98
  go_wp2
  go_ret
  exact ⟨by rw [← he.out]; rfl, Below.refl _ _⟩
set_option maxHeartbeats 8000000 in
set_option maxRecDepth 100000 in
theorem takeN14_any (E : Nat → Prop) (n : Int) (V : Value) (ls : List (List Int)) (w : World) (hE : ∀ b, E b → b < w.heap.size) (hzN : MatN w (fun b => ¬ E b) V ls) (hcap : CapM w V) (hls : ls.length ≤ 4000) :
    Calls Try.prog 92 #[mtv n V] w fun e w' => ∃ u, e = .returned (.tuple #[mtv n u, .int .i64 (tkV ls), .bool (tkC ls).isSome]) ∧ MatN w' (fun b => ¬ E b) u (tkL ls) ∧ CapM w' u ∧ Below w.heap.size w w' := by
  have hz := hzN.here
  have hzNH := Lib.hid hzN
  have hEH := Lib.hid hE
  clear hzN hE
  have hB0 := two_below14 w (mtb n V) (.cells #[.int .i64 0, .slice none 0 0] 24 (0, 0))
  have ht := two_made14 w (mtb n V) (.cells #[.int .i64 0, .slice none 0 0] 24 (0, 0))
  have hsz : ((w.alloc (mtb n V)).alloc (.cells #[.int .i64 0, .slice none 0 0] 24 (0, 0))).heap.size = w.heap.size + 2 := by simp
  have hHI := indexM_any 98 #[] (fun l => decide (l.length = 1)) V ls ((w.alloc (mtb n V)).alloc (.cells #[.int .i64 0, .slice none 0 0] 24 (0, 0))) (fun _ _ => by kernel_rfl) (fun v x w1 _ hb hi => ctake1_any14 w1 v x (hi.more hb.size)) ((hz.below hB0).more hB0.size)
  have hzz := hz.below hB0
  obtain ⟨A, cp, rfl, hl, -⟩ := hz
  obtain ⟨j0, hj0, jz0, jz1, jz2⟩ := info_parts Try.infoInts
  have hne : (30 : TypeId) ≠ 24 := by decide
  have hst := Lib.hid (fun (c : Int) (k : Nat) (l : List Int) (h : ls[k]? = some l) => tkR_take (c := c) h)
  have hle := Lib.hid (fun c k => tkR_len ls c k)
  unfold mtv
  unfold mtb at hB0 ht hzz hsz hHI
  go_enter Try.func92, Try.ntmps92
  go_wp2_with fail
  generalize (w.alloc _).alloc _ = w0 at *
  generalize hgb : w.heap.size = gb at *
  have hgbH := Lib.hid hgb
  have hszH := Lib.hid hsz
  clear hgb hsz
  refine hHI.mono ?_
  rintro e w1 ⟨rfl, hb1⟩
  have hm := keep_blk hb1 ht.1
  have hr := keep_blk hb1 ht.2
  have hB1 := hB0.trans (hb1.mono (by have := hszH.out; omega))
  have hcp1 := hcap.below (show Below w.heap.size w w1 by rw [hgbH.out]; exact hB1)
  have hcapH := Lib.hid hcap
  clear hcap
  have hz1 := hzz.below (hb1.mono (by have := hszH.out; omega : gb ≤ w0.heap.size))
  have hgz : gb + 2 ≤ w1.heap.size := by have := hszH.out; have := hb1.size; omega
  obtain ⟨m0, m1, -⟩ := now2 hm rfl
  obtain ⟨r0, r1, rf⟩ := now2 hr rfl
  clear hHI hb1 hB0 ht hzz
  by_cases hex : ∃ (i : Nat) (c : Int), ls[i]? = some [c] ∧ ∀ (j : Nat) (r : List Int), j < i → ls[j]? = some r → ¬ r.length = 1
  · obtain ⟨i, c, hi, hfst⟩ := hex
    have hf : firstI (fun l : List Int => decide (l.length = 1)) ls = (i : Int) := firstI_at hi (by
      rw [List.any_eq_false]
      intro x hx
      obtain ⟨j, hj⟩ := List.mem_iff_getElem?.1 hx
      rw [List.getElem?_take] at hj
      split at hj
      · rename_i hji
        simpa using hfst j x hji hj
      · cases hj) (by simp)
    have hC := tk_some hi hfst
    have hres : Hid (tkV ls = c ∧ (tkC ls).isSome = true ∧ tkL ls = tkR ls c) := Lib.hid (by unfold tkV tkL; rw [hC]; exact ⟨rfl, rfl, rfl⟩)
    rw [hf]
    have hil : i < ls.length := (List.getElem?_eq_some_iff.1 hi).1
    obtain ⟨A', c', e', -, hcell⟩ := hz1
    injection e' with e1 _ e2
    subst e1
    subst e2
    obtain ⟨b, off, rfl, hB, hcell⟩ := hcell (by omega)
    obtain ⟨ov, z0, hov⟩ := hcell i _ hi
    obtain ⟨Ao, co, e3, -, hoc⟩ := hov
    obtain ⟨bo, oo, rfl, hBo, hoc⟩ := hoc (by simp)
    have y0 := hoc 0 c rfl
    rw [Nat.add_zero] at y0
    subst e3
    have i0 : (0 : Int) ≤ (i : Int) := by omega
    have i1 : (i : Int) < (ls.length : Int) := by omega
    have hcH := Lib.hid hcell
    clear hf hC hi hfst hoc hcell
    go_wp2
    clear z0 y0
    go_loopw [7, 9, 26] (fun V _ t wr => ∃ (k : Nat) (K : List (List Int)) (vs : List Value), k ≤ ls.length ∧ t = .int .i64 k ∧ Hid (K = tkR (ls.take k) c) ∧ Hid (vs.length = K.length) ∧ wr.ownsRow w1.heap.size 30 1 V K.length vs ∧ RowsX (fun b => gb ≤ b ∧ b < gb + 2) wr V K vs ∧ Hid (AllCap vs ∧ AllLow E vs) ∧ Below w1.heap.size w1 wr) (fun _ _ t _ => ls.length - (intOf t).toNat)
    case atStart => exact ⟨0, [], [], by omega, rfl, Lib.hid rfl, Lib.hid rfl, World.ownsRow_nil _ _ _ _, RowsX.nil _ _ _, Lib.hid (And.intro AllCap.nil (AllLow.nil E)), Below.refl _ _⟩
    case round =>
      obtain ⟨k, K, vs, hk, rfl, hK, hvl, hown, hin, hac, hb⟩ := hrel
      obtain ⟨AV, cV, rfl⟩ := own_form hown
      have hbs := hb.size
      by_cases hkl : k < ls.length
      · obtain ⟨l, hl2⟩ : ∃ l, ls[k]? = some l := ⟨_, List.getElem?_eq_getElem hkl⟩
        obtain ⟨ov2, z2, hov2⟩ := hcH.out k l hl2
        have g0 := (hb.cell (p := ⟨b, off + k, none⟩) (by show b < w1.heap.size; omega)).trans z2
        have hac2 := Lib.hid (And.intro (hac.out.1.push (hcp1.cell14 rfl hkl z2)) (hac.out.2.push (hzNH.out.cell14 rfl hkl (by rw [hgbH.out]; exact hB1) z2)))
        have hov3 := (hov2.more (by omega : gb ≤ w1.heap.size)).below hb
        have HI1 := contI14_any ov2 l c wr (hov3.more hbs)
        have hIN : IntsN wr (fun b => ¬ (gb ≤ b ∧ b < gb + 2) ∧ b < wr.heap.size ∧ (Value.slice AV K.length cV).ownBlock ≠ some b) ov2 l := ((hov2.below (hb.mono (by omega : gb ≤ w1.heap.size))).toN (N := fun b => b < gb) (fun _ h => h)).keep (fun _ _ => rfl) (fun b hb' => ⟨by omega, by omega, fun e => by have := (hown.lt b e).1; omega⟩)
        have hs := Lib.hid (hst.out c k l hl2)
        have hKl : K.length ≤ k := by rw [hK.out]; exact hle.out c k
        obtain ⟨A2, c2, rfl, -, -⟩ := hov3
        have k0 : (0 : Int) ≤ (k : Int) := by omega
        have k1 : (k : Int) < (ls.length : Int) := by omega
        clear hl2 z2 hov2
        go_wp2_with fail
        refine HI1.mono ?_
        rintro e w3 ⟨rfl, hb3⟩
        have hown3 := owns_below hown hb3
        have hin3 := hin.below hb3
        have hb4 := hb.trans (hb3.mono hbs)
        have hIN3 : IntsN w3 (fun b => ¬ (gb ≤ b ∧ b < gb + 2) ∧ b < w3.heap.size ∧ (Value.slice AV K.length cV).ownBlock ≠ some b) _ l := hIN.keep (fun b h => hb3.block b h.2.1) (fun b h => ⟨h.1, Nat.lt_of_lt_of_le h.2.1 hb3.size, h.2.2⟩)
        clear HI1 g0 hIN hown hin hb hb3
        have hbs3 := hb4.size
        by_cases hm : c ∈ l
        · have hK2 : Hid (K = tkR (ls.take (k + 1)) c) := Lib.hid (by rw [hs.out, if_pos hm, hK.out])
          rw [decide_eq_true hm]
          clear hs hm hK
          go_wp2
          go_roundw
          case rel => exact ⟨k + 1, K, vs, by omega, by go_num, hK2, hvl, hown3, hin3, hac, hb4⟩
          case measure => simp [intOf]; omega
        · have hK2 : Hid (K ++ [l] = tkR (ls.take (k + 1)) c) := Lib.hid (by rw [hs.out, if_neg hm, hK.out])
          rw [decide_eq_false hm]
          clear hs hm hK
          go_wp2_with (at_builtin; refine wpList_append_own_at _ rfl _ _ 22 rfl w1.heap.size 30 j0 (.slice none 0 0) 1 24 Try.underlying22 hj0 jz0 jz1 jz2 rfl (by decide) _ _ _ rfl (hown3.alloc _) ⟨w3.heap.size, 0, none⟩ 1 1 [.slice A2 l.length c2] rfl rfl one_new13 (fun u hu => by rw [List.mem_singleton.1 hu]; rfl) ?c3 ?c4 ?c5 ?_)
          case c3 => unfold maxLen; omega
          case c4 => omega
          case c5 => simp; omega
          intro v8 w8 ho8 hg8 _ hloc
          have hba := below_alloc1 w3 (.cells #[.slice A2 l.length c2] 30 (0, 0))
          have hin8 := hin3.push (V' := v8) hvl.out hIN3 hba hg8 (hloc.imp id (fun h => h.trans (by simp)))
          have hB8 := grown_below (hown3.alloc (.cells #[.slice A2 l.length c2] 30)) hg8 (hb4.alloc hbs3 _) (by omega) (by simp; omega)
          have ho9 : w8.ownsRow w1.heap.size 30 1 v8 (K ++ [l]).length (vs ++ [.slice A2 l.length c2]) := by rw [List.length_append]; exact ho8
          have hvl2 : Hid ((vs ++ [Value.slice A2 l.length c2]).length = (K ++ [l]).length) := Lib.hid (by rw [List.length_append, List.length_append, hvl.out]; rfl)
          clear ho8 hg8 hloc hba hin3 hIN3 hown3 hb4 hvl
          go_wp2
          go_roundw
          case rel => exact ⟨k + 1, K ++ [l], _, by omega, by go_num, hK2, hvl2, ho9, hin8, hac2, hB8⟩
          case measure => simp [intOf]; omega
      · have e : k = ls.length := by omega
        have hkd : ¬ (k : Int) < (ls.length : Int) := by omega
        have hKL : Hid (K = tkL ls) := Lib.hid (by rw [hK.out, e, List.take_length, hres.out.2.2])
        have hr2 := keep_blk hb hr
        have hm2 := keep_blk hb hm
        clear m0 m1 r0 r1 rf
        obtain ⟨m0, m1, -⟩ := now2 hm2 rfl
        obtain ⟨r0, r1, rf⟩ := now2 hr2 rfl
        have hnb : (Value.slice AV K.length cV).ownBlock ≠ some (gb + 1) := fun e => by have := (hown.lt _ e).1; omega
        have hown2 := own_set (own_set hown hnb 0 (.int .i64 n)) hnb 1 (.slice AV K.length cV)
        have hin2 := (hin.set (b := gb + 1) (j := 0) (u := .int .i64 n) (by omega)).set (b := gb + 1) (j := 1) (u := .slice AV K.length cV) (by omega)
        have hr3 := put2 (x0 := .int .i64 n) (x1 := .slice AV K.length cV) hr2
        obtain ⟨q0, q1, -⟩ := now2 hr3 rfl
        have hB2 : Below gb w ((wr.setCell ⟨gb + 1, 0, none⟩ (.int .i64 n)).setCell ⟨gb + 1, 1, none⟩ (.slice AV K.length cV)) := below2 (by omega) (hB1.trans (hb.mono (by omega)))
        have hvO := hvl
        clear e hK hcH hin hown hr hm hvl hr2 hm2 hst hle
        go_wp2
        generalize (wr.setCell ⟨gb + 1, 0, none⟩ (.int .i64 n)).setCell ⟨gb + 1, 1, none⟩ (.slice AV K.length cV) = wz at *
        refine bodyPost_ret (v := .tuple #[.agg #[.int .i64 n, .slice AV K.length cV], .int .i64 c, .bool true]) (by simp [results, Try.results92, go_sem, q0, q1]) rfl ?_
        have hM := matN_low14 (hin2.rows.mat hown2) hown2 (fun b hb => by have := hEH.out b hb; omega) hac.out.2
        have hCM := own_capM14 hown2 hvO.out hac.out.1
        exact ⟨_, by rw [hres.out.1, hres.out.2.1], by rw [← hKL.out]; exact hM, hCM, by rw [hgbH.out]; exact hB2⟩
  · have hnone : ∀ (j : Nat) (r : List Int), ls[j]? = some r → ¬ r.length = 1 := by
      intro j
      induction j using Nat.strongRecOn with
      | _ j ih =>
        intro r hj h1
        match r, h1 with
        | [x], _ => exact hex ⟨j, x, hj, fun j' r' hlt hj' => ih j' hlt r' hj'⟩
    have hf : firstI (fun l : List Int => decide (l.length = 1)) ls = -1 := firstI_none (by
      rw [List.any_eq_false]
      intro x hx
      obtain ⟨j, hj⟩ := List.mem_iff_getElem?.1 hx
      simpa using hnone j x hj)
    have hC := tk_none hnone
    have hres : Hid (tkV ls = 0 ∧ (tkC ls).isSome = false ∧ tkL ls = ls) := Lib.hid (by unfold tkV tkL; rw [hC]; exact ⟨rfl, rfl, rfl⟩)
    rw [hf]
    have hr3 := put2 (x0 := .int .i64 n) (x1 := .slice A ls.length cp) hr
    obtain ⟨q0, q1, -⟩ := now2 hr3 rfl
    have hB2 : Below gb w ((w1.setCell ⟨gb + 1, 0, none⟩ (.int .i64 n)).setCell ⟨gb + 1, 1, none⟩ (.slice A ls.length cp)) := below2 (by omega) hB1
    have hb2 : Below gb w1 ((w1.setCell ⟨gb + 1, 0, none⟩ (.int .i64 n)).setCell ⟨gb + 1, 1, none⟩ (.slice A ls.length cp)) := below2 (by omega) (Below.refl _ _)
    have hM := hzNH.out.below14 (show Below w.heap.size w ((w1.setCell ⟨gb + 1, 0, none⟩ (.int .i64 n)).setCell ⟨gb + 1, 1, none⟩ (.slice A ls.length cp)) by rw [hgbH.out]; exact hB2)
    have hcp2 := hcapH.out.below (show Below w.heap.size w ((w1.setCell ⟨gb + 1, 0, none⟩ (.int .i64 n)).setCell ⟨gb + 1, 1, none⟩ (.slice A ls.length cp)) by rw [hgbH.out]; exact hB2)
    clear hf hC hnone hex hst hle hz1 hr hm hB1 hb2
    go_wp2
    generalize (w1.setCell ⟨gb + 1, 0, none⟩ (.int .i64 n)).setCell ⟨gb + 1, 1, none⟩ (.slice A ls.length cp) = wz at *
    refine bodyPost_ret (v := .tuple #[.agg #[.int .i64 n, .slice A ls.length cp], .int .i64 0, .bool false]) (by simp [results, Try.results92, go_sem, q0, q1]) rfl ?_
    exact ⟨_, by rw [hres.out.1, hres.out.2.1], by rw [hres.out.2.2]; exact hM, hcp2, by rw [hgbH.out]; exact hB2⟩
end Go.Proofs.Ytcbhcclickjpnaa
