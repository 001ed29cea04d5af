/- The document's own Reduce of layer 14. -/
import Derived.Test.YtjjpobpcpgcbaaaGJ18
namespace Go.Proofs.Ytjjpobpcpgcbaaa
open Go.RowKit Go.Joins

theorem Try.infoBool14 : (Try.prog.info? 4).map (fun i => (i.zero, i.size, i.bytes)) = some (some (.bool false), 1, 1) := by kernel_rfl
def tkA (n : Nat) (T : Int → Bool) : Array Value := ((List.range n).map fun c : Nat => Value.bool (T (c : Int))).toArray
theorem tkA_get {n p : Nat} (T : Int → Bool) (h : p < n) : (tkA n T)[p]? = some (.bool (T (p : Int))) := by
  unfold tkA; simp [h]
theorem tkA_set {n p : Nat} {T : Int → Bool} : (tkA n T).setIfInBounds p (.bool true) = tkA n fun x => T x || decide (x = (p : Int)) := by
  unfold tkA
  rw [List.setIfInBounds_toArray]
  congr 1
  apply List.ext_getElem?
  intro j
  rw [List.getElem?_set]
  by_cases hj : j < n
  · by_cases e : p = j
    · subst e; simp [hj]
    · have e' : ¬ (j : Int) = (p : Int) := fun h => e (by omega)
      simp [hj, e, e']
  · by_cases e : p = j
    · subst e; simp [hj]
    · simp [hj, e]
theorem tkA_made (n : Nat) : madeCells #[Value.bool false] n = tkA n fun _ => false := by
  unfold tkA
  apply Array.toList_inj.1
  rw [toList_madeCells_one]
  apply List.ext_getElem?
  intro j
  by_cases hj : j < n <;> simp [hj]
theorem make_took (n : Nat) (hn : n ≤ 1000000) (w : World) : (Instr.makeSlice 49 (.int .i64 n) (.int .i64 n)).run Try.prog w = .ok (.slice (some ⟨w.heap.size, 0, none⟩) n n) (w.alloc (.cells (tkA n fun _ => false) 4 (0, 0))) := by
  obtain ⟨i0, hi, hz0, hz1, hz2⟩ := info_parts Try.infoBool14
  have h := run_makeSlice (P := Try.prog) w 49 4 i0 (.bool false) Try.underlying49 hi hz0 .i64 .i64 n n (by omega) (by omega) (by rw [hz1]; simp; omega) (by rw [hz2]; omega) (by omega)
  rw [h, hz1]
  rw [← tkA_made]
  simp [Value.cells]
/-- The columns that were taken, rising. -/
def tkS (T : Int → Bool) (k : Nat) : List Int := ((List.range k).filter fun c : Nat => T (c : Int)).map fun c : Nat => (c : Int)
theorem tkS_succ (T : Int → Bool) (k : Nat) : tkS T (k + 1) = if T (k : Int) = true then tkS T k ++ [(k : Int)] else tkS T k := by
  unfold tkS
  rw [List.range_succ, List.filter_append, List.filter_cons]
  by_cases h : T (k : Int) = true
  · rw [if_pos h, if_pos h, List.filter_nil, List.map_append]; rfl
  · rw [if_neg h, if_neg h, List.filter_nil, List.append_nil]
theorem tkS_len (T : Int → Bool) (k : Nat) : (tkS T k).length ≤ k := by
  unfold tkS
  rw [List.length_map]
  have := List.length_filter_le (fun c : Nat => T (c : Int)) (List.range k)
  simpa using this
/-- Small, and of columns below n. -/
structure SmR (n : Nat) (ls : List (List Int)) : Prop where
  len : ls.length ≤ 1000
  row : ∀ r, r ∈ ls → r.length ≤ 1000
  low : ∀ r, r ∈ ls → ∀ c, c ∈ r → 0 ≤ c ∧ c < n
theorem SmR.take {n : Nat} {ls : List (List Int)} (h : SmR n ls) (c : Int) : SmR n (tkR ls c) := by
  have m : ∀ r, r ∈ tkR ls c → r ∈ ls := fun r hr => (List.mem_filter.1 hr).1
  exact ⟨Nat.le_trans (List.length_filter_le _ _) h.len, fun r hr => h.row r (m r hr), fun r hr => h.low r (m r hr)⟩
theorem SmR.erase {n : Nat} {ls : List (List Int)} (h : SmR n ls) (i : Nat) : SmR n (ls.eraseIdx i) := by
  have m : ∀ r, r ∈ ls.eraseIdx i → r ∈ ls := fun r hr => List.mem_of_mem_eraseIdx hr
  exact ⟨Nat.le_trans (List.length_eraseIdx_le _ _) h.len, fun r hr => h.row r (m r hr), fun r hr => h.low r (m r hr)⟩
theorem SmR.cols {n : Nat} {ls : List (List Int)} (h : SmR n ls) (c : Int) : SmR n (clR ls c) := by
  refine ⟨by unfold clR; rw [List.length_map]; exact h.len, fun r hr => ?_, fun r hr x hx => ?_⟩
  · obtain ⟨r0, h0, rfl⟩ := List.mem_map.1 hr
    exact Nat.le_trans (List.length_filter_le _ _) (h.row r0 h0)
  · obtain ⟨r0, h0, rfl⟩ := List.mem_map.1 hr
    exact h.low r0 h0 x (List.mem_filter.1 hx).1
theorem red_t {n f : Nat} {t : Int → Bool} {ls : List (List Int)} {c : Int} (h : tkC ls = some c) : redP n (f + 1) t ls = redP n f (fun x => t x || decide (x = c)) (tkR ls c) := by
  conv => lhs; unfold redP
  rw [h]
theorem red_r {n f : Nat} {t : Int → Bool} {ls : List (List Int)} {i : Nat} (h : tkC ls = none) (h2 : rwI ls = some i) : redP n (f + 1) t ls = redP n f t (ls.eraseIdx i) := by
  conv => lhs; unfold redP
  rw [h, h2]
theorem red_c {n f : Nat} {t : Int → Bool} {ls : List (List Int)} {c : Nat} (h : tkC ls = none) (h2 : rwI ls = none) (h3 : clI ls n = some c) : redP n (f + 1) t ls = redP n f t (clR ls c) := by
  conv => lhs; unfold redP
  rw [h, h2, h3]
theorem tk_cell14 {w : World} {gb n o : Nat} {t : Int → Bool} {x : Value} (hg : w.heap[gb]? = some (.cells (tkA n t) 4 (0, 0))) (h : w.cell? ⟨gb, o, none⟩ = some x) : ∃ b, x = .bool b := by
  rw [cell_of_block hg] at h
  unfold tkA at h
  simp at h
  obtain ⟨q, -, rfl⟩ := h
  exact ⟨_, rfl⟩
theorem ints_put14 {w : World} {B gb n q : Nat} {t : Int → Bool} {v x : Value} {l : List Int} (h : IntsAt w B v l) (hg : w.heap[gb]? = some (.cells (tkA n t) 4 (0, 0))) : IntsAt (w.setCell ⟨gb, q, none⟩ x) B v l := by
  obtain ⟨A, c, e, hl, hc⟩ := h
  refine ⟨A, c, e, hl, fun h0 => ?_⟩
  obtain ⟨b, off, eA, hB, hcell⟩ := hc h0
  refine ⟨b, off, eA, hB, fun j y hj => ?_⟩
  have h1 := hcell j y hj
  by_cases hb : b = gb
  · subst hb
    obtain ⟨z, hz⟩ := tk_cell14 hg h1
    cases hz
  · rw [World.cell?_of_block (w := w) (a := ⟨b, off + j, none⟩) (Below.heap_setCell _ _ _ _ (fun e => hb e))]
    exact h1
theorem mat_put14 {w : World} {B gb n q : Nat} {t : Int → Bool} {v x : Value} {ls : List (List Int)} (h : MatAt w B v ls) (hg : w.heap[gb]? = some (.cells (tkA n t) 4 (0, 0))) : MatAt (w.setCell ⟨gb, q, none⟩ x) B v ls := by
  obtain ⟨A, c, e, hl, hc⟩ := h
  refine ⟨A, c, e, hl, fun h0 => ?_⟩
  obtain ⟨b, off, eA, hB, hcell⟩ := hc h0
  refine ⟨b, off, eA, hB, fun j y hj => ?_⟩
  obtain ⟨ov, h1, hi⟩ := hcell j y hj
  refine ⟨ov, ?_, ints_put14 hi hg⟩
  by_cases hb : b = gb
  · subst hb
    obtain ⟨z, hz⟩ := tk_cell14 hg h1
    obtain ⟨A2, c2, e2, -⟩ := hi
    rw [e2] at hz
    cases hz
  · rw [World.cell?_of_block (w := w) (a := ⟨b, off + j, none⟩) (Below.heap_setCell _ _ _ _ (fun e => hb e))]
    exact h1
set_option maxHeartbeats 8000000 in
set_option maxRecDepth 100000 in
theorem rreduce14_any (v : Value) (ls : List (List Int)) (n : Nat) (hn : n ≤ 4000) (hS : SmR n ls) (hcap : CapOk v) (w : World) (hz : MatAt w w.heap.size v ls) :
    Calls Try.prog 18 #[v, .int .i64 n] w fun e w' => ∃ u r, e = .returned (.tuple #[u, r]) ∧ IntsAt w' w'.heap.size u (tkS (redP n (masR ls + 1) (fun _ => false) ls).1 n) ∧ MatAt w' w'.heap.size r (redP n (masR ls + 1) (fun _ => false) ls).2 ∧ CapOk r ∧ Below w.heap.size w w' := by
  have hmk := fun w => make_took n (by omega) w
  obtain ⟨i0, hi0, hz0, hz1, hz2⟩ := info_parts Try.infoInt
  have hB1 := below_alloc1 w (.cells (tkA n fun _ => false) 4 (0, 0))
  have hg1 := heap_alloc_new w (.cells (tkA n fun _ => false) 4 (0, 0))
  have hz1' := (hz.below hB1).more hB1.size
  have hF : masR ls < masR ls + 1 := by omega
  generalize masR ls + 1 = F at *
  generalize hP : redP n F (fun _ => false) ls = P at *
  have hPH := Lib.hid hP.symm
  clear hP hz
  go_enter Try.func18, Try.ntmps18
  go_wp2
  generalize w.alloc _ = w1 at *
  generalize hgb : w.heap.size = gb at *
  have hgbH := Lib.hid hgb
  clear hgb
  go_loopg [0, 7, 8, 9] F (fun g V _ _ _ wr => ∃ (t : Int → Bool) (l : List (List Int)), masR l < g ∧ Hid (P = redP n g t l) ∧ SmR n l ∧ MatAt wr wr.heap.size V l ∧ CapOk V ∧ wr.heap[gb]? = some (.cells (tkA n t) 4 (0, 0)) ∧ Below gb w wr)
  case atStart => exact ⟨_, ls, hF, hPH, hS, hz1', hcap, hg1, hB1⟩
  case round =>
    clear hg1 hz1' hB1 hF hPH hS hcap
    obtain ⟨t, l, hm, hP, hS, hM, hC, hgb, hb⟩ := hrel
    have hgk : 0 < gk := by omega
    have hPf : Hid (P = redP n (gk - 1 + 1) t l) := Lib.hid (by rw [show gk - 1 + 1 = gk by omega]; exact hP.out)
    have hbs : gb ≤ wr.heap.size := by rw [← hgbH.out]; exact hb.size
    have HT := rtake14_any u0 l hS.len hC wr hM
    unfold tkV tkL at HT
    clear hP
    cases ht : tkC l with
    | some c =>
      rw [ht] at HT
      simp only [Option.getD_some, Option.isSome_some] at HT
      obtain ⟨c0, c1⟩ := hS.low _ (tkC_some ht) c (List.mem_singleton.2 rfl)
      obtain ⟨q, rfl⟩ := Int.eq_ofNat_of_zero_le c0
      have hqn : q < n := by omega
      have hP2 : Hid (P = redP n (gk - 1) (fun x => t x || decide (x = (q : Int))) (tkR l q)) := Lib.hid (by rw [hPf.out, red_t ht])
      have hm2 : masR (tkR l q) < gk - 1 := by
        have := mas_filter_lt (fun r => !decide ((q : Int) ∈ r)) (tkC_some ht) (by simp)
        have e : masR (tkR l q) < masR l := this
        omega
      have hS2 := hS.take q
      clear hPf hmk ht hM hC hm
      go_wp2_with fail
      refine HT.mono ?_
      rintro e w2 ⟨u, rfl, hMu, hCu, hb2⟩
      have hgb2 := keep_blk hb2 hgb
      have hb3 := hb.trans (hb2.mono hbs)
      have hM3 := (mat_put14 (q := q) (x := .bool true) hMu hgb2)
      have hg3 : (w2.setCell ⟨gb, q, none⟩ (.bool true)).heap[gb]? = some (.cells (tkA n fun x => t x || decide (x = (q : Int))) 4 (0, 0)) := by
        rw [← tkA_set]
        exact block_setCell hgb2 _
      have hb4 := hb3.setCell (p := ⟨gb, q, none⟩) (Nat.le_refl gb) (.bool true)
      have y0 := (cell_of_block hgb2 q).trans (tkA_get t hqn)
      have yf := unfrozen_of_block hgb2 q
      clear HT hgb2 hb2 hb3 hb hMu hgb hgbH hS
      go_wp2
      go_roundg (gk - 1)
      case rel => exact ⟨_, _, hm2, hP2, hS2, hM3.more (by simp), hCu, hg3, hb4⟩
      case measure => omega
    | none =>
      rw [ht] at HT
      simp only [Option.getD_none, Option.isSome_none] at HT
      go_wp2_with fail
      refine HT.mono ?_
      rintro e w2 ⟨u, rfl, hMu, hCu, hb2⟩
      have hgb2 := keep_blk hb2 hgb
      have hb3 := hb.trans (hb2.mono hbs)
      have hM2 := (hM.below hb2).more hb2.size
      have hbs2 : gb ≤ w2.heap.size := by rw [← hgbH.out]; exact hb3.size
      clear HT hb2 hgb hM hMu hCu hb hbs
      have HR := rrows14_any u0 l hS.len hC w2 hM2
      unfold rwL at HR
      cases hr : rwI l with
      | some i =>
        rw [hr] at HR
        simp only [Option.isSome_some] at HR
        have hP2 : Hid (P = redP n (gk - 1) t (l.eraseIdx i)) := Lib.hid (by rw [hPf.out, red_r ht hr])
        have hm2 : masR (l.eraseIdx i) < gk - 1 := by
          have := mas_erase (rwI_some hr).1
          omega
        have hS2 := hS.erase i
        clear hPf hmk ht hr hM2 hC hm hS
        go_wp2_with fail
        refine HR.mono ?_
        rintro e w4 ⟨u4, rfl, hMu, hCu, hb4⟩
        have hgb4 := keep_blk hb4 hgb2
        have hb5 := hb3.trans (hb4.mono hbs2)
        clear HR hb4 hgb2 hb3 hgbH
        go_wp2
        go_roundg (gk - 1)
        case rel => exact ⟨_, _, hm2, hP2, hS2, hMu, hCu, hgb4, hb5⟩
        case measure => omega
      | none =>
        rw [hr] at HR
        simp only [Option.isSome_none] at HR
        go_wp2_with fail
        refine HR.mono ?_
        rintro e w4 ⟨u4, rfl, hMu, hCu, hb4⟩
        have hgb4 := keep_blk hb4 hgb2
        have hb5 := hb3.trans (hb4.mono hbs2)
        have hM4 := (hM2.below hb4).more hb4.size
        have hbs4 : gb ≤ w4.heap.size := by rw [← hgbH.out]; exact hb5.size
        clear HR hb4 hgb2 hM2 hMu hCu hb3 hbs2
        have HC := rcols14_any u0 l n hS.len (fun j r hj => hS.row r (List.mem_of_getElem? hj)) (by omega) hC w4 hM4
        unfold clL at HC
        cases hl : clI l n with
        | some c =>
          rw [hl] at HC
          simp only [Option.isSome_some] at HC
          have hP2 : Hid (P = redP n (gk - 1) t (clR l c)) := Lib.hid (by rw [hPf.out, red_c ht hr hl])
          have hm2 : masR (clR l c) < gk - 1 := by
            obtain ⟨-, ⟨r, m1, m2⟩, -⟩ := clI_some hl
            have := mas_col _ m1 m2
            omega
          have hS2 := hS.cols c
          clear hPf hmk ht hr hl hM4 hC hm hS
          go_wp2_with fail
          refine HC.mono ?_
          rintro e w6 ⟨u6, rfl, hMu, hCu, hb6⟩
          have hgb6 := keep_blk hb6 hgb4
          have hb7 := hb5.trans (hb6.mono hbs4)
          clear HC hb6 hgb4 hb5 hgbH
          go_wp2
          go_roundg (gk - 1)
          case rel => exact ⟨_, _, hm2, hP2, hS2, hMu, hCu, hgb6, hb7⟩
          case measure => omega
        | none =>
          rw [hl] at HC
          simp only [Option.isSome_none] at HC
          have hP2 : Hid (P = (t, l)) := Lib.hid (by rw [hPf.out, red_stay ht hr hl])
          clear hPf hmk ht hr hl hm hS
          go_wp2_with fail
          refine HC.mono ?_
          rintro e w6 ⟨u6, rfl, hMu, hCu, hb6⟩
          have hgb6 := keep_blk hb6 hgb4
          have hb7 := hb5.trans (hb6.mono hbs4)
          have hM6 := (hM4.below hb6).more hb6.size
          have hbs6 : gb ≤ w6.heap.size := by rw [← hgbH.out]; exact hb7.size
          clear HC hb6 hgb4 hb5 hM4 hMu hCu
          go_wp2
          have hB6 : Below w.heap.size w w6 := by rw [hgbH.out]; exact hb7
          clear hgbH
          go_loopw [10, 11] (fun s t' wr => ∃ (k : Nat) (R : List Int), k ≤ n ∧ t' = .int .i64 k ∧ Hid (R = tkS t k) ∧ wr.ownsRow w6.heap.size 3 1 s R.length (intI R) ∧ Below w6.heap.size w6 wr) (fun _ t' _ => n - (intOf t').toNat)
          case atStart => exact ⟨0, [], by omega, rfl, Lib.hid rfl, World.ownsRow_nil _ _ _ _, Below.refl _ _⟩
          case round =>
            obtain ⟨k, R, hk, rfl, hR, ho, hbk⟩ := hrel
            obtain ⟨Ar, cr, rfl⟩ := own_form ho
            have hbks := hbk.size
            have hgk := keep_blk hbk hgb6
            by_cases hkn : k < n
            · have hkd : decide ((k : Int) < (n : Int)) = true := decide_eq_true (by omega)
              have y0 := (cell_of_block hgk k).trans (tkA_get t hkn)
              have hRl : R.length ≤ k := by rw [hR.out]; exact tkS_len t k
              have hs := Lib.hid (tkS_succ t k)
              have k0 : (0 : Int) ≤ (k : Int) := by omega
              have k1 : (k : Int) < (n : Int) := by omega
              cases htk : t (k : Int)
              · rw [htk] at y0
                have hR2 : Hid (R = tkS t (k + 1)) := Lib.hid (by rw [hs.out, if_neg (by rw [htk]; decide), hR.out])
                clear hs hR htk hgk
                go_wp2
                go_roundw
                case rel => exact ⟨k + 1, R, by omega, by go_num, hR2, ho, hbk⟩
                case measure => simp [intOf]; omega
              · rw [htk] at y0
                have hR2 : Hid (R ++ [(k : Int)] = tkS t (k + 1)) := Lib.hid (by rw [hs.out, if_pos htk, hR.out])
                clear hs hR htk hgk
                have hna := ho.alloc (.cells #[.int .i64 k] 3 (0, 0))
                have hba := hbk.alloc hbks (.cells #[.int .i64 k] 3 (0, 0))
                go_wp2_with (at_builtin; refine wpList_append_own_at _ rfl _ _ 38 rfl w6.heap.size 3 i0 (.int .i64 0) 1 8 Try.underlying38 hi0 hz0 hz1 hz2 rfl (by decide) _ _ _ rfl hna ⟨wr.heap.size, 0, none⟩ 1 1 [.int .i64 (k : Int)] rfl rfl one_new13 (fun u hu => by rw [List.mem_singleton.1 hu]; rfl) ?c3 ?c4 ?c5 ?_)
                case c3 => unfold maxLen; omega
                case c4 => omega
                case c5 => first | omega | (simp; omega)
                intro V4 w9 hp9 hg9 _ _
                have hB9 := grown_below hna hg9 hba (Nat.le_refl _) (by simp; omega)
                have hn9 : w9.ownsRow w6.heap.size 3 1 V4 (R ++ [(k : Int)]).length (intI (R ++ [(k : Int)])) := by
                  have e : intI (R ++ [(k : Int)]) = intI R ++ [.int .i64 (k : Int)] := by unfold intI; rw [List.map_append]; rfl
                  rw [e, List.length_append]
                  exact hp9
                clear hna hba hg9 hp9 ho hbk y0
                go_wp2
                go_roundw
                case rel => exact ⟨k + 1, R ++ [(k : Int)], by omega, by go_num, hR2, hn9, hB9⟩
                case measure => simp [intOf]; omega
            · have e : k = n := by omega
              have hkd : decide ((k : Int) < (n : Int)) = false := decide_eq_false (by omega)
              have hR2 : R = tkS P.1 n := by rw [hR.out, e, hP2.out]
              have hI := own_intI ho
              have hI2 : Hid (IntsAt wr wr.heap.size (.slice Ar R.length cr) (tkS P.1 n)) := Lib.hid (by rw [← hR2]; exact hI)
              have hM9 : Hid (MatAt wr wr.heap.size u0 P.2) := Lib.hid (by rw [hP2.out]; exact (hM6.below hbk).more hbk.size)
              have hBr := hB6.trans (hbk.mono hB6.size)
              clear e hR hR2 hI ho hgk hM6
              go_wp2
              go_ret2
              exact ⟨_, _, rfl, hI2.out, hM9.out, hC, hBr⟩
end Go.Proofs.Ytjjpobpcpgcbaaa
