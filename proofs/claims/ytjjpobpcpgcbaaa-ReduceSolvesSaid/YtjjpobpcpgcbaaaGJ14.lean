/- The document's own In, All, where of layer 14. The document's own less, Take of layer 14. -/
import Derived.Test.YtjjpobpcpgcbaaaGJ13
namespace Go.Proofs.Ytjjpobpcpgcbaaa
open Go.RowKit Go.Joins

set_option maxHeartbeats 1000000 in
set_option maxRecDepth 100000 in
theorem rin14_any (v : Value) (l : List Int) (c : Int) (w : World) (hz : IntsAt w w.heap.size v l) :
    Calls Try.prog 30 #[v, .int .i64 c] w fun e w' => e = .returned (.bool (decide (c ∈ l))) ∧ Below w.heap.size w w' := by
  obtain ⟨A, cp, rfl, hl, hc⟩ := hz
  have hyes : Hid (∀ (j : Nat), l[j]? = some c → decide (c ∈ l) = true) := Lib.hid (fun j h => decide_eq_true (List.mem_of_getElem? h))
  have hno : Hid ((∀ (j : Nat) (x : Int), l[j]? = some x → ¬ x = c) → decide (c ∈ l) = false) := Lib.hid (fun h => decide_eq_false (fun hm => by
    obtain ⟨j, hj⟩ := List.mem_iff_getElem?.1 hm
    exact h j c hj rfl))
  generalize decide (c ∈ l) = R at *
  go_enter Try.func30, Try.ntmps30
  go_wp2
  go_loop [5] (fun t => ∃ k : Nat, k ≤ l.length ∧ t = .int .i64 k ∧ Hid (∀ (j : Nat) (x : Int), j < k → l[j]? = some x → ¬ x = c)) (fun t => l.length - (intOf t).toNat)
  case atStart => exact ⟨0, by omega, rfl, Lib.hid (fun j x h => absurd h (Nat.not_lt_zero _))⟩
  case round =>
    obtain ⟨k, hk, rfl, hH⟩ := hrel
    by_cases hlt : k < l.length
    · obtain ⟨b, off, rfl, hB, hcell⟩ := hc (by omega)
      obtain ⟨x, hx⟩ : ∃ x, l[k]? = some x := ⟨_, List.getElem?_eq_getElem hlt⟩
      have c0 := hcell k x hx
      have hxH := Lib.hid hx
      clear hcell hx hc
      by_cases e : x = c
      · subst e
        have hr := Lib.hid (hyes.out k hxH.out)
        clear hyes hno hH hxH
        go_wp2
        go_ret
        exact ⟨by rw [hr.out]; rfl, Below.refl _ _⟩
      · have hne : (x == c) = false := by rw [beq_eq_false_iff_ne]; exact e
        have hH2 : Hid (∀ (j : Nat) (y : Int), j < k + 1 → l[j]? = some y → ¬ y = c) := Lib.hid (fun j y hj hy => by
          by_cases ej : j = k
          · subst ej
            rw [hxH.out] at hy
            injection hy with hy
            rw [← hy]; exact e
          · exact hH.out j y (by omega) hy)
        clear hH hxH e
        go_wp2
        go_round
        case rel => exact ⟨k + 1, by omega, by go_num, hH2⟩
        case measure => simp [intOf]; omega
    · have e : k = l.length := by omega
      have hr := Lib.hid (hno.out fun j x hx => hH.out j x (by rw [e]; exact (List.getElem?_eq_some_iff.1 hx).1) hx)
      have hkd : decide ((k : Int) < (l.length : Int)) = false := decide_eq_false (by omega)
      clear e hyes hno hH hc
      go_wp2
      go_ret
      exact ⟨by rw [hr.out]; rfl, Below.refl _ _⟩
/-- How many of the first k are in the other row. -/
def cntR (a b : List Int) (k : Nat) : Nat := (a.take k).countP fun x => decide (x ∈ b)
theorem cntR_succ {a b : List Int} {k : Nat} {x : Int} (h : a[k]? = some x) : cntR a b (k + 1) = cntR a b k + if x ∈ b then 1 else 0 := by
  unfold cntR
  rw [List.take_add_one, h, List.countP_append]
  simp [List.countP_singleton]
theorem cntR_le (a b : List Int) (k : Nat) : cntR a b k ≤ k := by
  unfold cntR
  have h1 := List.countP_le_length (p := fun x => decide (x ∈ b)) (l := a.take k)
  rw [List.length_take] at h1
  omega
theorem cntR_all (a b : List Int) : (decide (cntR a b a.length = a.length)) = subR a b := by
  unfold cntR subR
  rw [List.take_length, Bool.eq_iff_iff, decide_eq_true_iff, List.countP_eq_length, List.all_eq_true]
set_option maxHeartbeats 2000000 in
set_option maxRecDepth 100000 in
theorem rall14_any (v u : Value) (a b : List Int) (w : World) (ha : IntsAt w w.heap.size v a) (hb : IntsAt w w.heap.size u b) :
    Calls Try.prog 31 #[v, u] w fun e w' => e = .returned (.bool (subR a b)) ∧ Below w.heap.size w w' := by
  have HI := fun c W (h : Below w.heap.size w W) => rin14_any u b c W ((hb.below h).more h.size)
  obtain ⟨A, ca, rfl, hl, hc⟩ := ha
  obtain ⟨A2, cb2, rfl, -, -⟩ := hb
  have hsub := Lib.hid (cntR_all a b)
  have hst := Lib.hid (fun (k : Nat) (x : Int) (h : a[k]? = some x) => cntR_succ (b := b) h)
  have hle := fun k => cntR_le a b k
  go_enter Try.func31, Try.ntmps31
  go_wp2
  go_loopw [5, 6] (fun s t wr => ∃ k : Nat, k ≤ a.length ∧ t = .int .i64 k ∧ s = .int .i64 (cntR a b k) ∧ Below w.heap.size w wr) (fun _ t _ => a.length - (intOf t).toNat)
  case atStart => exact ⟨0, by omega, rfl, rfl, Below.refl _ _⟩
  case round =>
    obtain ⟨k, hk, rfl, rfl, hbw⟩ := hrel
    by_cases hlt : k < a.length
    · obtain ⟨bk, off, rfl, hB, hcell⟩ := hc (by omega)
      obtain ⟨x, hx⟩ : ∃ x, a[k]? = some x := ⟨_, List.getElem?_eq_getElem hlt⟩
      have c0 := (hbw.cell (p := ⟨bk, off + k, none⟩) hB).trans (hcell k x hx)
      have hs := Lib.hid (hst.out k x hx)
      have hle1 := hle k
      have HI1 := HI x wr hbw
      clear hcell hx hc hst hle HI hsub
      generalize cntR a b k = n1 at *
      by_cases hm : x ∈ b
      · have hs2 : Hid (cntR a b (k + 1) = n1 + 1) := Lib.hid (by rw [hs.out, if_pos hm])
        rw [decide_eq_true hm] at HI1
        clear hs hm
        go_wp2_with fail
        refine HI1.mono ?_
        rintro e w2 ⟨rfl, hb2⟩
        have hb3 := hbw.trans (hb2.mono hbw.size)
        clear HI1 c0
        go_wp2
        go_roundw
        case rel => exact ⟨k + 1, by omega, by go_num, by rw [hs2.out]; go_num, hb3⟩
        case measure => simp [intOf]; omega
      · have hs2 : Hid (cntR a b (k + 1) = n1) := Lib.hid (by rw [hs.out, if_neg hm]; rfl)
        rw [decide_eq_false hm] at HI1
        clear hs hm
        go_wp2_with fail
        refine HI1.mono ?_
        rintro e w2 ⟨rfl, hb2⟩
        have hb3 := hbw.trans (hb2.mono hbw.size)
        clear HI1 c0
        go_wp2
        go_roundw
        case rel => exact ⟨k + 1, by omega, by go_num, by rw [hs2.out], hb3⟩
        case measure => simp [intOf]; omega
    · have e : k = a.length := by omega
      have hkd : decide ((k : Int) < (a.length : Int)) = false := decide_eq_false (by omega)
      have hf : Hid (((cntR a b k : Int) == (a.length : Int)) = subR a b) := Lib.hid (by
        rw [← hsub.out, e, Bool.eq_iff_iff, beq_iff_eq, decide_eq_true_iff]
        omega)
      generalize cntR a b k = n1 at *
      clear e hst hle HI hsub hc
      go_wp2
      go_ret
      exact ⟨by rw [← hf.out]; first | rfl | exact ret_bool (by simp), hbw⟩
/-- The rows among the first k that have a column. -/
def whK (ls : List (List Int)) (c : Int) (k : Nat) : List Int := ((List.range k).filter fun i => decide (c ∈ ls.getD i [])).map fun i : Nat => (i : Int)
theorem whK_all (ls : List (List Int)) (c : Int) : whK ls c ls.length = whr ls c := rfl
theorem whK_succ {ls : List (List Int)} {c : Int} {k : Nat} {l : List Int} (h : ls[k]? = some l) : whK ls c (k + 1) = if c ∈ l then whK ls c k ++ [(k : Int)] else whK ls c k := by
  have e : ls.getD k [] = l := by rw [List.getD_eq_getElem?_getD, h]; rfl
  unfold whK
  rw [List.range_succ, List.filter_append, List.filter_cons]
  by_cases hm : c ∈ l
  · rw [if_pos hm, if_pos (by rw [e]; exact decide_eq_true hm), List.filter_nil, List.map_append]; rfl
  · rw [if_neg hm, if_neg (by rw [e, decide_eq_false hm]; decide), List.filter_nil, List.append_nil]
theorem whK_len (ls : List (List Int)) (c : Int) (k : Nat) : (whK ls c k).length ≤ k := by
  unfold whK
  rw [List.length_map]
  have := List.length_filter_le (fun i => decide (c ∈ ls.getD i [])) (List.range k)
  simpa using this
set_option maxHeartbeats 2000000 in
set_option maxRecDepth 100000 in
theorem rwhere14_any (v : Value) (ls : List (List Int)) (c : Int) (hls : ls.length ≤ 1000) (w : World) (hz : MatAt w w.heap.size v ls) :
    Calls Try.prog 52 #[v, .int .i64 c] w fun e w' => ∃ u, e = .returned u ∧ IntsAt w' w'.heap.size u (whr ls c) ∧ Below w.heap.size w w' := by
  obtain ⟨A, cp, rfl, hl, hc⟩ := hz
  obtain ⟨i0, hi0, hz0, hz1, hz2⟩ := info_parts Try.infoInt
  have hst := Lib.hid (fun (k : Nat) (l : List Int) (h : ls[k]? = some l) => whK_succ (c := c) h)
  have hle := fun k => whK_len ls c k
  have hend := Lib.hid (whK_all ls c)
  go_enter Try.func52, Try.ntmps52
  go_wp2
  go_loopw [5, 6] (fun s t wr => ∃ (k : Nat) (R : List Int), k ≤ ls.length ∧ t = .int .i64 k ∧ Hid (R = whK ls c k) ∧ wr.ownsRow w.heap.size 3 1 s R.length (intI R) ∧ Below w.heap.size w wr) (fun _ t _ => ls.length - (intOf t).toNat)
  case atStart => exact ⟨0, [], by omega, rfl, Lib.hid rfl, World.ownsRow_nil _ _ _ _, Below.refl _ _⟩
  case round =>
    obtain ⟨k, R, hk, rfl, hR, hown, hb⟩ := hrel
    obtain ⟨Av, cv, rfl⟩ := own_form hown
    by_cases hlt : k < ls.length
    · obtain ⟨bk, off, rfl, hB, hcell⟩ := hc (by omega)
      obtain ⟨l, hx⟩ : ∃ l, ls[k]? = some l := ⟨_, List.getElem?_eq_getElem hlt⟩
      obtain ⟨ov, z0, hov⟩ := hcell k l hx
      have c0 := (hb.cell (p := ⟨bk, off + k, none⟩) hB).trans z0
      have hs := Lib.hid (hst.out k l hx)
      have hRl : R.length ≤ k := by rw [hR.out]; exact hle k
      have HI := rin14_any ov l c wr ((hov.below hb).more hb.size)
      obtain ⟨Ao, co, rfl, -, -⟩ := hov
      have hbs := hb.size
      clear hcell hx hc z0 hst hle
      by_cases hm : c ∈ l
      · have hR2 : Hid (R ++ [(k : Int)] = whK ls c (k + 1)) := Lib.hid (by rw [hs.out, if_pos hm, hR.out])
        rw [decide_eq_true hm] at HI
        clear hs hm hR
        go_wp2_with fail
        refine HI.mono ?_
        rintro e w2 ⟨rfl, hb2⟩
        have hb3 := hb.trans (hb2.mono hbs)
        have hown3 := owns_below hown hb2
        have hbs3 := hb3.size
        clear HI c0 hown hb hb2
        have hna := hown3.alloc (.cells #[.int .i64 k] 3 (0, 0))
        have hba := hb3.alloc hbs3 (.cells #[.int .i64 k] 3 (0, 0))
        go_wp2_with (at_builtin; refine wpList_append_own_at _ rfl _ _ 38 rfl w.heap.size 3 i0 (.int .i64 0) 1 8 Try.underlying38 hi0 hz0 hz1 hz2 rfl (by decide) _ _ _ rfl hna ⟨w2.heap.size, 0, none⟩ 1 1 [.int .i64 (k : Int)] rfl rfl one_new13 (fun u hu => by rw [List.mem_singleton.1 hu]; rfl) ?c3 ?c4 ?c5 ?_)
        case c3 => unfold maxLen; omega
        case c4 => omega
        case c5 => first | omega | (simp; omega)
        intro V4 w9 hp9 hg9 _ _
        have hB9 := grown_below hna hg9 hba (Nat.le_refl _) (by simp; omega)
        have hn9 : w9.ownsRow w.heap.size 3 1 V4 (R ++ [(k : Int)]).length (intI (R ++ [(k : Int)])) := by
          have e : intI (R ++ [(k : Int)]) = intI R ++ [.int .i64 (k : Int)] := by unfold intI; rw [List.map_append]; rfl
          rw [e, List.length_append]
          exact hp9
        clear hna hba hg9 hp9 hown3 hb3
        go_wp2
        go_roundw
        case rel => exact ⟨k + 1, _, by omega, by go_num, hR2, hn9, hB9⟩
        case measure => simp [intOf]; omega
      · have hR2 : Hid (R = whK ls c (k + 1)) := Lib.hid (by rw [hs.out, if_neg hm, hR.out])
        rw [decide_eq_false hm] at HI
        clear hs hm hR
        go_wp2_with fail
        refine HI.mono ?_
        rintro e w2 ⟨rfl, hb2⟩
        have hb3 := hb.trans (hb2.mono hbs)
        have hown3 := owns_below hown hb2
        clear HI c0 hown hb hb2
        go_wp2
        go_roundw
        case rel => exact ⟨k + 1, _, by omega, by go_num, hR2, hown3, hb3⟩
        case measure => simp [intOf]; omega
    · have e : k = ls.length := by omega
      have hkd : decide ((k : Int) < (ls.length : Int)) = false := decide_eq_false (by omega)
      have hR2 : R = whr ls c := by rw [← hend.out, ← e]; exact hR.out
      have hI := own_intI hown
      have hI2 : IntsAt wr wr.heap.size (.slice Av R.length cv) (whr ls c) := by rw [← hR2]; exact hI
      clear e hst hle hend hc hR hown hR2 hI
      go_wp2
      go_ret
      exact ⟨_, rfl, hI2, hb⟩
end Go.Proofs.Ytjjpobpcpgcbaaa
namespace Go.Proofs.Ytjjpobpcpgcbaaa
open Go.RowKit Go.Joins

theorem find_at {α : Type} (p : α → Bool) : ∀ (l : List α) (k : Nat) (x : α), l[k]? = some x → p x = true → (∀ (j : Nat) (y : α), j < k → l[j]? = some y → p y = false) → l.find? p = some x
  | [], _, _, h, _, _ => by simp at h
  | a :: l, 0, x, h, hp, _ => by
    injection h with h
    subst h
    rw [List.find?_cons, hp]
  | a :: l, k + 1, x, h, hp, hn => by
    have h0 := hn 0 a (Nat.succ_pos _) rfl
    rw [List.find?_cons, h0]
    exact find_at p l k x (by simpa using h) hp fun j y hj hy => hn (j + 1) y (by omega) (by simpa using hy)
theorem find_no {α : Type} (p : α → Bool) (l : List α) (h : ∀ (j : Nat) (y : α), l[j]? = some y → p y = false) : l.find? p = none := by
  rw [List.find?_eq_none]
  intro x hx
  obtain ⟨j, hj⟩ := List.mem_iff_getElem?.1 hx
  rw [h j x hj]; decide
/-- Is a column d as good? -/
def bttC (ls : List (List Int)) (c d : Nat) : Bool := decide (d ≠ c) && subR (whr ls c) (whr ls d) && (decide ((whr ls c).length < (whr ls d).length) || decide (d < c))
theorem btt_eq (ls : List (List Int)) (c d : Nat) : bttC ls c d = (decide (d ≠ c) && subR (whr ls c) (whr ls d) && (decide ((whr ls c).length < (whr ls d).length) || decide (d < c))) := rfl
theorem lss_btt (ls : List (List Int)) (n c : Nat) : lssC ls n c = (decide (0 < (whr ls c).length) && (List.range n).any (bttC ls c)) := rfl
set_option maxHeartbeats 4000000 in
set_option maxRecDepth 100000 in
theorem rless14_any (v : Value) (ls : List (List Int)) (n c : Nat) (hls : ls.length ≤ 1000) (hn : n ≤ 100000) (w : World) (hz : MatAt w w.heap.size v ls) :
    Calls Try.prog 32 #[v, .int .i64 n, .int .i64 c] w fun e w' => e = .returned (.bool (lssC ls n c)) ∧ Below w.heap.size w w' := by
  have HW := fun (d : Nat) W (h : Below w.heap.size w W) => rwhere14_any v ls d hls W ((hz.below h).more h.size)
  have HA := fun (u1 u2 : Value) (a b : List Int) W h1 h2 => rall14_any u1 u2 a b W h1 h2
  have hyes : Hid (∀ d : Nat, 0 < (whr ls c).length → d < n → bttC ls c d = true → lssC ls n c = true) := Lib.hid (fun d h0 hd hb => by
    rw [lss_btt, decide_eq_true h0, Bool.true_and]
    exact List.any_eq_true.2 ⟨d, List.mem_range.2 hd, hb⟩)
  have hno : Hid ((∀ d : Nat, d < n → bttC ls c d = false) → lssC ls n c = false) := Lib.hid (fun h => by
    rw [lss_btt, show (List.range n).any (bttC ls c) = false from List.any_eq_false.2 fun d hd => by rw [h d (List.mem_range.1 hd)]; decide, Bool.and_false])
  have hemp : Hid (¬ 0 < (whr ls c).length → lssC ls n c = false) := Lib.hid (fun h => by rw [lss_btt, decide_eq_false h, Bool.false_and])
  generalize lssC ls n c = R at *
  obtain ⟨A, cp, rfl, -, -⟩ := hz
  go_enter Try.func32, Try.ntmps32
  go_wp2_with fail
  refine (HW c _ (Below.refl _ _)).mono ?_
  rintro e w1 ⟨u, rfl, hu, hb1⟩
  generalize hown : whr ls (c : Int) = own at *
  have hownH := Lib.hid hown
  clear hown
  obtain ⟨A1, q1, rfl, hol, -⟩ := id hu
  go_wp2
  go_loopw [8, 9] (fun t _ wr => ∃ k : Nat, k ≤ n ∧ t = .int .i64 k ∧ Hid (∀ d : Nat, d < k → bttC ls c d = false) ∧ Below w1.heap.size w1 wr) (fun t _ _ => n - (intOf t).toNat)
  case atStart => exact ⟨0, by omega, rfl, Lib.hid (fun d h => absurd h (Nat.not_lt_zero _)), Below.refl _ _⟩
  case round =>
    obtain ⟨k, hk, rfl, hH, hb⟩ := hrel
    have hbw := hb1.trans (hb.mono hb1.size)
    by_cases hlt : k < n
    · have hkd : decide ((k : Int) < (n : Int)) = true := decide_eq_true (by omega)
      by_cases h0 : 0 < own.length
      · have h0d : decide ((0 : Int) < (own.length : Int)) = true := decide_eq_true (by omega)
        have HW1 := HW k wr hbw
        have hbk := btt_eq ls c k
        rw [hownH.out] at hbk
        replace hbk := Lib.hid hbk
        clear HW
        go_wp2_with fail
        refine HW1.mono ?_
        rintro e w2 ⟨u2, rfl, hu2, hb2⟩
        have hb3 := hb.trans (hb2.mono hb.size)
        have hu1 := (hu.below hb3).more hb3.size
        have HA1 := HA _ _ _ _ w2 hu1 hu2
        generalize whr ls (k : Int) = oth at *
        obtain ⟨A2, q2, rfl, hol2, -⟩ := hu2
        clear HW1 HA hu1 hb2
        have hH2 : Hid (bttC ls c k = false → ∀ d : Nat, d < k + 1 → bttC ls c d = false) := Lib.hid (fun h d hd => by
          by_cases e : d = k
          · rw [e]; exact h
          · exact hH.out d (by omega))
        clear hH
        by_cases hne : k = c
        · have hned : ((k : Int) != (c : Int)) = false := by rw [hne]; simp
          have hf := Lib.hid (hH2.out (by rw [hbk.out, decide_eq_false (by omega), Bool.false_and, Bool.false_and]))
          clear hH2 hbk hyes hno hemp HA1 hne
          go_wp2
          go_roundw
          case rel => exact ⟨k + 1, by omega, by go_num, hf, hb3⟩
          case measure => simp [intOf]; omega
        have hned : ((k : Int) != (c : Int)) = true := by rw [bne_iff_ne]; omega
        cases hs : subR own oth
        · rw [hs] at HA1
          have hf := Lib.hid (hH2.out (by rw [hbk.out, hs, Bool.and_false, Bool.false_and]))
          clear hH2 hbk hyes hno hemp hs
          go_wp2_with fail
          refine HA1.mono ?_
          rintro e w4 ⟨rfl, hb4⟩
          have hb5 := hb3.trans (hb4.mono hb3.size)
          clear HA1
          go_wp2
          go_roundw
          case rel => exact ⟨k + 1, by omega, by go_num, hf, hb5⟩
          case measure => simp [intOf]; omega
        · rw [hs] at HA1
          by_cases hl : own.length < oth.length
          · have hld : decide ((own.length : Int) < (oth.length : Int)) = true := decide_eq_true (by omega)
            have hr := Lib.hid (hyes.out k h0 hlt (by rw [hbk.out, hs, decide_eq_true hl, decide_eq_true hne]; rfl))
            clear hH2 hbk hyes hno hemp hs
            go_wp2_with fail
            refine HA1.mono ?_
            rintro e w4 ⟨rfl, hb4⟩
            have hb5 := hb3.trans (hb4.mono hb3.size)
            have hbz := hb1.trans (hb5.mono hb1.size)
            clear HA1
            go_wp2
            go_ret
            exact ⟨by rw [hr.out]; rfl, hbz⟩
          · have hld : decide ((own.length : Int) < (oth.length : Int)) = false := decide_eq_false (by omega)
            have hld2 : decide (own.length < oth.length) = false := decide_eq_false hl
            by_cases hd : k < c
            · have hdd : decide ((k : Int) < (c : Int)) = true := decide_eq_true (by omega)
              have hr := Lib.hid (hyes.out k h0 hlt (by rw [hbk.out, hs, decide_eq_true hd, decide_eq_true hne, Bool.or_true]; rfl))
              clear hH2 hbk hyes hno hemp hs
              go_wp2_with fail
              refine HA1.mono ?_
              rintro e w4 ⟨rfl, hb4⟩
              have hb5 := hb3.trans (hb4.mono hb3.size)
              have hbz := hb1.trans (hb5.mono hb1.size)
              clear HA1
              go_wp2
              go_ret
              exact ⟨by rw [hr.out]; rfl, hbz⟩
            · have hdd : decide ((k : Int) < (c : Int)) = false := decide_eq_false (by omega)
              have hf := Lib.hid (hH2.out (by rw [hbk.out, hs, decide_eq_false hl, decide_eq_false hd, Bool.or_false, Bool.and_false]))
              clear hH2 hbk hyes hno hemp hs
              go_wp2_with fail
              refine HA1.mono ?_
              rintro e w4 ⟨rfl, hb4⟩
              have hb5 := hb3.trans (hb4.mono hb3.size)
              clear HA1
              go_wp2
              go_roundw
              case rel => exact ⟨k + 1, by omega, by go_num, hf, hb5⟩
              case measure => simp [intOf]; omega
      · have h0d : decide ((0 : Int) < (own.length : Int)) = false := decide_eq_false (by omega)
        have hr := Lib.hid (hemp.out h0)
        clear HW hyes hno hemp HA hH
        go_wp2
        go_ret
        exact ⟨by rw [hr.out]; rfl, hbw⟩
    · have e : k = n := by omega
      have hkd : decide ((k : Int) < (n : Int)) = false := decide_eq_false (by omega)
      have hr := Lib.hid (hno.out (by rw [← e]; exact hH.out))
      clear HW hyes hno hemp HA hH e
      go_wp2
      go_ret
      exact ⟨by rw [hr.out]; rfl, hbw⟩
end Go.Proofs.Ytjjpobpcpgcbaaa
