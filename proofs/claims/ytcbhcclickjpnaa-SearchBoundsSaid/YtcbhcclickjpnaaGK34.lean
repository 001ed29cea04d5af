/- The document's own Bare, many, Bound of layer 15. -/
import Derived.Test.YtcbhcclickjpnaaGK04
import Derived.Test.YtcbhcclickjpnaaGK33
namespace Go.Proofs.Ytcbhcclickjpnaa
open Go.RowKit Go.Joins

set_option maxHeartbeats 1000000 in
set_option maxRecDepth 100000 in
theorem rbare15_any (v : Value) (ls : List (List Int)) (w : World) (hz : MatAt w w.heap.size v ls) :
    Calls Try.prog 12 #[v] w fun e w' => e = .returned (.bool (bareB ls)) ∧ Below w.heap.size w w' := by
  obtain ⟨A, cp, rfl, hl, hc⟩ := hz
  have hyes : Hid (∀ (j : Nat) (l : List Int), ls[j]? = some l → l.length = 0 → bareB ls = true) := Lib.hid (fun j l h h0 => by
    unfold bareB
    rw [List.any_eq_true]
    exact ⟨l, List.mem_of_getElem? h, decide_eq_true h0⟩)
  have hno : Hid ((∀ (j : Nat) (l : List Int), ls[j]? = some l → ¬ l.length = 0) → bareB ls = false) := Lib.hid (fun h => by
    unfold bareB
    rw [List.any_eq_false]
    intro l hl h0
    obtain ⟨j, hj⟩ := List.mem_iff_getElem?.1 hl
    exact h j l hj (of_decide_eq_true h0))
  generalize bareB ls = R at *
  go_enter Try.func12, Try.ntmps12
  go_wp2
  go_loop [3] (fun t => ∃ k : Nat, k ≤ ls.length ∧ t = .int .i64 k ∧ Hid (∀ (j : Nat) (l : List Int), j < k → ls[j]? = some l → ¬ l.length = 0)) (fun t => ls.length - (intOf t).toNat)
  case atStart => exact ⟨0, by omega, rfl, Lib.hid (fun j l h => absurd h (Nat.not_lt_zero _))⟩
  case round =>
    obtain ⟨k, hk, rfl, hH⟩ := hrel
    by_cases hlt : k < ls.length
    · obtain ⟨b, off, rfl, hB, hcell⟩ := hc (by omega)
      obtain ⟨l, hll⟩ : ∃ l, ls[k]? = some l := ⟨_, List.getElem?_eq_getElem hlt⟩
      obtain ⟨ov, c0, A2, c2, rfl, -, -⟩ := hcell k l hll
      have hxH := Lib.hid hll
      clear hcell hll hc
      by_cases e : l.length = 0
      · have hr := Lib.hid (hyes.out k l hxH.out e)
        have hd : ((l.length : Int) == 0) = true := by rw [e]; rfl
        clear hyes hno hH hxH e
        go_wp2
        go_ret
        exact ⟨by rw [hr.out]; rfl, Below.refl _ _⟩
      · have hd : ((l.length : Int) == 0) = false := by rw [beq_eq_false_iff_ne]; omega
        have hH2 : Hid (∀ (j : Nat) (m : List Int), j < k + 1 → ls[j]? = some m → ¬ m.length = 0) := Lib.hid (fun j m hj hm => by
          by_cases ej : j = k
          · subst ej
            rw [hxH.out] at hm
            injection hm with hm
            rw [← hm]; exact e
          · exact hH.out j m (by omega) hm)
        clear hH hxH e
        go_wp2
        go_round
        case rel => exact ⟨k + 1, by omega, by go_num, hH2⟩
        case measure => simp [intOf]; omega
    · have e : k = ls.length := by omega
      have hr := Lib.hid (hno.out fun j x hx => hH.out j x (by rw [e]; exact (List.getElem?_eq_some_iff.1 hx).1) hx)
      have hkd : decide ((k : Int) < (ls.length : Int)) = false := decide_eq_false (by omega)
      clear e hyes hno hH hc
      go_wp2
      go_ret
      exact ⟨by rw [hr.out]; rfl, Below.refl _ _⟩
def cntK (ls : List (List Int)) (c k : Nat) : Nat := (ls.take k).countP fun r => decide ((c : Int) ∈ r)
theorem cntK_succ {ls : List (List Int)} {c k : Nat} {l : List Int} (h : ls[k]? = some l) : cntK ls c (k + 1) = cntK ls c k + if (c : Int) ∈ l then 1 else 0 := by
  unfold cntK
  rw [List.take_add_one, h, List.countP_append]
  by_cases e : (c : Int) ∈ l <;> simp [e]
theorem cntK_le (ls : List (List Int)) (c k : Nat) : cntK ls c k ≤ k := by
  unfold cntK
  exact Nat.le_trans List.countP_le_length (by rw [List.length_take]; omega)
theorem cntK_all (ls : List (List Int)) (c : Nat) : cntK ls c ls.length = cntC ls c := by
  unfold cntK cntC
  rw [List.take_length]
set_option maxHeartbeats 1000000 in
set_option maxRecDepth 100000 in
theorem rmany15_any (v : Value) (ls : List (List Int)) (c : Nat) (hls : ls.length ≤ 1000) (w : World) (hz : MatAt w w.heap.size v ls) :
    Calls Try.prog 26 #[v, .int .i64 c] w fun e w' => e = .returned (.int .i64 (cntC ls c : Nat)) ∧ Below w.heap.size w w' := by
  obtain ⟨A, cp, rfl, hl, hc⟩ := hz
  have hstep := Lib.hid (fun k l => cntK_succ (ls := ls) (c := c) (k := k) (l := l))
  have hle := Lib.hid (cntK_le ls c)
  have hall := Lib.hid (cntK_all ls c)
  have h0 : Hid (cntK ls c 0 = 0) := Lib.hid rfl
  go_enter Try.func26, Try.ntmps26
  go_wp2
  go_loopw [5, 6] (fun a t wr => ∃ k m : Nat, k ≤ ls.length ∧ t = .int .i64 k ∧ a = .int .i64 m ∧ Hid (cntK ls c k = m) ∧ Below w.heap.size w wr) (fun _ t _ => ls.length - (intOf t).toNat)
  case atStart => exact ⟨0, 0, by omega, rfl, rfl, h0, Below.refl _ _⟩
  case round =>
    obtain ⟨k, m, hk, rfl, rfl, hm, hb⟩ := hrel
    by_cases hlt : k < ls.length
    · obtain ⟨b, off, rfl, hB, hcell⟩ := hc (by omega)
      obtain ⟨l, hll⟩ : ∃ l, ls[k]? = some l := ⟨_, List.getElem?_eq_getElem hlt⟩
      obtain ⟨ov, c0, hi⟩ := hcell k l hll
      have d0 := (hb.cell (p := ⟨b, off + k, none⟩) hB).trans c0
      have HI := rin14_any ov l c wr ((hi.below hb).more hb.size)
      obtain ⟨A2, c2, rfl, -, -⟩ := hi
      have hst := Lib.hid (hstep.out k l hll)
      have hmk : m ≤ k := by rw [← hm.out]; exact hle.out k
      clear hcell hll hc c0
      by_cases e : (c : Int) ∈ l
      · have hm2 : Hid (cntK ls c (k + 1) = m + 1) := Lib.hid (by rw [hst.out, hm.out, if_pos e])
        rw [decide_eq_true e] at HI
        clear e hst hm hstep hle hall h0
        go_wp2_with fail
        refine HI.mono ?_
        rintro e w1 ⟨rfl, hb1⟩
        have hB1 := hb.trans (hb1.mono hb.size)
        clear hb1
        go_wp2
        go_roundw
        case rel => exact ⟨k + 1, m + 1, by omega, by go_num, by go_num, hm2, hB1⟩
        case measure => simp [intOf]; omega
      · have hm2 : Hid (cntK ls c (k + 1) = m) := Lib.hid (by rw [hst.out, hm.out, if_neg e]; rfl)
        rw [decide_eq_false e] at HI
        clear e hst hm hstep hle hall h0
        go_wp2_with fail
        refine HI.mono ?_
        rintro e w1 ⟨rfl, hb1⟩
        have hB1 := hb.trans (hb1.mono hb.size)
        clear hb1
        go_wp2
        go_roundw
        case rel => exact ⟨k + 1, m, by omega, by go_num, rfl, hm2, hB1⟩
        case measure => simp [intOf]; omega
    · have e : k = ls.length := by omega
      subst e
      have hr := Lib.hid (hall.out.symm.trans hm.out)
      clear hc hstep hle hall h0 hm
      go_wp2
      go_ret
      exact ⟨by rw [hr.out]; rfl, hb⟩
theorem bndU_len : ∀ (ls : List (List Int)) (used : List Int) (m : Nat), (∀ l, l ∈ ls → l.length ≤ m) → (bndU ls used).length ≤ used.length + ls.length * m
  | [], used, m, _ => by unfold bndU; simp
  | r :: ls, used, m, h => by
    have h1 := bndU_len ls used m (fun l hl => h l (List.mem_cons_of_mem _ hl))
    have h2 := bndU_len ls (used ++ r) m (fun l hl => h l (List.mem_cons_of_mem _ hl))
    have h3 := h r (List.mem_cons_self ..)
    unfold bndU
    rw [List.length_append] at h2
    rw [List.length_cons, Nat.succ_mul]
    split <;> omega
theorem bnd_step {ls : List (List Int)} {k : Nat} {r : List Int} (h : ls[k]? = some r) : bndU (ls.take (k + 1)) [] = (if meetB r (bndU (ls.take k) []) = true then bndU (ls.take k) [] else bndU (ls.take k) [] ++ r) ∧
    bndN (ls.take (k + 1)) [] = if meetB r (bndU (ls.take k) []) = true then bndN (ls.take k) [] else bndN (ls.take k) [] + 1 := by
  rw [List.take_add_one, h]
  exact ⟨bnd_snoc _ _ _, bndN_snoc _ _ _⟩
theorem meet_step {r used : List Int} {j : Nat} {x : Int} (h : r[j]? = some x) : meetB (r.take (j + 1)) used = (meetB (r.take j) used || decide (x ∈ used)) := by
  unfold meetB
  rw [List.take_add_one, h, List.any_append]
  simp
set_option maxHeartbeats 8000000 in
set_option maxRecDepth 100000 in
theorem rbound15_any (v : Value) (ls : List (List Int)) (hls : ls.length ≤ 30) (hrs : ∀ l, l ∈ ls → l.length ≤ 30) (w : World) (hz : MatAt w w.heap.size v ls) :
    Calls Try.prog 11 #[v] w fun e w' => e = .returned (.int .i64 (boundL ls : Nat)) ∧ Below w.heap.size w w' := by
  obtain ⟨A, cp, rfl, hl, hc⟩ := hz
  have hstep := Lib.hid (fun k r => bnd_step (ls := ls) (k := k) (r := r))
  have hlenU : Hid (∀ k, (bndU (ls.take k) []).length ≤ 900) := Lib.hid (fun k => by
    have h1 := bndU_len (ls.take k) [] 30 (fun l hl => hrs l (List.mem_of_mem_take hl))
    have h2 : (ls.take k).length ≤ 30 := by rw [List.length_take]; omega
    have h3 : (ls.take k).length * 30 ≤ 30 * 30 := Nat.mul_le_mul_right 30 h2
    simp at h1
    omega)
  have hlenN : Hid (∀ k, bndN (ls.take k) [] ≤ 30) := Lib.hid (fun k => by
    have h1 := bndN_le (ls.take k) []
    have h2 : (ls.take k).length ≤ 30 := by rw [List.length_take]; omega
    omega)
  have h0 : Hid (bndU (ls.take 0) [] = [] ∧ bndN (ls.take 0) [] = 0) := Lib.hid ⟨rfl, rfl⟩
  have hend : Hid (bndN (ls.take ls.length) [] = boundL ls) := Lib.hid (by rw [List.take_length]; rfl)
  go_enter Try.func11, Try.ntmps11
  go_wp2
  go_loopw [3, 4, 5, 6, 7] (fun V a t _ _ wr => ∃ k m : Nat, ∃ U : List Int, k ≤ ls.length ∧ t = .int .i64 k ∧ a = .int .i64 m ∧ Hid (bndN (ls.take k) [] = m) ∧ Hid (bndU (ls.take k) [] = U) ∧ IntsAt wr wr.heap.size V U ∧ Below w.heap.size w wr) (fun _ _ t _ _ _ => ls.length - (intOf t).toNat)
  case atStart => exact ⟨0, 0, [], by omega, rfl, rfl, Lib.hid h0.out.2, Lib.hid h0.out.1, ⟨none, 0, rfl, by decide, fun h => absurd h (by decide)⟩, Below.refl _ _⟩
  case round =>
    obtain ⟨k, m, U, hk, rfl, rfl, hm, hU, hV, hb⟩ := hrel
    by_cases hlt : k < ls.length
    · obtain ⟨b, off, rfl, hB, hcell⟩ := hc (by omega)
      obtain ⟨l, hll⟩ : ∃ l, ls[k]? = some l := ⟨_, List.getElem?_eq_getElem hlt⟩
      obtain ⟨ov, c0, hi⟩ := hcell k l hll
      have hst := Lib.hid (hstep.out k l hll)
      have hUl : U.length ≤ 900 := by rw [← hU.out]; exact hlenU.out k
      have hml : m ≤ 30 := by rw [← hm.out]; exact hlenN.out k
      have hll30 := hrs l (List.mem_of_getElem? hll)
      obtain ⟨AV, cV, rfl, -, -⟩ := id hV
      obtain ⟨A2, c2, rfl, -, hc2⟩ := id hi
      have hiH := hi
      have k0 : (0 : Int) ≤ (k : Int) := by omega
      have k1 : (k : Int) < (ls.length : Int) := by omega
      have hw : Hid (w.heap.size ≤ wr.heap.size) := Lib.hid hb.size
      clear hcell hll hc hi hstep
      go_wp2
      go_loopw [6, 7] (fun a t wj => ∃ (j : Nat) (f : Bool), j ≤ l.length ∧ t = .int .i64 j ∧ a = .bool f ∧ Hid (meetB (l.take j) U = !f) ∧ Below wr.heap.size wr wj) (fun _ t _ => l.length - (intOf t).toNat)
      case atStart => exact ⟨0, true, by omega, rfl, rfl, Lib.hid rfl, Below.refl _ _⟩
      case round =>
        obtain ⟨j, f, hj, rfl, rfl, hH, hb2⟩ := hrel
        have hbw := hb.trans (hb2.mono hw.out)
        have d0 := (hbw.cell (p := ⟨b, off + k, none⟩) hB).trans c0
        have hVj := (hV.below hb2).more hb2.size
        by_cases hjl : j < l.length
        · obtain ⟨b3, off3, rfl, hB3, hc3⟩ := hc2 (by omega)
          obtain ⟨x, hx⟩ : ∃ x, l[j]? = some x := ⟨_, List.getElem?_eq_getElem hjl⟩
          have d1 := (hbw.cell (p := ⟨b3, off3 + j, none⟩) hB3).trans (hc3 j x hx)
          have HI := rin14_any _ U x wr hVj
          have hms := Lib.hid (meet_step (used := U) hx)
          have j0 : (0 : Int) ≤ (j : Int) := by omega
          have j1 : (j : Int) < (l.length : Int) := by omega
          clear hc3 hx hc2 hV hVj hbw
          by_cases e : x ∈ U
          · rw [decide_eq_true e] at HI
            have hH2 : Hid (meetB (l.take (j + 1)) U = !false) := Lib.hid (by rw [hms.out, decide_eq_true e, Bool.or_true]; rfl)
            clear e hms hH
            go_wp2_with fail
            refine HI.mono ?_
            rintro e w1 ⟨rfl, hb1⟩
            have hB1 := hb2.trans (hb1.mono hb2.size)
            clear hb1
            go_wp2
            go_roundw
            case rel => exact ⟨j + 1, false, by omega, by go_num, rfl, hH2, hB1⟩
            case measure => simp [intOf]; omega
          · rw [decide_eq_false e] at HI
            have hH2 : Hid (meetB (l.take (j + 1)) U = !f) := Lib.hid (by rw [hms.out, decide_eq_false e, Bool.or_false, hH.out])
            clear e hms hH
            go_wp2_with fail
            refine HI.mono ?_
            rintro e w1 ⟨rfl, hb1⟩
            have hB1 := hb2.trans (hb1.mono hb2.size)
            clear hb1
            go_wp2
            go_roundw
            case rel => exact ⟨j + 1, f, by omega, by go_num, rfl, hH2, hB1⟩
            case measure => simp [intOf]; omega
        · have e : j = l.length := by omega
          subst e
          rw [List.take_length] at hH
          have hjd : decide (l.length < l.length) = false := by simp
          cases f
          · have hm2 : Hid (bndN (ls.take (k + 1)) [] = m) := Lib.hid (by rw [hst.out.2, hU.out, hH.out, if_pos (by rfl), hm.out])
            have hU2 : Hid (bndU (ls.take (k + 1)) [] = U) := Lib.hid (by rw [hst.out.1, hU.out, hH.out, if_pos (by rfl)])
            clear hst hm hU hH hc2
            go_wp2
            go_roundw
            case rel => exact ⟨k + 1, m, U, by omega, by go_num, rfl, hm2, hU2, hVj, hbw⟩
            case measure => simp [intOf]; omega
          · have hm2 : Hid (bndN (ls.take (k + 1)) [] = m + 1) := Lib.hid (by rw [hst.out.2, hU.out, hH.out, if_neg (by decide), hm.out])
            have hU2 : Hid (bndU (ls.take (k + 1)) [] = U ++ l) := Lib.hid (by rw [hst.out.1, hU.out, hH.out, if_neg (by decide)])
            have hlj := (hiH.below hbw).more hbw.size
            clear hst hm hU hH hc2 hV hiH
            go_upto_region 14 with (fail)
            have q0 := fun X : After wr => After.cell X d0
            refine wp_region_held_drew (S := fun W_ => Below wr.heap.size wr W_) rfl (Below.refl _ wr).drew (fun hHeld => ?_)
            obtain ⟨X0, hX0⟩ : ∃ X0, X0 = wr.drew := ⟨_, rfl⟩
            rw [← hX0] at hHeld ⊢
            clear hX0
            refine wpAnyH_take (i := 1) (oi := _) (v := ?_) rfl (by kernel_rfl) (by kernel_rfl) (by kernel_rfl) (fun _ _ _ h => h) (Or.inl ⟨by rfl, ?_⟩) (by assumption) ?_
            rotate_left 1
            · intro w_ hSw
              go_simp
              try with_reducible rfl
            try simp only [Act.put, List.setIfInBounds_toArray]
            refine wpAnyH_take (i := 3) (oi := _) (v := ?_) rfl (by kernel_rfl) (by kernel_rfl) (by kernel_rfl) (fun _ _ _ h => h) (Or.inl ⟨by rfl, ?_⟩) (by assumption) ?_
            rotate_left 1
            · intro w_ hSw
              go_simp
              try with_reducible rfl
            try simp only [Act.put]
            refine wpAnyH_take (i := 4) (oi := _) (v := ?_) rfl (by kernel_rfl) (by kernel_rfl) (by kernel_rfl) (fun _ _ _ h => h) (Or.inl ⟨by rfl, ?_⟩) (by assumption) ?_
            rotate_left 1
            · intro w_ hSw
              go_simp
              try with_reducible rfl
            try simp only [Act.put]
            refine wpAnyH_take (i := 5) (oi := _) (v := ?_) rfl (by kernel_rfl) (by kernel_rfl) (by kernel_rfl) (fun _ _ _ h => h) (Or.inl ⟨by rfl, ?_⟩) (by assumption) ?_
            rotate_left 1
            · intro w_ hSw
              go_simp
              try with_reducible rfl
            try simp only [Act.put]
            refine wpAnyH_take (i := 6) (oi := _) (v := ?_) rfl (by kernel_rfl) (by kernel_rfl) (by kernel_rfl) (fun _ _ _ h => h) (Or.inl ⟨by rfl, ?_⟩) (by assumption) ?_
            rotate_left 1
            · intro w_ hSw
              have q_n0 := q0 ⟨w_, hSw⟩
              dsimp only at q_n0
              go_simp
              try with_reducible rfl
            try simp only [Act.put]
            refine wpAnyH_ready (rs := [0]) (by kernel_rfl) (by simp) ?_
            refine AllReadyH.cons (o := _) rfl (fun _ hK => ?_) AllReadyH.nil
            go_simp
            have ho := own_nil13 X0
            have hal := hHeld.alloc hHeld.size (.cells #[] 3 (0, 0))
            have lbz := hHeld.size
            have hsz := Lib.hid (alloc_size13 X0 (.cells #[] 3 (0, 0)))
            generalize X0.heap.size = b0 at *
            generalize X0.alloc (.cells #[] 3 (0, 0)) = X1 at *
            have lsz : b0 ≤ X1.heap.size := by rw [hsz.out]; omega
            refine hK.out _ _ hal (fun hHeld => ?_)
            clear hal
            clear hK
            try simp only [Act.put, List.setIfInBounds_toArray, List.set_cons_zero, List.set_cons_succ]
            refine wpAnyH_ready (rs := [2]) (by kernel_rfl) (by simp) ?_
            refine AllReadyH.cons (o := _) rfl (fun _ hK => ?_) AllReadyH.nil
            obtain ⟨v1, X2, e1, o1, b1, g1⟩ := append13g 30 ho lsz ((hVj.below hHeld).more hHeld.size) (by decide) (by omega)
            have hS := hHeld.trans (b1.mono lbz)
            replace lsz := Nat.le_trans lsz b1.size
            rw [List.nil_append] at o1
            refine step_run13 rfl _ _ rfl _ _ v1 X2 rfl rfl e1 ?_
            refine hK.out _ _ hS (fun hHeld => ?_)
            clear hS e1 b1 g1 ho
            clear hK
            try simp only [Act.put, List.setIfInBounds_toArray]
            have ho := o1
            clear o1
            refine wpAnyH_ready (rs := [7]) (by kernel_rfl) (by simp) ?_
            refine AllReadyH.cons (o := _) rfl (fun _ hK => ?_) AllReadyH.nil
            obtain ⟨v2, X4, e2, o2, b2, -⟩ := append13g 30 ho lsz ((hlj.below hHeld).more hHeld.size) (by omega) (by omega)
            have hS := hHeld.trans (b2.mono lbz)
            have hz12 := own_intI o2
            refine step_run13 rfl _ _ rfl _ _ v2 X4 rfl rfl e2 ?_
            refine hK.out _ _ hS (fun hHeld => ?_)
            clear hS e2 b2 ho o2
            clear hK
            try simp only [Act.put]
            refine wpAnyH_ready (rs := [8]) (by kernel_rfl) (by simp) ?_
            refine AllReadyH.cons (o := _) rfl (fun _ hK => ?_) AllReadyH.nil
            go_simp
            refine hK.out _ _ hHeld (fun hHeld => ?_)
            clear hK
            try simp only [Act.put, List.setIfInBounds_toArray, List.set_cons_zero, List.set_cons_succ]
            refine wpAnyH_done (by kernel_rfl) ?_ _
            have hbc := hbw.trans (hHeld.mono hbw.size)
            clear hVj hlj hbw hb2 hb d0 c0 q0 hHeld
            obtain ⟨A5, c5, rfl, -, -⟩ := id hz12
            go_wp2
            go_roundw
            case rel => exact ⟨k + 1, m + 1, U ++ l, by omega, by go_num, by go_num, hm2, hU2, hz12, hbc⟩
            case measure => simp [intOf]; omega
    · have e : k = ls.length := by omega
      subst e
      have hr := Lib.hid (hend.out.symm.trans hm.out)
      clear hc hstep hlenU hlenN h0 hend hm hU hV
      go_wp2
      go_ret
      exact ⟨by rw [hr.out]; rfl, hb⟩
end Go.Proofs.Ytcbhcclickjpnaa
