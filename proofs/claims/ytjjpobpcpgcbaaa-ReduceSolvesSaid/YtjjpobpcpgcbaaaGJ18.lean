/- The document's own Rows of layer 14. -/
import Derived.Test.YtjjpobpcpgcbaaaGJ17
namespace Go.Proofs.Ytjjpobpcpgcbaaa
open Go.RowKit Go.Joins

theorem wpList_append14 {ops : Array Oper} {rest : List Oper} {o : Oper} {a : Act} {Q : Exit → Act → World → Prop} {w : World}
    (hg : o.guard = none) (s x : Operand) (hop : o.op = .call { callee := .builtin .append, args := #[s, x], argTypes := #[22, 22] }) (V v v' : Value) (w' : World) (hs : a.eval s = V) (hx : a.eval x = v)
    (hrun : (Builtin.append_ #[22, 22] o.type #[V, v]).run Try.prog w = .ok v' w') (hK : wpList Try.prog ops Q rest (a.put o.dst v') w') : wpList Try.prog ops Q (o :: rest) a w := by
  refine wpList_plain hg fun K' hK' => ?_
  unfold Oper.wp execOp
  simp [hop, resolve, invoke, builtin, hs, hx, hrun, Result.andThen]
  exact hK' _ _ hK
theorem own_nil14 (w : World) : (w.alloc (.cells #[] 38 (0, 0))).ownsRow w.heap.size 38 1 (.slice (some ⟨w.heap.size, 0, none⟩) 0 0) ([] : List (List Int)).length [] := World.ownsRow_made w #[] 0 (Nat.le_refl _) (Nat.zero_le _) rfl
def gokR (ls : List (List Int)) (i k : Nat) : Bool := (subR (ls.getD k []) (ls.getD i []) && !subR (ls.getD i []) (ls.getD k [])) || (decide (k < i) && subR (ls.getD k []) (ls.getD i []) && subR (ls.getD i []) (ls.getD k []))
theorem row_gok (ls : List (List Int)) (i : Nat) : rowGo ls i = (List.range ls.length).any (gokR ls i) := rfl
theorem gok_eq {ls : List (List Int)} {i k : Nat} {li lk : List Int} (hi : ls[i]? = some li) (hk : ls[k]? = some lk) : gokR ls i k = ((subR lk li && !subR li lk) || (decide (k < i) && subR lk li && subR li lk)) := by
  unfold gokR
  rw [show ls.getD k [] = lk by rw [List.getD_eq_getElem?_getD, hk]; rfl, show ls.getD i [] = li by rw [List.getD_eq_getElem?_getD, hi]; rfl]
def rwL (ls : List (List Int)) : List (List Int) := match rwI ls with
  | none => ls
  | some i => ls.eraseIdx i
theorem rw_none {ls : List (List Int)} (h : ∀ d, d < ls.length → rowGo ls d = false) : rwI ls = none := by
  unfold rwI
  refine find_no _ _ fun j y hj => ?_
  obtain ⟨h1, h2⟩ := List.getElem?_eq_some_iff.1 hj
  rw [List.getElem_range] at h2
  subst h2
  exact h _ (by simpa using h1)
theorem rw_some {ls : List (List Int)} {c : Nat} (hc : c < ls.length) (hy : rowGo ls c = true) (h : ∀ d, d < c → rowGo ls d = false) : rwI ls = some c := by
  unfold rwI
  refine find_at _ _ c c (by rw [List.getElem?_range hc]) hy fun j y hj hr => ?_
  obtain ⟨h1, h2⟩ := List.getElem?_eq_some_iff.1 hr
  rw [List.getElem_range] at h2
  subst h2
  exact h _ hj
set_option maxHeartbeats 8000000 in
set_option maxRecDepth 100000 in
theorem rrows14_any (v : Value) (ls : List (List Int)) (hls : ls.length ≤ 1000) (hcap : CapOk v) (w : World) (hz : MatAt w w.heap.size v ls) :
    Calls Try.prog 15 #[v] w fun e w' => ∃ u, e = .returned (.tuple #[u, .bool (rwI ls).isSome]) ∧ MatAt w' w'.heap.size u (rwL ls) ∧ CapOk u ∧ Below w.heap.size w w' := by
  have HA := fun (u1 u2 : Value) (a b : List Int) W h1 h2 => rall14_any u1 u2 a b W h1 h2
  have hmat := Lib.hid hz
  have hcapH := Lib.hid hcap
  obtain ⟨A, cp, rfl, hl, hc⟩ := hz
  have hcp := hcap _ _ _ rfl
  clear hcap
  have hN : Hid ((∀ d, d < ls.length → rowGo ls d = false) → (rwI ls).isSome = false ∧ rwL ls = ls) := Lib.hid (fun h => by
    have e := rw_none h
    unfold rwL
    rw [e]
    exact ⟨rfl, rfl⟩)
  have hS : Hid (∀ c, c < ls.length → rowGo ls c = true → (∀ d, d < c → rowGo ls d = false) → (rwI ls).isSome = true ∧ rwL ls = ls.eraseIdx c) := Lib.hid (fun c h1 h2 h3 => by
    have e := rw_some h1 h2 h3
    unfold rwL
    rw [e]
    exact ⟨rfl, rfl⟩)
  generalize (rwI ls).isSome = RB at *
  generalize rwL ls = RL at *
  go_enter Try.func15, Try.ntmps15
  go_wp2
  go_loopw [4, 5, 6, 7, 8] (fun t _ _ _ _ wr => ∃ i : Nat, i ≤ ls.length ∧ t = .int .i64 i ∧ Hid (∀ d, d < i → rowGo ls d = false) ∧ Below w.heap.size w wr) (fun t _ _ _ _ _ => ls.length - (intOf t).toNat)
  case atStart => exact ⟨0, by omega, rfl, Lib.hid (fun d h => absurd h (Nat.not_lt_zero _)), Below.refl _ _⟩
  case round =>
    rename World => wo
    obtain ⟨i, hi, rfl, hH, hbo⟩ := hrel
    by_cases hlt : i < ls.length
    · have hkd : decide ((i : Int) < (ls.length : Int)) = true := decide_eq_true (by omega)
      obtain ⟨b, off, rfl, hB, hcell⟩ := hc (by omega)
      obtain ⟨li, hli⟩ : ∃ l, ls[i]? = some l := ⟨_, List.getElem?_eq_getElem hlt⟩
      obtain ⟨ovi, zi, hovi⟩ := hcell i li hli
      have hliH := Lib.hid hli
      have hcH := Lib.hid hcell
      have ii0 : (0 : Int) ≤ (i : Int) := by omega
      have ii1 : (i : Int) < (ls.length : Int) := by omega
      clear hcell hli hc
      go_wp2
      go_loopw [5, 6, 7, 8] (fun t _ _ _ wr => ∃ k : Nat, k ≤ ls.length ∧ t = .int .i64 k ∧ Hid (∀ d, d < k → gokR ls i d = false) ∧ Below w.heap.size w wr) (fun t _ _ _ _ => ls.length - (intOf t).toNat)
      case atStart => exact ⟨0, by omega, rfl, Lib.hid (fun d h => absurd h (Nat.not_lt_zero _)), hbo⟩
      case round =>
        clear hbo
        obtain ⟨k, hk, rfl, hG, hb⟩ := hrel
        by_cases hkl : k < ls.length
        · have hkd2 : decide ((k : Int) < (ls.length : Int)) = true := decide_eq_true (by omega)
          obtain ⟨lk, hlk⟩ : ∃ l, ls[k]? = some l := ⟨_, List.getElem?_eq_getElem hkl⟩
          obtain ⟨ovk, zk, hovk⟩ := hcH.out k lk hlk
          have hgk := Lib.hid (gok_eq hliH.out hlk)
          have hbs := hb.size
          have fk := fun X : After wr => After.cell X ((hb.cell (p := ⟨b, off + k, none⟩) hB).trans zk)
          have fi := fun X : After wr => After.cell X ((hb.cell (p := ⟨b, off + i, none⟩) hB).trans zi)
          have HA1 := fun W (h : Below w.heap.size w W) => HA ovk ovi lk li W ((hovk.below h).more h.size) ((hovi.below h).more h.size)
          have HA2 := fun W (h : Below w.heap.size w W) => HA ovi ovk li lk W ((hovi.below h).more h.size) ((hovk.below h).more h.size)
          have D1 := fun X : After wr => HA1 X.1 (hb.trans (X.2.mono hbs))
          have D2 := fun X : After wr => HA2 X.1 (hb.trans (X.2.mono hbs))
          obtain ⟨Ak, ck, rfl, -, -⟩ := id hovk
          obtain ⟨Ai, ci, rfl, -, -⟩ := id hovi
          have kk0 : (0 : Int) ≤ (k : Int) := by omega
          have kk1 : (k : Int) < (ls.length : Int) := by omega
          have hno : Hid (gokR ls i k = false → ∀ d, d < k + 1 → gokR ls i d = false) := Lib.hid (fun h d hd => by
            by_cases e : d = k
            · rw [e]; exact h
            · exact hG.out d (by omega))
          have hyes : Hid (gokR ls i k = true → RB = true ∧ RL = ls.eraseIdx i) := Lib.hid (fun h => hS.out i hlt (by rw [row_gok]; exact List.any_eq_true.2 ⟨k, List.mem_range.2 hkl, h⟩) hH.out)
          clear hlk hG HA hN hS hH
          go_upto_region 7 with (fail)
          cases h1 : subR lk li
          · rw [h1] at D1 HA1
            refine wp_region_after (by kernel_rfl) (by kernel_rfl) ?_
            repeat (go_big_quiet_step (fail))
            go_big_quiet_step ((go_at_call 31; exact Calls.after_of (D1 _)))
            repeat (go_big_quiet_step (fail))
            refine wpQuiet_nil ?_
            intro z
            have hb3 := hb.trans (z.2.mono hbs)
            generalize z.1 = w3 at *
            clear z fk fi D1 D2
            have hbs3 := hb3.size
            have fk := fun X : After w3 => After.cell X ((hb3.cell (p := ⟨b, off + k, none⟩) hB).trans zk)
            have fi := fun X : After w3 => After.cell X ((hb3.cell (p := ⟨b, off + i, none⟩) hB).trans zi)
            have D1 := fun X : After w3 => HA1 X.1 (hb3.trans (X.2.mono hbs3))
            have D2 := fun X : After w3 => HA2 X.1 (hb3.trans (X.2.mono hbs3))
            by_cases hlt2 : k < i
            · have hki : decide ((k : Int) < (i : Int)) = true := decide_eq_true (by omega)
              clear HA1 HA2
              go_upto_region 8 with (fail)
              refine wp_region_after (by kernel_rfl) (by kernel_rfl) ?_
              repeat (go_big_quiet_step (fail))
              go_big_quiet_step ((go_at_call 31; exact Calls.after_of (D1 _)))
              repeat (go_big_quiet_step (fail))
              refine wpQuiet_nil ?_
              intro z
              have hb4 := hb3.trans (z.2.mono hbs3)
              generalize z.1 = w4 at *
              clear z fk fi D1 D2 hovk hovi zk zi hbs3 hb3 hb hbs
              have hf := Lib.hid (hno.out (by rw [hgk.out, h1, Bool.false_and, Bool.and_false, Bool.false_and]; rfl))
              clear hyes hno hgk hcH h1
              go_wp2
              go_roundw
              case rel => exact ⟨k + 1, by omega, by go_num, hf, hb4⟩
              case measure => simp [intOf]; omega
            · have hki : decide ((k : Int) < (i : Int)) = false := decide_eq_false (by omega)
              clear HA1 HA2
              go_upto_region 8 with (fail)
              refine wp_region_after (by kernel_rfl) (by kernel_rfl) ?_
              repeat (go_big_quiet_step (fail))
              refine wpQuiet_nil ?_
              intro z
              have hb4 := hb3.trans (z.2.mono hbs3)
              generalize z.1 = w4 at *
              clear z fk fi D1 D2 hovk hovi zk zi hbs3 hb3 hb hbs
              have hf := Lib.hid (hno.out (by rw [hgk.out, h1, Bool.false_and, Bool.and_false, Bool.false_and]; rfl))
              clear hyes hno hgk hcH h1
              go_wp2
              go_roundw
              case rel => exact ⟨k + 1, by omega, by go_num, hf, hb4⟩
              case measure => simp [intOf]; omega
          · cases h2 : subR li lk
            · rw [h1] at D1 HA1
              rw [h2] at D2 HA2
              refine wp_region_after (by kernel_rfl) (by kernel_rfl) ?_
              repeat (go_big_quiet_step (fail))
              go_big_quiet_step ((go_at_call 31; exact Calls.after_of (D1 _)))
              repeat (go_big_quiet_step (fail))
              go_big_quiet_step ((go_at_call 31; exact Calls.after_of (D2 _)))
              repeat (go_big_quiet_step (fail))
              refine wpQuiet_nil ?_
              intro z
              have hb3 := hb.trans (z.2.mono hbs)
              generalize z.1 = w3 at *
              clear z fk fi D1 D2
              have hbs3 := hb3.size
              have fk := fun X : After w3 => After.cell X ((hb3.cell (p := ⟨b, off + k, none⟩) hB).trans zk)
              have fi := fun X : After w3 => After.cell X ((hb3.cell (p := ⟨b, off + i, none⟩) hB).trans zi)
              have D1 := fun X : After w3 => HA1 X.1 (hb3.trans (X.2.mono hbs3))
              have D2 := fun X : After w3 => HA2 X.1 (hb3.trans (X.2.mono hbs3))
              by_cases hlt2 : k < i
              · have hki : decide ((k : Int) < (i : Int)) = true := decide_eq_true (by omega)
                clear HA1 HA2
                go_upto_region 8 with (fail)
                refine wp_region_after (by kernel_rfl) (by kernel_rfl) ?_
                repeat (go_big_quiet_step (fail))
                go_big_quiet_step ((go_at_call 31; exact Calls.after_of (D1 _)))
                repeat (go_big_quiet_step (fail))
                go_big_quiet_step ((go_at_call 31; exact Calls.after_of (D2 _)))
                repeat (go_big_quiet_step (fail))
                refine wpQuiet_nil ?_
                intro z
                have hb4 := hb3.trans (z.2.mono hbs3)
                generalize z.1 = w4 at *
                clear z fk fi D1 D2 hovk hovi zk zi hbs3 hb3 hb hbs
                have hres := Lib.hid (hyes.out (by rw [hgk.out, h1, h2]; rfl))
                clear hyes hno hgk hcH h1 h2
                have hM4 := hmat.out.below hb4
                have hsz4 := hb4.size
                have hB5 := below_alloc1 w4 (.cells #[] 38 (0, 0))
                obtain ⟨v1, w6, vs1, e1, o1, l1, in1, b1⟩ := appendM 22 (own_nil14 w4) rfl (RowsIn.nil _ _) (by simp) (((hM4.head14 i (by omega)).below (hB5.mono hsz4)).more hsz4) (by decide) (by rw [List.length_take]; omega)
                rw [List.nil_append] at o1 l1 in1
                have hB6 := hB5.trans b1
                have hM6 := hM4.below (hB6.mono hsz4)
                have ic0 : (i : Int) ≤ (cp : Int) := by omega
                have ic1 : (i : Int) + 1 ≤ (ls.length : Int) := by omega
                have ic2 : (ls.length : Int) ≤ (cp : Int) := by omega
                have htl : (ls.take i).length ≤ 1000 := by rw [List.length_take]; omega
                have hdl : (ls.drop (i + 1)).length ≤ 1000 := by rw [List.length_drop]; omega
                have her : Hid (ls.take i ++ ls.drop (i + 1) = ls.eraseIdx i) := Lib.hid (List.eraseIdx_eq_take_drop_succ ls i).symm
                clear hM4 hB5 b1
                by_cases hce : cp = i + 1
                · subst hce
                  have hnil : ls.drop (i + 1) = [] := List.drop_eq_nil_of_le (by omega)
                  have hMe : MatAt w6 w4.heap.size (.slice (some ⟨b, off, none⟩) 0 0) [] := ⟨_, 0, rfl, by decide, fun h => absurd h (by simp)⟩
                  obtain ⟨v2, w7, vs2, e2, o2, l2, in2, b2⟩ := appendM 22 o1 l1 in1 hB6.size hMe (Nat.le_trans htl (by decide)) (by decide)
                  have hB7 := hB6.trans b2
                  have hBr := hb4.trans (hB7.mono hsz4)
                  have hM7 := in2.mat o2
                  have hC7 := own_cap14 o2
                  rw [← hnil, her.out, ← hres.out.2] at hM7
                  clear o1 l1 in1 o2 l2 in2 b2 hM6 hB6 hB7 hnil hMe
                  go_wp2_with (at_builtin; first | refine wpList_append14 rfl _ _ rfl (.slice (some ⟨w4.heap.size, 0, none⟩) 0 0) (.slice (some ⟨b, off, none⟩) i (i + 1)) v1 w6 rfl rfl e1 ?_ | refine wpList_append14 rfl _ _ rfl v1 (.slice (some ⟨b, off, none⟩) 0 0) v2 w7 rfl rfl e2 ?_)
                  go_ret2
                  exact ⟨_, by rw [hres.out.1]; rfl, hM7, hC7, hBr⟩
                · have hck : ¬ cp = i + 1 := hce
                  obtain ⟨v2, w7, vs2, e2, o2, l2, in2, b2⟩ := appendM 22 o1 l1 in1 hB6.size (((hM6.rest14 (i + 1) (ls.length - (i + 1)) (cp - (i + 1)) rfl).more hsz4)) (Nat.le_trans htl (by decide)) (Nat.le_trans hdl (by decide))
                  have hB7 := hB6.trans b2
                  have hBr := hb4.trans (hB7.mono hsz4)
                  have hM7 := in2.mat o2
                  have hC7 := own_cap14 o2
                  rw [her.out, ← hres.out.2] at hM7
                  clear o1 l1 in1 o2 l2 in2 b2 hM6 hB6 hB7
                  go_wp2_with (at_builtin; first | refine wpList_append14 rfl _ _ rfl (.slice (some ⟨w4.heap.size, 0, none⟩) 0 0) (.slice (some ⟨b, off, none⟩) i cp) v1 w6 rfl rfl e1 ?_ | refine wpList_append14 rfl _ _ rfl v1 (.slice (some ⟨b, off + (i + 1), none⟩) (ls.length - (i + 1)) (cp - (i + 1))) v2 w7 rfl rfl e2 ?_)
                  go_ret2
                  exact ⟨_, by rw [hres.out.1]; rfl, hM7, hC7, hBr⟩
              · have hki : decide ((k : Int) < (i : Int)) = false := decide_eq_false (by omega)
                clear HA1 HA2
                go_upto_region 8 with (fail)
                refine wp_region_after (by kernel_rfl) (by kernel_rfl) ?_
                repeat (go_big_quiet_step (fail))
                refine wpQuiet_nil ?_
                intro z
                have hb4 := hb3.trans (z.2.mono hbs3)
                generalize z.1 = w4 at *
                clear z fk fi D1 D2 hovk hovi zk zi hbs3 hb3 hb hbs
                have hres := Lib.hid (hyes.out (by rw [hgk.out, h1, h2]; rfl))
                clear hyes hno hgk hcH h1 h2
                have hM4 := hmat.out.below hb4
                have hsz4 := hb4.size
                have hB5 := below_alloc1 w4 (.cells #[] 38 (0, 0))
                obtain ⟨v1, w6, vs1, e1, o1, l1, in1, b1⟩ := appendM 22 (own_nil14 w4) rfl (RowsIn.nil _ _) (by simp) (((hM4.head14 i (by omega)).below (hB5.mono hsz4)).more hsz4) (by decide) (by rw [List.length_take]; omega)
                rw [List.nil_append] at o1 l1 in1
                have hB6 := hB5.trans b1
                have hM6 := hM4.below (hB6.mono hsz4)
                have ic0 : (i : Int) ≤ (cp : Int) := by omega
                have ic1 : (i : Int) + 1 ≤ (ls.length : Int) := by omega
                have ic2 : (ls.length : Int) ≤ (cp : Int) := by omega
                have htl : (ls.take i).length ≤ 1000 := by rw [List.length_take]; omega
                have hdl : (ls.drop (i + 1)).length ≤ 1000 := by rw [List.length_drop]; omega
                have her : Hid (ls.take i ++ ls.drop (i + 1) = ls.eraseIdx i) := Lib.hid (List.eraseIdx_eq_take_drop_succ ls i).symm
                clear hM4 hB5 b1
                by_cases hce : cp = i + 1
                · subst hce
                  have hnil : ls.drop (i + 1) = [] := List.drop_eq_nil_of_le (by omega)
                  have hMe : MatAt w6 w4.heap.size (.slice (some ⟨b, off, none⟩) 0 0) [] := ⟨_, 0, rfl, by decide, fun h => absurd h (by simp)⟩
                  obtain ⟨v2, w7, vs2, e2, o2, l2, in2, b2⟩ := appendM 22 o1 l1 in1 hB6.size hMe (Nat.le_trans htl (by decide)) (by decide)
                  have hB7 := hB6.trans b2
                  have hBr := hb4.trans (hB7.mono hsz4)
                  have hM7 := in2.mat o2
                  have hC7 := own_cap14 o2
                  rw [← hnil, her.out, ← hres.out.2] at hM7
                  clear o1 l1 in1 o2 l2 in2 b2 hM6 hB6 hB7 hnil hMe
                  go_wp2_with (at_builtin; first | refine wpList_append14 rfl _ _ rfl (.slice (some ⟨w4.heap.size, 0, none⟩) 0 0) (.slice (some ⟨b, off, none⟩) i (i + 1)) v1 w6 rfl rfl e1 ?_ | refine wpList_append14 rfl _ _ rfl v1 (.slice (some ⟨b, off, none⟩) 0 0) v2 w7 rfl rfl e2 ?_)
                  go_ret2
                  exact ⟨_, by rw [hres.out.1]; rfl, hM7, hC7, hBr⟩
                · have hck : ¬ cp = i + 1 := hce
                  obtain ⟨v2, w7, vs2, e2, o2, l2, in2, b2⟩ := appendM 22 o1 l1 in1 hB6.size (((hM6.rest14 (i + 1) (ls.length - (i + 1)) (cp - (i + 1)) rfl).more hsz4)) (Nat.le_trans htl (by decide)) (Nat.le_trans hdl (by decide))
                  have hB7 := hB6.trans b2
                  have hBr := hb4.trans (hB7.mono hsz4)
                  have hM7 := in2.mat o2
                  have hC7 := own_cap14 o2
                  rw [her.out, ← hres.out.2] at hM7
                  clear o1 l1 in1 o2 l2 in2 b2 hM6 hB6 hB7
                  go_wp2_with (at_builtin; first | refine wpList_append14 rfl _ _ rfl (.slice (some ⟨w4.heap.size, 0, none⟩) 0 0) (.slice (some ⟨b, off, none⟩) i cp) v1 w6 rfl rfl e1 ?_ | refine wpList_append14 rfl _ _ rfl v1 (.slice (some ⟨b, off + (i + 1), none⟩) (ls.length - (i + 1)) (cp - (i + 1))) v2 w7 rfl rfl e2 ?_)
                  go_ret2
                  exact ⟨_, by rw [hres.out.1]; rfl, hM7, hC7, hBr⟩
            · rw [h1] at D1 HA1
              rw [h2] at D2 HA2
              refine wp_region_after (by kernel_rfl) (by kernel_rfl) ?_
              repeat (go_big_quiet_step (fail))
              go_big_quiet_step ((go_at_call 31; exact Calls.after_of (D1 _)))
              repeat (go_big_quiet_step (fail))
              go_big_quiet_step ((go_at_call 31; exact Calls.after_of (D2 _)))
              repeat (go_big_quiet_step (fail))
              refine wpQuiet_nil ?_
              intro z
              have hb3 := hb.trans (z.2.mono hbs)
              generalize z.1 = w3 at *
              clear z fk fi D1 D2
              have hbs3 := hb3.size
              have fk := fun X : After w3 => After.cell X ((hb3.cell (p := ⟨b, off + k, none⟩) hB).trans zk)
              have fi := fun X : After w3 => After.cell X ((hb3.cell (p := ⟨b, off + i, none⟩) hB).trans zi)
              have D1 := fun X : After w3 => HA1 X.1 (hb3.trans (X.2.mono hbs3))
              have D2 := fun X : After w3 => HA2 X.1 (hb3.trans (X.2.mono hbs3))
              by_cases hlt2 : k < i
              · have hki : decide ((k : Int) < (i : Int)) = true := decide_eq_true (by omega)
                clear HA1 HA2
                go_upto_region 8 with (fail)
                refine wp_region_after (by kernel_rfl) (by kernel_rfl) ?_
                repeat (go_big_quiet_step (fail))
                go_big_quiet_step ((go_at_call 31; exact Calls.after_of (D1 _)))
                repeat (go_big_quiet_step (fail))
                go_big_quiet_step ((go_at_call 31; exact Calls.after_of (D2 _)))
                repeat (go_big_quiet_step (fail))
                refine wpQuiet_nil ?_
                intro z
                have hb4 := hb3.trans (z.2.mono hbs3)
                generalize z.1 = w4 at *
                clear z fk fi D1 D2 hovk hovi zk zi hbs3 hb3 hb hbs
                have hres := Lib.hid (hyes.out (by rw [hgk.out, h1, h2, decide_eq_true (show k < i by omega)]; rfl))
                clear hyes hno hgk hcH h1 h2
                have hM4 := hmat.out.below hb4
                have hsz4 := hb4.size
                have hB5 := below_alloc1 w4 (.cells #[] 38 (0, 0))
                obtain ⟨v1, w6, vs1, e1, o1, l1, in1, b1⟩ := appendM 22 (own_nil14 w4) rfl (RowsIn.nil _ _) (by simp) (((hM4.head14 i (by omega)).below (hB5.mono hsz4)).more hsz4) (by decide) (by rw [List.length_take]; omega)
                rw [List.nil_append] at o1 l1 in1
                have hB6 := hB5.trans b1
                have hM6 := hM4.below (hB6.mono hsz4)
                have ic0 : (i : Int) ≤ (cp : Int) := by omega
                have ic1 : (i : Int) + 1 ≤ (ls.length : Int) := by omega
                have ic2 : (ls.length : Int) ≤ (cp : Int) := by omega
                have htl : (ls.take i).length ≤ 1000 := by rw [List.length_take]; omega
                have hdl : (ls.drop (i + 1)).length ≤ 1000 := by rw [List.length_drop]; omega
                have her : Hid (ls.take i ++ ls.drop (i + 1) = ls.eraseIdx i) := Lib.hid (List.eraseIdx_eq_take_drop_succ ls i).symm
                clear hM4 hB5 b1
                by_cases hce : cp = i + 1
                · subst hce
                  have hnil : ls.drop (i + 1) = [] := List.drop_eq_nil_of_le (by omega)
                  have hMe : MatAt w6 w4.heap.size (.slice (some ⟨b, off, none⟩) 0 0) [] := ⟨_, 0, rfl, by decide, fun h => absurd h (by simp)⟩
                  obtain ⟨v2, w7, vs2, e2, o2, l2, in2, b2⟩ := appendM 22 o1 l1 in1 hB6.size hMe (Nat.le_trans htl (by decide)) (by decide)
                  have hB7 := hB6.trans b2
                  have hBr := hb4.trans (hB7.mono hsz4)
                  have hM7 := in2.mat o2
                  have hC7 := own_cap14 o2
                  rw [← hnil, her.out, ← hres.out.2] at hM7
                  clear o1 l1 in1 o2 l2 in2 b2 hM6 hB6 hB7 hnil hMe
                  go_wp2_with (at_builtin; first | refine wpList_append14 rfl _ _ rfl (.slice (some ⟨w4.heap.size, 0, none⟩) 0 0) (.slice (some ⟨b, off, none⟩) i (i + 1)) v1 w6 rfl rfl e1 ?_ | refine wpList_append14 rfl _ _ rfl v1 (.slice (some ⟨b, off, none⟩) 0 0) v2 w7 rfl rfl e2 ?_)
                  go_ret2
                  exact ⟨_, by rw [hres.out.1]; rfl, hM7, hC7, hBr⟩
                · have hck : ¬ cp = i + 1 := hce
                  obtain ⟨v2, w7, vs2, e2, o2, l2, in2, b2⟩ := appendM 22 o1 l1 in1 hB6.size (((hM6.rest14 (i + 1) (ls.length - (i + 1)) (cp - (i + 1)) rfl).more hsz4)) (Nat.le_trans htl (by decide)) (Nat.le_trans hdl (by decide))
                  have hB7 := hB6.trans b2
                  have hBr := hb4.trans (hB7.mono hsz4)
                  have hM7 := in2.mat o2
                  have hC7 := own_cap14 o2
                  rw [her.out, ← hres.out.2] at hM7
                  clear o1 l1 in1 o2 l2 in2 b2 hM6 hB6 hB7
                  go_wp2_with (at_builtin; first | refine wpList_append14 rfl _ _ rfl (.slice (some ⟨w4.heap.size, 0, none⟩) 0 0) (.slice (some ⟨b, off, none⟩) i cp) v1 w6 rfl rfl e1 ?_ | refine wpList_append14 rfl _ _ rfl v1 (.slice (some ⟨b, off + (i + 1), none⟩) (ls.length - (i + 1)) (cp - (i + 1))) v2 w7 rfl rfl e2 ?_)
                  go_ret2
                  exact ⟨_, by rw [hres.out.1]; rfl, hM7, hC7, hBr⟩
              · have hki : decide ((k : Int) < (i : Int)) = false := decide_eq_false (by omega)
                clear HA1 HA2
                go_upto_region 8 with (fail)
                refine wp_region_after (by kernel_rfl) (by kernel_rfl) ?_
                repeat (go_big_quiet_step (fail))
                refine wpQuiet_nil ?_
                intro z
                have hb4 := hb3.trans (z.2.mono hbs3)
                generalize z.1 = w4 at *
                clear z fk fi D1 D2 hovk hovi zk zi hbs3 hb3 hb hbs
                have hf := Lib.hid (hno.out (by rw [hgk.out, h1, h2, decide_eq_false (show ¬ k < i by omega)]; rfl))
                clear hyes hno hgk hcH h1
                clear h2
                go_wp2
                go_roundw
                case rel => exact ⟨k + 1, by omega, by go_num, hf, hb4⟩
                case measure => simp [intOf]; omega
        · have e : k = ls.length := by omega
          have hkd2 : decide ((k : Int) < (ls.length : Int)) = false := decide_eq_false (by omega)
          have hH2 : Hid (∀ d, d < i + 1 → rowGo ls d = false) := Lib.hid (fun d hd => by
            by_cases e2 : d = i
            · rw [e2, row_gok]
              exact List.any_eq_false.2 fun q hq => by rw [hG.out q (by have := List.mem_range.1 hq; omega)]; decide
            · exact hH.out d (by omega))
          clear hG HA hN hS hH hcH e
          go_wp2
          go_roundw
          case rel => exact ⟨i + 1, by omega, by go_num, hH2, hb⟩
          case measure => simp [intOf]; omega
    · have e : i = ls.length := by omega
      have hkd : decide ((i : Int) < (ls.length : Int)) = false := decide_eq_false (by omega)
      have hres := Lib.hid (hN.out fun d hd => hH.out d (by omega))
      clear HA hN hS hH hc e
      go_wp2
      go_ret2
      exact ⟨_, by rw [hres.out.1]; rfl, by rw [hres.out.2]; exact (hmat.out.below hbo).more hbo.size, hcapH.out, hbo⟩
end Go.Proofs.Ytjjpobpcpgcbaaa
