/- ZddJoins. -/
import Derived.Test.YtkkdfpmjmommcaaZd08
namespace Go.Proofs.Ytkkdfpmjmommcaa
open Go.RowKit Go.Joins

set_option maxHeartbeats 1000000 in
theorem joins8_great (w : World) (v u : Value) (zs ys : List Int) (hz : IntsAt w w.heap.size v zs) (hy : IntsAt w w.heap.size u ys) (hg : 6 < zs.length ∨ 6 < ys.length) :
    Calls Try.prog 6 #[v, u] w fun e w' => e = .returned (.bool true) ∧ Below w.heap.size w w' := by
  have HK := fun w => knows8_any w
  obtain ⟨A, c, rfl, -, -⟩ := hz
  obtain ⟨A2, c2, rfl, -, -⟩ := hy
  by_cases h1 : 6 < zs.length
  · clear hg
    go_enter Try.func6, Try.ntmps6
    go_wp2_with fail
    refine (HK _).mono ?_
    rintro e w2 ⟨rfl, hb2⟩
    clear HK
    go_wp2
    go_ret
    exact ⟨rfl, hb2⟩
  · have h2 : 6 < ys.length := by omega
    clear hg
    go_enter Try.func6, Try.ntmps6
    go_wp2_with fail
    refine (HK _).mono ?_
    rintro e w2 ⟨rfl, hb2⟩
    clear HK
    go_wp2
    go_ret
    exact ⟨rfl, hb2⟩
set_option maxHeartbeats 1000000 in
set_option maxRecDepth 100000 in
theorem joins8_no (w : World) (v u : Value) (zs ys : List Int) (p q : Bool) (hz : IntsAt w w.heap.size v zs) (hy : IntsAt w w.heap.size u ys) (h1 : zs.length ≤ 6) (h2 : ys.length ≤ 6) (hp : zs.all memB = p) (hq : ys.all memB = q) (hpq : (p && q) = false) :
    Calls Try.prog 6 #[v, u] w fun e w' => e = .returned (.bool true) ∧ Below w.heap.size w w' := by
  have HS := start8_any w v u zs ys p q hp hq hz hy (by omega) (by omega)
  have HK := fun w => knows8_any w
  obtain ⟨A, c, rfl, -, -⟩ := hz
  obtain ⟨A2, c2, rfl, -, -⟩ := hy
  go_enter Try.func6, Try.ntmps6
  go_wp2_with fail
  refine HS.mono ?_
  rintro e w2 ⟨zb, ab, bm, v2, full2, S2, a, b, rfl, hb2, -⟩
  clear HS
  rw [hpq]
  go_wp2_with fail
  refine (HK _).mono ?_
  rintro e w3 ⟨rfl, hb3⟩
  clear HK
  go_wp2
  go_ret
  exact ⟨rfl, hb2.trans (hb3.mono hb2.size)⟩
theorem or_lt24 {a b : Nat} (ha : a < 16777216) (hb : b < 16777216) : a ||| b < 16777216 := Nat.or_lt_two_pow (n := 24) ha hb
theorem nats_nI (l : List Nat) : natsOf (nI l) = l := by
  unfold natsOf nI
  rw [List.map_map]
  conv => rhs; rw [← List.map_id l]
  exact List.map_congr_left fun x _ => rfl
theorem all_nI {l : List Nat} (h : ∀ x ∈ l, x < 16777216) : (nI l).all memB = true := by
  have := any_good h
  rw [any_all] at this
  simpa using this
theorem row_join {l r W : List Nat} (hl : ∀ x ∈ l, x < 16777216) (hr : ∀ x ∈ r, x < 16777216) (hs : srtN W) (hm : ∀ x, x ∈ W ↔ ∃ a ∈ l, ∃ b ∈ r, a ||| b = x) : famL 24 (joinF 24 (rowF l) (rowF r)) = W :=
  famL_eq hs fun x => by
    rw [hm, joinF_iff]
    unfold rowF
    constructor
    · rintro ⟨a, ha, b, hb, rfl⟩
      exact ⟨or_lt24 (hl a ha) (hr b hb), a, b, hl a ha, hr b hb, decide_eq_true ha, decide_eq_true hb, rfl⟩
    · rintro ⟨-, a, b, -, -, h1, h2, h3⟩
      exact ⟨a, of_decide_eq_true h1, b, of_decide_eq_true h2, h3⟩
set_option maxHeartbeats 4000000 in
set_option maxRecDepth 100000 in
theorem joins8_yes (w : World) (v u : Value) (l r : List Nat) (hz : IntsAt w w.heap.size v (nI l)) (hy : IntsAt w w.heap.size u (nI r)) (h1 : l.length ≤ 6) (h2 : r.length ≤ 6) (hlt : ∀ x ∈ l, x < 16777216) (hlt2 : ∀ x ∈ r, x < 16777216) :
    Calls Try.prog 6 #[v, u] w fun e w' => e = .returned (.bool true) ∧ Below w.heap.size w w' := by
  have HS := start8_any w v u (nI l) (nI r) true true (all_nI hlt) (all_nI hlt2) hz hy (by rw [nI_len]; omega) (by rw [nI_len]; omega)
  have HK := fun w => knows8_any w
  have HB := fun x m (hx : x < 16777216) (hm : m < 16777216) w => rboth8_any x m hx hm w
  obtain ⟨A, c, rfl, -, hcl⟩ := hz
  obtain ⟨A2, c2, rfl, -, hcl2⟩ := hy
  simp only [nI_len] at hcl hcl2 HS ⊢
  go_enter Try.func6, Try.ntmps6
  go_wp2_with fail
  refine HS.mono ?_
  rintro e w2 ⟨zb, ab, bm, v2, full2, S, a, b, rfl, hb2, hok⟩
  obtain ⟨hd2, ha, hbb, hcn⟩ := hok rfl rfl
  rw [nats_nI] at ha hbb
  simp only [nI_len] at hcn
  clear HS hok
  rw [Bool.true_and]
  go_wp2
  have hcl' := Lib.hid hcl
  have hcl2' := Lib.hid hcl2
  clear hcl hcl2
  go_loopw [10, 11] (fun s t wr => ∃ (i : Nat) (A' : Option Addr) (c' : Nat) (W : List Nat), i ≤ l.length ∧ t = .int .i64 i ∧ s = .slice A' W.length c' ∧ W.length ≤ c' ∧ (W = [] → A' = none ∧ c' = 0) ∧ IntsAt wr wr.heap.size (.slice A' W.length c') (nI W) ∧ srtN W ∧ Hid (∀ x, x ∈ W ↔ ∃ a ∈ l.take i, ∃ b ∈ r, a ||| b = x) ∧ W.length ≤ 6 * i ∧ FromB w2.heap.size A' ∧ Below w2.heap.size w2 wr) (fun _ t _ => l.length - (intOf t).toNat)
  case atStart => exact ⟨0, none, 0, [], by omega, rfl, rfl, by decide, fun _ => ⟨rfl, rfl⟩, ints_nil _ _, List.Pairwise.nil, Lib.hid (by simp), by decide, (fun g off e => by cases e), Below.refl _ _⟩
  case round =>
    obtain ⟨i, A', c', W, hi, rfl, rfl, hWc, hWn, hI, hsW, hmW, hWl, hfW, hb⟩ := hrel
    by_cases hil : i < l.length
    · obtain ⟨bl, off, rfl, hBl, hcell⟩ := hcl'.out (by omega)
      obtain ⟨x, hx⟩ : ∃ x, l[i]? = some x := ⟨_, List.getElem?_eq_getElem hil⟩
      have q := (hb2.cell (p := ⟨bl, off + i, none⟩) hBl).trans (hcell i _ (nI_get hx))
      have hq2 : bl < w2.heap.size := Nat.lt_of_lt_of_le hBl hb2.size
      have hxl := hlt x (List.mem_of_getElem? hx)
      have hxH := Lib.hid hx
      clear hcell hx
      go_wp2
      go_loopw [10, 12] (fun s t wj => ∃ (j : Nat) (A' : Option Addr) (c' : Nat) (V : List Nat), j ≤ r.length ∧ t = .int .i64 j ∧ s = .slice A' V.length c' ∧ V.length ≤ c' ∧ (V = [] → A' = none ∧ c' = 0) ∧ IntsAt wj wj.heap.size (.slice A' V.length c') (nI V) ∧ srtN V ∧ Hid (∀ y, y ∈ V ↔ (∃ a ∈ l.take i, ∃ b ∈ r, a ||| b = y) ∨ ∃ b ∈ r.take j, x ||| b = y) ∧ V.length ≤ 6 * i + j ∧ FromB w2.heap.size A' ∧ Below w2.heap.size w2 wj) (fun _ t _ => r.length - (intOf t).toNat)
      case atStart => exact ⟨0, A', c', W, by omega, rfl, rfl, hWc, hWn, hI, hsW, Lib.hid (fun y => by rw [hmW.out]; simp), by omega, hfW, hb⟩
      case round =>
        clear hI hmW hsW hWn hWc hfW hb hWl
        obtain ⟨j, A', c', V, hj, rfl, rfl, hVc, hVn, hI, hsV, hmV, hVl, hfV, hb⟩ := hrel
        by_cases hjl : j < r.length
        · obtain ⟨bl2, off2, rfl, hBl2, hcell⟩ := hcl2'.out (by omega)
          obtain ⟨y, hy⟩ : ∃ y, r[j]? = some y := ⟨_, List.getElem?_eq_getElem hjl⟩
          have q0 := (hb.cell (p := ⟨bl, off + i, none⟩) hq2).trans q
          have q1 := (hb.cell (p := ⟨bl2, off2 + j, none⟩) (Nat.lt_of_lt_of_le hBl2 hb2.size)).trans ((hb2.cell (p := ⟨bl2, off2 + j, none⟩) hBl2).trans (hcell j _ (nI_get hy)))
          have hyl := hlt2 y (List.mem_of_getElem? hy)
          have hyH := Lib.hid hy
          have HX := fun w1 => HB x y hxl hyl w1
          have HW := fun X1 (hX : Below wr.heap.size wr X1) => rwith8_any A' c' V (x ||| y) (by omega) hsV hVc hVn X1 (Nat.le_trans hb.size hX.size) hfV ((hI.below hX).more hX.size)
          have hw1 : bl < wr.heap.size := Nat.lt_of_lt_of_le hq2 hb.size
          have hw2 : bl2 < wr.heap.size := Nat.lt_of_lt_of_le (Nat.lt_of_lt_of_le hBl2 hb2.size) hb.size
          have b0 : (0 : Int) ≤ (i : Int) := by omega
          have b1 : (i : Int) < (l.length : Int) := by omega
          have b2 : (0 : Int) ≤ (j : Int) := by omega
          have b3 : (j : Int) < (r.length : Int) := by omega
          clear hcell hy HB q hI hsV hVn hVc hfV
          go_wp2_with fail
          refine wp_region_held_drew (S := fun W_ => Below wr.heap.size wr W_) rfl (Below.refl _ wr).drew (fun hHeld => ?_)
          obtain ⟨X0, hX0⟩ : ∃ X0, X0 = wr.drew := ⟨_, rfl⟩
          rw [← hX0] at hHeld ⊢
          clear hX0
          refine wpAnyH_take (i := 0) (oi := _) (v := ?_) rfl (by kernel_rfl) (by kernel_rfl) (by kernel_rfl) (fun _ _ _ h => h) (Or.inl ⟨by rfl, ?_⟩) (by assumption) ?_
          rotate_left 1
          · intro w_ hSw
            go_simp
            try with_reducible rfl
          try simp only [Act.put, List.setIfInBounds_toArray]
          refine wpAnyH_take (i := 1) (oi := _) (v := ?_) rfl (by kernel_rfl) (by kernel_rfl) (by kernel_rfl) (fun _ _ _ h => h) (Or.inl ⟨by rfl, ?_⟩) (by assumption) ?_
          rotate_left 1
          · intro w_ hSw
            go_simp
            try with_reducible rfl
          try simp only [Act.put, List.setIfInBounds_toArray]
          refine wpAnyH_take (i := 2) (oi := _) (v := ?_) rfl (by kernel_rfl) (by kernel_rfl) (by kernel_rfl) (fun _ _ _ h => h) (Or.inl ⟨by rfl, ?_⟩) (by assumption) ?_
          rotate_left 1
          · intro w_ hSw
            go_simp
            try with_reducible rfl
          try simp only [Act.put, List.setIfInBounds_toArray]
          refine wpAnyH_take (i := 3) (oi := _) (v := ?_) rfl (by kernel_rfl) (by kernel_rfl) (by kernel_rfl) (fun _ _ _ h => h) (Or.inl ⟨by rfl, ?_⟩) (by assumption) ?_
          rotate_left 1
          · intro w_ hSw
            go_simp
            try with_reducible rfl
          try simp only [Act.put, List.setIfInBounds_toArray]
          refine wpAnyH_take (i := 4) (oi := _) (v := ?_) rfl (by kernel_rfl) (by kernel_rfl) (by kernel_rfl) (fun _ _ _ h => h) (Or.inl ⟨by rfl, ?_⟩) (by assumption) ?_
          rotate_left 1
          · intro w_ hSw
            have q_0 := (hSw.cell (p := ⟨bl, off + i, none⟩) hw1).trans q0
            go_simp
            try with_reducible rfl
          try simp only [Act.put, List.setIfInBounds_toArray]
          refine wpAnyH_take (i := 5) (oi := _) (v := ?_) rfl (by kernel_rfl) (by kernel_rfl) (by kernel_rfl) (fun _ _ _ h => h) (Or.inl ⟨by rfl, ?_⟩) (by assumption) ?_
          rotate_left 1
          · intro w_ hSw
            go_simp
            try with_reducible rfl
          try simp only [Act.put, List.setIfInBounds_toArray]
          refine wpAnyH_take (i := 6) (oi := _) (v := ?_) rfl (by kernel_rfl) (by kernel_rfl) (by kernel_rfl) (fun _ _ _ h => h) (Or.inl ⟨by rfl, ?_⟩) (by assumption) ?_
          rotate_left 1
          · intro w_ hSw
            go_simp
            try with_reducible rfl
          try simp only [Act.put, List.setIfInBounds_toArray]
          refine wpAnyH_take (i := 7) (oi := _) (v := ?_) rfl (by kernel_rfl) (by kernel_rfl) (by kernel_rfl) (fun _ _ _ h => h) (Or.inl ⟨by rfl, ?_⟩) (by assumption) ?_
          rotate_left 1
          · intro w_ hSw
            go_simp
            try with_reducible rfl
          try simp only [Act.put, List.setIfInBounds_toArray]
          refine wpAnyH_take (i := 8) (oi := _) (v := ?_) rfl (by kernel_rfl) (by kernel_rfl) (by kernel_rfl) (fun _ _ _ h => h) (Or.inl ⟨by rfl, ?_⟩) (by assumption) ?_
          rotate_left 1
          · intro w_ hSw
            have q_1 := (hSw.cell (p := ⟨bl2, off2 + j, none⟩) hw2).trans q1
            go_simp
            try with_reducible rfl
          try simp only [Act.put, List.setIfInBounds_toArray]
          refine wpAnyH_ready (rs := [9]) (by kernel_rfl) (by simp) ?_
          refine AllReadyH.cons (o := _) rfl (fun _ hK => ?_) AllReadyH.nil
          go_simp
          refine (HX X0).mono ?_
          rintro e X1 ⟨rfl, rfl⟩
          try go_simp
          refine hK.out _ _ hHeld (fun hHeld => ?_)
          clear hK
          try simp only [Act.put, List.setIfInBounds_toArray, List.set_cons_zero, List.set_cons_succ]
          refine wpAnyH_ready (rs := [10]) (by kernel_rfl) (by simp) ?_
          refine AllReadyH.cons (o := _) rfl (fun _ hK => ?_) AllReadyH.nil
          go_simp
          refine (HW X0 hHeld).mono ?_
          rintro e X2 ⟨A7, c7, V7, rfl, h7c, hI7, hs7, hm7, hl7, hf7, hb7⟩
          have hb7 := hHeld.trans (hb7.mono hHeld.size)
          try go_simp
          refine hK.out _ _ hb7 (fun hHeld => ?_)
          clear hK
          try simp only [Act.put, List.setIfInBounds_toArray, List.set_cons_zero, List.set_cons_succ]
          refine wpAnyH_ready (rs := [11]) (by kernel_rfl) (by simp) ?_
          refine AllReadyH.cons (o := _) rfl (fun _ hK => ?_) AllReadyH.nil
          go_simp
          refine hK.out _ _ hb7 (fun hHeld => ?_)
          clear hK
          try simp only [Act.put, List.setIfInBounds_toArray, List.set_cons_zero, List.set_cons_succ]
          refine wpAnyH_done (by kernel_rfl) ?_ _
          have hm8 : Hid (∀ z, z ∈ V7 ↔ (∃ a ∈ l.take i, ∃ b ∈ r, a ||| b = z) ∨ ∃ b ∈ r.take (j + 1), x ||| b = z) := Lib.hid (fun z => by
            rw [hm7, hmV.out, or_assoc, List.take_add_one, hyH.out]
            simp only [Option.toList_some, List.mem_append, List.mem_singleton]
            constructor
            · rintro (h | ⟨b, h1, h2⟩ | h)
              · exact .inl h
              · exact .inr ⟨b, .inl h1, h2⟩
              · exact .inr ⟨y, .inr rfl, h.symm⟩
            · rintro (h | ⟨b, h1 | h1, h2⟩)
              · exact .inl h
              · exact .inr (.inl ⟨b, h1, h2⟩)
              · exact .inr (.inr (by rw [← h2, h1])))
          have hne : V7 ≠ [] := fun e => by
            have := (hm7 (x ||| y)).2 (.inr rfl)
            rw [e] at this
            cases this
          clear HX HW hm7 hmV q0 q1
          go_wp2
          go_roundw
          case rel => exact ⟨j + 1, A7, c7, V7, by omega, by go_num, rfl, h7c, fun e => absurd e hne, hI7, hs7, hm8, by omega, hf7, hb.trans (hb7.mono hb.size)⟩
          case measure => simp [intOf]; omega
        · have hm8 : Hid (∀ z, z ∈ V ↔ ∃ a ∈ l.take (i + 1), ∃ b ∈ r, a ||| b = z) := Lib.hid (fun z => by
            rw [hmV.out, show r.take j = r from List.take_of_length_le (by omega), List.take_add_one, hxH.out]
            simp only [Option.toList_some, List.mem_append, List.mem_singleton]
            constructor
            · rintro (⟨a, h1, h2⟩ | h)
              · exact ⟨a, .inl h1, h2⟩
              · exact ⟨x, .inr rfl, h⟩
            · rintro ⟨a, h1 | h1, h2⟩
              · exact .inl ⟨a, h1, h2⟩
              · exact .inr (h1 ▸ h2))
          clear hmV
          go_wp2
          go_roundw
          case rel => exact ⟨i + 1, A', c', V, by omega, by go_num, rfl, hVc, hVn, hI, hsV, hm8, by rw [Nat.mul_add]; omega, hfV, hb⟩
          case measure => simp [intOf]; omega
    · have hrow := row_join hlt hlt2 hsW (by have := hmW.out; rwa [List.take_of_length_le (by omega)] at this)
      have hBr := hb2.trans (hb.mono hb2.size)
      have hd3 := hd2.grow hb
      have hcF := cF_row_le (D := 24) l
      have hcG := cF_row_le (D := 24) r
      have hcJ := cF_join 24 (rowF l) (rowF r)
      have za := ha.zn
      have zb' := hbb.zn
      have hprod : cF 24 (rowF l) * cF 24 (rowF r) ≤ 36 := Nat.mul_le_mul (show cF 24 (rowF l) ≤ 6 by omega) (show cF 24 (rowF r) ≤ 6 by omega)
      have hprod2 : zn S a * zn S b ≤ 36 := by rw [za, zb']; exact hprod
      have HJ := zJoin_any hd3 a b ha.1 hbb.1 (by omega) (by rw [ha.2, hbb.2]; omega) (by omega)
      rw [ha.2, hbb.2] at HJ
      clear hmW hWn hsW hlt hlt2 HB hcl' hcl2'
      go_wp2_with fail
      refine HJ.mono ?_
      intro e w7 hM
      obtain ⟨v7, full7, S7, jn, rfl, hd7, hk7, hx7, hh7, hc7⟩ := made_ok hM (by unfold EJ; omega)
      have hB7 := hBr.trans (hk7.belowN (fun k hk => .inl hk) hBr.size)
      have hW7 := hI.kzF hk7 (Nat.le_refl _) (fun g off e hlt => .inr ⟨hfW g off e, hlt⟩)
      have HL := list8_ok hd7 hh7 (by omega)
      rw [hrow] at HL
      have hs7 := hk7.size
      clear HJ hM hd3 hk7 hcJ hcF hcG hprod hprod2 za zb' hx7 hc7 hBr hI
      go_wp2_with fail
      refine HL.mono ?_
      rintro e w8 ⟨u8, rfl, hI8, -, hb8⟩
      have hB8 := hB7.trans (hb8.mono hB7.size)
      have HE := rsame8_any w8 u8 _ _ (nI W) hI8 (((hW7.more hs7).below hb8).more hb8.size)
      rw [show decide (nI W = nI W) = true from decide_eq_true rfl] at HE
      obtain ⟨A8, c8, rfl, -, -⟩ := hI8
      clear HL hB7 hb8 hrow
      go_wp2_with fail
      refine HE.mono ?_
      rintro e w12 ⟨rfl, hb12⟩
      have hB12 := hB8.trans (hb12.mono hB8.size)
      clear HE hB8
      go_wp2_with fail
      refine (HK _).mono ?_
      rintro e w19 ⟨rfl, hb19⟩
      go_wp2
      go_ret
      exact ⟨rfl, hB12.trans (hb19.mono hB12.size)⟩
end Go.Proofs.Ytkkdfpmjmommcaa
