/- ZddRoom. -/
import Derived.Test.YtkkdfpmjmommcaaZd08
namespace Go.Proofs.Ytkkdfpmjmommcaa
open Go.RowKit Go.Joins

set_option maxHeartbeats 1000000 in
theorem room8_great (w : World) (v u : Value) (zs ys : List Int) (n : Nat) (hz : IntsAt w w.heap.size v zs) (hy : IntsAt w w.heap.size u ys) (hg : (decide (40 < zs.length) || decide (40 < ys.length)) = true) :
    Calls Try.prog 9 #[v, u, .int .u8 n] w fun e w' => e = .returned (.bool true) ∧ Below w.heap.size w w' := by
  have HG := great8_any w v u zs ys hz hy
  rw [hg] at HG
  have HK := fun w => knows8_any w
  clear hz hy
  go_enter Try.func9, Try.ntmps9
  go_wp2_with fail
  refine HG.mono ?_
  rintro e w1 ⟨rfl, rfl⟩
  clear HG
  go_wp2_with fail
  refine (HK _).mono ?_
  rintro e w2 ⟨rfl, hb2⟩
  clear HK
  go_wp2
  go_ret
  exact ⟨rfl, hb2⟩
set_option maxHeartbeats 4000000 in
set_option maxRecDepth 100000 in
theorem room8_any (w : World) (v u : Value) (zs ys : List Int) (n : Nat) (h8 : n < 256) (hz : IntsAt w w.heap.size v zs) (hy : IntsAt w w.heap.size u ys) (hg : (decide (40 < zs.length) || decide (40 < ys.length)) = false) :
    Calls Try.prog 9 #[v, u, .int .u8 n] w fun e w' => e = .returned (.bool true) ∧ Below w.heap.size w w' := by
  have HG := great8_any w v u zs ys hz hy
  rw [hg] at HG
  have HK := fun w => knows8_any w
  have HM := fun x w => rmay8_any x w
  obtain ⟨h1, h2⟩ := le40 hg
  have hzz := Lib.hid hz
  have hyy := Lib.hid hy
  obtain ⟨A, c, rfl, hl, hcl⟩ := hz
  obtain ⟨A2, c2, rfl, hl2, hcl2⟩ := hy
  go_enter Try.func9, Try.ntmps9
  go_wp2_with fail
  refine HG.mono ?_
  rintro e w1 ⟨rfl, rfl⟩
  clear HG hg
  go_wp2
  go_loopw [7] (fun t wr => ∃ k : Nat, k ≤ zs.length ∧ t = .int .i64 k ∧ Hid ((zs.take k).all memB = true) ∧ w = wr) (fun t _ => zs.length - (intOf t).toNat)
  case atStart => exact ⟨0, by omega, rfl, Lib.hid rfl, by trivial⟩
  case round =>
    obtain ⟨k, hk, rfl, hm, rfl⟩ := hrel
    by_cases hlt : k < zs.length
    · obtain ⟨bl, off, rfl, hB, hcell⟩ := hcl (by omega)
      obtain ⟨x, hx⟩ : ∃ x, zs[k]? = some x := ⟨_, List.getElem?_eq_getElem hlt⟩
      have q := hcell k _ hx
      have hst := Lib.hid (all_take hx)
      have HX := HM x w
      clear hcell hcl hcl2 hx HM
      cases hmb : memB x
      · have hmb' : (decide (0 ≤ x) && decide (x < 16777216)) = false := hmb
        rw [hmb'] at HX
        clear hmb' hmb
        go_wp2_with fail
        refine HX.mono ?_
        rintro e w2 ⟨rfl, rfl⟩
        clear HX
        go_wp2_with fail
        refine (HK _).mono ?_
        rintro e w2 ⟨rfl, hb2⟩
        clear HK
        go_wp2
        go_ret
        exact ⟨rfl, hb2⟩
      · have hmb' : (decide (0 ≤ x) && decide (x < 16777216)) = true := hmb
        rw [hmb'] at HX
        have hs2 : Hid ((zs.take (k + 1)).all memB = true) := Lib.hid (by rw [hst.out, hm.out, hmb]; rfl)
        clear hmb' hmb
        go_wp2_with fail
        refine HX.mono ?_
        rintro e w2 ⟨rfl, rfl⟩
        clear HX
        go_wp2
        go_roundw
        case rel => exact ⟨k + 1, by omega, by go_num, hs2, by trivial⟩
        case measure => simp [intOf]; omega
    · have hp : Hid (zs.all memB = true) := Lib.hid (by have := hm.out; rwa [List.take_of_length_le (by omega)] at this)
      clear hm hcl
      go_wp2
      go_loopw [8] (fun t wr => ∃ k : Nat, k ≤ ys.length ∧ t = .int .i64 k ∧ Hid ((ys.take k).all memB = true) ∧ w = wr) (fun t _ => ys.length - (intOf t).toNat)
      case atStart => exact ⟨0, by omega, rfl, Lib.hid rfl, by trivial⟩
      case round =>
        obtain ⟨k, hk, rfl, hm, rfl⟩ := hrel
        by_cases hlt : k < ys.length
        · obtain ⟨bl, off, rfl, hB, hcell⟩ := hcl2 (by omega)
          obtain ⟨x, hx⟩ : ∃ x, ys[k]? = some x := ⟨_, List.getElem?_eq_getElem hlt⟩
          have q := hcell k _ hx
          have hst := Lib.hid (all_take hx)
          have HX := HM x w
          clear hcell hcl2 hx HM
          cases hmb : memB x
          · have hmb' : (decide (0 ≤ x) && decide (x < 16777216)) = false := hmb
            rw [hmb'] at HX
            clear hmb' hmb
            go_wp2_with fail
            refine HX.mono ?_
            rintro e w2 ⟨rfl, rfl⟩
            clear HX
            go_wp2_with fail
            refine (HK _).mono ?_
            rintro e w2 ⟨rfl, hb2⟩
            clear HK
            go_wp2
            go_ret
            exact ⟨rfl, hb2⟩
          · have hmb' : (decide (0 ≤ x) && decide (x < 16777216)) = true := hmb
            rw [hmb'] at HX
            have hs2 : Hid ((ys.take (k + 1)).all memB = true) := Lib.hid (by rw [hst.out, hm.out, hmb]; rfl)
            clear hmb' hmb
            go_wp2_with fail
            refine HX.mono ?_
            rintro e w2 ⟨rfl, rfl⟩
            clear HX
            go_wp2
            go_roundw
            case rel => exact ⟨k + 1, by omega, by go_num, hs2, by trivial⟩
            case measure => simp [intOf]; omega
        · have hq : Hid (ys.all memB = true) := Lib.hid (by have := hm.out; rwa [List.take_of_length_le (by omega)] at this)
          have HN := znew_yes w n (by omega) (· < w.heap.size) (fun k hk => hk)
          clear hm hcl2 HM
          go_wp2_with fail
          refine HN.mono ?_
          rintro e w1 ⟨zb, ab, bm, rfl, hd1, hb1⟩
          clear HN
          obtain ⟨hzn, hlt⟩ := nats_good hp.out
          obtain ⟨hyn, hlt2⟩ := nats_good hq.out
          have hl40 : (natsOf zs).length ≤ 40 := by rw [natsOf_len]; exact h1
          have hl40' : (natsOf ys).length ≤ 40 := by rw [natsOf_len]; exact h2
          have hIz := fun w1 (hb : Below w.heap.size w w1) => (hzn ▸ (hzz.out.below hb).more hb.size : IntsAt w1 w1.heap.size (.slice A zs.length c) (nI (natsOf zs)))
          have hIy := fun w1 (hb : Below w.heap.size w w1) => (hyn ▸ (hyy.out.below hb).more hb.size : IntsAt w1 w1.heap.size (.slice A2 ys.length c2) (nI (natsOf ys)))
          have HO := zOf_any hd1 (hIz w1 hb1) hlt (by omega)
          clear hzz hyy hzn hyn hp hq
          go_wp2_with fail
          refine HO.mono ?_
          rintro e w2 ⟨v2, full2, S2, a, ea, rfl, hd2, hk2, hP2⟩
          have hB2 := hb1.trans (hk2.below hb1.size)
          have hlz := natsOf_len zs
          have hly := natsOf_len ys
          clear HO hd1 hk2 hb1
          obtain ⟨-, ⟨rfl, g0, g1, -⟩ | ⟨rfl, rfl, -, -⟩⟩ := hP2
          · have ha : Held S2 a (rowF (natsOf zs)) := ⟨g0, g1⟩
            have HO := zOf_any hd2 (hIy w2 hB2) hlt2 (by omega)
            clear g0 g1
            go_wp2_with fail
            refine HO.mono ?_
            rintro e w3 ⟨v3, full3, S3, b, eb, rfl, hd3, hk3, hx3, hP3⟩
            have hB3 := hB2.trans (hk3.below hB2.size)
            have ha3 := ha.ext hd2.zst.vst hx3
            have hb3 : 0 ≤ lvl S3 b := by
              rcases hP3 with ⟨-, g0, -⟩ | ⟨-, rfl, -⟩
              · exact g0
              · rw [lvl_end (.inl rfl)]; decide
            have hcF := cF_row_le (D := 24) (natsOf zs)
            have hcG := cF_row_le (D := 24) (natsOf ys)
            have za := ha3.zn
            have HU := zUnion_any hd3 a b ha3.1 hb3 (by omega)
            rw [ha3.2] at HU
            clear HO hd2 hk3 hB2 hx3 ha
            go_wp2_with fail
            refine HU.mono ?_
            rintro e w4 ⟨v4, full4, S4, un, eu, rfl, hd4, hk4, hx4, hP4⟩
            have hB4 := hB3.trans (hk4.below hB3.size)
            have ha4 := ha3.ext hd3.zst.vst hx4
            have hV3 := Lib.hid hd3.zst.vst
            have HL := list8_ok hd4 ha4 (by omega)
            clear HU hd3 hk4 hB3 ha3 za
            go_wp2_with fail
            refine HL.mono ?_
            rintro e w5 ⟨u5, rfl, hI5, -, hb5⟩
            have hB5 := hB4.trans (hb5.mono hB4.size)
            have HR := rof8_any (.slice A zs.length c) (natsOf zs) (by omega) w5 (hIz w5 hB5)
            clear HL hB4 ha4
            go_wp2_with fail
            refine HR.mono ?_
            rintro e w6 ⟨A6, c6, r6, rfl, -, -, hI6, hs6, hm6, -, -, hb6⟩
            have hB6 := hB5.trans (hb6.mono hB5.size)
            have HE := rsame8_any w6 u5 _ _ _ ((hI5.below hb6).more hb6.size) hI6
            rw [row_fam hlt hs6 hm6, show decide (nI r6 = nI r6) = true from decide_eq_true rfl] at HE
            obtain ⟨A5, c5, rfl, -, -⟩ := hI5
            have h46 := hb5.trans (hb6.mono hb5.size)
            clear HR hB5 hb5 hb6 hI6 hs6 hm6
            go_wp2_with fail
            refine HE.mono ?_
            rintro e w7 ⟨rfl, hb7⟩
            have hB7 := hB6.trans (hb7.mono hB6.size)
            have h47 := h46.trans (hb7.mono h46.size)
            clear HE hB6 hb7 h46
            rcases hP3 with ⟨rfl, g0, g1, -⟩ | ⟨rfl, -, -, -⟩
            · have hbG0 : Held S3 b (rowF (natsOf ys)) := ⟨g0, g1⟩
              have hbG := hbG0.ext hV3.out hx4
              rcases hP4 with ⟨rfl, q0, q1, -⟩ | ⟨rfl, -, -, -⟩
              · have hu : Held S4 un (op2F 0 (rowF (natsOf zs)) (rowF (natsOf ys))) := ⟨q0, by rw [q1, g1]⟩
                have HL := list8_ok (hd4.below h47) hu (cF_op40 0 hl40 hl40')
                clear g0 g1 q0 q1 hbG hbG0 hV3 hb3
                go_wp2_with fail
                refine HL.mono ?_
                rintro e w8 ⟨u8, rfl, hI8, -, hb8⟩
                have hB8 := hB7.trans (hb8.mono hB7.size)
                obtain ⟨v9, w9, v10, w10, run9, run10, hI10, hb10⟩ := append8_two (w := w8) 22 (hIz w8 hB8) (hIy w8 hB8) hl40 hl40'
                clear HL hIz hIy hcF hcG
                go_wp2_with (at_builtin; first | refine wpList_append8 _ rfl _ _ rfl (.slice (some ⟨w8.heap.size, 0, none⟩) 0 0) (.slice A zs.length c) v9 w9 rfl rfl run9 ?_ | refine wpList_append8 _ rfl _ _ rfl v9 (.slice A2 ys.length c2) v10 w10 rfl rfl run10 ?_)
                have hR11 := rof8_any v10 (natsOf zs ++ natsOf ys) (by rw [List.length_append]; omega) w10 hI10
                have hB10 := hB8.trans (hb10.mono hB8.size)
                clear run9 run10 hI10
                go_wp2_with fail
                refine hR11.mono ?_
                rintro e w11 ⟨A11, c11, r11, rfl, -, -, hI11, hs11, hm11, -, -, hb11⟩
                have h811 := hb10.trans (hb11.mono hb10.size)
                have hor := row_or hlt hlt2 hs11 hm11
                have HE := rsame8_any w11 u8 _ _ (nI r11) ((hI8.below h811).more h811.size) hI11
                rw [hor, show decide (nI r11 = nI r11) = true from decide_eq_true rfl] at HE
                obtain ⟨A8, c8, rfl, -, -⟩ := hI8
                have hB11 := hB8.trans (h811.mono hB8.size)
                clear hR11 hor hs11 hm11 hlt hlt2 hb10 hB10
                go_wp2_with fail
                refine HE.mono ?_
                rintro e w12 ⟨rfl, hb12⟩
                have hB12 := hB11.trans (hb12.mono hB11.size)
                clear HE hB11
                go_wp2_with fail
                refine (HK _).mono ?_
                rintro e w19 ⟨rfl, hb19⟩
                go_wp2
                go_ret
                exact ⟨rfl, hB12.trans (hb19.mono hB12.size)⟩
              · clear g0 g1 hbG hbG0 hIz hIy hcF hcG
                go_wp2_with fail
                refine (HK _).mono ?_
                rintro e w19 ⟨rfl, hb19⟩
                go_wp2
                go_ret
                exact ⟨rfl, hB7.trans (hb19.mono hB7.size)⟩
            · clear hIz hIy hcF hcG
              have hku : eu = 0 ∨ eu = 5 := by
                rcases hP4 with ⟨h, -⟩ | ⟨h, -⟩
                · exact .inl h
                · exact .inr h
              clear hP4
              rcases hku with rfl | rfl
              · go_wp2_with fail
                refine (HK _).mono ?_
                rintro e w19 ⟨rfl, hb19⟩
                go_wp2
                go_ret
                exact ⟨rfl, hB7.trans (hb19.mono hB7.size)⟩
              · go_wp2_with fail
                refine (HK _).mono ?_
                rintro e w19 ⟨rfl, hb19⟩
                go_wp2
                go_ret
                exact ⟨rfl, hB7.trans (hb19.mono hB7.size)⟩
          · clear hIz hIy
            go_wp2_with fail
            refine (HK _).mono ?_
            rintro e w19 ⟨rfl, hb19⟩
            go_wp2
            go_ret
            exact ⟨rfl, hB2.trans (hb19.mono hB2.size)⟩
end Go.Proofs.Ytkkdfpmjmommcaa
