/- ZddLeast. -/
import Derived.Test.YtkkdfpmjmommcaaZkn08
namespace Go.Proofs.Ytkkdfpmjmommcaa
open Go.RowKit Go.Joins

set_option maxHeartbeats 1000000 in
theorem least8_great (w : World) (v : Value) (zs : List Int) (hz : IntsAt w w.heap.size v zs) (hg : 12 < zs.length) :
    Calls Try.prog 7 #[v] w fun e w' => e = .returned (.bool true) ∧ Below w.heap.size w w' := by
  have HK := fun w => knows8_any w
  obtain ⟨A, c, rfl, -, -⟩ := hz
  go_enter Try.func7, Try.ntmps7
  go_wp2_with fail
  refine (HK _).mono ?_
  rintro e w2 ⟨rfl, hb2⟩
  clear HK
  go_wp2
  go_ret
  exact ⟨rfl, hb2⟩
set_option maxHeartbeats 1000000 in
set_option maxRecDepth 100000 in
theorem least8_no (w : World) (v : Value) (zs : List Int) (hz : IntsAt w w.heap.size v zs) (hg : ¬ 12 < zs.length) (hp : zs.all memB = false) :
    Calls Try.prog 7 #[v] w fun e w' => e = .returned (.bool true) ∧ Below w.heap.size w w' := by
  have HS := start8_any w v (.slice none 0 0) zs [] false true hp rfl hz (ints_nil _ _) (by omega) (by decide)
  have HK := fun w => knows8_any w
  obtain ⟨A, c, rfl, -, -⟩ := hz
  go_enter Try.func7, Try.ntmps7
  go_wp2_with fail
  refine HS.mono ?_
  rintro e w2 ⟨zb, ab, bm, v2, full2, S2, a, b, rfl, hb2, -⟩
  clear HS
  rw [Bool.false_and]
  go_wp2_with fail
  refine (HK _).mono ?_
  rintro e w3 ⟨rfl, hb3⟩
  clear HK
  go_wp2
  go_ret
  exact ⟨rfl, hb2.trans (hb3.mono hb2.size)⟩
/-- Each member holds a least one. -/
theorem holds8 {F : Nat → Bool} {r M : List Nat} (hr : famL 24 F = r) (hM : famL 24 (leastF 24 F) = M) {x : Nat} (hx : x ∈ r) : M.any (fun m => decide (x ||| m = x)) = true := by
  rw [← hr, famL_mem] at hx
  obtain ⟨m, m1, m2, m3⟩ := least_held x x (Nat.le_refl _) hx.1 hx.2
  rw [List.any_eq_true]
  exact ⟨m, by rw [← hM, famL_mem]; exact ⟨m1, m2⟩, decide_eq_true (by rw [Nat.or_comm]; exact m3)⟩
theorem any_take8 {M : List Nat} {p : Nat → Bool} {k y : Nat} (hy : M[k]? = some y) : (M.take (k + 1)).any p = ((M.take k).any p || p y) := by
  rw [List.take_add_one, hy, List.any_append]
  simp
set_option maxHeartbeats 4000000 in
set_option maxRecDepth 100000 in
theorem least8_yes (w : World) (v : Value) (zs : List Int) (hz : IntsAt w w.heap.size v zs) (hg : ¬ 12 < zs.length) (hp : zs.all memB = true) :
    Calls Try.prog 7 #[v] w fun e w' => e = .returned (.bool true) ∧ Below w.heap.size w w' := by
  have HS := start8_any w v (.slice none 0 0) zs [] true true hp rfl hz (ints_nil _ _) (by omega) (by decide)
  have HK := fun w => knows8_any w
  obtain ⟨hzn, hlt⟩ := nats_good hp
  have hl12 : (natsOf zs).length ≤ 12 := by rw [natsOf_len]; omega
  have HR := fun w1 (hb : Below w.heap.size w w1) => rof8_any v (natsOf zs) (by omega) w1 (by rw [← hzn]; exact (hz.below hb).more hb.size)
  have HB := fun x m (hx : x < 16777216) (hm : m < 16777216) w => rboth8_any x m hx hm w
  have hlz := natsOf_len zs
  obtain ⟨A0, c0, rfl, -, -⟩ := hz
  go_enter Try.func7, Try.ntmps7
  clear hzn
  go_wp2_with fail
  refine HS.mono ?_
  rintro e w2 ⟨zb, ab, bm, v2, full2, S, a, b, rfl, hb2, hok⟩
  obtain ⟨hd2, ha, -, hcn⟩ := hok rfl rfl
  clear HS hok
  rw [Bool.true_and]
  have hcF := cF_row_le (D := 24) (natsOf zs)
  have hcL := cF_least 24 (rowF (natsOf zs))
  have za := ha.zn
  have z0 := zn_zero S
  have hbl : bL 24 (zn S a) ≤ 4000 := by unfold bL; have := Nat.mul_le_mul (show zn S a ≤ 12 by omega) (show zn S a ≤ 12 by omega); omega
  have H2 := zLeast_any hd2 a ha.1 (by omega) (by rw [ha.2]; omega) (by omega)
  rw [ha.2] at H2
  rw [List.length_nil] at hcn
  go_wp2_with fail
  refine H2.mono ?_
  intro e w3 hM
  obtain ⟨v3, full3, S3, l, rfl, hd3, hk3, hx3, hh3, hc3⟩ := made_ok hM (by unfold EJ; omega)
  have hB3 := hb2.trans (hk3.below hb2.size)
  have HL := list8_ok hd3 hh3 (by omega)
  clear H2 hM hd2 hk3 hx3 hc3 hbl z0 za hcn ha hcL hcF hb2
  go_wp2_with fail
  refine HL.mono ?_
  rintro e w4 ⟨m, rfl, hm4, -, hb4⟩
  have hB4 := hB3.trans (hb4.mono hB3.size)
  have HR4 := HR w4 hB4
  clear HL hd3 hb4 hB3 HR hh3
  go_wp2_with fail
  refine HR4.mono ?_
  rintro e w5 ⟨A, c, r, rfl, -, -, hr5, hsr, hmr, hrl, -, hb5⟩
  have hB5 := hB4.trans (hb5.mono hB4.size)
  have hrow := row_fam hlt hsr hmr
  have hm5 := (hm4.below hb5).more hb5.size
  have hrlt : ∀ x ∈ r, x < 16777216 := fun x hx => hlt x ((hmr x).1 hx)
  obtain ⟨M, hM⟩ : ∃ M, famL 24 (leastF 24 (rowF (natsOf zs))) = M := ⟨_, rfl⟩
  rw [hM] at hm5
  have hMl : ∀ x ∈ M, x < 16777216 := fun x hx => by rw [← hM, famL_mem] at hx; exact hx.1
  have hMn : M.length ≤ 1000000 := by rw [← hM, famL_len]; have := cF_row_le (D := 24) (natsOf zs); have := cF_least 24 (rowF (natsOf zs)); omega
  have hhold := Lib.hid (fun x (hx : x ∈ r) => holds8 hrow hM hx)
  have HL := rleast8_any (.slice A r.length c) r (by omega) hrlt hsr.nodup
  have hlr : r.filter (leastB r) = M := by rw [← hM, ← hrow, least_row]
  rw [hlr] at HL
  clear HR4 hm4 hB4 hb5 hsr hmr hrow hM hlt hlr
  have hr5' := Lib.hid hr5
  have hm5' := Lib.hid hm5
  obtain ⟨A6, c6, e6, hl6, hc6⟩ := hr5
  obtain ⟨Am, cm, rfl, hlm, hcm⟩ := hm5
  injection e6 with e61 e62 e63
  subst e61
  subst e63
  rw [nI_len] at *
  go_wp2
  go_loopw [12] (fun t wr => ∃ k : Nat, k ≤ r.length ∧ t = .int .i64 k ∧ Below w5.heap.size w5 wr) (fun t _ => r.length - (intOf t).toNat)
  case atStart => exact ⟨0, by omega, rfl, Below.refl _ _⟩
  case round =>
    obtain ⟨k, hk, rfl, hb⟩ := hrel
    by_cases hlt : k < r.length
    · obtain ⟨bl, off, rfl, hB, hcell⟩ := hc6 (by omega)
      obtain ⟨x, hx⟩ : ∃ x, r[k]? = some x := ⟨_, List.getElem?_eq_getElem hlt⟩
      have q := hcell k _ (nI_get hx)
      have hxl := hrlt x (List.mem_of_getElem? hx)
      have hHx := hhold.out x (List.mem_of_getElem? hx)
      have hHi := Lib.hid hHx
      clear hcell hc6 hx hrlt HL hHx
      go_wp2
      go_loopw [13, 14] (fun s t wr => ∃ (j : Nat) (b : Bool), j ≤ M.length ∧ t = .int .i64 j ∧ s = .bool b ∧ Hid ((M.take j).any (fun m => decide (x ||| m = x)) = b) ∧ Below w5.heap.size w5 wr) (fun _ t _ => M.length - (intOf t).toNat)
      case atStart => exact ⟨0, false, by omega, rfl, rfl, Lib.hid rfl, hb⟩
      case round =>
        obtain ⟨j, b, hj, rfl, rfl, hany, hbj⟩ := hrel
        by_cases hjl : j < M.length
        · obtain ⟨bl2, off2, rfl, hB2, hcell2⟩ := hcm (by omega)
          obtain ⟨y, hy⟩ : ∃ y, M[j]? = some y := ⟨_, List.getElem?_eq_getElem hjl⟩
          have q2 := hcell2 j _ (nI_get hy)
          have hyl := hMl y (List.mem_of_getElem? hy)
          have hst := Lib.hid (any_take8 (p := fun m => decide (x ||| m = x)) hy)
          clear hcell2 hcm hy hMl hb
          have q0 := fun X : After wr => After.cell X ((hbj.cell (p := ⟨bl, off + k, none⟩) hB).trans q)
          have q1 := fun X : After wr => After.cell X ((hbj.cell (p := ⟨bl2, off2 + j, none⟩) hB2).trans q2)
          have b0 : (0 : Int) ≤ (k : Int) := by omega
          have b1 : (k : Int) < (r.length : Int) := by omega
          have b2 : (0 : Int) ≤ (j : Int) := by omega
          have b3 : (j : Int) < (M.length : Int) := by omega
          have HB2 := fun w1 => (HB x y hxl hyl w1).mono fun e w2 (h : e = .returned (.int .i64 ((x ||| y : Nat) : Int)) ∧ w1 = w2) => (⟨h.1, by rw [h.2]; exact Below.refl _ _⟩ : e = .returned (.int .i64 ((x ||| y : Nat) : Int)) ∧ Below w1.heap.size w1 w2)
          clear HB q q2
          cases b
          · by_cases hxy : x ||| y = x
            · have heb : ((((x ||| y : Nat) : Int)) == ((x : Nat) : Int)) = true := by rw [hxy]; simp
              have hs2 : Hid ((M.take (j + 1)).any (fun m => decide (x ||| m = x)) = true) := Lib.hid (by rw [hst.out, decide_eq_true hxy, Bool.or_true])
              generalize x ||| y = xy at *
              clear hxy hany hst
              go_wp2_with fail
              refine wp_region_after (by kernel_rfl) (by kernel_rfl) ?_
              repeat (first | go_big_quiet_step (first | (go_at_call 29; exact Calls.after_of (HB2 _))))
              refine wpQuiet_nil ?_
              intro z
              have hbz2 := hbj.trans (z.2.mono hbj.size)
              clear q0 q1 HB2
              go_wp2
              go_roundw
              case rel => exact ⟨j + 1, true, by omega, by go_num, rfl, hs2, hbz2⟩
              case measure => simp [intOf]; omega
            · have heb : ((((x ||| y : Nat) : Int)) == ((x : Nat) : Int)) = false := by rw [beq_eq_false_iff_ne]; intro e; exact hxy (by omega)
              have hs2 : Hid ((M.take (j + 1)).any (fun m => decide (x ||| m = x)) = false) := Lib.hid (by rw [hst.out, hany.out, decide_eq_false hxy]; rfl)
              generalize x ||| y = xy at *
              clear hxy hany hst
              go_wp2_with fail
              refine wp_region_after (by kernel_rfl) (by kernel_rfl) ?_
              repeat (first | go_big_quiet_step (first | (go_at_call 29; exact Calls.after_of (HB2 _))))
              refine wpQuiet_nil ?_
              intro z
              have hbz2 := hbj.trans (z.2.mono hbj.size)
              clear q0 q1 HB2
              go_wp2
              go_roundw
              case rel => exact ⟨j + 1, false, by omega, by go_num, rfl, hs2, hbz2⟩
              case measure => simp [intOf]; omega
          · have hs2 : Hid ((M.take (j + 1)).any (fun m => decide (x ||| m = x)) = true) := Lib.hid (by rw [hst.out, hany.out]; rfl)
            clear hany hst HB2
            go_wp2_with fail
            refine wp_region_after (by kernel_rfl) (by kernel_rfl) ?_
            repeat (first | go_big_quiet_step (fail))
            refine wpQuiet_nil ?_
            intro z
            have hbz2 := hbj.trans (z.2.mono hbj.size)
            clear q0 q1
            go_wp2
            go_roundw
            case rel => exact ⟨j + 1, true, by omega, by go_num, rfl, hs2, hbz2⟩
            case measure => simp [intOf]; omega
        · have hbt : b = true := by
            have h1 := hany.out
            rw [List.take_of_length_le (by omega), hHi.out] at h1
            exact h1.symm
          subst hbt
          clear hany
          go_wp2
          go_roundw
          case rel => exact ⟨k + 1, by omega, by go_num, hbj⟩
          case measure => simp [intOf]; omega
    · have HL5 := HL wr ((hr5'.out.below hb).more hb.size)
      clear HL hc6 hcm
      go_wp2_with fail
      refine HL5.mono ?_
      rintro e w6 ⟨v6, rfl, hI6, hb6⟩
      have hBr := hB5.trans (hb.mono hB5.size)
      have hB6 := hBr.trans (hb6.mono hBr.size)
      have h56 := hb.trans (hb6.mono hb.size)
      have HE := rsame8_any w6 _ _ _ _ ((hm5'.out.below h56).more h56.size) hI6
      rw [decide_eq_true rfl] at HE
      obtain ⟨A7, c7, rfl, -, -⟩ := hI6
      clear HL5 hb6 hB5 h56 hb hBr
      go_wp2_with fail
      refine HE.mono ?_
      rintro e w7 ⟨rfl, hb7⟩
      have hB7 := hB6.trans (hb7.mono hB6.size)
      clear HE hb7 hB6
      go_wp2_with fail
      refine (HK _).mono ?_
      rintro e w19 ⟨rfl, hb19⟩
      go_wp2
      go_ret
      exact ⟨rfl, hB7.trans (hb19.mono hB7.size)⟩
end Go.Proofs.Ytkkdfpmjmommcaa
