/- The statement SpecPoints, walked. -/
import Derived.Test.YtckmjampgeojbaaDoorJ13
import Derived.Test.YtckmjampgeojbaaDoorJ14
namespace Go.Proofs.YtckmjampgeojbaaDoor
open Go.RowKit Go.Joins

theorem all_append_one {α : Type} (p : α → Bool) (l : List α) (k : Nat) (x : α) (h : l[k]? = some x) : (l.take (k + 1)).all p = ((l.take k).all p && p x) := by
  have hk : k < l.length := (List.getElem?_eq_some_iff.1 h).1
  have : l[k] = x := (List.getElem?_eq_some_iff.1 h).2
  rw [List.take_succ_eq_append_getElem hk, List.all_append, this]
  simp
set_option maxHeartbeats 1000000 in
set_option maxRecDepth 100000 in
theorem specPoints_great (L : Value) (rs : List Rw) (n out : Int) (w : World) (hL : RwsAt w w.heap.size L rs) (hkw : KW w) (hg : 100 < rs.length) :
    Calls Tryd.prog 4 #[L, .int .i64 n, .int .i64 out] w fun e w' => e = .returned (.bool true) ∧ Below w.heap.size w w' := by
  have HK := knows4_any w hkw
  obtain ⟨A, c, rfl, hlen, -⟩ := hL
  have hg' : 100 < (rs.length : Int) := by omega
  clear hg hkw
  go_enter Tryd.func4, Tryd.ntmps4
  go_wp2_with fail
  refine HK.mono ?_
  rintro e w9 ⟨rfl, hb9⟩
  clear HK
  go_wp2
  go_ret
  exact ⟨rfl, hb9⟩
/-- What is refused: the way through the end. -/
theorem zero_words : sv 0 = .agg #[.int .u64 0, .int .u64 0, .int .u64 0, .int .u64 0] := by kernel_rfl
set_option maxHeartbeats 2000000 in
set_option maxRecDepth 100000 in
theorem specPoints_out (L : Value) (rs : List Rw) (n out : Int) (w : World) (hL : RwsAt w w.heap.size L rs) (hkw : KW w) (hg : rs.length ≤ 100) (h : n < 0 ∨ (0 ≤ n ∧ 8 < n) ∨ (0 ≤ n ∧ n ≤ 8 ∧ out < 0) ∨ (0 ≤ n ∧ n ≤ 8 ∧ 0 ≤ out ∧ 3 < out)) :
    Calls Tryd.prog 4 #[L, .int .i64 n, .int .i64 out] w fun e w' => e = .returned (.bool true) ∧ Below w.heap.size w w' := by
  have HP := spoints_bad L rs n out w hL (by unfold ptsBad; omega)
  rw [zero_words] at HP
  have E := eq4_refl 0 0 0 0
  obtain ⟨A, c, rfl, hlen, -⟩ := hL
  have hg' : ¬ 100 < (rs.length : Int) := by omega
  have hK : Hid (∀ W, Below w.heap.size w W → KW W) := Lib.hid (fun W hW => hkw.below hW)
  clear hg hkw
  rcases h with h | ⟨h1, h⟩ | ⟨h1, h2, h⟩ | ⟨h1, h2, h3, h⟩
  all_goals
    go_enter Tryd.func4, Tryd.ntmps4
    go_wp2_with fail
    refine HP.mono ?_
    rintro e w1 ⟨rfl, hb1⟩
    have hs2 := heap_alloc_new w1 (.cells #[.int .u64 0, .int .u64 0, .int .u64 0, .int .u64 0] 40 (0, 0))
    have hB2 := hb1.alloc hb1.size (.cells #[.int .u64 0, .int .u64 0, .int .u64 0, .int .u64 0] 40 (0, 0))
    clear HP hb1
    go_wp2
    go_loopw [9, 10] (fun b t wr => ∃ j : Nat, j ≤ rs.length ∧ t = .int .i64 j ∧ b = .bool false ∧ Below w.heap.size w wr ∧ wr.heap[w1.heap.size]? = some (.cells #[.int .u64 0, .int .u64 0, .int .u64 0, .int .u64 0] 40 (0, 0))) (fun _ t _ => rs.length - (intOf t).toNat)
    case atStart => exact ⟨0, by omega, rfl, by first | rfl | rw [decide_eq_false (by omega)], hB2, hs2⟩
    case round =>
      clear hB2 hs2
      obtain ⟨j, hj, rfl, rfl, hb, hs⟩ := hrel
      by_cases hlt : j < rs.length
      · go_wp2
        go_roundw
        case rel => exact ⟨j + 1, by omega, by go_num, rfl, hb, hs⟩
        case measure => simp [intOf]; omega
      · obtain ⟨s0, s1, s2, s3, -⟩ := now4 hs rfl
        have HK := knows4_any wr (hK.out wr hb)
        go_wp2_with fail
        refine HK.mono ?_
        rintro e w9 ⟨rfl, hb9⟩
        clear HK
        go_wp2
        go_ret
        exact ⟨rfl, hb.trans (hb9.mono hb.size)⟩
set_option maxHeartbeats 4000000 in
set_option maxRecDepth 100000 in
theorem specPoints_bad (L : Value) (rs : List Rw) (n out : Nat) (w : World) (hL : RwsAt w w.heap.size L rs) (hkw : KW w) (hg : rs.length ≤ 100) (hn : n ≤ 8) (ho : out < 4) (hall : (rs.all fun x => rightB x.m x.v n) = false) :
    Calls Tryd.prog 4 #[L, .int .i64 n, .int .i64 out] w fun e w' => e = .returned (.bool true) ∧ Below w.heap.size w w' := by
  have HP := spoints_bad L rs n out w hL (by unfold ptsBad; refine Or.inr (Or.inr (Or.inr (Or.inr ⟨by omega, by omega, by omega, by omega, hall⟩))))
  rw [zero_words] at HP
  have E := eq4_refl 0 0 0 0
  have hst := Lib.hid (fun (j : Nat) (x : Rw) (h : rs[j]? = some x) => all_append_one (fun x : Rw => rightB x.m x.v n) rs j x h)
  have hz : ((rs.take 0).all fun x => rightB x.m x.v n) = true := by simp
  have hend : Hid (((rs.take rs.length).all fun x => rightB x.m x.v n) = false) := Lib.hid (by rw [List.take_length]; exact hall)
  obtain ⟨A, c, rfl, hlen, hA⟩ := hL
  have hg' : ¬ 100 < (rs.length : Int) := by omega
  have hK : Hid (∀ W, Below w.heap.size w W → KW W) := Lib.hid (fun W hW => hkw.below hW)
  clear hg hkw hall
  go_enter Tryd.func4, Tryd.ntmps4
  go_wp2_with fail
  refine HP.mono ?_
  rintro e w1 ⟨rfl, hb1⟩
  have hs2 := heap_alloc_new w1 (.cells #[.int .u64 0, .int .u64 0, .int .u64 0, .int .u64 0] 40 (0, 0))
  have hB2 := hb1.alloc hb1.size (.cells #[.int .u64 0, .int .u64 0, .int .u64 0, .int .u64 0] 40 (0, 0))
  clear HP hb1
  go_wp2
  go_loopw [9, 10] (fun b t wr => ∃ j : Nat, j ≤ rs.length ∧ t = .int .i64 j ∧ (∃ q, b = .bool q ∧ Hid (((rs.take j).all fun x => rightB x.m x.v n) = q)) ∧ Below w.heap.size w wr ∧ wr.heap[w1.heap.size]? = some (.cells #[.int .u64 0, .int .u64 0, .int .u64 0, .int .u64 0] 40 (0, 0))) (fun _ t _ => rs.length - (intOf t).toNat)
  case atStart => exact ⟨0, by omega, rfl, ⟨true, by first | rfl | (simp; omega), Lib.hid hz⟩, hB2, hs2⟩
  case round =>
    clear hB2 hs2 hz
    obtain ⟨j, hj, rfl, ⟨q, rfl, hq⟩, hb, hs⟩ := hrel
    by_cases hlt : j < rs.length
    · obtain ⟨b, off, rfl, hBb, hc⟩ := hA (by omega)
      obtain ⟨x, hx⟩ : ∃ x, rs[j]? = some x := ⟨_, List.getElem?_eq_getElem hlt⟩
      obtain ⟨c0, c1, c2⟩ := hc j x hx
      have d0 := (hb.cell (p := ⟨b, off + j * 3, none⟩) hBb).trans c0
      have d1 := (hb.cell (p := ⟨b, off + j * 3 + 1, none⟩) hBb).trans c1
      have d2 := (hb.cell (p := ⟨b, off + j * 3 + 2, none⟩) hBb).trans c2
      have HR := fun w => rright_any x.m x.v n w
      have hsx := Lib.hid (hst.out j x hx)
      unfold cv bvv at *
      clear hc c0 c1 c2 hA hx hst hend
      cases q
      · have hnx : Hid (((rs.take (j + 1)).all fun x => rightB x.m x.v n) = false) := Lib.hid (by rw [hsx.out, hq.out]; rfl)
        go_wp2
        go_roundw
        case rel => exact ⟨j + 1, by omega, by go_num, ⟨false, rfl, hnx⟩, hb, hs⟩
        case measure => simp [intOf]; omega
      · have hnx : Hid (((rs.take (j + 1)).all fun x => rightB x.m x.v n) = rightB x.m x.v n) := Lib.hid (by rw [hsx.out, hq.out]; rfl)
        generalize rightB x.m x.v n = r at *
        go_wp2_with fail
        refine (HR _).mono ?_
        rintro e w4 ⟨rfl, hb4⟩
        have hB4 := hb.trans (hb4.mono hb.size)
        have hs4 := keep_blk hb4 hs
        clear HR hb4
        go_wp2
        go_roundw
        case rel => exact ⟨j + 1, by omega, by go_num, ⟨r, rfl, hnx⟩, hB4, hs4⟩
        case measure => simp [intOf]; omega
    · have e : j = rs.length := by omega
      have hqf : q = false := by rw [← hq.out, e]; exact hend.out
      subst hqf
      obtain ⟨s0, s1, s2, s3, -⟩ := now4 hs rfl
      have HK := knows4_any wr (hK.out wr hb)
      clear hA hst hend
      go_wp2_with fail
      refine HK.mono ?_
      rintro e w9 ⟨rfl, hb9⟩
      clear HK
      go_wp2
      go_ret
      exact ⟨rfl, hb.trans (hb9.mono hb.size)⟩
set_option maxHeartbeats 8000000 in
set_option maxRecDepth 100000 in
theorem specPoints_good (L : Value) (rs : List Rw) (n out : Nat) (w : World) (hL : RwsAt w w.heap.size L rs) (hkw : KW w) (hg : rs.length ≤ 100) (hn : n ≤ 8) (ho : out < 4) (hall : (rs.all fun x => rightB x.m x.v n) = true) :
    Calls Tryd.prog 4 #[L, .int .i64 n, .int .i64 out] w fun e w' => e = .returned (.bool true) ∧ Below w.heap.size w w' := by
  have HP := spoints_good L rs n out w hL hn ho hall
  have HA := fun w => all_any n hn w
  have hst := Lib.hid (fun (j : Nat) (x : Rw) (h : rs[j]? = some x) => all_append_one (fun x : Rw => rightB x.m x.v n) rs j x h)
  have hz : ((rs.take 0).all fun x => rightB x.m x.v n) = true := by simp
  have hend : Hid (((rs.take rs.length).all fun x => rightB x.m x.v n) = true) := Lib.hid (by rw [List.take_length]; exact hall)
  have hbit := Lib.hid (fun (p : Nat) => ptsR_bit rs n out p hn)
  have habit := Lib.hid (fun (p : Nat) => allB_low n p hn)
  have HCv := fun (p : Nat) (hp : p < 256) W (hW : Below w.heap.size w W) => covered_any L rs p out hp (by omega) W ((hL.below hW).more hW.size)
  obtain ⟨A, c, rfl, hlen, hA⟩ := hL
  have hg' : ¬ 100 < (rs.length : Int) := by omega
  have hK : Hid (∀ W, Below w.heap.size w W → KW W) := Lib.hid (fun W hW => hkw.below hW)
  generalize ptsR rs n out = S at *
  generalize allB n = T at *
  unfold sv wv at HP HA
  clear hg hkw hall
  go_enter Tryd.func4, Tryd.ntmps4
  go_wp2_with fail
  refine HP.mono ?_
  rintro e w1 ⟨rfl, hb1⟩
  have hs2 := heap_alloc_new w1 (.cells #[.int .u64 (wd S 0).toNat, .int .u64 (wd S 1).toNat, .int .u64 (wd S 2).toNat, .int .u64 (wd S 3).toNat] 40 (0, 0))
  have hB2 := hb1.alloc hb1.size (.cells #[.int .u64 (wd S 0).toNat, .int .u64 (wd S 1).toNat, .int .u64 (wd S 2).toNat, .int .u64 (wd S 3).toNat] 40 (0, 0))
  clear HP hb1
  go_wp2
  go_loopw [9, 10] (fun b t wr => ∃ j : Nat, j ≤ rs.length ∧ t = .int .i64 j ∧ (∃ q, b = .bool q ∧ Hid (((rs.take j).all fun x => rightB x.m x.v n) = q)) ∧ Below w.heap.size w wr ∧ wr.heap[w1.heap.size]? = some (.cells #[.int .u64 (wd S 0).toNat, .int .u64 (wd S 1).toNat, .int .u64 (wd S 2).toNat, .int .u64 (wd S 3).toNat] 40 (0, 0))) (fun _ t _ => rs.length - (intOf t).toNat)
  case atStart => exact ⟨0, by omega, rfl, ⟨true, by first | rfl | (simp; omega), Lib.hid hz⟩, hB2, hs2⟩
  case round =>
    clear hB2 hs2 hz
    obtain ⟨j, hj, rfl, ⟨q, rfl, hq⟩, hb, hs⟩ := hrel
    by_cases hlt : j < rs.length
    · obtain ⟨b, off, rfl, hBb, hc⟩ := hA (by omega)
      obtain ⟨x, hx⟩ : ∃ x, rs[j]? = some x := ⟨_, List.getElem?_eq_getElem hlt⟩
      obtain ⟨c0, c1, c2⟩ := hc j x hx
      have d0 := (hb.cell (p := ⟨b, off + j * 3, none⟩) hBb).trans c0
      have d1 := (hb.cell (p := ⟨b, off + j * 3 + 1, none⟩) hBb).trans c1
      have d2 := (hb.cell (p := ⟨b, off + j * 3 + 2, none⟩) hBb).trans c2
      have HR := fun w => rright_any x.m x.v n w
      have hsx := Lib.hid (hst.out j x hx)
      unfold cv bvv at *
      clear hc c0 c1 c2 hA hx hst hend
      cases q
      · have hnx : Hid (((rs.take (j + 1)).all fun x => rightB x.m x.v n) = false) := Lib.hid (by rw [hsx.out, hq.out]; rfl)
        go_wp2
        go_roundw
        case rel => exact ⟨j + 1, by omega, by go_num, ⟨false, rfl, hnx⟩, hb, hs⟩
        case measure => simp [intOf]; omega
      · have hnx : Hid (((rs.take (j + 1)).all fun x => rightB x.m x.v n) = rightB x.m x.v n) := Lib.hid (by rw [hsx.out, hq.out]; rfl)
        generalize rightB x.m x.v n = r at *
        go_wp2_with fail
        refine (HR _).mono ?_
        rintro e w4 ⟨rfl, hb4⟩
        have hB4 := hb.trans (hb4.mono hb.size)
        have hs4 := keep_blk hb4 hs
        clear HR hb4
        go_wp2
        go_roundw
        case rel => exact ⟨j + 1, by omega, by go_num, ⟨r, rfl, hnx⟩, hB4, hs4⟩
        case measure => simp [intOf]; omega
    · have e : j = rs.length := by omega
      have hqt : q = true := by rw [← hq.out, e]; exact hend.out
      subst hqt
      clear hA hst hend hq e
      go_wp2_with fail
      refine (HA _).mono ?_
      rintro e w3 ⟨rfl, hb3⟩
      have hs3 := keep_blk hb3 hs
      have hB3 := hb.trans (hb3.mono hb.size)
      have hs4 := keep_alloc (x := .cells #[.int .u64 (wd T 0).toNat, .int .u64 (wd T 1).toNat, .int .u64 (wd T 2).toNat, .int .u64 (wd T 3).toNat] 40 (0, 0)) hs3
      have ha4 := heap_alloc_new w3 (.cells #[.int .u64 (wd T 0).toNat, .int .u64 (wd T 1).toNat, .int .u64 (wd T 2).toNat, .int .u64 (wd T 3).toNat] 40 (0, 0))
      have hB4 := hB3.alloc hB3.size (.cells #[.int .u64 (wd T 0).toNat, .int .u64 (wd T 1).toNat, .int .u64 (wd T 2).toNat, .int .u64 (wd T 3).toNat] 40 (0, 0))
      clear HA hb3 hs3 hB3 hs hb hj
      go_wp2
      clear hlt
      generalize w1.heap.size = bs at *
      generalize w3.heap.size = ba at *
      go_loopw [13] (fun t wr => ∃ p : Nat, p ≤ 256 ∧ t = .int .i64 p ∧ Below w.heap.size w wr ∧ wr.heap[bs]? = some (.cells #[.int .u64 (wd S 0).toNat, .int .u64 (wd S 1).toNat, .int .u64 (wd S 2).toNat, .int .u64 (wd S 3).toNat] 40 (0, 0)) ∧ wr.heap[ba]? = some (.cells #[.int .u64 (wd T 0).toNat, .int .u64 (wd T 1).toNat, .int .u64 (wd T 2).toNat, .int .u64 (wd T 3).toNat] 40 (0, 0))) (fun t _ => 256 - (intOf t).toNat)
      case atStart => exact ⟨0, by omega, rfl, hB4, hs4, ha4⟩
      case round =>
        clear hB4 hs4 ha4
        obtain ⟨p, hp, rfl, hb, hs, ha⟩ := hrel
        by_cases hpl : p < 256
        · have HS := fun w => has_any S p hpl w
          have HT := fun w => has_any T p hpl w
          have HC := fun x : After wr => HCv p hpl x.1 (hb.trans (x.2.mono hb.size))
          have b1 := hbit.out p
          have b2 := habit.out p
          rw [b1] at HS
          rw [b2] at HT
          unfold sv wv at HS HT
          obtain ⟨S0, S1, S2, S3, -⟩ := box4 hs rfl
          obtain ⟨T0, T1, T2, T3, -⟩ := box4 ha rfl
          generalize covB rs p out = cv at *
          clear b1 b2
          cases hd : decide (p < 2 ^ n)
          · rw [hd] at HT HS
            rw [Bool.false_and] at HS
            clear hd
            go_upto_region 15 with (fail)
            refine wp_region_after (by kernel_rfl) (by kernel_rfl) ?_
            repeat (first | go_big_quiet_step ((first | (go_at_call_of 15 (Value.agg #[.int .u64 (wd S 0).toNat, .int .u64 (wd S 1).toNat, .int .u64 (wd S 2).toNat, .int .u64 (wd S 3).toNat]); exact Calls.after_of (HS _)) | (go_at_call_of 15 (Value.agg #[.int .u64 (wd T 0).toNat, .int .u64 (wd T 1).toNat, .int .u64 (wd T 2).toNat, .int .u64 (wd T 3).toNat]); exact Calls.after_of (HT _)) | (go_at_call 16; exact Calls.after_of (HC _)))))
            refine wpQuiet_nil ?_
            intro x
            clear S0 S1 S2 S3 T0 T1 T2 T3 HS HT HC
            go_wp2
            go_roundw
            case rel => exact ⟨p + 1, by omega, by go_num, hb.trans (x.2.mono hb.size), x.same hs, x.same ha⟩
            case measure => simp [intOf]; omega
          · rw [hd] at HT HS
            rw [Bool.true_and] at HS
            clear hd
            cases cv
            · skip
              go_upto_region 15 with (fail)
              refine wp_region_after (by kernel_rfl) (by kernel_rfl) ?_
              repeat (first | go_big_quiet_step ((first | (go_at_call_of 15 (Value.agg #[.int .u64 (wd S 0).toNat, .int .u64 (wd S 1).toNat, .int .u64 (wd S 2).toNat, .int .u64 (wd S 3).toNat]); exact Calls.after_of (HS _)) | (go_at_call_of 15 (Value.agg #[.int .u64 (wd T 0).toNat, .int .u64 (wd T 1).toNat, .int .u64 (wd T 2).toNat, .int .u64 (wd T 3).toNat]); exact Calls.after_of (HT _)) | (go_at_call 16; exact Calls.after_of (HC _)))))
              refine wpQuiet_nil ?_
              intro x
              clear S0 S1 S2 S3 T0 T1 T2 T3 HS HT HC
              go_wp2
              go_roundw
              case rel => exact ⟨p + 1, by omega, by go_num, hb.trans (x.2.mono hb.size), x.same hs, x.same ha⟩
              case measure => simp [intOf]; omega
            · skip
              go_upto_region 15 with (fail)
              refine wp_region_after (by kernel_rfl) (by kernel_rfl) ?_
              repeat (first | go_big_quiet_step ((first | (go_at_call_of 15 (Value.agg #[.int .u64 (wd S 0).toNat, .int .u64 (wd S 1).toNat, .int .u64 (wd S 2).toNat, .int .u64 (wd S 3).toNat]); exact Calls.after_of (HS _)) | (go_at_call_of 15 (Value.agg #[.int .u64 (wd T 0).toNat, .int .u64 (wd T 1).toNat, .int .u64 (wd T 2).toNat, .int .u64 (wd T 3).toNat]); exact Calls.after_of (HT _)) | (go_at_call 16; exact Calls.after_of (HC _)))))
              refine wpQuiet_nil ?_
              intro x
              clear S0 S1 S2 S3 T0 T1 T2 T3 HS HT HC
              go_wp2
              go_roundw
              case rel => exact ⟨p + 1, by omega, by go_num, hb.trans (x.2.mono hb.size), x.same hs, x.same ha⟩
              case measure => simp [intOf]; omega
        · have HK := knows4_any wr (hK.out wr hb)
          go_wp2_with fail
          refine HK.mono ?_
          rintro e w9 ⟨rfl, hb9⟩
          clear HK
          go_wp2
          go_ret
          exact ⟨rfl, hb.trans (hb9.mono hb.size)⟩
theorem specPoints_any (L : Value) (rs : List Rw) (n out : Int) (w : World) (hL : RwsAt w w.heap.size L rs) (hkw : KW w) :
    Calls Tryd.prog 4 #[L, .int .i64 n, .int .i64 out] w fun e w' => e = .returned (.bool true) ∧ Below w.heap.size w w' := by
  by_cases hg : 100 < rs.length
  · exact specPoints_great L rs n out w hL hkw hg
  · by_cases h : n < 0 ∨ (0 ≤ n ∧ 8 < n) ∨ (0 ≤ n ∧ n ≤ 8 ∧ out < 0) ∨ (0 ≤ n ∧ n ≤ 8 ∧ 0 ≤ out ∧ 3 < out)
    · exact specPoints_out L rs n out w hL hkw (by omega) h
    · obtain ⟨N, rfl⟩ := Int.eq_ofNat_of_zero_le (show 0 ≤ n by omega)
      obtain ⟨O, rfl⟩ := Int.eq_ofNat_of_zero_le (show 0 ≤ out by omega)
      cases hall : (rs.all fun x => rightB x.m x.v N)
      · exact specPoints_bad L rs N O w hL hkw (by omega) (by omega) (by omega) hall
      · exact specPoints_good L rs N O w hL hkw (by omega) (by omega) (by omega) hall
end Go.Proofs.YtckmjampgeojbaaDoor
