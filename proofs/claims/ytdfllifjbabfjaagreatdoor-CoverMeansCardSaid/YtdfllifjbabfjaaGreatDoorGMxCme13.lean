/- CoverMeans, over what the package answers. -/
import Derived.Test.YtdfllifjbabfjaaGreatDoorGM34
import Derived.Test.YtdfllifjbabfjaaGreatDoorGM27
import Derived.Test.YtdfllifjbabfjaaGreatDoorGM36
import Derived.Test.YtdfllifjbabfjaaGreatDoorGM35
import Derived.Test.YtdfllifjbabfjaaGreatDoorGM28
import Derived.Test.YtdfllifjbabfjaaGreatDoorGM37
import Derived.Maps.AppendAt
namespace Go.Proofs.YtdfllifjbabfjaaGreatDoor
open Go.RowKit Go.Joins

theorem own_blk13 {w : World} {B size n : Nat} {e : TypeId} {v : Value} {xs : List Value} (h : w.ownsRow B e size v n xs) {g : Nat} (hg : v.ownBlock = some g) : ∃ cu, w.heap[g]? = some (.cells cu e (0, 0)) := by
  rcases h.2 with ⟨rfl, -⟩ | ⟨g', cap, cur, rfl, -, hb, -⟩
  · cases hg
  · injection hg with hg
    subst hg
    exact ⟨cur, hb⟩
/-- A row of one type stays while one of another type grows. -/
theorem own_kept13 {w w' : World} {B B' size size' n n' : Nat} {e e' : TypeId} {v v' : Value} {xs xs' : List Value} (h : w.ownsRow B e size v n xs) (h' : w.ownsRow B' e' size' v' n' xs') (he : e ≠ e') (hg : w.grownBy w' v'.ownBlock) : w'.ownsRow B e size v n xs := by
  refine h.kept hg ?_
  cases hv : v.ownBlock with
  | none => exact .inl rfl
  | some g =>
    refine .inr fun q => ?_
    obtain ⟨cu, h1⟩ := own_blk13 h hv
    obtain ⟨cu', h2⟩ := own_blk13 h' q.symm
    rw [h1] at h2
    injection h2 with h2
    injection h2 with _ h2 _
    exact he h2
set_option maxHeartbeats 4000000 in
set_option maxRecDepth 100000 in
theorem means13_great (HK : Knows13) (i : Int) (A C L Fv : Value) (on may : List (BitVec 256)) (rs : List Rw) (fl : List Bool) (w : World) (hT : TabW w) (hA : SetsAt w w.heap.size A on) (hC : SetsAt w w.heap.size C may) (hL : RwsAt w w.heap.size L rs) (hF : BolsAt w w.heap.size Fv fl) (hg : great13 on may rs = true) :
    Calls Tryz.prog 4 #[spv i A C, L, Fv] w fun e w' => e = .returned (.bool true) ∧ Below w.heap.size w w' := by
  have hB0 := below_alloc1 w (spb i A C)
  have hbx : (w.alloc (spb i A C)).heap[w.heap.size]? = some (spb i A C) := heap_alloc_new _ _
  have HSp := fun W (hb : Below w.heap.size w W) => rspec_any i A C on may W ((hA.below hb).more hb.size) ((hC.below hb).more hb.size)
  obtain ⟨A1, c1, rfl, -, -⟩ := id hA
  obtain ⟨A2, c2, rfl, -, -⟩ := id hC
  obtain ⟨A3, c3, rfl, hlen3, -⟩ := id hL
  obtain ⟨A4, c4, rfl, hlen4, -⟩ := id hF
  have CG := greats13_any i A1 A2 A3 c1 c2 c3 on may rs
  rw [hg] at CG
  unfold spb at hB0 hbx
  unfold spv at *
  obtain ⟨u0, u1, u2, -⟩ := now3 hbx rfl
  go_enter Tryz.func4, Tryz.ntmps4
  go_wp2_with fail
  refine (CG _).mono ?_
  rintro e w1 ⟨rfl, hb⟩
  have hB1 := hB0.trans (hb.mono hB0.size)
  have hbx1 := keep_blk hb hbx
  clear u0 u1 u2 hb CG hB0 hbx
  obtain ⟨u0, u1, u2, -⟩ := now3 hbx1 rfl
  clear HSp
  go_wp2_with fail
  refine (HK _ (hT.below (by assumption))).mono ?_
  rintro e wk ⟨rfl, hb⟩
  have hBk := hB1.trans (hb.mono hB1.size)
  clear HK hb
  go_wp2
  go_ret
  exact ⟨rfl, hBk⟩
set_option maxHeartbeats 4000000 in
set_option maxRecDepth 100000 in
theorem means13_wrong (HK : Knows13) (i : Int) (A C L Fv : Value) (on may : List (BitVec 256)) (rs : List Rw) (fl : List Bool) (w : World) (hT : TabW w) (hA : SetsAt w w.heap.size A on) (hC : SetsAt w w.heap.size C may) (hL : RwsAt w w.heap.size L rs) (hF : BolsAt w w.heap.size Fv fl) (hg : great13 on may rs = false) (hs : spB ⟨i, on, may⟩ = false) :
    Calls Tryz.prog 4 #[spv i A C, L, Fv] w fun e w' => e = .returned (.bool true) ∧ Below w.heap.size w w' := by
  have hB0 := below_alloc1 w (spb i A C)
  have hbx : (w.alloc (spb i A C)).heap[w.heap.size]? = some (spb i A C) := heap_alloc_new _ _
  have HSp := fun W (hb : Below w.heap.size w W) => rspec_any i A C on may W ((hA.below hb).more hb.size) ((hC.below hb).more hb.size)
  obtain ⟨A1, c1, rfl, -, -⟩ := id hA
  obtain ⟨A2, c2, rfl, -, -⟩ := id hC
  obtain ⟨A3, c3, rfl, hlen3, -⟩ := id hL
  obtain ⟨A4, c4, rfl, hlen4, -⟩ := id hF
  have CG := greats13_any i A1 A2 A3 c1 c2 c3 on may rs
  rw [hg] at CG
  rw [hs] at HSp
  unfold spb at hB0 hbx
  unfold spv at *
  obtain ⟨u0, u1, u2, -⟩ := now3 hbx rfl
  go_enter Tryz.func4, Tryz.ntmps4
  go_wp2_with fail
  refine (CG _).mono ?_
  rintro e w1 ⟨rfl, hb⟩
  have hB1 := hB0.trans (hb.mono hB0.size)
  have hbx1 := keep_blk hb hbx
  clear u0 u1 u2 hb CG hB0 hbx
  obtain ⟨u0, u1, u2, -⟩ := now3 hbx1 rfl
  have D1 := HSp _ hB1
  go_wp2_with fail
  refine D1.mono ?_
  rintro e w2 ⟨rfl, hb⟩
  have hB2 := hB1.trans (hb.mono hB1.size)
  have hbx2 := keep_blk hb hbx1
  clear u0 u1 u2 hb D1 HSp hB1 hbx1
  go_wp2_with fail
  refine (HK _ (hT.below (by assumption))).mono ?_
  rintro e wk ⟨rfl, hb⟩
  have hBk := hB2.trans (hb.mono hB2.size)
  clear HK hb
  go_wp2
  go_ret
  exact ⟨rfl, hBk⟩
set_option maxHeartbeats 16000000 in
set_option maxRecDepth 100000 in
theorem means13_good (HM : MakeGood) (HS : SolvesV) (HK : Knows13) (i : Nat) (A C L Fv : Value) (on may : List (BitVec 256)) (rs : List Rw) (fl : List Bool) (w : World) (hT : TabW w) (hA : SetsAt w w.heap.size A on) (hC : SetsAt w w.heap.size C may) (hL : RwsAt w w.heap.size L rs) (hF : BolsAt w w.heap.size Fv fl) (hg : great13 on may rs = false) (hs : spB ⟨i, on, may⟩ = true) :
    Calls Tryz.prog 4 #[spv i A C, L, Fv] w fun e w' => e = .returned (.bool true) ∧ Below w.heap.size w w' := by
  have hB0 := below_alloc1 w (spb i A C)
  have hbx : (w.alloc (spb i A C)).heap[w.heap.size]? = some (spb i A C) := heap_alloc_new _ _
  have HSp := fun W (hb : Below w.heap.size w W) => rspec_any i A C on may W ((hA.below hb).more hb.size) ((hC.below hb).more hb.size)
  have hh := (headS_iff _).1 (Bool.and_eq_true_iff.1 (show (headS ⟨(i : Int), on, may⟩ && _) = true from hs)).1
  have hm8 : may.length ≤ 8 := by have := hh.2; simp only at this; omega
  clear hh
  have h60 : rs.length ≤ 60 := by unfold great13 at hg; simp at hg; omega
  have HIn := fun (x : Rw) W (hb : Below w.heap.size w W) => rin10_any i A C on may x W ((hA.below hb).more hb.size) ((hC.below hb).more hb.size) hm8
  have HMk := fun W (hb : Below w.heap.size w W) he => HM i A C L on may rs W ((hA.below hb).more hb.size) ((hC.below hb).more hb.size) ((hL.below hb).more hb.size) he (hT.below hb)
  obtain ⟨A1, c1, rfl, -, -⟩ := id hA
  obtain ⟨A2, c2, rfl, -, -⟩ := id hC
  obtain ⟨A3, c3, rfl, hlen3, -⟩ := id hL
  obtain ⟨A4, c4, rfl, hlen4, -⟩ := id hF
  have CG := greats13_any i A1 A2 A3 c1 c2 c3 on may rs
  rw [hg] at CG
  rw [hs] at HSp
  have hsH := Lib.hid hs
  clear hs hg
  unfold spb at hB0 hbx
  unfold spv at *
  obtain ⟨u0, u1, u2, -⟩ := now3 hbx rfl
  go_enter Tryz.func4, Tryz.ntmps4
  go_wp2_with fail
  refine (CG _).mono ?_
  rintro e w1 ⟨rfl, hb⟩
  have hB1 := hB0.trans (hb.mono hB0.size)
  have hbx1 := keep_blk hb hbx
  clear u0 u1 u2 hb CG hB0 hbx
  obtain ⟨u0, u1, u2, -⟩ := now3 hbx1 rfl
  have D1 := HSp _ hB1
  go_wp2_with fail
  refine D1.mono ?_
  rintro e w2 ⟨rfl, hb⟩
  have hB2 := hB1.trans (hb.mono hB1.size)
  have hbx2 := keep_blk hb hbx1
  clear u0 u1 u2 hb D1 HSp hB1 hbx1
  unfold rwv at HIn
  obtain ⟨u0, u1, u2, -⟩ := now3 hbx2 rfl
  go_wp2
  clear u0 u1 u2
  go_loopw [7] (fun t wr => ∃ k : Nat, k ≤ rs.length ∧ t = .int .i64 k ∧ Hid (∀ (j : Nat) (x : Rw), j < k → rs[j]? = some x → rowIn ⟨i, on, may⟩ x = true) ∧ Below w.heap.size w wr ∧ wr.heap[w.heap.size]? = some (.cells #[.int .i64 i, .slice A1 on.length c1, .slice A2 may.length c2] 24 (0, 0))) (fun t _ => rs.length - (intOf t).toNat)
  case atStart => exact ⟨0, by omega, rfl, Lib.hid (fun j x h => absurd h (Nat.not_lt_zero _)), hB2, hbx2⟩
  case round =>
    clear hB2 hbx2
    obtain ⟨k, hk, rfl, hall, hb, hbx⟩ := hrel
    by_cases hlt : k < rs.length
    · obtain ⟨b, off, hAe, hBb, hc⟩ : ∃ b off, A3 = some ⟨b, off, none⟩ ∧ b < w.heap.size ∧ _ := by
        obtain ⟨Ax, cx, hLe, -, hLc⟩ := id hL
        injection hLe with q1 _ q2
        subst q1
        exact hLc (by omega)
      subst hAe
      obtain ⟨x, hx⟩ : ∃ x, rs[k]? = some x := ⟨_, List.getElem?_eq_getElem hlt⟩
      obtain ⟨z0, z1, z2⟩ := hc k x hx
      have q0 := fun X : After wr => After.cell X ((hb.cell (p := ⟨b, off + k * 3, none⟩) hBb).trans z0)
      have q1 := fun X : After wr => After.cell X ((hb.cell (p := ⟨b, off + k * 3 + 1, none⟩) hBb).trans z1)
      have q2 := fun X : After wr => After.cell X ((hb.cell (p := ⟨b, off + k * 3 + 2, none⟩) hBb).trans z2)
      obtain ⟨u0, u1, u2, -⟩ := box3 hbx rfl
      have HW := fun X : After wr => HIn x X.1 (hb.trans (X.2.mono hb.size))
      have b1 : (0 : Int) ≤ (k : Int) := by omega
      have b2 : (k : Int) < (rs.length : Int) := by omega
      have hxH := Lib.hid hx
      have hall2 : Hid (rowIn ⟨i, on, may⟩ x = true → ∀ (j : Nat) (y : Rw), j < k + 1 → rs[j]? = some y → rowIn ⟨i, on, may⟩ y = true) := Lib.hid (fun hi j y hj hy => by
        by_cases e : j = k
        · subst e
          rw [hxH.out] at hy
          injection hy with hy
          rw [← hy]; exact hi
        · exact hall.out j y (by omega) hy)
      clear hc z0 z1 z2 hx HMk HS HM hall
      cases hin : rowIn ⟨i, on, may⟩ x
      · clear hall2 hxH
        rw [hin] at HW
        clear hin
        go_upto_region 6 with (fail)
        refine wp_region_after (by kernel_rfl) (by kernel_rfl) ?_
        repeat (first | go_big_quiet_step ((go_at_call 13; exact Calls.after_of (HW _))))
        refine wpQuiet_nil ?_
        intro z
        have hbz := hb.trans (z.2.mono hb.size)
        clear q0 q1 q2 u0 u1 u2 HW HIn
        go_wp2_with fail
        refine (HK _ (hT.below (by assumption))).mono ?_
        rintro e wk ⟨rfl, hb⟩
        have hBk := hbz.trans (hb.mono hbz.size)
        clear HK hb
        go_wp2
        go_ret
        exact ⟨rfl, hBk⟩
      · have hal3 := Lib.hid (hall2.out hin)
        clear hall2 hxH
        rw [hin] at HW
        clear hin
        go_upto_region 6 with (fail)
        refine wp_region_after (by kernel_rfl) (by kernel_rfl) ?_
        repeat (first | go_big_quiet_step ((go_at_call 13; exact Calls.after_of (HW _))))
        refine wpQuiet_nil ?_
        intro z
        have hbz := hb.trans (z.2.mono hb.size)
        have hbx3 := z.same hbx
        clear q0 q1 q2 u0 u1 u2 HW HIn
        go_wp2
        go_roundw
        case rel => exact ⟨k + 1, by omega, by go_num, hal3, hbz, hbx3⟩
        case measure => simp [intOf]; omega
    · have ek : k = rs.length := by omega
      have hkd : decide ((k : Int) < (rs.length : Int)) = false := decide_eq_false (by omega)
      have hinH : Hid (∀ (j : Nat) (x : Rw), rs[j]? = some x → rowIn ⟨i, on, may⟩ x = true) := Lib.hid (fun j x hx => hall.out j x (by rw [ek]; exact (List.getElem?_eq_some_iff.1 hx).1) hx)
      have D2 := HMk wr hb (means_may hsH.out hinH.out h60)
      clear HMk HIn ek hall
      obtain ⟨u0, u1, u2, -⟩ := now3 hbx rfl
      go_wp2_with fail
      refine D2.mono ?_
      rintro e w3 ⟨v, K, rfl, hM, hpw, hmem, hb3⟩
      have hmeH := Lib.hid (means_eq (fl := fl) hsH.out hinH.out hmem)
      have hrtH := Lib.hid (made_right hmem (by omega))
      have hB3 := hb.trans (hb3.mono hb.size)
      have hB4 := hB3.alloc hB3.size (.cells #[.int .i64 rs.length, v] 30 (0, 0))
      have hMx := (hM.below (below_alloc1 w3 (.cells #[.int .i64 rs.length, v] 30 (0, 0)))).more (below_alloc1 w3 (.cells #[.int .i64 rs.length, v] 30 (0, 0))).size
      have hbxw := keep_alloc (x := .cells #[.int .i64 rs.length, v] 30 (0, 0)) (keep_blk hb3 hbx)
      have hbm := heap_alloc_new w3 (.cells #[.int .i64 rs.length, v] 30 (0, 0))
      obtain ⟨AK, cK, rfl, -, -⟩ := id hM
      clear hM hpw hmem hb3 hB3 hbx D2 hinH hb u0 u1 u2
      go_upto_region 9 with (fail)
      generalize w3.alloc _ = w4 at *
      generalize w3.heap.size = mb at *
      have hAx := (hA.below hB4).more hB4.size
      have hCx := (hC.below hB4).more hB4.size
      have hLx := (hL.below hB4).more hB4.size
      have hFx := (hF.below hB4).more hB4.size
      clear hA hC hL hF hkd hlt hk
      obtain ⟨i0, hi0, hz0, hz1, hz2⟩ := info_parts Tryz.infoInt
      obtain ⟨j0, hj0, jz0, jz1, jz2⟩ := info_parts Tryz.infoRow10
      have hBw := hB4
      clear hB4
      go_wp2
      go_loopw [10, 11, 12] (fun V1 V2 t wr => ∃ (k : Nat) (R : List Rw) (N : List Nat), k ≤ rs.length ∧ t = .int .i64 k ∧ Hid (R = chsRk rs fl k) ∧ Hid (N = chsN fl k) ∧ wr.ownsRow w4.heap.size 44 3 V1 R.length (rzV R) ∧ wr.ownsRow w4.heap.size 3 1 V2 N.length (intI (N.map fun q : Nat => (q : Int))) ∧ Below w4.heap.size w4 wr) (fun _ _ t _ => rs.length - (intOf t).toNat)
      case atStart => exact ⟨0, [], [], by omega, rfl, Lib.hid rfl, Lib.hid rfl, World.ownsRow_nil _ _ _ _, World.ownsRow_nil _ _ _ _, Below.refl _ _⟩
      case round =>
        obtain ⟨k, R, N, hk, rfl, hR, hN, hr, hn, hb⟩ := hrel
        obtain ⟨Ar, cr, rfl⟩ := own_form hr
        obtain ⟨An, cn, rfl⟩ := own_form hn
        have hbs := hb.size
        by_cases h1 : k < rs.length
        · have hd1 : decide ((k : Int) < (rs.length : Int)) = true := decide_eq_true (by omega)
          by_cases h2 : k < fl.length
          · have hd2 : decide ((k : Int) < (fl.length : Int)) = true := decide_eq_true (by omega)
            obtain ⟨b, off, hAe, hBb, hc⟩ : ∃ b off, A3 = some ⟨b, off, none⟩ ∧ b < w4.heap.size ∧ _ := by
              obtain ⟨Ax, cx, hLe, -, hLc⟩ := id hLx
              injection hLe with q1 _ q2
              subst q1
              exact hLc (by omega)
            subst hAe
            obtain ⟨d, off2, hAe, hBd, hcf⟩ : ∃ b off, A4 = some ⟨b, off, none⟩ ∧ b < w4.heap.size ∧ _ := by
              obtain ⟨Ax, cx, hLe, -, hLc⟩ := id hFx
              injection hLe with q1 _ q2
              subst q1
              exact hLc (by omega)
            subst hAe
            obtain ⟨x, hx⟩ : ∃ x, rs[k]? = some x := ⟨_, List.getElem?_eq_getElem h1⟩
            obtain ⟨z0, z1, z2⟩ := hc k x hx
            obtain ⟨f, hf⟩ : ∃ f, fl[k]? = some f := ⟨_, List.getElem?_eq_getElem h2⟩
            have y0 := (hb.cell (p := ⟨d, off2 + k, none⟩) hBd).trans (hcf k f hf)
            have q0 := (hb.cell (p := ⟨b, off + k * 3, none⟩) hBb).trans z0
            have q1 := (hb.cell (p := ⟨b, off + k * 3 + 1, none⟩) hBb).trans z1
            have q2 := (hb.cell (p := ⟨b, off + k * 3 + 2, none⟩) hBb).trans z2
            have hRl : R.length ≤ k := by rw [hR.out]; exact chsR_len rs fl k
            have hNl : N.length ≤ k := by rw [hN.out]; exact chsN_len fl k
            have hfg : Hid (fl.getD k false = f) := Lib.hid (by simp [List.getD, hf])
            have hxH := Lib.hid hx
            clear hc hcf z0 z1 z2 hx hf hMx hAx hCx hLx hFx hbxw hbm HS HK hrtH hmeH hsH hBw
            cases f
            · have hR2 : Hid (R = chsRk rs fl (k + 1)) := Lib.hid (by rw [hR.out, chsR_no hfg.out])
              have hN2 : Hid (N = chsN fl (k + 1)) := Lib.hid (by rw [hN.out, chs_succ, hfg.out]; rfl)
              clear hR hN hfg hxH q0 q1 q2
              go_wp2
              go_roundw
              case rel => exact ⟨k + 1, R, N, by omega, by go_num, hR2, hN2, hr, hn, hb⟩
              case measure => simp [intOf]; omega
            · have hR2 : Hid (R ++ [x] = chsRk rs fl (k + 1)) := Lib.hid (by rw [hR.out, chsR_yes hxH.out hfg.out])
              have hN2 : Hid (N ++ [k] = chsN fl (k + 1)) := Lib.hid (by rw [hN.out, chs_succ, if_pos hfg.out])
              clear hR hN hfg hxH
              obtain ⟨xm, xv, xo⟩ := x
              unfold bvv at q0 q1 q2
              simp only at q0 q1 q2
              have hra := hr.alloc (.cells #[.int .u8 xm.toNat, .int .u8 xv.toNat, .int .u8 xo.toNat] 44 (0, 0))
              have hna := hn.alloc (.cells #[.int .u8 xm.toNat, .int .u8 xv.toNat, .int .u8 xo.toNat] 44 (0, 0))
              have hba := hb.alloc hbs (.cells #[.int .u8 xm.toNat, .int .u8 xv.toNat, .int .u8 xo.toNat] 44 (0, 0))
              go_wp2_with (at_builtin; refine wpList_append_own_at _ rfl _ _ 25 rfl w4.heap.size 44 j0 (.agg #[.int .u8 0, .int .u8 0, .int .u8 0]) 3 3 Tryz.underlying25 hj0 jz0 jz1 jz2 rfl (by decide) _ _ _ rfl hra ⟨wr.heap.size, 0, none⟩ 1 1 [.int .u8 xm.toNat, .int .u8 xv.toNat, .int .u8 xo.toNat] rfl rfl (World.news_of_block (cs := #[.int .u8 xm.toNat, .int .u8 xv.toNat, .int .u8 xo.toNat]) (t := 44) (fr := (0, 0)) (heap_alloc_new wr _)) (fun u hu => by simp at hu; rcases hu with rfl | rfl | rfl <;> rfl) ?c3 ?c4 ?c5 ?_)
              case c3 => unfold maxLen; omega
              case c4 => omega
              case c5 => first | omega | (simp; omega)
              intro V3 w8 ho8 hg8 _ _
              have hB8 := grown_below hra hg8 hba (Nat.le_refl _) (by simp; omega)
              have hn8 := own_kept13 hna hra (by decide) hg8
              have ho9 : w8.ownsRow w4.heap.size 44 3 V3 (R ++ [(⟨xm, xv, xo⟩ : Rw)]).length (rzV (R ++ [(⟨xm, xv, xo⟩ : Rw)])) := by
                rw [rzV_snoc, List.length_append]
                exact ho8
              obtain ⟨A8, c8, rfl⟩ := own_form ho8
              have hbs8 := hB8.size
              clear hra hna hba hg8 ho8 hr hn hb q0 q1 q2 y0
              have hoa := ho9.alloc (.cells #[.int .i64 k] 3 (0, 0))
              have hna := hn8.alloc (.cells #[.int .i64 k] 3 (0, 0))
              have hba := hB8.alloc hbs8 (.cells #[.int .i64 k] 3 (0, 0))
              go_wp2_with (at_builtin; refine wpList_append_own_at _ rfl _ _ 45 rfl w4.heap.size 3 i0 (.int .i64 0) 1 8 Tryz.underlying45 hi0 hz0 hz1 hz2 rfl (by decide) _ _ _ rfl hna ⟨w8.heap.size, 0, none⟩ 1 1 [.int .i64 (k : Int)] rfl rfl one_new13 (fun u hu => by rw [List.mem_singleton.1 hu]; rfl) ?c3 ?c4 ?c5 ?_)
              case c3 => unfold maxLen; omega
              case c4 => omega
              case c5 => first | omega | (simp; omega)
              intro V4 w9 hp9 hg9 _ _
              have hB9 := grown_below hna hg9 hba (Nat.le_refl _) (by simp; omega)
              have hr9 := own_kept13 hoa hna (by decide) hg9
              have hn9 : w9.ownsRow w4.heap.size 3 1 V4 (N ++ [k]).length (intI ((N ++ [k]).map fun q : Nat => (q : Int))) := by
                have e : intI ((N ++ [k]).map fun q : Nat => (q : Int)) = intI (N.map fun q : Nat => (q : Int)) ++ [.int .i64 (k : Int)] := by unfold intI; rw [List.map_append, List.map_append]; rfl
                rw [e, List.length_append]
                exact hp9
              clear hoa hna hba hg9 hp9 hn8 ho9 hB8
              go_wp2
              go_roundw
              case rel => exact ⟨k + 1, R ++ [⟨xm, xv, xo⟩], N ++ [k], by omega, by go_num, hR2, hN2, hr9, hn9, hB9⟩
              case measure => simp [intOf]; omega
          · have hd2 : decide ((k : Int) < (fl.length : Int)) = false := decide_eq_false (by omega)
            have hk9 : Hid (chsRk rs fl k = chsR rs fl ∧ chsN fl k = chsN fl rs.length) := Lib.hid (by
              have q := chs_end (fl := fl) hk (.inr (by omega))
              exact ⟨by unfold chsRk chsR; rw [q], q.symm⟩)
            have hr9 : wr.ownsRow w4.heap.size 44 3 (.slice Ar R.length cr) (chsR rs fl).length (rzV (chsR rs fl)) := by rw [← hk9.out.1, ← hR.out]; exact hr
            have hn9 : wr.ownsRow w4.heap.size 3 1 (.slice An N.length cn) ((chsN fl rs.length).map fun q : Nat => (q : Int)).length (intI ((chsN fl rs.length).map fun q : Nat => (q : Int))) := by rw [← hk9.out.2, ← hN.out, List.length_map]; exact hn
            clear hr hn hR hN hk9 hFx hLx hlen3 hlen4 i0 hi0 hz0 hz1 hz2 j0 hj0 jz0 jz1 jz2
            have hrow9 := own_rz hr9
            have hcol9 := own_intI hn9
            have S1 := fun X : After wr => HS rs.length _ _ K _ X.1 ((hMx.below (hb.trans (X.2.mono hb.size))).more (hb.trans (X.2.mono hb.size)).size) ((hcol9.below X.2).more X.2.size)
            have SC := fun X : After wr => scovers_any i _ _ _ on may _ X.1 ((hAx.below (hb.trans (X.2.mono hb.size))).more (hb.trans (X.2.mono hb.size)).size) ((hCx.below (hb.trans (X.2.mono hb.size))).more (hb.trans (X.2.mono hb.size)).size) ((hrow9.below X.2).more X.2.size)
            have RC := fun X : After wr => rcovers_any i _ _ _ on may _ X.1 ((hAx.below (hb.trans (X.2.mono hb.size))).more (hb.trans (X.2.mono hb.size)).size) ((hCx.below (hb.trans (X.2.mono hb.size))).more (hb.trans (X.2.mono hb.size)).size) ((hrow9.below X.2).more X.2.size) hsH.out
            have hK4 := fun X : After wr => HK X.1 (hT.below (hBw.trans ((hb.trans (X.2.mono hb.size)).mono hBw.size)))
            rw [hrtH.out, Bool.true_and, ← hmeH.out] at S1
            rw [hsH.out, Bool.true_and] at SC
            generalize coversB ⟨(i : Int), on, may⟩ (chsR rs fl) = cv9 at *
            have ee : (cv9 == cv9) = true := by simp
            unfold mtv at S1
            unfold spv at SC RC
            have hbz := hBw.trans (hb.mono hBw.size)
            obtain ⟨u0, u1, u2, -⟩ := box3 (keep_blk hb hbxw) rfl
            obtain ⟨m0, m1, -⟩ := box2 (keep_blk hb hbm) rfl
            clear hrow9 hcol9 hr9 hn9 HS HK hrtH hmeH hsH hMx hAx hCx hbxw hbm hb hBw
            go_upto_region 17 with (fail)
            refine wp_region_after (by kernel_rfl) (by kernel_rfl) ?_
            repeat (first | go_big_quiet_step (first | (go_at_call 14; exact Calls.after_of (S1 _)) | (go_at_call 15; exact Calls.after_of (SC _)) | (go_at_call 16; exact Calls.after_of (RC _)) | (go_at_call 6; exact Calls.after_of (hK4 _))))
            refine wpQuiet_nil ?_
            intro z
            have hBz := hbz.trans (z.2.mono hbz.size)
            clear S1 SC RC hK4 u0 u1 u2 m0 m1
            go_wp2
            go_ret
            exact ⟨rfl, hBz⟩
        · have hd1 : decide ((k : Int) < (rs.length : Int)) = false := decide_eq_false (by omega)
          have hk9 : Hid (chsRk rs fl k = chsR rs fl ∧ chsN fl k = chsN fl rs.length) := Lib.hid (by
            have q := chs_end (fl := fl) hk (.inl (by omega))
            exact ⟨by unfold chsRk chsR; rw [q], q.symm⟩)
          have hr9 : wr.ownsRow w4.heap.size 44 3 (.slice Ar R.length cr) (chsR rs fl).length (rzV (chsR rs fl)) := by rw [← hk9.out.1, ← hR.out]; exact hr
          have hn9 : wr.ownsRow w4.heap.size 3 1 (.slice An N.length cn) ((chsN fl rs.length).map fun q : Nat => (q : Int)).length (intI ((chsN fl rs.length).map fun q : Nat => (q : Int))) := by rw [← hk9.out.2, ← hN.out, List.length_map]; exact hn
          clear hr hn hR hN hk9 hFx hLx hlen3 hlen4 i0 hi0 hz0 hz1 hz2 j0 hj0 jz0 jz1 jz2
          have hrow9 := own_rz hr9
          have hcol9 := own_intI hn9
          have S1 := fun X : After wr => HS rs.length _ _ K _ X.1 ((hMx.below (hb.trans (X.2.mono hb.size))).more (hb.trans (X.2.mono hb.size)).size) ((hcol9.below X.2).more X.2.size)
          have SC := fun X : After wr => scovers_any i _ _ _ on may _ X.1 ((hAx.below (hb.trans (X.2.mono hb.size))).more (hb.trans (X.2.mono hb.size)).size) ((hCx.below (hb.trans (X.2.mono hb.size))).more (hb.trans (X.2.mono hb.size)).size) ((hrow9.below X.2).more X.2.size)
          have RC := fun X : After wr => rcovers_any i _ _ _ on may _ X.1 ((hAx.below (hb.trans (X.2.mono hb.size))).more (hb.trans (X.2.mono hb.size)).size) ((hCx.below (hb.trans (X.2.mono hb.size))).more (hb.trans (X.2.mono hb.size)).size) ((hrow9.below X.2).more X.2.size) hsH.out
          have hK4 := fun X : After wr => HK X.1 (hT.below (hBw.trans ((hb.trans (X.2.mono hb.size)).mono hBw.size)))
          rw [hrtH.out, Bool.true_and, ← hmeH.out] at S1
          rw [hsH.out, Bool.true_and] at SC
          generalize coversB ⟨(i : Int), on, may⟩ (chsR rs fl) = cv9 at *
          have ee : (cv9 == cv9) = true := by simp
          unfold mtv at S1
          unfold spv at SC RC
          have hbz := hBw.trans (hb.mono hBw.size)
          obtain ⟨u0, u1, u2, -⟩ := box3 (keep_blk hb hbxw) rfl
          obtain ⟨m0, m1, -⟩ := box2 (keep_blk hb hbm) rfl
          clear hrow9 hcol9 hr9 hn9 HS HK hrtH hmeH hsH hMx hAx hCx hbxw hbm hb hBw
          go_upto_region 17 with (fail)
          refine wp_region_after (by kernel_rfl) (by kernel_rfl) ?_
          repeat (first | go_big_quiet_step (first | (go_at_call 14; exact Calls.after_of (S1 _)) | (go_at_call 15; exact Calls.after_of (SC _)) | (go_at_call 16; exact Calls.after_of (RC _)) | (go_at_call 6; exact Calls.after_of (hK4 _))))
          refine wpQuiet_nil ?_
          intro z
          have hBz := hbz.trans (z.2.mono hbz.size)
          clear S1 SC RC hK4 u0 u1 u2 m0 m1
          go_wp2
          go_ret
          exact ⟨rfl, hBz⟩
theorem coverMeans_any (HM : MakeGood) (HS : SolvesV) (HK : Knows13) (i : Int) (A C L Fv : Value) (on may : List (BitVec 256)) (rs : List Rw) (fl : List Bool) (w : World) (hT : TabW w) (hA : SetsAt w w.heap.size A on) (hC : SetsAt w w.heap.size C may) (hL : RwsAt w w.heap.size L rs) (hF : BolsAt w w.heap.size Fv fl) :
    Calls Tryz.prog 4 #[spv i A C, L, Fv] w fun e w' => e = .returned (.bool true) ∧ Below w.heap.size w w' := by
  cases hg : great13 on may rs
  · cases hs : spB ⟨i, on, may⟩
    · exact means13_wrong HK i A C L Fv on may rs fl w hT hA hC hL hF hg hs
    · have hh := (headS_iff _).1 (Bool.and_eq_true_iff.1 (show (headS ⟨i, on, may⟩ && _) = true from hs)).1
      obtain ⟨n, rfl⟩ : ∃ n : Nat, i = n := ⟨i.toNat, by have := hh.1.1; simp only at this; omega⟩
      exact means13_good HM HS HK n A C L Fv on may rs fl w hT hA hC hL hF hg hs
  · exact means13_great HK i A C L Fv on may rs fl w hT hA hC hL hF hg
end Go.Proofs.YtdfllifjbabfjaaGreatDoor
