/- The document's own Within and Holds of layer 10. The document's own Holds of layers 2 and 10; power. -/
import Derived.Test.YtmgggennbnbjkaaGreatG14
import Derived.Test.YtmgggennbnbjkaaGreatG15
import Derived.Test.YtmgggennbnbjkaaGreatG18
namespace Go.Proofs.YtmgggennbnbjkaaGreat
open Go.RowKit Go.Joins

theorem rowin_no {s : Sp} {x : Rw} (h : rwB x s.i s.on.length = false) : rowIn s x = false := by unfold rowIn; rw [h]; rfl
theorem rowin_hit {s : Sp} {x : Rw} {j : Nat} {S : BitVec 256} (hS : s.may[j]? = some S) (hb : x.o.getLsbD j = true) (h : inB S s.i x.m x.v = false) : rowIn s x = false := by
  rw [Bool.eq_false_iff]
  intro hh
  have := (rowIn_iff.1 hh).2 j (List.getElem?_eq_some_iff.1 hS).1 hb
  rw [getD_of hS, h] at this; cases this
set_option maxHeartbeats 4000000 in
set_option maxRecDepth 100000 in
theorem rin10_any (i : Int) (A C : Value) (on may : List (BitVec 256)) (x : Rw) (w : World) (hA : SetsAt w w.heap.size A on) (hC : SetsAt w w.heap.size C may) (hm8 : may.length ≤ 8) :
    Calls Tryz.prog 8 #[spv i A C, rwv x] w fun e w' => e = .returned (.bool (rowIn ⟨i, on, may⟩ x)) ∧ Below w.heap.size w w' := by
  have HM := fun w => rmay_any x i on.length w
  have hB0 := below_alloc2 w (spb i A C) (.cells #[bvv x.m, bvv x.v, bvv x.o] 28 (0, 0))
  have hs0 := heap_alloc2_old w (spb i A C) (.cells #[bvv x.m, bvv x.v, bvv x.o] 28 (0, 0))
  have hx0 := heap_alloc2_new w (spb i A C) (.cells #[bvv x.m, bvv x.v, bvv x.o] 28 (0, 0))
  have hno := Lib.hid (fun h => rowin_no (s := ⟨i, on, may⟩) (x := x) h)
  have hhit := Lib.hid (fun (j : Nat) (S : BitVec 256) (hS : may[j]? = some S) hb h => rowin_hit (s := ⟨i, on, may⟩) (x := x) (j := j) (S := S) hS hb h)
  have hend := Lib.hid (fun h1 h2 => rowIn_iff (s := ⟨i, on, may⟩) (x := x).2 ⟨h1, h2⟩)
  have HB := fun (q : Nat) (hq : q < 8) w => bit8_any x.o q hq w
  have HW := fun S w => rwithin9_any x.m x.v S i w
  obtain ⟨A, ac, rfl, la, -⟩ := hA
  obtain ⟨C, cc, rfl, lc, hC⟩ := hC
  generalize rowIn ⟨i, on, may⟩ x = R at *
  unfold spv spb rwv sv cv at *
  unfold bvv wv at *
  obtain ⟨s0, s1, s2, -⟩ := now3 hs0 rfl
  obtain ⟨x0, x1, x2, -⟩ := now3 hx0 rfl
  cases hr : rwB x i on.length
  · rw [hr] at HM
    have hR := Lib.hid (hno.out hr)
    clear hno hhit hend HB HW hr hC
    go_enter Tryz.func8, Tryz.ntmps8
    go_wp2_with fail
    refine (HM _).mono ?_
    rintro e w1 ⟨rfl, hb⟩
    have hB1 := hB0.trans (hb.mono hB0.size)
    clear HM hB0 hb hs0 hx0 s0 s1 s2 x0 x1 x2
    go_wp2
    go_ret
    exact ⟨by rw [hR.out]; rfl, hB1⟩
  · rw [hr] at HM
    have hend2 := Lib.hid (hend.out hr)
    clear hno hend hr
    go_enter Tryz.func8, Tryz.ntmps8
    go_wp2_with fail
    refine (HM _).mono ?_
    rintro e w1 ⟨rfl, hb⟩
    have hB1 := hB0.trans (hb.mono hB0.size)
    have hs1 := keep_blk hb hs0
    have hx1 := keep_blk hb hx0
    clear HM hB0 hb hs0 hx0 s0 s1 s2 x0 x1 x2
    go_wp2
    go_loopw [5] (fun t wr => ∃ j : Nat, j ≤ may.length ∧ t = .int .i64 j ∧ Hid (∀ q, q < j → x.o.getLsbD q = true → inB (may.getD q 0) i x.m x.v = true) ∧ Below w1.heap.size w1 wr) (fun t _ => may.length - (intOf t).toNat)
    case atStart => exact ⟨0, by omega, rfl, Lib.hid (fun q hq => absurd hq (Nat.not_lt_zero _)), Below.refl _ _⟩
    case round =>
      obtain ⟨j, hj, rfl, hH, hb⟩ := hrel
      have hsr := keep_blk hb hs1
      have hxr := keep_blk hb hx1
      have hBr := hB1.trans (hb.mono hB1.size)
      obtain ⟨s0, s1, s2, -⟩ := now3 hsr rfl
      by_cases hlt : j < may.length
      · obtain ⟨S, hS⟩ : ∃ S, may[j]? = some S := ⟨_, List.getElem?_eq_getElem hlt⟩
        obtain ⟨bl, off, rfl, hBl, hcl⟩ := hC (by omega)
        obtain ⟨c0, c1, c2, c3⟩ := hcl j S hS
        have d0 := (hBr.cell (p := ⟨bl, off + j * 4, none⟩) hBl).trans c0
        have d1 := (hBr.cell (p := ⟨bl, off + j * 4 + 1, none⟩) hBl).trans c1
        have d2 := (hBr.cell (p := ⟨bl, off + j * 4 + 2, none⟩) hBl).trans c2
        have d3 := (hBr.cell (p := ⟨bl, off + j * 4 + 3, none⟩) hBl).trans c3
        have HBj := fun w => HB j (by omega) w
        have HWj := fun w => HW S w
        have hh := Lib.hid (hhit.out j S hS)
        have hSd : Hid (may.getD j 0 = S) := Lib.hid (getD_of hS)
        have j0 : (0 : Int) ≤ (j : Int) := by omega
        have j1 : (j : Int) < (may.length : Int) := by omega
        clear hcl c0 c1 c2 c3 hC HB HW hhit hS hs1 hx1
        cases hbit : x.o.getLsbD j
        · rw [hbit] at HBj
          have hH2 : Hid (∀ q, q < j + 1 → x.o.getLsbD q = true → inB (may.getD q 0) i x.m x.v = true) := Lib.hid (fun q h1 h2 => by
            by_cases e : q = j
            · subst e; rw [hbit] at h2; cases h2
            · exact hH.out q (by omega) h2)
          clear hh hend2 hH hbit HWj hSd
          go_upto_region 6 with (fail)
          obtain ⟨X0, X1, X2, -⟩ := box3 hxr rfl
          refine wp_region_after (by kernel_rfl) (by kernel_rfl) ?_
          repeat (first | go_big_quiet_step ((go_at_call 26; exact Calls.after_same (HBj _))))
          refine wpQuiet_nil ?_
          intro z
          have hbz := hb.trans (z.2.mono hb.size)
          clear X0 X1 X2 HBj s0 s1 s2 d0 d1 d2 d3
          go_wp2
          go_roundw
          case rel => exact ⟨j + 1, by omega, by go_num, hH2, hbz⟩
          case measure => simp [intOf]; omega
        · rw [hbit] at HBj
          cases hin : inB S i x.m x.v
          · rw [hin] at HWj
            have hR := Lib.hid (hh.out hbit hin)
            clear hh hend2 hH hbit hin hSd
            go_upto_region 6 with (fail)
            obtain ⟨X0, X1, X2, -⟩ := box3 hxr rfl
            obtain ⟨S0, S1, S2, -⟩ := box3 hsr rfl
            have D0 := fun x : After wr => After.cell x d0
            have D1 := fun x : After wr => After.cell x d1
            have D2 := fun x : After wr => After.cell x d2
            have D3 := fun x : After wr => After.cell x d3
            clear s0 s1 s2 d0 d1 d2 d3
            refine wp_region_after (by kernel_rfl) (by kernel_rfl) ?_
            repeat (first | go_big_quiet_step (first | (go_at_call 26; exact Calls.after_same (HBj _)) | (go_at_call 27; exact Calls.after_of (HWj _))))
            refine wpQuiet_nil ?_
            intro z
            have hBz := hBr.trans (z.2.mono hBr.size)
            clear X0 X1 X2 HBj S0 S1 S2 D0 D1 D2 D3 HWj
            go_wp2
            go_ret
            exact ⟨by rw [hR.out]; rfl, hBz⟩
          · rw [hin] at HWj
            have hH2 : Hid (∀ q, q < j + 1 → x.o.getLsbD q = true → inB (may.getD q 0) i x.m x.v = true) := Lib.hid (fun q h1 h2 => by
              by_cases e : q = j
              · subst e; rw [hSd.out]; exact hin
              · exact hH.out q (by omega) h2)
            clear hh hend2 hH hbit hin hSd
            go_upto_region 6 with (fail)
            obtain ⟨X0, X1, X2, -⟩ := box3 hxr rfl
            obtain ⟨S0, S1, S2, -⟩ := box3 hsr rfl
            have D0 := fun x : After wr => After.cell x d0
            have D1 := fun x : After wr => After.cell x d1
            have D2 := fun x : After wr => After.cell x d2
            have D3 := fun x : After wr => After.cell x d3
            clear s0 s1 s2 d0 d1 d2 d3
            refine wp_region_after (by kernel_rfl) (by kernel_rfl) ?_
            repeat (first | go_big_quiet_step (first | (go_at_call 26; exact Calls.after_same (HBj _)) | (go_at_call 27; exact Calls.after_of (HWj _))))
            refine wpQuiet_nil ?_
            intro z
            have hbz := hb.trans (z.2.mono hb.size)
            clear X0 X1 X2 HBj S0 S1 S2 D0 D1 D2 D3 HWj
            go_wp2
            go_roundw
            case rel => exact ⟨j + 1, by omega, by go_num, hH2, hbz⟩
            case measure => simp [intOf]; omega
      · have hR := Lib.hid (hend2.out (fun q hq => hH.out q (by have : q < may.length := hq; omega)))
        clear hend2 hhit hH HB HW hC hs1 hx1 hsr hxr
        go_wp2
        go_ret
        exact ⟨by rw [hR.out]; rfl, hBr⟩
end Go.Proofs.YtmgggennbnbjkaaGreat
namespace Go.Proofs.YtmgggennbnbjkaaGreat
open Go.RowKit Go.Joins

theorem lit_hold {m v m' v' : BitVec 8} {i : Nat} (hm : m.getLsbD i = true) : lit m v i = lit m' v' i ↔ m'.getLsbD i = true ∧ v.getLsbD i = v'.getLsbD i := by
  unfold lit
  rw [hm]
  cases m'.getLsbD i <;> cases v.getLsbD i <;> cases v'.getLsbD i <;> simp
theorem holds_hit {m v m' v' : BitVec 8} {i : Nat} (h1 : lit m v i ≠ 2) (h2 : lit m v i ≠ lit m' v' i) : holdsB m v m' v' = false := by
  have hm : m.getLsbD i = true := by
    cases h : m.getLsbD i
    · exact absurd (lit_two.2 h) h1
    · rfl
  rw [Bool.eq_false_iff]
  intro hh
  exact h2 ((lit_hold hm).2 ((holdsB_iff m v m' v').1 hh i hm))
theorem holds_end {m v m' v' : BitVec 8} (h : ∀ i, i < 8 → lit m v i = 2 ∨ lit m v i = lit m' v' i) : holdsB m v m' v' = true := by
  rw [holdsB_iff]
  intro i hm
  have hi : i < 8 := by
    rcases Nat.lt_or_ge i 8 with k | k
    · exact k
    · rw [BitVec.getLsbD_of_ge m i k] at hm; cases hm
  rcases h i hi with e | e
  · rw [lit_two.1 e] at hm; cases hm
  · exact (lit_hold hm).1 e
set_option maxHeartbeats 2000000 in
set_option maxRecDepth 1000000 in
theorem rholds2_any (m v m' v' : BitVec 8) (w : World) :
    Calls Tryz.prog 28 #[cv m v, cv m' v'] w fun e w' => e = .returned (.bool (holdsB m v m' v')) ∧ Below w.heap.size w w' := by
  have HF := fun w => lits_any m v w
  have HG := fun w => lits_any m' v' w
  have hhit := Lib.hid (fun (i : Nat) h1 h2 => holds_hit (m := m) (v := v) (m' := m') (v' := v') (i := i) h1 h2)
  have hend := Lib.hid (fun h => holds_end (m := m) (v := v) (m' := m') (v' := v') h)
  generalize holdsB m v m' v' = R at *
  unfold cv bvv at *
  go_enter Tryz.func28, Tryz.ntmps28
  go_upto_region 1 with (fail)
  go_cut [5, 6] from 8 (fun s5 s6 wc => ∃ bx cx by' cy : Nat, s5 = .slice (some ⟨bx, 0, none⟩) 8 cx ∧ s6 = .slice (some ⟨by', 0, none⟩) 8 cy ∧ LitsAt m v bx wc ∧ LitsAt m' v' by' wc ∧ Below w.heap.size w wc)
  case first =>
    clear hhit hend
    go_region_with (first
      | (go_at_call_of 51 (Value.agg #[.int .u8 m.toNat, .int .u8 v.toNat]); refine (HF _).mono ?_; rintro e w1 ⟨b1, c1, rfl, hlo1, hc1, hb1⟩; obtain ⟨hq1, hr1⟩ := bcell hb1; have hzz1 := hb1.size; try simp at hzz1 hlo1)
      | (go_at_call_of 51 (Value.agg #[.int .u8 m'.toNat, .int .u8 v'.toNat]); refine (HG _).mono ?_; rintro e w2 ⟨b2, c2, rfl, hlo2, hc2, hb2⟩; obtain ⟨hq2, hr2⟩ := bcell hb2; have hzz2 := hb2.size; try simp at hzz2 hlo2))
    all_goals
      clear hq1 hr1 hq2 hr2
      go_wp2_with fail
      go_meet
      first
        | exact ⟨b1, c1, b2, c2, rfl, rfl, hc1.keep hb2, hc2, ((below_alloc2 w _ _).trans (hb1.mono (by simp; omega))).trans (hb2.mono (by omega))⟩
        | exact ⟨b1, c1, b2, c2, rfl, rfl, hc1.keep hb2, hc2, ((below_alloc2 w _ _).drew.trans (hb1.mono (by simp; omega))).trans (hb2.mono (by omega))⟩
        | exact ⟨b1, c1, b2, c2, rfl, rfl, hc1, hc2.keep hb1, ((below_alloc2 w _ _).trans (hb2.mono (by simp; omega))).trans (hb1.mono (by omega))⟩
        | exact ⟨b1, c1, b2, c2, rfl, rfl, hc1, hc2.keep hb1, ((below_alloc2 w _ _).drew.trans (hb2.mono (by simp; omega))).trans (hb1.mono (by omega))⟩
  case rest =>
    obtain ⟨bx, cx, by', cy, rfl, rfl, hX, hY, hB⟩ := hcut
    clear HF HG
    go_wp2
    go_loopw [7] (fun t wr => ∃ k : Nat, k ≤ 8 ∧ t = .int .i64 k ∧ Hid (∀ i, i < k → lit m v i = 2 ∨ lit m v i = lit m' v' i) ∧ Below wc.heap.size wc wr) (fun t _ => 8 - (intOf t).toNat)
    case atStart => exact ⟨0, by omega, rfl, Lib.hid (fun i hi => absurd hi (Nat.not_lt_zero _)), Below.refl _ _⟩
    case round =>
      obtain ⟨k, hk, rfl, hH, hb⟩ := hrel
      have hBr := hB.trans (hb.mono hB.size)
      by_cases hlt : k < 8
      · have hx := (hX.keep hb).2 k hlt
        have hy := (hY.keep hb).2 k hlt
        have hh := Lib.hid (hhit.out k)
        have k0 : (0 : Int) ≤ (k : Int) := by omega
        have k8 : (k : Int) < 8 := by omega
        have hst : Hid (lit m v k = 2 ∨ lit m v k = lit m' v' k → ∀ i, i < k + 1 → lit m v i = 2 ∨ lit m v i = lit m' v' i) := Lib.hid (fun h i hi => by
          by_cases e : i = k
          · subst e; exact h
          · exact hH.out i (by omega))
        clear hX hY hhit hH
        have hpl := lit_le m v k
        have hql := lit_le m' v' k
        generalize lit m v k = p at *
        generalize lit m' v' k = q at *
        by_cases h2 : p = 2
        · have hH2 := Lib.hid (hst.out (.inl h2))
          subst h2
          clear hst hh
          go_upto_region 5 with (fail)
          have X0 := fun x : After wr => After.cell x hx
          have Y0 := fun x : After wr => After.cell x hy
          refine wp_region_after (by kernel_rfl) (by kernel_rfl) ?_
          repeat (first | go_big_quiet_step (fail))
          refine wpQuiet_nil ?_
          intro z
          have hbz := hb.trans (z.2.mono hb.size)
          clear X0 Y0 hx hy
          go_wp2
          go_roundw
          case rel => exact ⟨k + 1, by omega, by go_num, hH2, hbz⟩
          case measure => simp [intOf]; omega
        · have hp2 : ((p : Int) != 2) = true := by rw [bne_iff_ne]; omega
          by_cases hpq : p = q
          · have hH2 := Lib.hid (hst.out (.inr hpq))
            subst hpq
            clear hst hh h2
            go_upto_region 5 with (fail)
            have X0 := fun x : After wr => After.cell x hx
            have Y0 := fun x : After wr => After.cell x hy
            refine wp_region_after (by kernel_rfl) (by kernel_rfl) ?_
            repeat (first | go_big_quiet_step (fail))
            refine wpQuiet_nil ?_
            intro z
            have hbz := hb.trans (z.2.mono hb.size)
            clear X0 Y0 hx hy
            go_wp2
            go_roundw
            case rel => exact ⟨k + 1, by omega, by go_num, hH2, hbz⟩
            case measure => simp [intOf]; omega
          · have hR := Lib.hid (hh.out h2 hpq)
            have hpq' : ((p : Int) != (q : Int)) = true := by rw [bne_iff_ne]; omega
            clear hst hh h2 hpq
            go_upto_region 5 with (fail)
            have X0 := fun x : After wr => After.cell x hx
            have Y0 := fun x : After wr => After.cell x hy
            refine wp_region_after (by kernel_rfl) (by kernel_rfl) ?_
            repeat (first | go_big_quiet_step (fail))
            refine wpQuiet_nil ?_
            intro z
            have hBz := hBr.trans (z.2.mono hBr.size)
            clear X0 Y0 hx hy
            go_wp2
            go_ret
            exact ⟨by rw [hR.out]; rfl, hBz⟩
      · have hR := Lib.hid (hend.out (fun i hi => hH.out i (by omega)))
        clear hX hY hhit hend hH
        go_wp2
        go_ret
        exact ⟨by rw [hR.out]; rfl, hBr⟩
end Go.Proofs.YtmgggennbnbjkaaGreat
