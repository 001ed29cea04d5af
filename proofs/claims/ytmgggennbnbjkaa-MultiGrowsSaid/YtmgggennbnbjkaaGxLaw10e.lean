/- The statements of layer 10, over what the package answers: MultiGrows. -/
import Derived.Test.YtmgggennbnbjkaaGxLaw10b
namespace Go.Proofs.Ytmgggennbnbjkaa
open Go.RowKit Go.Joins

theorem rw_ne {a b : Rw} (h : a ≠ b) : a.m ≠ b.m ∨ (a.m = b.m ∧ a.v ≠ b.v) ∨ (a.m = b.m ∧ a.v = b.v ∧ a.o ≠ b.o) := by
  by_cases h1 : a.m = b.m
  · by_cases h2 : a.v = b.v
    · refine .inr (.inr ⟨h1, h2, fun h3 => h ?_⟩)
      cases a; cases b
      simp only at h1 h2 h3
      rw [h1, h2, h3]
    · exact .inr (.inl ⟨h1, h2⟩)
  · exact .inl h1
theorem ne8 {a b : BitVec 8} (h : a ≠ b) : ¬ (a.toNat : Int) = b.toNat := fun e => h (BitVec.eq_of_toNat_eq (by omega))
set_option maxHeartbeats 8000000 in
set_option maxRecDepth 100000 in
theorem multiGrows_any (HA : AllM) (HG : GrowM) (HP : PrimeM) (i : Int) (A C : Value) (on may : List (BitVec 256)) (x : Rw) (w : World) (hA : SetsAt w w.heap.size A on) (hC : SetsAt w w.heap.size C may) :
    Calls Try.prog 5 #[spv i A C, rwv x] w fun e w' => e = .returned (.bool true) ∧ Below w.heap.size w w' := by
  have HK := fun w => knows10_any HA HG HP w
  have HX := fun w1 (hb : Below w.heap.size w w1) => great10_any i A C on may w1 ((hA.below hb).more hb.size) ((hC.below hb).more hb.size)
  have HGr := fun w1 (hb : Below w.heap.size w w1) => HG i A C on may x w1 ((hA.below hb).more hb.size) ((hC.below hb).more hb.size)
  have HPr := fun x w1 (hb : Below w.heap.size w w1) => HP i A C on may x w1 ((hA.below hb).more hb.size) ((hC.below hb).more hb.size)
  have HAl := fun w1 (hb : Below w.heap.size w w1) => HA i A C on may w1 ((hA.below hb).more hb.size) ((hC.below hb).more hb.size)
  have HH := fun a b w => rhold10_any a b w
  have hB := below_alloc2 w (spb i A C) (.cells #[bvv x.m, bvv x.v, bvv x.o] 28)
  have hs := heap_alloc2_old w (spb i A C) (.cells #[bvv x.m, bvv x.v, bvv x.o] 28)
  have hx := heap_alloc2_new w (spb i A C) (.cells #[bvv x.m, bvv x.v, bvv x.o] 28)
  obtain ⟨A, ac, rfl, la, -⟩ := hA
  obtain ⟨C, cc, rfl, lc, -⟩ := hC
  obtain ⟨s0, s1, s2, -⟩ := now3 hs rfl
  have HX1 := HX _ hB
  unfold spv spb rwv at *
  unfold bvv at *
  clear HA HG HP HX
  go_enter Try.func5, Try.ntmps5
  go_wp2_with fail
  refine HX1.mono ?_
  rintro e w1 ⟨rfl, hb⟩
  have hB1 := hB.trans (hb.mono hB.size)
  have hs1 := keep_blk hb hs
  have hx1 := keep_blk hb hx
  clear HX1 hB hb hs hx s0 s1 s2
  obtain ⟨s0, s1, s2, -⟩ := now3 hs1 rfl
  cases hg : (decide (20 < on.length) || decide (20 < may.length))
  case true =>
    clear HGr HPr HAl HH
    go_wp2_with fail
    refine (HK _).mono ?_
    rintro e w4 ⟨rfl, hb⟩
    go_wp2
    go_ret
    exact ⟨rfl, hB1.trans (hb.mono hB1.size)⟩
  case false =>
    by_cases h5 : 5 < i
    · have hd : decide (5 < i) = true := decide_eq_true h5
      clear HGr HPr HAl HH
      go_wp2_with fail
      refine (HK _).mono ?_
      rintro e w4 ⟨rfl, hb⟩
      go_wp2
      go_ret
      exact ⟨rfl, hB1.trans (hb.mono hB1.size)⟩
    · have hd : decide (5 < i) = false := decide_eq_false h5
      obtain ⟨x0, x1, x2, -⟩ := now3 hx1 rfl
      have HG1 := HGr _ hB1
      clear HGr h5
      cases hok : (spB ⟨i, on, may⟩ && rowIn ⟨i, on, may⟩ x)
      · rw [hok, if_neg (by decide), if_neg (by decide)] at HG1
        simp only [show ((0 : BitVec 8).toNat : Int) = 0 from rfl] at HG1
        have hpb : (spB ⟨i, on, may⟩ && primR ⟨i, on, may⟩ x) = false := by
          cases hp : primR ⟨i, on, may⟩ x
          · rw [Bool.and_false]
          · rw [prim_in hp, Bool.and_true] at hok
            rw [hok]; rfl
        clear HAl HH
        go_wp2_with fail
        refine HG1.mono ?_
        rintro e w2 ⟨rfl, hb⟩
        have hA := hb.trans ((below_alloc1 w2 (.cells #[.int .u8 0, .int .u8 0, .int .u8 0] 28)).mono hb.size)
        have hz2 := heap_alloc_new w2 (.cells #[.int .u8 0, .int .u8 0, .int .u8 0] 28)
        have hB2 := hB1.trans (hA.mono hB1.size)
        have hs2 := keep_blk hA hs1
        have hx2 := keep_blk hA hx1
        clear HG1 hb hA hB1 hs1 hx1 s0 s1 s2 x0 x1 x2 hd
        obtain ⟨s0, s1, s2, -⟩ := now3 hs2 rfl
        obtain ⟨x0, x1, x2, -⟩ := now3 hx2 rfl
        obtain ⟨z0, z1, z2, -⟩ := now3 hz2 rfl
        have HP2 := HPr x _ hB2
        rw [hpb] at HP2
        clear HPr
        go_wp2_with fail
        refine HP2.mono ?_
        rintro e w3 ⟨rfl, hb⟩
        have hB3 := hB2.trans (hb.mono hB2.size)
        clear HP2 hb hB2 hs2 hx2 hz2 s0 s1 s2 x0 x1 x2 z0 z1 z2
        go_wp2_with fail
        refine (HK _).mono ?_
        rintro e w7 ⟨rfl, hb⟩
        go_wp2
        go_ret
        exact ⟨rfl, hB3.trans (hb.mono hB3.size)⟩
      · rw [hok, if_pos rfl, if_pos rfl] at HG1
        have hok2 : spB ⟨i, on, may⟩ = true ∧ rowIn ⟨i, on, may⟩ x = true := by rw [Bool.and_eq_true] at hok; exact hok
        obtain ⟨hr, hin⟩ := hok2
        have h8 : on.length ≤ 8 := by
          have hh := (headS_iff _).1 (Bool.and_eq_true_iff.1 (show (headS ⟨i, on, may⟩ && _) = true from hr)).1
          have := hh.2.1.2
          simp only at this
          omega
        obtain ⟨hgp, hgh⟩ := grow_prime (s := ⟨i, on, may⟩) h8 hin
        have hgs := grow_same (s := ⟨i, on, may⟩) h8 hin
        have hmem : growR ⟨i, on, may⟩ x ∈ rwL (primR ⟨i, on, may⟩) := rwL_mem.2 hgp
        have HP3 := fun w1 hb => HPr (growR ⟨i, on, may⟩ x) w1 hb
        have HP4 := fun w1 hb => HPr x w1 hb
        have HH3 := fun w => HH (growR ⟨i, on, may⟩ x) x w
        rw [hr, hgp] at HP3
        rw [hr, Bool.true_and] at HP4
        rw [hgh] at HH3
        have HAl2 := HAl
        simp only [hr, if_true] at HAl2
        have hlen := rwL_len (primR ⟨i, on, may⟩)
        generalize growR ⟨i, on, may⟩ x = g at *
        generalize rwL (primR ⟨i, on, may⟩) = L at *
        generalize primR ⟨i, on, may⟩ x = pr at *
        clear HPr HAl HH hok hr hin h8 hgp hgh
        go_wp2_with fail
        refine HG1.mono ?_
        rintro e w2 ⟨rfl, hb⟩
        have hA := hb.trans ((below_alloc1 w2 (.cells #[.int .u8 g.m.toNat, .int .u8 g.v.toNat, .int .u8 g.o.toNat] 28)).mono hb.size)
        have hz2 := heap_alloc_new w2 (.cells #[.int .u8 g.m.toNat, .int .u8 g.v.toNat, .int .u8 g.o.toNat] 28)
        have hB2 := hB1.trans (hA.mono hB1.size)
        have hs2 := keep_blk hA hs1
        have hx2 := keep_blk hA hx1
        clear HG1 hb hA hB1 hs1 hx1 s0 s1 s2 x0 x1 x2 hd
        obtain ⟨s0, s1, s2, -⟩ := now3 hs2 rfl
        obtain ⟨x0, x1, x2, -⟩ := now3 hx2 rfl
        obtain ⟨z0, z1, z2, -⟩ := now3 hz2 rfl
        have HA2 := HAl2 _ hB2
        clear HAl2
        go_wp2_with fail
        refine HA2.mono ?_
        rintro e w3 ⟨v, rfl, hL, hb⟩
        have hB3 := hB2.trans (hb.mono hB2.size)
        have hs3 := keep_blk hb hs2
        have hx3 := keep_blk hb hx2
        have hz3 := keep_blk hb hz2
        obtain ⟨A3, c3, rfl, -, hc⟩ := hL
        clear HA2 hb hB2 hs2 hx2 hz2 s0 s1 s2 x0 x1 x2 z0 z1 z2
        go_wp2
        go_loopw [9, 10] (fun s t wr => ∃ (k : Nat) (h : Bool), k ≤ L.length ∧ t = .int .i64 k ∧ s = .bool h ∧ Hid (h = true ↔ g ∈ L.take k) ∧ Below w3.heap.size w3 wr) (fun _ t _ => L.length - (intOf t).toNat)
        case atStart => exact ⟨0, false, by omega, rfl, rfl, Lib.hid (by simp), Below.refl _ _⟩
        case round =>
          obtain ⟨k, h, hk, rfl, rfl, hh, hb⟩ := hrel
          by_cases hkl : k < L.length
          · obtain ⟨bl, off, rfl, hBl, hcl⟩ := hc (by omega)
            obtain ⟨y, hy⟩ : ∃ y, L[k]? = some y := ⟨_, List.getElem?_eq_getElem hkl⟩
            obtain ⟨y0, y1, y2⟩ := hcl k y hy
            have hst : Hid (g ∈ L.take (k + 1) ↔ g ∈ L.take k ∨ y = g) := Lib.hid (by
              rw [List.take_add_one, hy, List.mem_append]
              simp only [Option.toList_some, List.mem_singleton]
              exact or_congr Iff.rfl ⟨fun h => h.symm, fun h => h.symm⟩)
            have D0 := fun z : After wr => After.cell z ((hb.cell (p := ⟨bl, off + k * 3, none⟩) hBl).trans y0)
            have D1 := fun z : After wr => After.cell z ((hb.cell (p := ⟨bl, off + k * 3 + 1, none⟩) hBl).trans y1)
            have D2 := fun z : After wr => After.cell z ((hb.cell (p := ⟨bl, off + k * 3 + 2, none⟩) hBl).trans y2)
            obtain ⟨Z0, Z1, Z2, -⟩ := box3 (keep_blk hb hz3) rfl
            unfold bvv at D0 D1 D2
            have k0 : (0 : Int) ≤ (k : Int) := by omega
            have k1 : (k : Int) < (L.length : Int) := by omega
            clear hcl hc hy y0 y1 y2 HK HP3 HP4 HH3 hs3 hx3 hz3 hgs hmem
            cases h
            · by_cases he : y = g
              · subst he
                have hh2 : Hid (true = true ↔ y ∈ L.take (k + 1)) := Lib.hid (by rw [hst.out]; exact ⟨fun _ => .inr rfl, fun _ => rfl⟩)
                clear hh hst
                go_upto_region 11 with (fail)
                refine wp_region_after_tail 9 (by kernel_rfl) (by kernel_rfl) ?_
                simp only [List.take_succ_cons, List.take_zero, List.drop_succ_cons, List.drop_zero]
                repeat (first | go_big_quiet_step (fail))
                refine wpQuiet_nil ?_
                intro z
                have hbz := hb.trans (z.2.mono hb.size)
                clear D0 D1 D2 Z0 Z1 Z2
                go_wp2
                go_roundw
                case rel => exact ⟨k + 1, true, by omega, by go_num, rfl, hh2, hbz⟩
                case measure => simp [intOf]; omega
              · obtain ⟨ym, yv, yo⟩ := y
                obtain ⟨gm, gv, go⟩ := g
                have hf : Hid (¬ ((⟨ym, yv, yo⟩ : Rw) = ⟨gm, gv, go⟩)) := Lib.hid he
                have hne := rw_ne he
                clear he
                simp only at D0 D1 D2 Z0 Z1 Z2 hne
                rcases hne with hn | ⟨rfl, hn⟩ | ⟨rfl, rfl, hn⟩
                · have hn2 := ne8 hn
                  have hh2 : Hid (false = true ↔ (⟨gm, gv, go⟩ : Rw) ∈ L.take (k + 1)) := Lib.hid (by rw [hst.out, ← hh.out]; exact ⟨fun h => (by cases h), fun h => h.elim (fun h => h) (fun h => absurd h hf.out)⟩)
                  clear hh hst
                  go_upto_region 11 with (fail)
                  refine wp_region_after_tail 9 (by kernel_rfl) (by kernel_rfl) ?_
                  simp only [List.take_succ_cons, List.take_zero, List.drop_succ_cons, List.drop_zero]
                  repeat (first | go_big_quiet_step (fail))
                  refine wpQuiet_nil ?_
                  intro z
                  have hbz := hb.trans (z.2.mono hb.size)
                  clear D0 D1 D2 Z0 Z1 Z2
                  go_wp2
                  go_roundw
                  case rel => exact ⟨k + 1, false, by omega, by go_num, rfl, hh2, hbz⟩
                  case measure => simp [intOf]; omega
                · have hn2 := ne8 hn
                  have hh2 : Hid (false = true ↔ (⟨ym, gv, go⟩ : Rw) ∈ L.take (k + 1)) := Lib.hid (by rw [hst.out, ← hh.out]; exact ⟨fun h => (by cases h), fun h => h.elim (fun h => h) (fun h => absurd h hf.out)⟩)
                  clear hh hst
                  go_upto_region 11 with (fail)
                  refine wp_region_after_tail 9 (by kernel_rfl) (by kernel_rfl) ?_
                  simp only [List.take_succ_cons, List.take_zero, List.drop_succ_cons, List.drop_zero]
                  repeat (first | go_big_quiet_step (fail))
                  refine wpQuiet_nil ?_
                  intro z
                  have hbz := hb.trans (z.2.mono hb.size)
                  clear D0 D1 D2 Z0 Z1 Z2
                  go_wp2
                  go_roundw
                  case rel => exact ⟨k + 1, false, by omega, by go_num, rfl, hh2, hbz⟩
                  case measure => simp [intOf]; omega
                · have hn2 := ne8 hn
                  have hh2 : Hid (false = true ↔ (⟨ym, yv, go⟩ : Rw) ∈ L.take (k + 1)) := Lib.hid (by rw [hst.out, ← hh.out]; exact ⟨fun h => (by cases h), fun h => h.elim (fun h => h) (fun h => absurd h hf.out)⟩)
                  clear hh hst
                  go_upto_region 11 with (fail)
                  refine wp_region_after_tail 9 (by kernel_rfl) (by kernel_rfl) ?_
                  simp only [List.take_succ_cons, List.take_zero, List.drop_succ_cons, List.drop_zero]
                  repeat (first | go_big_quiet_step (fail))
                  refine wpQuiet_nil ?_
                  intro z
                  have hbz := hb.trans (z.2.mono hb.size)
                  clear D0 D1 D2 Z0 Z1 Z2
                  go_wp2
                  go_roundw
                  case rel => exact ⟨k + 1, false, by omega, by go_num, rfl, hh2, hbz⟩
                  case measure => simp [intOf]; omega
            · have hh2 : Hid (true = true ↔ g ∈ L.take (k + 1)) := Lib.hid (by rw [hst.out, ← hh.out]; simp)
              clear hh hst
              go_upto_region 11 with (fail)
              refine wp_region_after_tail 9 (by kernel_rfl) (by kernel_rfl) ?_
              simp only [List.take_succ_cons, List.take_zero, List.drop_succ_cons, List.drop_zero]
              repeat (first | go_big_quiet_step (fail))
              refine wpQuiet_nil ?_
              intro z
              have hbz := hb.trans (z.2.mono hb.size)
              clear D0 D1 D2 Z0 Z1 Z2
              go_wp2
              go_roundw
              case rel => exact ⟨k + 1, true, by omega, by go_num, rfl, hh2, hbz⟩
              case measure => simp [intOf]; omega
          · have hfound : h = true := by
              have := hh.out
              rw [List.take_of_length_le (by omega)] at this
              exact this.2 hmem
            subst hfound
            have hsr := keep_blk hb hs3
            have hxr := keep_blk hb hx3
            have hzr := keep_blk hb hz3
            have hBr := hB3.trans (hb.mono hB3.size)
            have hkd : decide ((k : Int) < (L.length : Int)) = false := decide_eq_false (by omega)
            clear hh hc hs3 hx3 hz3 hB3 hb hmem
            obtain ⟨S0, S1, S2, -⟩ := box3 hsr rfl
            obtain ⟨X0, X1, X2, -⟩ := box3 hxr rfl
            obtain ⟨Z0, Z1, Z2, -⟩ := box3 hzr rfl
            have HP5 := fun z : After wr => HP3 z.1 (hBr.trans (z.2.mono hBr.size))
            have HP6 := fun z : After wr => HP4 z.1 (hBr.trans (z.2.mono hBr.size))
            clear HP3 HP4 hsr hxr hzr
            go_upto_region 12 with (fail)
            by_cases he : g = x
            · have hpr : pr = true := hgs.1 he
              subst he
              subst hpr
              clear hgs
              refine wp_region_after (by kernel_rfl) (by kernel_rfl) ?_
              repeat (first | go_big_quiet_step (first | (go_at_call 14; exact Calls.after_of (HH3 _)) | (go_at_call_of 15 (Value.agg #[.int .u8 g.m.toNat, .int .u8 g.v.toNat, .int .u8 g.o.toNat]); exact Calls.after_of (HP5 _)) | (go_at_call 15; exact Calls.after_of (HP6 _)) | (go_at_call 8; exact Calls.after_of (HK _))))
              refine wpQuiet_nil ?_
              intro z
              clear S0 S1 S2 X0 X1 X2 Z0 Z1 Z2 HP5 HP6 HH3
              go_wp2
              go_ret
              exact ⟨rfl, hBr.trans (z.2.mono hBr.size)⟩
            · have hpr : pr = false := by
                cases pr
                · rfl
                · exact absurd (hgs.2 rfl) he
              subst hpr
              have hne := rw_ne he
              obtain ⟨xm, xv, xo⟩ := x
              obtain ⟨gm, gv, go⟩ := g
              clear he hgs
              simp only at X0 X1 X2 Z0 Z1 Z2 hne HH3 HP5 HP6
              rcases hne with hn | ⟨rfl, hn⟩ | ⟨rfl, rfl, hn⟩
              · have hn2 := ne8 hn
                refine wp_region_after (by kernel_rfl) (by kernel_rfl) ?_
                repeat (first | go_big_quiet_step (first | (go_at_call 14; exact Calls.after_of (HH3 _)) | (go_at_call_of 15 (Value.agg #[.int .u8 gm.toNat, .int .u8 gv.toNat, .int .u8 go.toNat]); exact Calls.after_of (HP5 _)) | (go_at_call 15; exact Calls.after_of (HP6 _)) | (go_at_call 8; exact Calls.after_of (HK _))))
                refine wpQuiet_nil ?_
                intro z
                clear S0 S1 S2 X0 X1 X2 Z0 Z1 Z2 HP5 HP6 HH3
                go_wp2
                go_ret
                exact ⟨rfl, hBr.trans (z.2.mono hBr.size)⟩
              · have hn2 := ne8 hn
                refine wp_region_after (by kernel_rfl) (by kernel_rfl) ?_
                repeat (first | go_big_quiet_step (first | (go_at_call 14; exact Calls.after_of (HH3 _)) | (go_at_call_of 15 (Value.agg #[.int .u8 gm.toNat, .int .u8 gv.toNat, .int .u8 go.toNat]); exact Calls.after_of (HP5 _)) | (go_at_call 15; exact Calls.after_of (HP6 _)) | (go_at_call 8; exact Calls.after_of (HK _))))
                refine wpQuiet_nil ?_
                intro z
                clear S0 S1 S2 X0 X1 X2 Z0 Z1 Z2 HP5 HP6 HH3
                go_wp2
                go_ret
                exact ⟨rfl, hBr.trans (z.2.mono hBr.size)⟩
              · have hn2 := ne8 hn
                refine wp_region_after (by kernel_rfl) (by kernel_rfl) ?_
                repeat (first | go_big_quiet_step (first | (go_at_call 14; exact Calls.after_of (HH3 _)) | (go_at_call_of 15 (Value.agg #[.int .u8 gm.toNat, .int .u8 gv.toNat, .int .u8 go.toNat]); exact Calls.after_of (HP5 _)) | (go_at_call 15; exact Calls.after_of (HP6 _)) | (go_at_call 8; exact Calls.after_of (HK _))))
                refine wpQuiet_nil ?_
                intro z
                clear S0 S1 S2 X0 X1 X2 Z0 Z1 Z2 HP5 HP6 HH3
                go_wp2
                go_ret
                exact ⟨rfl, hBr.trans (z.2.mono hBr.size)⟩
end Go.Proofs.Ytmgggennbnbjkaa
