/- The document's own answers of layer 9: Of, Within, without. The document's own without of layer 9. The document's own Prime of layer 9. The document's own Within and Holds of layer 10. The document's own Holds of layers 2 and 10; power. -/
import Derived.Test.YtdfllifjbabfjaaGreatDoorGM33
import Derived.Test.YtdfllifjbabfjaaGreatDoorGM14
import Derived.Test.YtdfllifjbabfjaaGreatDoorGM34
import Derived.Test.YtdfllifjbabfjaaGreatDoorGM28
namespace Go.Proofs.YtdfllifjbabfjaaGreatDoor
open Go.RowKit Go.Joins

/-- May a set and a number be asked of? -/
def ofB (S : BitVec 256) (n : Int) : Bool := decide (0 ≤ n ∧ n ≤ 8) && decide (S &&& ~~~(allB n.toNat) = 0)
set_option maxHeartbeats 1000000 in
theorem rwithin9_any (m v : BitVec 8) (S : BitVec 256) (n : Int) (w : World) :
    Calls Tryz.prog 39 #[cv m v, sv S, .int .i64 n] w fun e w' => e = .returned (.bool (inB S n m v)) ∧ Below w.heap.size w w' := by
  have HR := fun w => rright_any m v n w
  have hB := below_alloc2 w (cb m v) (.cells (sa S) 50)
  have hb0 := heap_alloc2_old w (cb m v) (.cells (sa S) 50)
  have hb1 := heap_alloc2_new w (cb m v) (.cells (sa S) 50)
  unfold inB
  cases hr : rightB m v n
  · rw [hr] at HR
    rw [Bool.false_and]
    unfold sv cv cb bvv wv at *
    unfold sa wv at hB hb0 hb1
    go_enter Tryz.func39, Tryz.ntmps39
    go_upto_region 1 with (fail)
    generalize (w.alloc _).alloc _ = W at *
    obtain ⟨a0, a1, -⟩ := box2 hb0 rfl
    obtain ⟨s0, s1, s2, s3, -⟩ := box4 hb1 rfl
    refine wp_region_after (by kernel_rfl) (by kernel_rfl) ?_
    repeat (first | go_big_quiet_step ((go_at_call 26; exact Calls.after_of (HR _))))
    refine wpQuiet_nil ?_
    intro x
    go_wp2
    go_ret
    exact ⟨rfl, hB.trans (x.2.mono hB.size)⟩
  · obtain ⟨h0, h8, -, -⟩ := (rightB_iff m v n).1 hr
    obtain ⟨k, rfl⟩ : ∃ k : Nat, n = k := ⟨n.toNat, by omega⟩
    have HP := fun w => rpoints_any m v k (by omega) w
    rw [cpts_right hr] at HP
    have HW := fun w => refwithin_any (cpts m v k k) S w
    rw [hr] at HR
    rw [Bool.true_and, Int.toNat_natCast]
    clear hr h0 h8
    generalize cpts m v k k = P at *
    unfold sv cv cb bvv wv at *
    unfold sa wv at hB hb0 hb1
    go_enter Tryz.func39, Tryz.ntmps39
    go_upto_region 1 with (fail)
    generalize (w.alloc _).alloc _ = W at *
    obtain ⟨a0, a1, -⟩ := box2 hb0 rfl
    obtain ⟨s0, s1, s2, s3, -⟩ := box4 hb1 rfl
    refine wp_region_after (by kernel_rfl) (by kernel_rfl) ?_
    repeat (first | go_big_quiet_step (first | (go_at_call 26; exact Calls.after_of (HR _)) | (go_at_call 66; exact Calls.after_of (HP _)) | (go_at_call 35; exact Calls.after_of (HW _))))
    refine wpQuiet_nil ?_
    intro x
    go_wp2
    go_ret
    exact ⟨rfl, hB.trans (x.2.mono hB.size)⟩
end Go.Proofs.YtdfllifjbabfjaaGreatDoor
namespace Go.Proofs.YtdfllifjbabfjaaGreatDoor
open Go.RowKit Go.Joins

theorem drG_at {w : World} {base g cap i : Nat} {m v : BitVec 8} (h : w.ownsRow base 3 1 (.slice (some ⟨g, 0, none⟩) 8 cap) 8 (litV m v 8)) (hi : i < 8) :
    GAt (drG m v i) 8 (some ⟨g, 0, none⟩) (w.setCell ⟨g, i, none⟩ (.int .i64 2)) := by
  obtain ⟨o0, -⟩ := h.stored i (.int .i64 2)
  intro j hj
  refine ⟨g, rfl, ?_⟩
  rw [o0.cellAt j (by omega)]
  unfold drG
  by_cases e : j = i
  · subst e
    rw [List.getElem?_set_self (by unfold litV; simpa using hi), if_pos rfl]
    rfl
  · rw [List.getElem?_set_ne (fun h => e h.symm), litV_get m v 8 j hj, if_neg e]
end Go.Proofs.YtdfllifjbabfjaaGreatDoor
namespace Go.Proofs.YtdfllifjbabfjaaGreatDoor
open Go.RowKit Go.Joins

theorem primB_no {S : BitVec 256} {n : Int} {m v : BitVec 8} (h : inB S n m v = false) : primB S n m v = false := by unfold primB; rw [h]; rfl
theorem primB_hit {S : BitVec 256} {n : Nat} {m v : BitVec 8} {i : Nat} (hi : i < n) (hm : m.getLsbD i = true) (h : inB S n (drM m i) (drM v i) = true) : primB S n m v = false := by
  rw [Bool.eq_false_iff]
  intro hp
  have := ((primB_iff S n m v).1 hp).2 i (by omega) hm
  rw [h] at this; cases this
theorem primB_end {S : BitVec 256} {n : Nat} {m v : BitVec 8} (h0 : inB S n m v = true) (h : ∀ i, i < n → m.getLsbD i = true → inB S n (drM m i) (drM v i) = false) : primB S n m v = true :=
  (primB_iff S n m v).2 ⟨h0, fun i hi => h i (by omega)⟩
end Go.Proofs.YtdfllifjbabfjaaGreatDoor
namespace Go.Proofs.YtdfllifjbabfjaaGreatDoor
open Go.RowKit Go.Joins

theorem rowin_no {s : Sp} {x : Rw} (h : rwB x s.i s.on.length = false) : rowIn s x = false := by unfold rowIn; rw [h]; rfl
theorem rowin_hit {s : Sp} {x : Rw} {j : Nat} {S : BitVec 256} (hS : s.may[j]? = some S) (hb : x.o.getLsbD j = true) (h : inB S s.i x.m x.v = false) : rowIn s x = false := by
  rw [Bool.eq_false_iff]
  intro hh
  have := (rowIn_iff.1 hh).2 j (List.getElem?_eq_some_iff.1 hS).1 hb
  rw [getD_of hS, h] at this; cases this
set_option maxHeartbeats 4000000 in
set_option maxRecDepth 100000 in
theorem rin10_any (i : Int) (A C : Value) (on may : List (BitVec 256)) (x : Rw) (w : World) (hA : SetsAt w w.heap.size A on) (hC : SetsAt w w.heap.size C may) (hm8 : may.length ≤ 8) :
    Calls Tryz.prog 13 #[spv i A C, rwv x] w fun e w' => e = .returned (.bool (rowIn ⟨i, on, may⟩ x)) ∧ Below w.heap.size w w' := by
  have HM := fun w => rmay_any x i on.length w
  have hB0 := below_alloc2 w (spb i A C) (.cells #[bvv x.m, bvv x.v, bvv x.o] 44 (0, 0))
  have hs0 := heap_alloc2_old w (spb i A C) (.cells #[bvv x.m, bvv x.v, bvv x.o] 44 (0, 0))
  have hx0 := heap_alloc2_new w (spb i A C) (.cells #[bvv x.m, bvv x.v, bvv x.o] 44 (0, 0))
  have hno := Lib.hid (fun h => rowin_no (s := ⟨i, on, may⟩) (x := x) h)
  have hhit := Lib.hid (fun (j : Nat) (S : BitVec 256) (hS : may[j]? = some S) hb h => rowin_hit (s := ⟨i, on, may⟩) (x := x) (j := j) (S := S) hS hb h)
  have hend := Lib.hid (fun h1 h2 => rowIn_iff (s := ⟨i, on, may⟩) (x := x).2 ⟨h1, h2⟩)
  have HB := fun (q : Nat) (hq : q < 8) w => bit8_any x.o q hq w
  have HW := fun S w => rwithin9_any x.m x.v S i w
  obtain ⟨A, ac, rfl, la, -⟩ := hA
  obtain ⟨C, cc, rfl, lc, hC⟩ := hC
  generalize rowIn ⟨i, on, may⟩ x = R at *
  unfold spv spb rwv sv cv at *
  unfold bvv wv at *
  obtain ⟨s0, s1, s2, -⟩ := now3 hs0 rfl
  obtain ⟨x0, x1, x2, -⟩ := now3 hx0 rfl
  cases hr : rwB x i on.length
  · rw [hr] at HM
    have hR := Lib.hid (hno.out hr)
    clear hno hhit hend HB HW hr hC
    go_enter Tryz.func13, Tryz.ntmps13
    go_wp2_with fail
    refine (HM _).mono ?_
    rintro e w1 ⟨rfl, hb⟩
    have hB1 := hB0.trans (hb.mono hB0.size)
    clear HM hB0 hb hs0 hx0 s0 s1 s2 x0 x1 x2
    go_wp2
    go_ret
    exact ⟨by rw [hR.out]; rfl, hB1⟩
  · rw [hr] at HM
    have hend2 := Lib.hid (hend.out hr)
    clear hno hend hr
    go_enter Tryz.func13, Tryz.ntmps13
    go_wp2_with fail
    refine (HM _).mono ?_
    rintro e w1 ⟨rfl, hb⟩
    have hB1 := hB0.trans (hb.mono hB0.size)
    have hs1 := keep_blk hb hs0
    have hx1 := keep_blk hb hx0
    clear HM hB0 hb hs0 hx0 s0 s1 s2 x0 x1 x2
    go_wp2
    go_loopw [5] (fun t wr => ∃ j : Nat, j ≤ may.length ∧ t = .int .i64 j ∧ Hid (∀ q, q < j → x.o.getLsbD q = true → inB (may.getD q 0) i x.m x.v = true) ∧ Below w1.heap.size w1 wr) (fun t _ => may.length - (intOf t).toNat)
    case atStart => exact ⟨0, by omega, rfl, Lib.hid (fun q hq => absurd hq (Nat.not_lt_zero _)), Below.refl _ _⟩
    case round =>
      obtain ⟨j, hj, rfl, hH, hb⟩ := hrel
      have hsr := keep_blk hb hs1
      have hxr := keep_blk hb hx1
      have hBr := hB1.trans (hb.mono hB1.size)
      obtain ⟨s0, s1, s2, -⟩ := now3 hsr rfl
      by_cases hlt : j < may.length
      · obtain ⟨S, hS⟩ : ∃ S, may[j]? = some S := ⟨_, List.getElem?_eq_getElem hlt⟩
        obtain ⟨bl, off, rfl, hBl, hcl⟩ := hC (by omega)
        obtain ⟨c0, c1, c2, c3⟩ := hcl j S hS
        have d0 := (hBr.cell (p := ⟨bl, off + j * 4, none⟩) hBl).trans c0
        have d1 := (hBr.cell (p := ⟨bl, off + j * 4 + 1, none⟩) hBl).trans c1
        have d2 := (hBr.cell (p := ⟨bl, off + j * 4 + 2, none⟩) hBl).trans c2
        have d3 := (hBr.cell (p := ⟨bl, off + j * 4 + 3, none⟩) hBl).trans c3
        have HBj := fun w => HB j (by omega) w
        have HWj := fun w => HW S w
        have hh := Lib.hid (hhit.out j S hS)
        have hSd : Hid (may.getD j 0 = S) := Lib.hid (getD_of hS)
        have j0 : (0 : Int) ≤ (j : Int) := by omega
        have j1 : (j : Int) < (may.length : Int) := by omega
        clear hcl c0 c1 c2 c3 hC HB HW hhit hS hs1 hx1
        cases hbit : x.o.getLsbD j
        · rw [hbit] at HBj
          have hH2 : Hid (∀ q, q < j + 1 → x.o.getLsbD q = true → inB (may.getD q 0) i x.m x.v = true) := Lib.hid (fun q h1 h2 => by
            by_cases e : q = j
            · subst e; rw [hbit] at h2; cases h2
            · exact hH.out q (by omega) h2)
          clear hh hend2 hH hbit HWj hSd
          go_upto_region 6 with (fail)
          obtain ⟨X0, X1, X2, -⟩ := box3 hxr rfl
          refine wp_region_after (by kernel_rfl) (by kernel_rfl) ?_
          repeat (first | go_big_quiet_step ((go_at_call 29; exact Calls.after_same (HBj _))))
          refine wpQuiet_nil ?_
          intro z
          have hbz := hb.trans (z.2.mono hb.size)
          clear X0 X1 X2 HBj s0 s1 s2 d0 d1 d2 d3
          go_wp2
          go_roundw
          case rel => exact ⟨j + 1, by omega, by go_num, hH2, hbz⟩
          case measure => simp [intOf]; omega
        · rw [hbit] at HBj
          cases hin : inB S i x.m x.v
          · rw [hin] at HWj
            have hR := Lib.hid (hh.out hbit hin)
            clear hh hend2 hH hbit hin hSd
            go_upto_region 6 with (fail)
            obtain ⟨X0, X1, X2, -⟩ := box3 hxr rfl
            obtain ⟨S0, S1, S2, -⟩ := box3 hsr rfl
            have D0 := fun x : After wr => After.cell x d0
            have D1 := fun x : After wr => After.cell x d1
            have D2 := fun x : After wr => After.cell x d2
            have D3 := fun x : After wr => After.cell x d3
            clear s0 s1 s2 d0 d1 d2 d3
            refine wp_region_after (by kernel_rfl) (by kernel_rfl) ?_
            repeat (first | go_big_quiet_step (first | (go_at_call 29; exact Calls.after_same (HBj _)) | (go_at_call 39; exact Calls.after_of (HWj _))))
            refine wpQuiet_nil ?_
            intro z
            have hBz := hBr.trans (z.2.mono hBr.size)
            clear X0 X1 X2 HBj S0 S1 S2 D0 D1 D2 D3 HWj
            go_wp2
            go_ret
            exact ⟨by rw [hR.out]; rfl, hBz⟩
          · rw [hin] at HWj
            have hH2 : Hid (∀ q, q < j + 1 → x.o.getLsbD q = true → inB (may.getD q 0) i x.m x.v = true) := Lib.hid (fun q h1 h2 => by
              by_cases e : q = j
              · subst e; rw [hSd.out]; exact hin
              · exact hH.out q (by omega) h2)
            clear hh hend2 hH hbit hin hSd
            go_upto_region 6 with (fail)
            obtain ⟨X0, X1, X2, -⟩ := box3 hxr rfl
            obtain ⟨S0, S1, S2, -⟩ := box3 hsr rfl
            have D0 := fun x : After wr => After.cell x d0
            have D1 := fun x : After wr => After.cell x d1
            have D2 := fun x : After wr => After.cell x d2
            have D3 := fun x : After wr => After.cell x d3
            clear s0 s1 s2 d0 d1 d2 d3
            refine wp_region_after (by kernel_rfl) (by kernel_rfl) ?_
            repeat (first | go_big_quiet_step (first | (go_at_call 29; exact Calls.after_same (HBj _)) | (go_at_call 39; exact Calls.after_of (HWj _))))
            refine wpQuiet_nil ?_
            intro z
            have hbz := hb.trans (z.2.mono hb.size)
            clear X0 X1 X2 HBj S0 S1 S2 D0 D1 D2 D3 HWj
            go_wp2
            go_roundw
            case rel => exact ⟨j + 1, by omega, by go_num, hH2, hbz⟩
            case measure => simp [intOf]; omega
      · have hR := Lib.hid (hend2.out (fun q hq => hH.out q (by have : q < may.length := hq; omega)))
        clear hend2 hhit hH HB HW hC hs1 hx1 hsr hxr
        go_wp2
        go_ret
        exact ⟨by rw [hR.out]; rfl, hBr⟩
end Go.Proofs.YtdfllifjbabfjaaGreatDoor
namespace Go.Proofs.YtdfllifjbabfjaaGreatDoor
open Go.RowKit Go.Joins

theorem lit_hold {m v m' v' : BitVec 8} {i : Nat} (hm : m.getLsbD i = true) : lit m v i = lit m' v' i ↔ m'.getLsbD i = true ∧ v.getLsbD i = v'.getLsbD i := by
  unfold lit
  rw [hm]
  cases m'.getLsbD i <;> cases v.getLsbD i <;> cases v'.getLsbD i <;> simp
theorem holds_hit {m v m' v' : BitVec 8} {i : Nat} (h1 : lit m v i ≠ 2) (h2 : lit m v i ≠ lit m' v' i) : holdsB m v m' v' = false := by
  have hm : m.getLsbD i = true := by
    cases h : m.getLsbD i
    · exact absurd (lit_two.2 h) h1
    · rfl
  rw [Bool.eq_false_iff]
  intro hh
  exact h2 ((lit_hold hm).2 ((holdsB_iff m v m' v').1 hh i hm))
theorem holds_end {m v m' v' : BitVec 8} (h : ∀ i, i < 8 → lit m v i = 2 ∨ lit m v i = lit m' v' i) : holdsB m v m' v' = true := by
  rw [holdsB_iff]
  intro i hm
  have hi : i < 8 := by
    rcases Nat.lt_or_ge i 8 with k | k
    · exact k
    · rw [BitVec.getLsbD_of_ge m i k] at hm; cases hm
  rcases h i hi with e | e
  · rw [lit_two.1 e] at hm; cases hm
  · exact (lit_hold hm).1 e
end Go.Proofs.YtdfllifjbabfjaaGreatDoor
