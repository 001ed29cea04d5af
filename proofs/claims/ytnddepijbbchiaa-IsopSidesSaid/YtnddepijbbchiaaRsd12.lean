/- The document's functions of flags of layer 12: Side, all, either. -/
import Derived.Test.YtnddepijbbchiaaRfl12
import Derived.Test.YtnddepijbbchiaaIso12
namespace Go.Proofs.Ytnddepijbbchiaa
open Go.RowKit Go.Joins

theorem two_d12 (k : Nat) : 2 ^ k * 2 = 2 ^ (k + 1) := by rw [Nat.pow_succ]
theorem xor_d12 : ∀ i : Fin 8, ∀ p : Fin 256, p.val ^^^ 2 ^ i.val = (if p.val.testBit i.val = true then p.val - 2 ^ i.val else p.val + 2 ^ i.val) ∧ (p.val.testBit i.val = true → 2 ^ i.val ≤ p.val) ∧ (p.val.testBit i.val = false → p.val + 2 ^ i.val < 256) := by decide +kernel
theorem side_d12 (p i : Nat) (hp : p < 256) (hi : i < 8) (b : Bool) : sb12 p i b = (if p.testBit i = b then p else if b = true then p + 2 ^ i else p - 2 ^ i) ∧ (p.testBit i = true → 2 ^ i ≤ p) ∧ (p.testBit i = false → p + 2 ^ i < 256) := by
  obtain ⟨h1, h2, h3⟩ := xor_d12 ⟨i, hi⟩ ⟨p, hp⟩
  simp only at h1 h2 h3
  refine ⟨?_, h2, h3⟩
  unfold sb12
  rw [h1]
  cases b <;> cases p.testBit i <;> simp

set_option maxHeartbeats 1000000 in
set_option maxRecDepth 1000000 in
theorem side12_any (A : Nat → Bool) (ba ca i : Nat) (hi : i < 8) (one : Bool) (w : World) (hA : FlAt w ba A) :
    Calls Try.prog 11 #[.slice (some ⟨ba, 0, none⟩) 256 ca, .int .i64 i, .bool one] w fun e w' => GivesF w (fun p => sideF A i one p) e w' := by
  have hmk := make256
  generalize hfa : flagsA (fun _ => false) = FA at hmk
  have hfa2 := Lib.hid hfa
  clear hfa
  have HBt := fun (p : Nat) (hp : p < 256) w => bit_test p i hp hi w
  have hsd := Lib.hid (fun (p : Nat) (hp : p < 256) => side_d12 p i hp hi one)
  have hq : 2 ^ i ≤ 128 := Nat.pow_le_pow_right (n := 2) (by decide) (show i ≤ 7 by omega)
  have hp2 := Lib.hid two_d12
  have hlo := Lib.hid (fun (k : Nat) (h : k < i) => (Nat.pow_le_pow_right (n := 2) (by decide) (show k ≤ 6 by omega) : 2 ^ k ≤ 64))
  go_enter Try.func11, Try.ntmps11
  go_wp2
  go_loop [7, 8] (fun t j => ∃ k : Nat, k ≤ i ∧ j = .int .i64 k ∧ t = .int .i64 (2 ^ k : Nat)) (fun _ j => i - (intOf j).toNat)
  case atStart => exact ⟨0, by omega, rfl, rfl⟩
  case round =>
    obtain ⟨k, hk, rfl, rfl⟩ := hrel
    by_cases hlt : k < i
    · have h64 := hlo.out k hlt
      have h2 := hp2.out k
      generalize hx : 2 ^ (k + 1) = x at h2
      have hx2 := Lib.hid hx
      clear hx
      generalize 2 ^ k = y at h64 h2
      go_wp2
      go_round
      case rel => exact ⟨k + 1, by omega, by go_num, by rw [hx2.out, ← h2]; go_num⟩
      case measure => simp [intOf]; omega
    · have e : k = i := by omega
      have e2 := Lib.hid e
      clear hlo hp2
      generalize hx : 2 ^ k = x
      have hx2 := Lib.hid (show x = 2 ^ i by rw [← hx, e])
      have hx3 : x ≤ 128 := by rw [hx2.out]; exact hq
      clear hx hq e
      go_wp2
      go_loopw [10, 11] (fun i' _ wr => ∃ k : Nat, k ≤ 256 ∧ i' = .int .i64 k ∧ wr.heap[w.heap.size]? = some (.cells (flagsA (fun p => decide (p < k) && sideF A i one p)) 4 (0, 0)) ∧ Below w.heap.size w wr) (fun i' _ _ => 256 - (intOf i').toNat)
      case atStart => exact ⟨0, by omega, rfl, by rw [flagsA_zero, hfa2.out]; exact heap_alloc_new _ _, below_alloc1 _ _⟩
      case round =>
        clear hfa2 hmk
        obtain ⟨p, hk, rfl, hblk, hb⟩ := hrel
        by_cases hlt : p < 256
        · have HB := HBt p hlt
          obtain ⟨s1, s2, s3⟩ := hsd.out p hlt
          have hc := (cell_of_block hblk p).trans (flagsA_get _ p hlt)
          have hf := unfrozen_of_block hblk p
          have hst2 := Lib.hid (step_flags (fun q => sideF A i one q) p)
          have hs0 : sideF A i one p = A (sb12 p i one) := rfl
          rw [← hx2.out] at s1 s2 s3
          rw [s1] at hs0
          clear s1
          cases one <;> cases ht : p.testBit i
          all_goals
            rw [ht] at HB hs0 s2 s3
            simp only [if_true, if_false, Bool.false_eq_true, reduceCtorEq, forall_const, false_implies] at HB hs0 s2 s3
            have ht2 := Lib.hid ht
            clear ht
          · have h1 : wr.cell? ⟨ba, p, none⟩ = some (.bool (sideF A i false p)) := by rw [hb.cell (p := ⟨ba, p, none⟩) hA.1, hs0]; exact hA.2 _ (by omega)
            clear hs0
            generalize hu : sideF A i false p = u at h1
            have hu2 := Lib.hid hu
            clear hu
            go_wp2_with (go_at_call 26; refine (HB _).mono ?_; rintro e w' ⟨rfl, rfl⟩)
            go_roundw
            case rel =>
              refine ⟨p + 1, by omega, by go_num, ?_, hb.setCell (Nat.le_refl _) _⟩
              have q := hst2.out
              simp only [hu2.out] at q
              rw [block_setCell hblk]
              exact congrArg (fun z => some (Obj.cells z 4 (0, 0))) q
            case measure => simp [intOf]; omega
          · have h1 : wr.cell? ⟨ba, p - x, none⟩ = some (.bool (sideF A i false p)) := by rw [hb.cell (p := ⟨ba, p - x, none⟩) hA.1, hs0]; exact hA.2 _ (by omega)
            clear hs0
            generalize hu : sideF A i false p = u at h1
            have hu2 := Lib.hid hu
            clear hu
            go_wp2_with (go_at_call 26; refine (HB _).mono ?_; rintro e w' ⟨rfl, rfl⟩)
            go_roundw
            case rel =>
              refine ⟨p + 1, by omega, by go_num, ?_, hb.setCell (Nat.le_refl _) _⟩
              have q := hst2.out
              simp only [hu2.out] at q
              rw [block_setCell hblk]
              exact congrArg (fun z => some (Obj.cells z 4 (0, 0))) q
            case measure => simp [intOf]; omega
          · have h1 : wr.cell? ⟨ba, p + x, none⟩ = some (.bool (sideF A i true p)) := by rw [hb.cell (p := ⟨ba, p + x, none⟩) hA.1, hs0]; exact hA.2 _ (by omega)
            clear hs0
            generalize hu : sideF A i true p = u at h1
            have hu2 := Lib.hid hu
            clear hu
            go_wp2_with (go_at_call 26; refine (HB _).mono ?_; rintro e w' ⟨rfl, rfl⟩)
            go_roundw
            case rel =>
              refine ⟨p + 1, by omega, by go_num, ?_, hb.setCell (Nat.le_refl _) _⟩
              have q := hst2.out
              simp only [hu2.out] at q
              rw [block_setCell hblk]
              exact congrArg (fun z => some (Obj.cells z 4 (0, 0))) q
            case measure => simp [intOf]; omega
          · have h1 : wr.cell? ⟨ba, p, none⟩ = some (.bool (sideF A i true p)) := by rw [hb.cell (p := ⟨ba, p, none⟩) hA.1, hs0]; exact hA.2 _ (by omega)
            clear hs0
            generalize hu : sideF A i true p = u at h1
            have hu2 := Lib.hid hu
            clear hu
            go_wp2_with (go_at_call 26; refine (HB _).mono ?_; rintro e w' ⟨rfl, rfl⟩)
            go_roundw
            case rel =>
              refine ⟨p + 1, by omega, by go_num, ?_, hb.setCell (Nat.le_refl _) _⟩
              have q := hst2.out
              simp only [hu2.out] at q
              rw [block_setCell hblk]
              exact congrArg (fun z => some (Obj.cells z 4 (0, 0))) q
            case measure => simp [intOf]; omega
        · have e : p = 256 := by omega
          subst e
          go_wp2
          go_ret
          exact ⟨_, rfl, Nat.le_refl _, (FlAt.of_block hblk).ext fun p hp => by simp [hp], hb⟩

theorem all12_any (n : Nat) (hn : n ≤ 8) (w : World) :
    Calls Try.prog 33 #[.int .i64 n] w fun e w' => GivesF w (fun p => decide (p < 2 ^ n)) e w' := by
  have HA := fun w => refall_any n hn w
  go_enter Try.func33, Try.ntmps33
  go_wp2_with (go_at_call 50; refine (HA _).mono ?_; rintro e w' ⟨b, rfl, h1, h2, h3, h4⟩)
  go_ret
  exact ⟨b, rfl, h1, ⟨h2, h3⟩, h4⟩

set_option maxHeartbeats 1000000 in
set_option maxRecDepth 1000000 in
theorem either12_any (A B : Nat → Bool) (ba ca bb cb : Nat) (w : World) (hA : FlAt w ba A) (hB : FlAt w bb B) :
    Calls Try.prog 34 #[.slice (some ⟨ba, 0, none⟩) 256 ca, .slice (some ⟨bb, 0, none⟩) 256 cb] w fun e w' => GivesF w (fun p => A p || B p) e w' := by
  have HE := fun w => all12_any 8 (Nat.le_refl _) w
  have HL := fun A B ba ca bb cb w hA hB => less12_any A B ba ca bb cb w hA hB
  have HM := fun A B ba ca bb cb w hA hB => both12_any A B ba ca bb cb w hA hB
  go_enter Try.func34, Try.ntmps34
  go_wp2_with fail
  refine (HE _).mono ?_; rintro e w1 ⟨b1, rfl, l1, f1, B1⟩
  go_wp2_with fail
  refine (HE _).mono ?_; rintro e w2 ⟨b2, rfl, l2, f2, B2⟩
  have k2 : Below w.heap.size w w2 := B1.trans (B2.mono B1.size)
  go_wp2_with fail
  refine (HL _ A _ _ _ _ _ f2 (hA.below k2 hA.1)).mono ?_; rintro e w3 ⟨b3, rfl, l3, f3, B3⟩
  have k3 : Below w.heap.size w w3 := k2.trans (B3.mono k2.size)
  go_wp2_with fail
  refine (HE _).mono ?_; rintro e w4 ⟨b4, rfl, l4, f4, B4⟩
  have k4 : Below w.heap.size w w4 := k3.trans (B4.mono k3.size)
  go_wp2_with fail
  refine (HL _ B _ _ _ _ _ f4 (hB.below k4 hB.1)).mono ?_; rintro e w5 ⟨b5, rfl, l5, f5, B5⟩
  have k5 : Below w.heap.size w w5 := k4.trans (B5.mono k4.size)
  have f35 := (f3.below B4 f3.1).below B5 (Nat.lt_of_lt_of_le f3.1 B4.size)
  go_wp2_with fail
  refine (HM _ _ _ _ _ _ _ f35 f5).mono ?_; rintro e w6 ⟨b6, rfl, l6, f6, B6⟩
  have k6 : Below w.heap.size w w6 := k5.trans (B6.mono k5.size)
  have f1' : FlAt w6 b1 _ := f1.below (B2.trans ((B3.mono B2.size).trans ((B4.mono (Nat.le_trans B2.size B3.size)).trans ((B5.mono (Nat.le_trans (Nat.le_trans B2.size B3.size) B4.size)).trans (B6.mono (Nat.le_trans (Nat.le_trans (Nat.le_trans B2.size B3.size) B4.size) B5.size)))))) f1.1
  go_wp2_with fail
  refine (HL _ _ _ _ _ _ _ f1' f6).mono ?_; rintro e w7 ⟨b7, rfl, l7, f7, B7⟩
  have k7 : Below w.heap.size w w7 := k6.trans (B7.mono k6.size)
  go_wp2_with fail
  go_ret
  refine ⟨b7, rfl, Nat.le_trans k6.size l7, f7.ext fun p hp => ?_, k7⟩
  have h8 : decide (p < 2 ^ 8) = true := decide_eq_true hp
  rw [h8]
  cases A p <;> cases B p <;> rfl
end Go.Proofs.Ytnddepijbbchiaa
