/- What the document's Right and Has of layer 2 come to. What the document's Points and Text of layer 2 come to. A slice of sets in memory. -/
import Derived.Test.YtdfllifjbabfjaaGreatDoorGM13
import Derived.Test.YtdfllifjbabfjaaGreatDoorGM04
namespace Go.Proofs.YtdfllifjbabfjaaGreatDoor
open Go.RowKit Go.Joins

theorem rcube_lits (m v : BitVec 8) (b cap : Nat) (w : World) (h : LitsAt m v b w) (x : After w) :
    Calls Tryz.prog 62 #[.slice (some ⟨b, 0, none⟩) 8 cap] x.1 fun e w' => e = .returned (cv m (v &&& m)) ∧ Below x.1.heap.size x.1 w' := by
  have := rcube_any (lit m v) 8 (by omega) (fun i _ => lit_le m v i) (some ⟨b, 0, none⟩) cap x.1 (fun i hi => ⟨b, rfl, After.cell x (h.2 i hi)⟩)
  rwa [mB_lit, vB_lit] at this
theorem rright_low (m v : BitVec 8) (n : Int) (h : n < 0) (w : World) :
    Calls Tryz.prog 26 #[cv m v, .int .i64 n] w fun e w' => e = .returned (.bool false) ∧ Below w.heap.size w w' := by
  unfold cv bvv
  go_enter Tryz.func26, Tryz.ntmps26
  go_wp2
  go_ret
  exact ⟨rfl, below_alloc1 w _⟩
theorem rright_high (m v : BitVec 8) (n : Int) (h : 8 < n) (w : World) :
    Calls Tryz.prog 26 #[cv m v, .int .i64 n] w fun e w' => e = .returned (.bool false) ∧ Below w.heap.size w w' := by
  unfold cv bvv
  have h0 : 0 ≤ n := by omega
  go_enter Tryz.func26, Tryz.ntmps26
  go_wp2
  go_ret
  exact ⟨rfl, below_alloc1 w _⟩
theorem rightB_bad {m v : BitVec 8} {n i : Nat} (h : n ≤ i) (hi : m.getLsbD i = true) : rightB m v n = false := by
  rw [Bool.eq_false_iff]
  intro hr
  rw [rightB_iff] at hr
  have := hr.2.2.1 i (by simpa using h)
  rw [hi] at this; cases this
theorem lit_two {m v : BitVec 8} {i : Nat} : lit m v i = 2 ↔ m.getLsbD i = false := by
  unfold lit
  cases m.getLsbD i <;> cases v.getLsbD i <;> simp
set_option maxHeartbeats 1000000 in
set_option maxRecDepth 1000000 in
theorem rright_mid (m v : BitVec 8) (n : Nat) (h : n ≤ 8) (w : World) :
    Calls Tryz.prog 26 #[cv m v, .int .i64 n] w fun e w' => e = .returned (.bool (rightB m v n)) ∧ Below w.heap.size w w' := by
  have HL := fun w => lits_any m v w
  have h0 : (0 : Int) ≤ n := by omega
  have h1 : (n : Int) ≤ 8 := by omega
  unfold cv bvv at *
  go_enter Tryz.func26, Tryz.ntmps26
  go_wp2_with fail
  refine (HL _).mono ?_
  rintro e w1 ⟨b, cap, rfl, hlo, hl, hb1⟩
  have hB : Below w.heap.size w w1 := (below_alloc1 w _).trans (hb1.mono (by simp))
  have ha := (keep_blk hb1 (heap_alloc_new _ _) : w1.heap[w.heap.size]? = some (cb m v))
  clear hb1 HL hlo
  go_wp2
  go_loop [6] (fun i => ∃ k : Nat, n ≤ k ∧ k ≤ 8 ∧ i = .int .i64 k ∧ Hid (∀ j, n ≤ j → j < k → m.getLsbD j = false)) (fun i => 8 - (intOf i).toNat)
  case atStart => exact ⟨n, by omega, by omega, rfl, Lib.hid fun j h1 h2 => by omega⟩
  case round =>
    obtain ⟨k, hk, hk8, rfl, hall⟩ := hrel
    by_cases hlt : k < 8
    · have hc := hl.2 k hlt
      cases hmk : m.getLsbD k
      · rw [lit_two.2 hmk] at hc
        have hmk2 := Lib.hid hmk
        clear hmk
        go_wp2
        go_round
        case rel =>
          refine ⟨k + 1, by omega, by omega, by go_num, Lib.hid fun j h1 h2 => ?_⟩
          by_cases e : j = k
          · subst e; exact hmk2.out
          · exact hall.out j h1 (by omega)
        case measure => simp [intOf]; omega
      · have hne : ((lit m v k : Nat) : Int) ≠ 2 := by
          intro e
          have e2 : lit m v k = 2 := by exact_mod_cast e
          rw [lit_two] at e2; rw [hmk] at e2; cases e2
        have hq : (((lit m v k : Nat) : Int) != 2) = true := by rw [bne_iff_ne]; exact hne
        have hbad := Lib.hid (rightB_bad (v := v) hk hmk)
        clear hmk hne
        generalize lit m v k = L at *
        go_wp2
        go_ret
        exact ⟨by rw [hbad.out]; rfl, hB⟩
    · have e : k = 8 := by omega
      subst e
      have HC := rcube_lits m v b cap w1 hl
      unfold cv bvv at HC
      obtain ⟨a0, a1, -⟩ := box2 ha rfl
      have hmz : Hid (m.toNat / 2 ^ n = 0) := Lib.hid ((shr_zero m n).2 fun i hi => by
        by_cases h8 : i < 8
        · exact hall.out i hi h8
        · exact BitVec.getLsbD_of_ge m i (by omega))
      clear hall ha hl
      by_cases hv : v &&& m = v
      · have hr : Hid (rightB m v n = true) := Lib.hid (by
          unfold rightB; exact decide_eq_true ⟨h0, h1, hmz.out, hv⟩)
        rw [hv] at HC
        clear hv hmz
        go_wp2
        refine wp_region_after (by kernel_rfl) (by kernel_rfl) ?_
        repeat (first | go_big_quiet_step ((go_at_call 62; exact Calls.after_of (HC _))))
        refine wpQuiet_nil ?_
        intro x
        go_wp2
        go_ret
        exact ⟨by rw [hr.out]; rfl, hB.trans (x.2.mono hB.size)⟩
      · have hr : Hid (rightB m v n = false) := Lib.hid (by
          unfold rightB; exact decide_eq_false fun ⟨_, _, _, h4⟩ => hv h4)
        have hn := toNat_ne hv
        clear hv hmz
        generalize v &&& m = t at *
        go_wp2
        refine wp_region_after (by kernel_rfl) (by kernel_rfl) ?_
        repeat (first | go_big_quiet_step ((go_at_call 62; exact Calls.after_of (HC _))))
        refine wpQuiet_nil ?_
        intro x
        go_wp2
        go_ret
        exact ⟨by rw [hr.out]; rfl, hB.trans (x.2.mono hB.size)⟩
theorem rright_any (m v : BitVec 8) (n : Int) (w : World) :
    Calls Tryz.prog 26 #[cv m v, .int .i64 n] w fun e w' => e = .returned (.bool (rightB m v n)) ∧ Below w.heap.size w w' := by
  by_cases h0 : n < 0
  · have e : rightB m v n = false := by unfold rightB; exact decide_eq_false (by omega)
    rw [e]; exact rright_low m v n h0 w
  · by_cases h8 : 8 < n
    · have e : rightB m v n = false := by unfold rightB; exact decide_eq_false (by omega)
      rw [e]; exact rright_high m v n h8 w
    · obtain ⟨k, rfl⟩ := Int.eq_ofNat_of_zero_le (show 0 ≤ n by omega)
      exact rright_mid m v k (by omega) w
theorem bitlit (m v : BitVec 8) (i : Nat) (h : m.getLsbD i = true) : ((lit m v i : Nat) : Int) = if v.getLsbD i then 1 else 0 := by
  unfold lit; rw [h]; cases v.getLsbD i <;> rfl
set_option maxHeartbeats 1000000 in
set_option maxRecDepth 1000000 in
theorem rhas_any (m v : BitVec 8) (p : Nat) (hp : p < 256) (w : World) :
    Calls Tryz.prog 30 #[cv m v, .int .i64 p] w fun e w' => e = .returned (.bool (fits m v 8 p)) ∧ Below w.heap.size w w' := by
  have HL := fun w => lits_any m v w
  unfold cv bvv at *
  go_enter Tryz.func30, Tryz.ntmps30
  go_wp2_with fail
  refine (HL _).mono ?_
  rintro e w1 ⟨b, cap, rfl, hlo, hl, hb1⟩
  have hB : Below w.heap.size w w1 := (below_alloc1 w _).trans (hb1.mono (by simp))
  clear hb1 HL hlo
  go_wp2
  go_loopw [6] (fun i wr => ∃ k : Nat, k ≤ 8 ∧ i = .int .i64 k ∧ Hid (fits m v k p = true) ∧ LitsAt m v b wr ∧ Below w.heap.size w wr) (fun i _ => 8 - (intOf i).toNat)
  case atStart => exact ⟨0, by omega, rfl, Lib.hid rfl, hl, hB⟩
  case round =>
    clear hl hB
    obtain ⟨k, hk, rfl, hall, hl, hB⟩ := hrel
    by_cases hlt : k < 8
    · have hc : ∀ x : After wr, x.1.cell? ⟨b, k, none⟩ = some (.int .i64 (lit m v k : Nat)) := fun x => After.cell x (hl.2 k hlt)
      have HB := fun w => bit_test p k hp hlt w
      cases hmk : m.getLsbD k
      · rw [lit_two.2 hmk] at hc
        have hst : Hid (fits m v (k + 1) p = true) := Lib.hid (by rw [fits, hall.out, hmk]; rfl)
        clear hmk
        go_wp2
        refine wp_region_after (by kernel_rfl) (by kernel_rfl) ?_
        repeat (first | go_big_quiet_step (fail))
        refine wpQuiet_nil ?_
        intro x
        have hl2 := hl.keep x.2
        have hB2 := hB.trans (x.2.mono hB.size)
        go_wp2
        go_roundw
        case rel => exact ⟨k + 1, by omega, by go_num, hst, hl2, hB2⟩
        case measure => simp [intOf]; omega
      · rw [bitlit m v k hmk] at hc
        have hst : Hid (fits m v (k + 1) p = (p.testBit k == v.getLsbD k)) := Lib.hid (by rw [fits, hall.out, hmk]; rfl)
        have hall8 : Hid (fits m v 8 p = true → fits m v (k + 1) p = true) := Lib.hid (fun h => by
          rw [fits_iff] at h ⊢
          exact fun i hi hm => h i (by omega) hm)
        clear hmk
        cases hv : v.getLsbD k <;> cases hpk : p.testBit k <;> rw [hv] at hc <;> rw [hpk] at HB <;> rw [hv, hpk] at hst <;> simp only [if_true, Bool.false_eq_true, if_false] at hc HB
        all_goals
          clear hv hpk
          go_wp2
          refine wp_region_after (by kernel_rfl) (by kernel_rfl) ?_
          repeat (first | go_big_quiet_step ((go_at_call 63; exact Calls.after_same (HB _))))
          refine wpQuiet_nil ?_
          intro x
          have hl2 := hl.keep x.2
          have hB2 := hB.trans (x.2.mono hB.size)
          go_wp2
          first
            | (go_roundw
               case rel => exact ⟨k + 1, by omega, by go_num, Lib.hid hst.out, hl2, hB2⟩
               case measure => simp [intOf]; omega)
            | (go_ret
               refine ⟨?_, hB2⟩
               cases hf : fits m v 8 p
               · rfl
               · have := hall8.out hf
                 rw [hst.out] at this
                 simp at this)
    · have e : k = 8 := by omega
      subst e
      go_wp2
      go_ret
      exact ⟨by rw [hall.out]; rfl, hB⟩
end Go.Proofs.YtdfllifjbabfjaaGreatDoor
namespace Go.Proofs.YtdfllifjbabfjaaGreatDoor
open Go.RowKit Go.Joins

/-- The flags when the first k points are asked. -/
def pf (m v : BitVec 8) (n k p : Nat) : Bool := decide (p < 2 ^ n) && (!decide (p < k) || fits m v 8 p)
theorem pf_step (m v : BitVec 8) (n k : Nat) : (flagsA (pf m v n k)).setIfInBounds k (.bool (decide (k < 2 ^ n) && fits m v 8 k)) = flagsA (pf m v n (k + 1)) :=
  flagsA_set _ _ k _ (by unfold pf; simp) (fun p hp => by
    unfold pf
    have e : (p < k + 1) ↔ (p < k) := by omega
    simp [e])
theorem pf_at (m v : BitVec 8) (n k : Nat) : pf m v n k k = decide (k < 2 ^ n) := by unfold pf; simp
theorem pf_zero (m v : BitVec 8) (n : Nat) : pf m v n 0 = fun p => decide (p < 2 ^ n) := by funext p; unfold pf; simp
theorem pf_all (m v : BitVec 8) (n : Nat) : bvOf (pf m v n 256) = cpts m v n 8 := by
  apply BitVec.eq_of_getLsbD_eq
  intro p hp
  unfold cpts
  rw [bvOf_bit, bvOf_bit]
  unfold pf
  simp [hp]
theorem cpts_right {m v : BitVec 8} {n : Nat} (h : rightB m v n = true) : cpts m v n 8 = cpts m v n n := by
  rw [rightB_iff] at h
  obtain ⟨_, h8, hm, _⟩ := h
  unfold cpts
  congr 1
  funext p
  congr 1
  rw [Bool.eq_iff_iff, fits_iff, fits_iff]
  constructor
  · intro h i hi h1; exact h i (by omega) h1
  · intro h i hi h1
    rcases Nat.lt_or_ge i n with k | k
    · exact h i k h1
    · rw [hm i (by simpa using k)] at h1; cases h1
set_option maxHeartbeats 1000000 in
set_option maxRecDepth 1000000 in
theorem rpoints_any (m v : BitVec 8) (n : Nat) (hn : n ≤ 8) (w : World) :
    Calls Tryz.prog 66 #[cv m v, .int .i64 n] w fun e w' => e = .returned (sv (cpts m v n 8)) ∧ Below w.heap.size w w' := by
  have HA := fun w => refall_blk n hn w
  have hf := Lib.hid (pf_all m v n)
  unfold cv sv bvv wv at *
  go_enter Tryz.func66, Tryz.ntmps66
  go_wp2_with fail
  refine (HA _).mono ?_
  rintro e w1 ⟨b, rfl, hlo, hblk, hb1⟩
  have hB : Below w.heap.size w w1 := (below_alloc2 w _ _).trans (hb1.mono (by simp; omega))
  have ha := (keep_blk hb1 (heap_alloc2_old _ _ _) : w1.heap[w.heap.size]? = some (cb m v))
  have hc := (keep_blk hb1 (heap_alloc2_new _ _ _) : w1.heap[w.heap.size + 1]? = some (.cells #[Value.int IntKind.u64 0, Value.int IntKind.u64 0, Value.int IntKind.u64 0, Value.int IntKind.u64 0] 50 (0, 0)))
  have hlo2 : w.heap.size + 2 ≤ b := by simpa using hlo
  rw [← pf_zero m v n] at hblk
  clear hb1 HA hlo
  go_wp2
  go_loopw [6] (fun i wr => ∃ k : Nat, k ≤ 256 ∧ i = .int .i64 k ∧ wr.heap[b]? = some (.cells (flagsA (pf m v n k)) 4 (0, 0)) ∧ wr.heap[w.heap.size]? = some (cb m v) ∧ wr.heap[w.heap.size + 1]? = some (.cells #[Value.int IntKind.u64 0, Value.int IntKind.u64 0, Value.int IntKind.u64 0, Value.int IntKind.u64 0] 50 (0, 0)) ∧ Below w.heap.size w wr) (fun i _ => 256 - (intOf i).toNat)
  case atStart => exact ⟨0, by omega, rfl, hblk, ha, hc, hB⟩
  case round =>
    clear hblk ha hc hB
    obtain ⟨k, hk, rfl, hblk, ha, hc, hB⟩ := hrel
    by_cases hlt : k < 256
    · have hck := (cell_of_block hblk k).trans (flagsA_get _ k hlt)
      rw [pf_at] at hck
      have hst := Lib.hid (pf_step m v n k)
      obtain ⟨a0, a1, -⟩ := now2 ha rfl
      cases hd : decide (k < 2 ^ n)
      · rw [hd] at hck hst
        have hfz := unfrozen_of_block hblk k
        clear hd
        go_wp2
        go_roundw
        case rel => exact ⟨k + 1, by omega, by go_num, by rw [block_setCell hblk, ← hst.out]; rfl, keep_set (by show _ ≠ b; omega) ha, keep_set (by show _ ≠ b; omega) hc, hB.setCell (by show _ ≤ b; omega) _⟩
        case measure => simp [intOf]; omega
      · rw [hd] at hck hst
        have HH := fun w => rhas_any m v k hlt w
        unfold cv bvv at HH
        clear hd
        generalize fits m v 8 k = F at *
        go_wp2_with fail
        refine (HH _).mono ?_
        rintro e w2 ⟨rfl, hb2⟩
        have hblk2 := keep_blk hb2 hblk
        have ha2 := keep_blk hb2 ha
        have hc2 := keep_blk hb2 hc
        have hB2 := hB.trans (hb2.mono hB.size)
        have hck2 := (cell_of_block hblk2 k).trans (flagsA_get _ k hlt)
        have hfz := unfrozen_of_block hblk2 k
        clear hb2 hblk ha hc hB hck a0 a1
        go_wp2
        go_roundw
        case rel => exact ⟨k + 1, by omega, by go_num, by rw [block_setCell hblk2, ← hst.out]; rfl, keep_set (by show _ ≠ b; omega) ha2, keep_set (by show _ ≠ b; omega) hc2, hB2.setCell (by show _ ≤ b; omega) _⟩
        case measure => simp [intOf]; omega
    · have e : k = 256 := by omega
      subst e
      have HS := refset_any (pf m v n 256) b 256 wr (size_of_block hblk) (fun p hp => (cell_of_block hblk p).trans (flagsA_get _ p hp))
      rw [hf.out] at HS
      unfold sv wv at HS
      go_wp2_with fail
      refine HS.mono ?_
      rintro e w2 ⟨rfl, hb2⟩
      have hc2 := keep_blk hb2 hc
      have hB2 := hB.trans (hb2.mono hB.size)
      obtain ⟨c0, c1, c2, c3, cf⟩ := now4 hc2 rfl
      clear hb2 hblk ha hc hB HS hc2
      go_wp2
      exact bodyPost_ret (v := .agg #[.int .u64 (wd (cpts m v n 8) 0).toNat, .int .u64 (wd (cpts m v n 8) 1).toNat, .int .u64 (wd (cpts m v n 8) 2).toNat, .int .u64 (wd (cpts m v n 8) 3).toNat]) (by simp [results, Tryz.results66, go_sem, c0, c1, c2, c3]) rfl
        ⟨rfl, below4 (le1 w) hB2⟩
end Go.Proofs.YtdfllifjbabfjaaGreatDoor
namespace Go.Proofs.YtdfllifjbabfjaaGreatDoor
open Go.RowKit Go.Joins

/-- The slice v reads as the sets Ss; what it reads lies below block B. -/
def SetsAt (w : World) (B : Nat) (v : Value) (Ss : List (BitVec 256)) : Prop :=
  ∃ A c, v = .slice A Ss.length c ∧ Ss.length ≤ 9223372036854775807 ∧
    (0 < Ss.length → ∃ b off, A = some ⟨b, off, none⟩ ∧ b < B ∧ ∀ j X, Ss[j]? = some X → w.cell? ⟨b, off + j * 4, none⟩ = some (wv (wd X 0)) ∧ w.cell? ⟨b, off + j * 4 + 1, none⟩ = some (wv (wd X 1)) ∧
      w.cell? ⟨b, off + j * 4 + 2, none⟩ = some (wv (wd X 2)) ∧ w.cell? ⟨b, off + j * 4 + 3, none⟩ = some (wv (wd X 3)))
theorem SetsAt.below {w w' : World} {B : Nat} {v : Value} {Ss : List (BitVec 256)} (h : SetsAt w B v Ss) (hb : Below B w w') : SetsAt w' B v Ss := by
  obtain ⟨A, c, e, hl, h⟩ := h
  refine ⟨A, c, e, hl, fun h0 => ?_⟩
  obtain ⟨b, off, eA, hB, hc⟩ := h h0
  refine ⟨b, off, eA, hB, fun j X hx => ?_⟩
  obtain ⟨a0, a1, a2, a3⟩ := hc j X hx
  exact ⟨(hb.cell (p := ⟨b, off + j * 4, none⟩) hB).trans a0, (hb.cell (p := ⟨b, off + j * 4 + 1, none⟩) hB).trans a1, (hb.cell (p := ⟨b, off + j * 4 + 2, none⟩) hB).trans a2, (hb.cell (p := ⟨b, off + j * 4 + 3, none⟩) hB).trans a3⟩
theorem SetsAt.more {w : World} {B B' : Nat} {v : Value} {Ss : List (BitVec 256)} (h : SetsAt w B v Ss) (hB : B ≤ B') : SetsAt w B' v Ss := by
  obtain ⟨A, c, e, hl, h⟩ := h
  refine ⟨A, c, e, hl, fun h0 => ?_⟩
  obtain ⟨b, off, eA, hb, hc⟩ := h h0
  exact ⟨b, off, eA, by omega, hc⟩
theorem SetsAt.form {w : World} {B : Nat} {v : Value} {Ss : List (BitVec 256)} (h : SetsAt w B v Ss) : ∃ A c, v = .slice A Ss.length c := by
  obtain ⟨A, c, e, -, -⟩ := h
  exact ⟨A, c, e⟩
theorem sts_nil (w : World) (B : Nat) : SetsAt w B (.slice none 0 0) [] := ⟨none, 0, rfl, by decide, fun h => absurd h (by simp)⟩
end Go.Proofs.YtdfllifjbabfjaaGreatDoor
