/- The statement SetPoints, walked. -/
import Derived.Test.YtpdmlngbagjhjaaLaw01d
namespace Go.Proofs.Ytpdmlngbagjhjaa
open Go.RowKit Go.Joins

theorem flags_any3 (S : BitVec 256) (w : World) :
    Calls Try.prog 10 #[sv S] w fun e w' => ∃ b cap : Nat, e = .returned (.slice (some ⟨b, 0, none⟩) 256 cap) ∧ w'.ownsRow w.heap.size 4 1 (.slice (some ⟨b, 0, none⟩) 256 cap) 256 (boolsV (fun p => S.getLsbD p)) ∧ Below w.heap.size w w' :=
  (flags_any S w).mono fun e w' ⟨v, he, hown, hb⟩ => by
    obtain ⟨b, cap, rfl⟩ := ownsRow_form hown (by decide)
    exact ⟨b, cap, he, hown, hb⟩
/-- A slice of the points of a set. -/
def RowOf (S : BitVec 256) (ad : Option Addr) (w : World) : Prop := ∀ k (hk : k < (pts S).length), ∃ g, ad = some ⟨g, 0, none⟩ ∧ w.cell? ⟨g, k, none⟩ = some (.int .i64 ((pts S)[k] : Nat))
theorem RowOf.keep {S : BitVec 256} {ad : Option Addr} {w w1 : World} (h : RowOf S ad w) (hb : Below w.heap.size w w1) : RowOf S ad w1 := fun k hk => by
  obtain ⟨g, h1, h2⟩ := h k hk
  exact ⟨g, h1, After.cell ⟨w1, hb⟩ h2⟩
theorem row_of {w : World} {base : Nat} {v : Value} {S : BitVec 256} (h : w.ownsRow base 3 1 v (pts S).length (intsV (pts S))) : ∃ ad cap, v = .slice ad (pts S).length cap ∧ RowOf S ad w := by
  rcases ownsRow_forms h with ⟨rfl, h0⟩ | ⟨g, cap, rfl⟩
  · exact ⟨none, 0, by rw [h0], fun k hk => by omega⟩
  · refine ⟨some ⟨g, 0, none⟩, cap, rfl, fun k hk => ⟨g, rfl, ?_⟩⟩
    rw [h.cellAt k (by omega)]
    simp [intsV, hk]
theorem list_any2 (S : BitVec 256) (w : World) :
    Calls Try.prog 11 #[sv S] w fun e w' => ∃ (ad : Option Addr) (cap : Nat), e = .returned (.slice ad (pts S).length cap) ∧ RowOf S ad w' ∧ Below w.heap.size w w' :=
  (list_any S w).mono fun e w' ⟨v, he, hown, hb⟩ => by
    obtain ⟨ad, cap, rfl, hr⟩ := row_of hown
    exact ⟨ad, cap, he, hr, hb⟩
theorem reflist_any2 (S : BitVec 256) (w : World) :
    Calls Try.prog 12 #[sv S] w fun e w' => ∃ (ad : Option Addr) (cap : Nat), e = .returned (.slice ad (pts S).length cap) ∧ RowOf S ad w' ∧ Below w.heap.size w w' :=
  (reflist_any S w).mono fun e w' ⟨v, he, hown, hb⟩ => by
    obtain ⟨ad, cap, rfl, hr⟩ := row_of hown
    exact ⟨ad, cap, he, hr, hb⟩
theorem count_any2 (S : BitVec 256) (w : World) : Calls Try.prog 13 #[sv S] w fun e w' => e = .returned (.int .i64 ((pts S).length : Nat)) ∧ Below w.heap.size w w' := by
  rw [← pop_eq]; exact count_any S w
theorem refset_add (S : BitVec 256) (p : Int) (b cap : Nat) (w : World) (hcell : ∀ q, q < 256 → w.cell? ⟨b, q, none⟩ = some (.bool (addF S p q))) (x : After w) :
    Calls Try.prog 8 #[.slice (some ⟨b, 0, none⟩) 256 cap] x.1 fun e w' => e = .returned (sv (addB S p)) ∧ Below x.1.heap.size x.1 w' := by
  have h1 := refset_any (addF S p) b cap x.1 (Nat.lt_of_lt_of_le (block_lt_of_cell (hcell 0 (by omega))) x.2.size) (fun q hq => After.cell x (hcell q hq))
  rw [addB_bit] at h1
  exact h1
theorem refset_all (n : Nat) (b : Nat) (w : World) (hcell : ∀ p, p < 256 → w.cell? ⟨b, p, none⟩ = some (.bool (decide (p < 2 ^ n)))) (x : After w) :
    Calls Try.prog 8 #[.slice (some ⟨b, 0, none⟩) 256 256] x.1 fun e w' => e = .returned (sv (allB n)) ∧ Below x.1.heap.size x.1 w' :=
  refset_any (fun p => decide (p < 2 ^ n)) b 256 x.1 (Nat.lt_of_lt_of_le (block_lt_of_cell (hcell 0 (by omega))) x.2.size) (fun q hq => After.cell x (hcell q hq))
theorem addF_in (S : BitVec 256) (q : Nat) : (boolsV (fun p => S.getLsbD p)).set q (.bool true) = boolsV (addF S q) :=
  boolsV_set _ _ q true (by simp [addF]) (fun p hp => by simp [addF, hp])
theorem addF_out (S : BitVec 256) (p : Int) (h : p < 0 ∨ 256 ≤ p) : boolsV (fun p => S.getLsbD p) = boolsV (addF S p) := by
  unfold boolsV
  apply List.map_congr_left
  intro q hq
  have hq2 : q < 256 := by simpa using hq
  have : ¬ (0 ≤ p ∧ q = p.toNat) := by omega
  unfold addF
  by_cases h0 : 0 ≤ p
  · have h3 : ¬ q = p.toNat := by omega
    simp [h3]
  · simp [h0]

set_option maxHeartbeats 2000000 in
set_option maxRecDepth 1000000 in
theorem setPoints_oi (S : BitVec 256) (n : Int) (hn : n < 0 ∨ 8 < n) (q : Nat) (hq : q < 256) (w : World) : Calls Try.prog 3 #[sv S, .int .i64 n, .int .i64 q] w fun e w' => e = .returned (.bool true) ∧ Below w.heap.size w w' := by
  have HF := fun w => flags_any3 S w
  have HL := fun w => list_any2 S w
  have HR := fun w => reflist_any2 S w
  have HC := fun w => count_any2 S w
  have hplen : (pts S).length ≤ 256 := by rw [← pop_eq]; exact pop_le S
  have E := eq4_refl
  have HA := fun w => all_no n hn w
  have hns : n < 0 ∨ (¬ n < 0 ∧ 8 < n) := by omega
  have hp0 : (0 : Int) ≤ q := by omega
  have hp1 : (q : Int) < 256 := by omega
  rw [show sv 0 = .agg #[.int .u64 0, .int .u64 0, .int .u64 0, .int .u64 0] from by kernel_rfl] at HA
  unfold sv wv at *
  go_enter Try.func3, Try.ntmps3
  go_wp2_with fail
  refine (HA _).mono ?_
  rintro e w1 ⟨rfl, hb1⟩
  have hbox1 : w1.heap[w.heap.size]? = some (.cells (sa S) 24 (0, 0)) := blk_below hb1 (heap_alloc_new w _)
  have hB1 : Below w.heap.size w w1 := (below_alloc1 w _).trans (hb1.mono (by simp))
  have hs1 := size_of_block hbox1
  obtain ⟨d0, d1, d2, d3⟩ := cells_sa hbox1 rfl
  unfold wv at d0 d1 d2 d3
  clear HA hb1
  rcases hns with hns | ⟨hns, hns2⟩
  all_goals
    clear hn
    go_wp2_with fail
    refine (HF _).mono ?_
    rintro e w3 ⟨bf, cf, rfl, hown, hb3⟩
    have hbox3 : w3.heap[w.heap.size]? = some (.cells (sa S) 24 (0, 0)) := blk_below hb3 (blk_alloc hbox1)
    have hB3 : Below w.heap.size w w3 := (hB1.alloc hB1.size _).trans (hb3.mono (by simp; exact Nat.le_succ_of_le hB1.size))
    have hlo := (hown.lt bf rfl).1
    simp at hlo
    have hbf : w.heap.size < bf := by omega
    clear hb3 hlo hbox1 hB1 hs1 d0 d1 d2 d3 HF
    have hcq := (hown.cellAt q (by omega)).trans (boolsV_get _ q hq)
    have hfq := hown.frozenAt q
    have hst := (hown.stored q (.bool true)).1
    rw [addF_in] at hst
    have hbox4 := blk_set (a := ⟨bf, q, none⟩) (u := .bool true) (by show w.heap.size ≠ bf; omega) hbox3
    have hB4 := hB3.setCell (p := ⟨bf, q, none⟩) (by show w.heap.size ≤ bf; omega) (.bool true)
    generalize hw4 : w3.setCell ⟨bf, q, none⟩ (.bool true) = w4 at hst hbox4 hB4
    have hw5 := Lib.hid hw4
    clear hw4 hbox3 hB3 hown
    go_upto_region 10 with (fail)
    rw [hw5.out]
    clear hw5 hcq hfq
    all_goals
      have hcell4 : ∀ j, j < 256 → w4.cell? ⟨bf, j, none⟩ = some (.bool (addF S q j)) := fun j hj => (hst.cellAt j (by omega)).trans (boolsV_get _ j hj)
      have hs4 := size_of_block hbox4
      obtain ⟨d0, d1, d2, d3⟩ := cells_sa hbox4 rfl
      unfold wv at d0 d1 d2 d3
      clear hst
      go_cut [10, 11] from 51 (fun s10 s11 wd' => ∃ (a1 : Option Addr) (c1 : Nat) (a2 : Option Addr) (c2 : Nat), s10 = .slice a1 (pts S).length c1 ∧ s11 = .slice a2 (pts S).length c2 ∧ RowOf S a1 wd' ∧ RowOf S a2 wd' ∧
        (∀ j, j < 256 → wd'.cell? ⟨bf, j, none⟩ = some (.bool (addF S q j))) ∧ wd'.heap[w.heap.size]? = some (.cells (sa S) 24 (0, 0)) ∧ Below w.heap.size w wd')
      case first =>
        have hcell5 := Lib.hid hcell4
        clear hcell4
        go_region_with (first
          | (go_at_call 11; refine (HL _).mono ?_; rintro e w5 ⟨a1, c1, rfl, hr1, hb5⟩; have hb7 : Below w4.heap.size w4 w5 := ⟨hb5.os, hb5.tape, hb5.output, hb5.size, hb5.block⟩; obtain ⟨f0, f1, f2, f3⟩ := carry4 hb7 d0 d1 d2 d3)
          | (go_at_call 12; refine (HR _).mono ?_; rintro e w6 ⟨a2, c2, rfl, hr2, hb6⟩))
        all_goals
          clear f0 f1 f2 f3
          go_wp2_with fail
          go_meet
          have hb8 : Below w5.heap.size w5 w6 := ⟨hb6.os, hb6.tape, hb6.output, hb6.size, hb6.block⟩
          have hb9 : Below w4.heap.size w4 w6 := hb7.trans (hb8.mono hb7.size)
          exact ⟨a1, c1, a2, c2, rfl, rfl, hr1.keep hb8, hr2, fun j hj => After.cell ⟨w6, hb9⟩ (hcell5.out j hj), blk_below hb9 hbox4, hB4.trans (hb9.mono hB4.size)⟩
      case rest =>
        clear hcell4 hbox4 hB4 hs4 d0 d1 d2 d3 HL HR
        obtain ⟨a1, c1, a2, c2, rfl, rfl, R1, R2, hcell, hbox, hB⟩ := hcut
        have hcell5 := Lib.hid hcell
        obtain ⟨d0, d1, d2, d3⟩ := cells_sa hbox rfl
        unfold wv at d0 d1 d2 d3
        clear hcell
        go_wp2_with fail
        refine (HC _).mono ?_
        rintro e w7 ⟨rfl, hb7⟩
        have hbox7 := blk_below hb7 hbox
        have hB7 := hB.trans (hb7.mono hB.size)
        have R17 := R1.keep hb7
        have R27 := R2.keep hb7
        have hcell7 : Hid (∀ j, j < 256 → w7.cell? ⟨bf, j, none⟩ = some (.bool (addF S q j))) := Lib.hid fun j hj => After.cell ⟨w7, hb7⟩ (hcell5.out j hj)
        clear hcell5 hbox hB R1 R2 d0 d1 d2 d3 HC hb7
        go_wp2
        go_loopw [12] (fun j wr => ∃ k : Nat, k ≤ (pts S).length ∧ j = .int .i64 k ∧ Below w7.heap.size w7 wr) (fun j _ => (pts S).length - (intOf j).toNat)
        case atStart => exact ⟨0, by omega, rfl, Below.refl _ _⟩
        case round =>
          obtain ⟨k, hk, rfl, hb⟩ := hrel
          by_cases hlt : k < (pts S).length
          · obtain ⟨g1, rfl, hg1⟩ := (R17.keep hb) k hlt
            obtain ⟨g2, rfl, hg2⟩ := (R27.keep hb) k hlt
            generalize (pts S)[k] = u at hg1 hg2
            have hk0 : (0 : Int) ≤ k := by omega
            have hk1 : (k : Int) < ((pts S).length : Int) := by omega
            clear R17 R27 hcell7 hbox7 hB7 E
            go_wp2
            go_quiet (fail)
            go_wp2
            go_roundw
            case rel => exact ⟨k + 1, by omega, by go_num, hb.trans (below_draws _ _ _)⟩
            case measure => simp [intOf]; omega
          · have e : k = (pts S).length := by omega
            subst e
            obtain ⟨d0, d1, d2, d3⟩ := cells_sa (blk_below hb hbox7) rfl
            unfold wv at d0 d1 d2 d3
            have e0 := fun x : After wr => After.cell x d0
            have e1 := fun x : After wr => After.cell x d1
            have e2 := fun x : After wr => After.cell x d2
            have e3 := fun x : After wr => After.cell x d3
            have HS := fun x : After wr => refset_add S q bf cf wr (fun j hj => After.cell ⟨wr, hb⟩ (hcell7.out j hj)) x
            have HH := fun w => hasAny S q w
            have HG := fun w => refhasAny S q w
            have HW := fun w => withAny S q w
            generalize (decide (0 ≤ (q : Int)) && S.getLsbD (q : Int).toNat) = hv at HH HG
            have hB8 := hB7.trans (hb.mono hB7.size)
            unfold sv wv at HS HH HG HW
            clear R17 R27 hcell7 hbox7 hB7 hb d0 d1 d2 d3
            go_wp2
            refine wp_region_after (by kernel_rfl) (by kernel_rfl) ?_
            repeat (first | go_big_quiet_step ((first | (go_at_call 14; exact Calls.after_of (HH _)) | (go_at_call 15; exact Calls.after_of (HG _)) | (go_at_call 16; exact Calls.after_of (HW _)) | (go_at_call 8; exact Calls.after_of (HS _)) | (go_at_call 17; exact Calls.after_of (knows_any _)))))
            refine wpQuiet_nil ?_
            intro x
            go_wp2
            go_ret
            exact ⟨rfl, hB8.trans (x.2.mono hB8.size)⟩

set_option maxHeartbeats 2000000 in
set_option maxRecDepth 1000000 in
theorem setPoints_oo (S : BitVec 256) (n : Int) (hn : n < 0 ∨ 8 < n) (p : Int) (hp : p < 0 ∨ 256 ≤ p) (w : World) : Calls Try.prog 3 #[sv S, .int .i64 n, .int .i64 p] w fun e w' => e = .returned (.bool true) ∧ Below w.heap.size w w' := by
  have HF := fun w => flags_any3 S w
  have HL := fun w => list_any2 S w
  have HR := fun w => reflist_any2 S w
  have HC := fun w => count_any2 S w
  have hplen : (pts S).length ≤ 256 := by rw [← pop_eq]; exact pop_le S
  have E := eq4_refl
  have HA := fun w => all_no n hn w
  have hns : n < 0 ∨ (¬ n < 0 ∧ 8 < n) := by omega
  have hps : p < 0 ∨ (¬ p < 0 ∧ ¬ p < 256) := by omega
  rw [show sv 0 = .agg #[.int .u64 0, .int .u64 0, .int .u64 0, .int .u64 0] from by kernel_rfl] at HA
  unfold sv wv at *
  go_enter Try.func3, Try.ntmps3
  go_wp2_with fail
  refine (HA _).mono ?_
  rintro e w1 ⟨rfl, hb1⟩
  have hbox1 : w1.heap[w.heap.size]? = some (.cells (sa S) 24 (0, 0)) := blk_below hb1 (heap_alloc_new w _)
  have hB1 : Below w.heap.size w w1 := (below_alloc1 w _).trans (hb1.mono (by simp))
  have hs1 := size_of_block hbox1
  obtain ⟨d0, d1, d2, d3⟩ := cells_sa hbox1 rfl
  unfold wv at d0 d1 d2 d3
  clear HA hb1
  rcases hns with hns | ⟨hns, hns2⟩
  all_goals
    clear hn
    go_wp2_with fail
    refine (HF _).mono ?_
    rintro e w3 ⟨bf, cf, rfl, hown, hb3⟩
    have hbox3 : w3.heap[w.heap.size]? = some (.cells (sa S) 24 (0, 0)) := blk_below hb3 (blk_alloc hbox1)
    have hB3 : Below w.heap.size w w3 := (hB1.alloc hB1.size _).trans (hb3.mono (by simp; exact Nat.le_succ_of_le hB1.size))
    have hlo := (hown.lt bf rfl).1
    simp at hlo
    have hbf : w.heap.size < bf := by omega
    clear hb3 hlo hbox1 hB1 hs1 d0 d1 d2 d3 HF
    rw [addF_out S p hp] at hown
    obtain ⟨w4, hw4⟩ : ∃ w4, w4 = w3 := ⟨_, rfl⟩
    subst hw4
    have hst := hown
    have hbox4 := hbox3
    have hB4 := hB3
    clear hown hbox3 hB3
    rcases hps with hps | ⟨hps, hps2⟩
    all_goals
      clear hp
      go_upto_region 10 with (fail)
      have hcell4 : ∀ j, j < 256 → w4.cell? ⟨bf, j, none⟩ = some (.bool (addF S p j)) := fun j hj => (hst.cellAt j (by omega)).trans (boolsV_get _ j hj)
      have hs4 := size_of_block hbox4
      obtain ⟨d0, d1, d2, d3⟩ := cells_sa hbox4 rfl
      unfold wv at d0 d1 d2 d3
      clear hst
      go_cut [10, 11] from 51 (fun s10 s11 wd' => ∃ (a1 : Option Addr) (c1 : Nat) (a2 : Option Addr) (c2 : Nat), s10 = .slice a1 (pts S).length c1 ∧ s11 = .slice a2 (pts S).length c2 ∧ RowOf S a1 wd' ∧ RowOf S a2 wd' ∧
        (∀ j, j < 256 → wd'.cell? ⟨bf, j, none⟩ = some (.bool (addF S p j))) ∧ wd'.heap[w.heap.size]? = some (.cells (sa S) 24 (0, 0)) ∧ Below w.heap.size w wd')
      case first =>
        have hcell5 := Lib.hid hcell4
        clear hcell4
        go_region_with (first
          | (go_at_call 11; refine (HL _).mono ?_; rintro e w5 ⟨a1, c1, rfl, hr1, hb5⟩; have hb7 : Below w4.heap.size w4 w5 := ⟨hb5.os, hb5.tape, hb5.output, hb5.size, hb5.block⟩; obtain ⟨f0, f1, f2, f3⟩ := carry4 hb7 d0 d1 d2 d3)
          | (go_at_call 12; refine (HR _).mono ?_; rintro e w6 ⟨a2, c2, rfl, hr2, hb6⟩))
        all_goals
          clear f0 f1 f2 f3
          go_wp2_with fail
          go_meet
          have hb8 : Below w5.heap.size w5 w6 := ⟨hb6.os, hb6.tape, hb6.output, hb6.size, hb6.block⟩
          have hb9 : Below w4.heap.size w4 w6 := hb7.trans (hb8.mono hb7.size)
          exact ⟨a1, c1, a2, c2, rfl, rfl, hr1.keep hb8, hr2, fun j hj => After.cell ⟨w6, hb9⟩ (hcell5.out j hj), blk_below hb9 hbox4, hB4.trans (hb9.mono hB4.size)⟩
      case rest =>
        clear hcell4 hbox4 hB4 hs4 d0 d1 d2 d3 HL HR
        obtain ⟨a1, c1, a2, c2, rfl, rfl, R1, R2, hcell, hbox, hB⟩ := hcut
        have hcell5 := Lib.hid hcell
        obtain ⟨d0, d1, d2, d3⟩ := cells_sa hbox rfl
        unfold wv at d0 d1 d2 d3
        clear hcell
        go_wp2_with fail
        refine (HC _).mono ?_
        rintro e w7 ⟨rfl, hb7⟩
        have hbox7 := blk_below hb7 hbox
        have hB7 := hB.trans (hb7.mono hB.size)
        have R17 := R1.keep hb7
        have R27 := R2.keep hb7
        have hcell7 : Hid (∀ j, j < 256 → w7.cell? ⟨bf, j, none⟩ = some (.bool (addF S p j))) := Lib.hid fun j hj => After.cell ⟨w7, hb7⟩ (hcell5.out j hj)
        clear hcell5 hbox hB R1 R2 d0 d1 d2 d3 HC hb7
        go_wp2
        go_loopw [12] (fun j wr => ∃ k : Nat, k ≤ (pts S).length ∧ j = .int .i64 k ∧ Below w7.heap.size w7 wr) (fun j _ => (pts S).length - (intOf j).toNat)
        case atStart => exact ⟨0, by omega, rfl, Below.refl _ _⟩
        case round =>
          obtain ⟨k, hk, rfl, hb⟩ := hrel
          by_cases hlt : k < (pts S).length
          · obtain ⟨g1, rfl, hg1⟩ := (R17.keep hb) k hlt
            obtain ⟨g2, rfl, hg2⟩ := (R27.keep hb) k hlt
            generalize (pts S)[k] = u at hg1 hg2
            have hk0 : (0 : Int) ≤ k := by omega
            have hk1 : (k : Int) < ((pts S).length : Int) := by omega
            clear R17 R27 hcell7 hbox7 hB7 E
            go_wp2
            go_quiet (fail)
            go_wp2
            go_roundw
            case rel => exact ⟨k + 1, by omega, by go_num, hb.trans (below_draws _ _ _)⟩
            case measure => simp [intOf]; omega
          · have e : k = (pts S).length := by omega
            subst e
            obtain ⟨d0, d1, d2, d3⟩ := cells_sa (blk_below hb hbox7) rfl
            unfold wv at d0 d1 d2 d3
            have e0 := fun x : After wr => After.cell x d0
            have e1 := fun x : After wr => After.cell x d1
            have e2 := fun x : After wr => After.cell x d2
            have e3 := fun x : After wr => After.cell x d3
            have HS := fun x : After wr => refset_add S p bf cf wr (fun j hj => After.cell ⟨wr, hb⟩ (hcell7.out j hj)) x
            have HH := fun w => hasAny S p w
            have HG := fun w => refhasAny S p w
            have HW := fun w => withAny S p w
            generalize (decide (0 ≤ (p : Int)) && S.getLsbD (p : Int).toNat) = hv at HH HG
            have hB8 := hB7.trans (hb.mono hB7.size)
            unfold sv wv at HS HH HG HW
            clear R17 R27 hcell7 hbox7 hB7 hb d0 d1 d2 d3
            go_wp2
            refine wp_region_after (by kernel_rfl) (by kernel_rfl) ?_
            repeat (first | go_big_quiet_step ((first | (go_at_call 14; exact Calls.after_of (HH _)) | (go_at_call 15; exact Calls.after_of (HG _)) | (go_at_call 16; exact Calls.after_of (HW _)) | (go_at_call 8; exact Calls.after_of (HS _)) | (go_at_call 17; exact Calls.after_of (knows_any _)))))
            refine wpQuiet_nil ?_
            intro x
            go_wp2
            go_ret
            exact ⟨rfl, hB8.trans (x.2.mono hB8.size)⟩

set_option maxHeartbeats 2000000 in
set_option maxRecDepth 1000000 in
theorem setPoints_ii (S : BitVec 256) (m : Nat) (hn : m ≤ 8) (q : Nat) (hq : q < 256) (w : World) : Calls Try.prog 3 #[sv S, .int .i64 m, .int .i64 q] w fun e w' => e = .returned (.bool true) ∧ Below w.heap.size w w' := by
  have HF := fun w => flags_any3 S w
  have HL := fun w => list_any2 S w
  have HR := fun w => reflist_any2 S w
  have HC := fun w => count_any2 S w
  have hplen : (pts S).length ≤ 256 := by rw [← pop_eq]; exact pop_le S
  have E := eq4_refl
  have HA := fun w => all_any m hn w
  have HAr := fun w => refall_any m hn w
  have hn0 : (0 : Int) ≤ m := by omega
  have hn1 : (m : Int) ≤ 8 := by omega
  have hp0 : (0 : Int) ≤ q := by omega
  have hp1 : (q : Int) < 256 := by omega
  unfold sv wv at *
  go_enter Try.func3, Try.ntmps3
  go_wp2_with fail
  refine (HA _).mono ?_
  rintro e w1 ⟨rfl, hb1⟩
  have hbox1 : w1.heap[w.heap.size]? = some (.cells (sa S) 24 (0, 0)) := blk_below hb1 (heap_alloc_new w _)
  have hB1 : Below w.heap.size w w1 := (below_alloc1 w _).trans (hb1.mono (by simp))
  have hs1 := size_of_block hbox1
  obtain ⟨d0, d1, d2, d3⟩ := cells_sa hbox1 rfl
  unfold wv at d0 d1 d2 d3
  clear HA hb1
  go_upto_region 5 with (fail)
  go_cut [39] from 31 (fun s39 wc => s39 = .bool false ∧ wc.heap[w.heap.size]? = some (.cells (sa S) 24 (0, 0)) ∧ Below w.heap.size w wc)
  case first =>
    go_region_with (first
      | (go_at_call 9; refine (HAr _).mono ?_; rintro e w2 ⟨b2, rfl, hlo2, hhi2, hc2, hb2⟩; have hb2' : Below (w1.alloc (.cells (sa (allB m)) 24)).heap.size (w1.alloc (.cells (sa (allB m)) 24)) w2 := ⟨hb2.os, hb2.tape, hb2.output, hb2.size, hb2.block⟩; obtain ⟨f0, f1, f2, f3⟩ := cells_sa (blk_below hb2' (heap_alloc_new w1 _)) rfl; unfold wv at f0 f1 f2 f3)
      | (go_at_call 8; refine (refset_all m b2 w2 hc2 (After.here w2)).mono ?_; rintro e w3 ⟨rfl, hb3⟩; obtain ⟨g0, g1, g2, g3⟩ := carry4 (show Below w2.heap.size w2 w3 from hb3) f0 f1 f2 f3; unfold sv wv))
    all_goals
      clear f0 f1 f2 f3 g0 g1 g2 g3 hc2
      go_wp2_with fail
      go_meet
      have hb4 : Below w2.heap.size w2 w3 := hb3
      have hbox2 := blk_below hb4 (blk_below hb2' (blk_alloc hbox1))
      have hB2 : Below w.heap.size w w3 := ((hB1.alloc hB1.size _).trans (hb2'.mono (by simp; exact Nat.le_succ_of_le hB1.size))).trans (hb4.mono (Nat.le_trans (Nat.le_trans hB1.size (by simp)) hb2'.size))
      exact ⟨rfl, hbox2, hB2⟩
  case rest =>
    obtain ⟨rfl, hbox2, hB2⟩ := hcut
    obtain ⟨d0, d1, d2, d3⟩ := cells_sa hbox2 rfl
    unfold wv at d0 d1 d2 d3
    have hs2 := size_of_block hbox2
    clear hbox1 hB1 hs1 HAr
    go_wp2_with fail
    refine (HF _).mono ?_
    rintro e w3 ⟨bf, cf, rfl, hown, hb3⟩
    have hbox3 : w3.heap[w.heap.size]? = some (.cells (sa S) 24 (0, 0)) := blk_below hb3 hbox2
    have hB3 : Below w.heap.size w w3 := hB2.trans (hb3.mono hB2.size)
    have hlo := (hown.lt bf rfl).1
    have hbf : w.heap.size < bf := by omega
    clear hb3 hlo hbox2 hB2 hs2 d0 d1 d2 d3 HF
    have hcq := (hown.cellAt q (by omega)).trans (boolsV_get _ q hq)
    have hfq := hown.frozenAt q
    have hst := (hown.stored q (.bool true)).1
    rw [addF_in] at hst
    have hbox4 := blk_set (a := ⟨bf, q, none⟩) (u := .bool true) (by show w.heap.size ≠ bf; omega) hbox3
    have hB4 := hB3.setCell (p := ⟨bf, q, none⟩) (by show w.heap.size ≤ bf; omega) (.bool true)
    generalize hw4 : w3.setCell ⟨bf, q, none⟩ (.bool true) = w4 at hst hbox4 hB4
    have hw5 := Lib.hid hw4
    clear hw4 hbox3 hB3 hown
    go_upto_region 10 with (fail)
    rw [hw5.out]
    clear hw5 hcq hfq
    all_goals
      have hcell4 : ∀ j, j < 256 → w4.cell? ⟨bf, j, none⟩ = some (.bool (addF S q j)) := fun j hj => (hst.cellAt j (by omega)).trans (boolsV_get _ j hj)
      have hs4 := size_of_block hbox4
      obtain ⟨d0, d1, d2, d3⟩ := cells_sa hbox4 rfl
      unfold wv at d0 d1 d2 d3
      clear hst
      go_cut [10, 11] from 51 (fun s10 s11 wd' => ∃ (a1 : Option Addr) (c1 : Nat) (a2 : Option Addr) (c2 : Nat), s10 = .slice a1 (pts S).length c1 ∧ s11 = .slice a2 (pts S).length c2 ∧ RowOf S a1 wd' ∧ RowOf S a2 wd' ∧
        (∀ j, j < 256 → wd'.cell? ⟨bf, j, none⟩ = some (.bool (addF S q j))) ∧ wd'.heap[w.heap.size]? = some (.cells (sa S) 24 (0, 0)) ∧ Below w.heap.size w wd')
      case first =>
        have hcell5 := Lib.hid hcell4
        clear hcell4
        go_region_with (first
          | (go_at_call 11; refine (HL _).mono ?_; rintro e w5 ⟨a1, c1, rfl, hr1, hb5⟩; have hb7 : Below w4.heap.size w4 w5 := ⟨hb5.os, hb5.tape, hb5.output, hb5.size, hb5.block⟩; obtain ⟨f0, f1, f2, f3⟩ := carry4 hb7 d0 d1 d2 d3)
          | (go_at_call 12; refine (HR _).mono ?_; rintro e w6 ⟨a2, c2, rfl, hr2, hb6⟩))
        all_goals
          clear f0 f1 f2 f3
          go_wp2_with fail
          go_meet
          have hb8 : Below w5.heap.size w5 w6 := ⟨hb6.os, hb6.tape, hb6.output, hb6.size, hb6.block⟩
          have hb9 : Below w4.heap.size w4 w6 := hb7.trans (hb8.mono hb7.size)
          exact ⟨a1, c1, a2, c2, rfl, rfl, hr1.keep hb8, hr2, fun j hj => After.cell ⟨w6, hb9⟩ (hcell5.out j hj), blk_below hb9 hbox4, hB4.trans (hb9.mono hB4.size)⟩
      case rest =>
        clear hcell4 hbox4 hB4 hs4 d0 d1 d2 d3 HL HR
        obtain ⟨a1, c1, a2, c2, rfl, rfl, R1, R2, hcell, hbox, hB⟩ := hcut
        have hcell5 := Lib.hid hcell
        obtain ⟨d0, d1, d2, d3⟩ := cells_sa hbox rfl
        unfold wv at d0 d1 d2 d3
        clear hcell
        go_wp2_with fail
        refine (HC _).mono ?_
        rintro e w7 ⟨rfl, hb7⟩
        have hbox7 := blk_below hb7 hbox
        have hB7 := hB.trans (hb7.mono hB.size)
        have R17 := R1.keep hb7
        have R27 := R2.keep hb7
        have hcell7 : Hid (∀ j, j < 256 → w7.cell? ⟨bf, j, none⟩ = some (.bool (addF S q j))) := Lib.hid fun j hj => After.cell ⟨w7, hb7⟩ (hcell5.out j hj)
        clear hcell5 hbox hB R1 R2 d0 d1 d2 d3 HC hb7
        go_wp2
        go_loopw [12] (fun j wr => ∃ k : Nat, k ≤ (pts S).length ∧ j = .int .i64 k ∧ Below w7.heap.size w7 wr) (fun j _ => (pts S).length - (intOf j).toNat)
        case atStart => exact ⟨0, by omega, rfl, Below.refl _ _⟩
        case round =>
          obtain ⟨k, hk, rfl, hb⟩ := hrel
          by_cases hlt : k < (pts S).length
          · obtain ⟨g1, rfl, hg1⟩ := (R17.keep hb) k hlt
            obtain ⟨g2, rfl, hg2⟩ := (R27.keep hb) k hlt
            generalize (pts S)[k] = u at hg1 hg2
            have hk0 : (0 : Int) ≤ k := by omega
            have hk1 : (k : Int) < ((pts S).length : Int) := by omega
            clear R17 R27 hcell7 hbox7 hB7 E
            go_wp2
            go_quiet (fail)
            go_wp2
            go_roundw
            case rel => exact ⟨k + 1, by omega, by go_num, hb.trans (below_draws _ _ _)⟩
            case measure => simp [intOf]; omega
          · have e : k = (pts S).length := by omega
            subst e
            obtain ⟨d0, d1, d2, d3⟩ := cells_sa (blk_below hb hbox7) rfl
            unfold wv at d0 d1 d2 d3
            have e0 := fun x : After wr => After.cell x d0
            have e1 := fun x : After wr => After.cell x d1
            have e2 := fun x : After wr => After.cell x d2
            have e3 := fun x : After wr => After.cell x d3
            have HS := fun x : After wr => refset_add S q bf cf wr (fun j hj => After.cell ⟨wr, hb⟩ (hcell7.out j hj)) x
            have HH := fun w => hasAny S q w
            have HG := fun w => refhasAny S q w
            have HW := fun w => withAny S q w
            generalize (decide (0 ≤ (q : Int)) && S.getLsbD (q : Int).toNat) = hv at HH HG
            have hB8 := hB7.trans (hb.mono hB7.size)
            unfold sv wv at HS HH HG HW
            clear R17 R27 hcell7 hbox7 hB7 hb d0 d1 d2 d3
            go_wp2
            refine wp_region_after (by kernel_rfl) (by kernel_rfl) ?_
            repeat (first | go_big_quiet_step ((first | (go_at_call 14; exact Calls.after_of (HH _)) | (go_at_call 15; exact Calls.after_of (HG _)) | (go_at_call 16; exact Calls.after_of (HW _)) | (go_at_call 8; exact Calls.after_of (HS _)) | (go_at_call 17; exact Calls.after_of (knows_any _)))))
            refine wpQuiet_nil ?_
            intro x
            go_wp2
            go_ret
            exact ⟨rfl, hB8.trans (x.2.mono hB8.size)⟩

set_option maxHeartbeats 2000000 in
set_option maxRecDepth 1000000 in
theorem setPoints_io (S : BitVec 256) (m : Nat) (hn : m ≤ 8) (p : Int) (hp : p < 0 ∨ 256 ≤ p) (w : World) : Calls Try.prog 3 #[sv S, .int .i64 m, .int .i64 p] w fun e w' => e = .returned (.bool true) ∧ Below w.heap.size w w' := by
  have HF := fun w => flags_any3 S w
  have HL := fun w => list_any2 S w
  have HR := fun w => reflist_any2 S w
  have HC := fun w => count_any2 S w
  have hplen : (pts S).length ≤ 256 := by rw [← pop_eq]; exact pop_le S
  have E := eq4_refl
  have HA := fun w => all_any m hn w
  have HAr := fun w => refall_any m hn w
  have hn0 : (0 : Int) ≤ m := by omega
  have hn1 : (m : Int) ≤ 8 := by omega
  have hps : p < 0 ∨ (¬ p < 0 ∧ ¬ p < 256) := by omega
  unfold sv wv at *
  go_enter Try.func3, Try.ntmps3
  go_wp2_with fail
  refine (HA _).mono ?_
  rintro e w1 ⟨rfl, hb1⟩
  have hbox1 : w1.heap[w.heap.size]? = some (.cells (sa S) 24 (0, 0)) := blk_below hb1 (heap_alloc_new w _)
  have hB1 : Below w.heap.size w w1 := (below_alloc1 w _).trans (hb1.mono (by simp))
  have hs1 := size_of_block hbox1
  obtain ⟨d0, d1, d2, d3⟩ := cells_sa hbox1 rfl
  unfold wv at d0 d1 d2 d3
  clear HA hb1
  go_upto_region 5 with (fail)
  go_cut [39] from 31 (fun s39 wc => s39 = .bool false ∧ wc.heap[w.heap.size]? = some (.cells (sa S) 24 (0, 0)) ∧ Below w.heap.size w wc)
  case first =>
    go_region_with (first
      | (go_at_call 9; refine (HAr _).mono ?_; rintro e w2 ⟨b2, rfl, hlo2, hhi2, hc2, hb2⟩; have hb2' : Below (w1.alloc (.cells (sa (allB m)) 24)).heap.size (w1.alloc (.cells (sa (allB m)) 24)) w2 := ⟨hb2.os, hb2.tape, hb2.output, hb2.size, hb2.block⟩; obtain ⟨f0, f1, f2, f3⟩ := cells_sa (blk_below hb2' (heap_alloc_new w1 _)) rfl; unfold wv at f0 f1 f2 f3)
      | (go_at_call 8; refine (refset_all m b2 w2 hc2 (After.here w2)).mono ?_; rintro e w3 ⟨rfl, hb3⟩; obtain ⟨g0, g1, g2, g3⟩ := carry4 (show Below w2.heap.size w2 w3 from hb3) f0 f1 f2 f3; unfold sv wv))
    all_goals
      clear f0 f1 f2 f3 g0 g1 g2 g3 hc2
      go_wp2_with fail
      go_meet
      have hb4 : Below w2.heap.size w2 w3 := hb3
      have hbox2 := blk_below hb4 (blk_below hb2' (blk_alloc hbox1))
      have hB2 : Below w.heap.size w w3 := ((hB1.alloc hB1.size _).trans (hb2'.mono (by simp; exact Nat.le_succ_of_le hB1.size))).trans (hb4.mono (Nat.le_trans (Nat.le_trans hB1.size (by simp)) hb2'.size))
      exact ⟨rfl, hbox2, hB2⟩
  case rest =>
    obtain ⟨rfl, hbox2, hB2⟩ := hcut
    obtain ⟨d0, d1, d2, d3⟩ := cells_sa hbox2 rfl
    unfold wv at d0 d1 d2 d3
    have hs2 := size_of_block hbox2
    clear hbox1 hB1 hs1 HAr
    go_wp2_with fail
    refine (HF _).mono ?_
    rintro e w3 ⟨bf, cf, rfl, hown, hb3⟩
    have hbox3 : w3.heap[w.heap.size]? = some (.cells (sa S) 24 (0, 0)) := blk_below hb3 hbox2
    have hB3 : Below w.heap.size w w3 := hB2.trans (hb3.mono hB2.size)
    have hlo := (hown.lt bf rfl).1
    have hbf : w.heap.size < bf := by omega
    clear hb3 hlo hbox2 hB2 hs2 d0 d1 d2 d3 HF
    rw [addF_out S p hp] at hown
    obtain ⟨w4, hw4⟩ : ∃ w4, w4 = w3 := ⟨_, rfl⟩
    subst hw4
    have hst := hown
    have hbox4 := hbox3
    have hB4 := hB3
    clear hown hbox3 hB3
    rcases hps with hps | ⟨hps, hps2⟩
    all_goals
      clear hp
      go_upto_region 10 with (fail)
      have hcell4 : ∀ j, j < 256 → w4.cell? ⟨bf, j, none⟩ = some (.bool (addF S p j)) := fun j hj => (hst.cellAt j (by omega)).trans (boolsV_get _ j hj)
      have hs4 := size_of_block hbox4
      obtain ⟨d0, d1, d2, d3⟩ := cells_sa hbox4 rfl
      unfold wv at d0 d1 d2 d3
      clear hst
      go_cut [10, 11] from 51 (fun s10 s11 wd' => ∃ (a1 : Option Addr) (c1 : Nat) (a2 : Option Addr) (c2 : Nat), s10 = .slice a1 (pts S).length c1 ∧ s11 = .slice a2 (pts S).length c2 ∧ RowOf S a1 wd' ∧ RowOf S a2 wd' ∧
        (∀ j, j < 256 → wd'.cell? ⟨bf, j, none⟩ = some (.bool (addF S p j))) ∧ wd'.heap[w.heap.size]? = some (.cells (sa S) 24 (0, 0)) ∧ Below w.heap.size w wd')
      case first =>
        have hcell5 := Lib.hid hcell4
        clear hcell4
        go_region_with (first
          | (go_at_call 11; refine (HL _).mono ?_; rintro e w5 ⟨a1, c1, rfl, hr1, hb5⟩; have hb7 : Below w4.heap.size w4 w5 := ⟨hb5.os, hb5.tape, hb5.output, hb5.size, hb5.block⟩; obtain ⟨f0, f1, f2, f3⟩ := carry4 hb7 d0 d1 d2 d3)
          | (go_at_call 12; refine (HR _).mono ?_; rintro e w6 ⟨a2, c2, rfl, hr2, hb6⟩))
        all_goals
          clear f0 f1 f2 f3
          go_wp2_with fail
          go_meet
          have hb8 : Below w5.heap.size w5 w6 := ⟨hb6.os, hb6.tape, hb6.output, hb6.size, hb6.block⟩
          have hb9 : Below w4.heap.size w4 w6 := hb7.trans (hb8.mono hb7.size)
          exact ⟨a1, c1, a2, c2, rfl, rfl, hr1.keep hb8, hr2, fun j hj => After.cell ⟨w6, hb9⟩ (hcell5.out j hj), blk_below hb9 hbox4, hB4.trans (hb9.mono hB4.size)⟩
      case rest =>
        clear hcell4 hbox4 hB4 hs4 d0 d1 d2 d3 HL HR
        obtain ⟨a1, c1, a2, c2, rfl, rfl, R1, R2, hcell, hbox, hB⟩ := hcut
        have hcell5 := Lib.hid hcell
        obtain ⟨d0, d1, d2, d3⟩ := cells_sa hbox rfl
        unfold wv at d0 d1 d2 d3
        clear hcell
        go_wp2_with fail
        refine (HC _).mono ?_
        rintro e w7 ⟨rfl, hb7⟩
        have hbox7 := blk_below hb7 hbox
        have hB7 := hB.trans (hb7.mono hB.size)
        have R17 := R1.keep hb7
        have R27 := R2.keep hb7
        have hcell7 : Hid (∀ j, j < 256 → w7.cell? ⟨bf, j, none⟩ = some (.bool (addF S p j))) := Lib.hid fun j hj => After.cell ⟨w7, hb7⟩ (hcell5.out j hj)
        clear hcell5 hbox hB R1 R2 d0 d1 d2 d3 HC hb7
        go_wp2
        go_loopw [12] (fun j wr => ∃ k : Nat, k ≤ (pts S).length ∧ j = .int .i64 k ∧ Below w7.heap.size w7 wr) (fun j _ => (pts S).length - (intOf j).toNat)
        case atStart => exact ⟨0, by omega, rfl, Below.refl _ _⟩
        case round =>
          obtain ⟨k, hk, rfl, hb⟩ := hrel
          by_cases hlt : k < (pts S).length
          · obtain ⟨g1, rfl, hg1⟩ := (R17.keep hb) k hlt
            obtain ⟨g2, rfl, hg2⟩ := (R27.keep hb) k hlt
            generalize (pts S)[k] = u at hg1 hg2
            have hk0 : (0 : Int) ≤ k := by omega
            have hk1 : (k : Int) < ((pts S).length : Int) := by omega
            clear R17 R27 hcell7 hbox7 hB7 E
            go_wp2
            go_quiet (fail)
            go_wp2
            go_roundw
            case rel => exact ⟨k + 1, by omega, by go_num, hb.trans (below_draws _ _ _)⟩
            case measure => simp [intOf]; omega
          · have e : k = (pts S).length := by omega
            subst e
            obtain ⟨d0, d1, d2, d3⟩ := cells_sa (blk_below hb hbox7) rfl
            unfold wv at d0 d1 d2 d3
            have e0 := fun x : After wr => After.cell x d0
            have e1 := fun x : After wr => After.cell x d1
            have e2 := fun x : After wr => After.cell x d2
            have e3 := fun x : After wr => After.cell x d3
            have HS := fun x : After wr => refset_add S p bf cf wr (fun j hj => After.cell ⟨wr, hb⟩ (hcell7.out j hj)) x
            have HH := fun w => hasAny S p w
            have HG := fun w => refhasAny S p w
            have HW := fun w => withAny S p w
            generalize (decide (0 ≤ (p : Int)) && S.getLsbD (p : Int).toNat) = hv at HH HG
            have hB8 := hB7.trans (hb.mono hB7.size)
            unfold sv wv at HS HH HG HW
            clear R17 R27 hcell7 hbox7 hB7 hb d0 d1 d2 d3
            go_wp2
            refine wp_region_after (by kernel_rfl) (by kernel_rfl) ?_
            repeat (first | go_big_quiet_step ((first | (go_at_call 14; exact Calls.after_of (HH _)) | (go_at_call 15; exact Calls.after_of (HG _)) | (go_at_call 16; exact Calls.after_of (HW _)) | (go_at_call 8; exact Calls.after_of (HS _)) | (go_at_call 17; exact Calls.after_of (knows_any _)))))
            refine wpQuiet_nil ?_
            intro x
            go_wp2
            go_ret
            exact ⟨rfl, hB8.trans (x.2.mono hB8.size)⟩
end Go.Proofs.Ytpdmlngbagjhjaa
