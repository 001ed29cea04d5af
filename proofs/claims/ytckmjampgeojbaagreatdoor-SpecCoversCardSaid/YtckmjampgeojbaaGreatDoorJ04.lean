/- What the document's answers of layer 1 come to, for every input. The document's own examples of layer 1, as the statements hold them. The statement SetBoth, walked. The statement SetPoints, walked: its pieces. -/
import Derived.Test.YtckmjampgeojbaaGreatDoorJ01
import Derived.StillTailTactics
import Derived.Deep.RegionHeld3
import Derived.Deep.DeepCutAuto
namespace Go.Proofs.YtckmjampgeojbaaGreatDoor
open Go.RowKit Go.Joins

theorem pow_step (k : Nat) : 2 ^ k % 18446744073709551616 * 2 % 18446744073709551616 = 2 ^ (k + 1) % 18446744073709551616 := by
  rw [Nat.pow_succ]; omega
theorem power_any (n : Nat) (hn : n < 4611686018427387904) (w : World) :
    Calls Tryz.prog 33 #[.int .i64 n] w fun e w' => e = .returned (.int .u64 (2 ^ n % 18446744073709551616 : Nat)) ∧ w = w' := by
  go_enter Tryz.func33, Tryz.ntmps33
  go_wp2
  go_loop [3, 4] (fun p i => ∃ k : Nat, k ≤ n ∧ i = .int .i64 k ∧ p = .int .u64 (2 ^ k % 18446744073709551616 : Nat)) (fun _ i => n - (intOf i).toNat)
  case atStart => exact ⟨0, by omega, rfl, rfl⟩
  case round =>
    obtain ⟨k, hk, rfl, rfl⟩ := hrel
    have hp := Lib.hid (pow_step k)
    by_cases hlt : k < n
    · generalize hq : 2 ^ k % 18446744073709551616 = q
      have hq2 := Lib.hid hq
      clear hq
      go_wp2
      go_round
      case rel => exact ⟨k + 1, by omega, by go_num, by have h1 := hp.out; rw [hq2.out] at h1; rw [← h1, IntKind.wrap_u64]; congr 1⟩
      case measure => simp [intOf]; omega
    · go_wp2
      have e : k = n := by omega
      subst e
      go_ret
      exact ⟨rfl, rfl⟩

/-- The flags of the first n points. -/
def flagsV (S : BitVec 256) (n : Nat) : List Value := (List.range n).map (fun p => Value.bool (S.getLsbD p))
theorem flagsV_succ (S : BitVec 256) (n : Nat) : flagsV S (n + 1) = flagsV S n ++ [.bool (S.getLsbD n)] := by
  unfold flagsV; rw [List.range_succ, List.map_append]; rfl
theorem flagsV_get (S : BitVec 256) (n p : Nat) (h : p < n) : (flagsV S n)[p]? = some (.bool (S.getLsbD p)) := by
  unfold flagsV; simp [h]
theorem odd_bit (S : BitVec 256) (i k : Nat) (hk : k < 64) : (((((wd S i).toNat / 2 ^ k : Nat) : Int) % 2) == 1) = S.getLsbD (64 * i + k) := by
  have hb := wd_bit S i k
  simp only [hk, decide_true, Bool.true_and, BitVec.getLsbD, Nat.testBit_eq_decide_div_mod_eq] at hb ⊢
  rw [← hb]
  by_cases h1 : (wd S i).toNat / 2 ^ k % 2 = 1
  · simp only [h1, decide_true, beq_iff_eq]; omega
  · simp only [h1, decide_false, beq_eq_false_iff_ne, ne_eq]; omega
theorem half_step (x k : Nat) : x / 2 ^ k / 2 = x / 2 ^ (k + 1) := by rw [Nat.pow_succ, Nat.div_div_eq_div_mul]

set_option maxHeartbeats 1000000 in
set_option maxRecDepth 1000000 in
theorem flags_any (S : BitVec 256) (w : World) :
    Calls Tryz.prog 23 #[sv S] w fun e w' => ∃ v, e = .returned v ∧ w'.ownsRow w.heap.size 4 1 v 256 (flagsV S 256) ∧ Below w.heap.size w w' := by
  obtain ⟨i0, hi, hz0, hz1, hz2⟩ := info_parts Tryz.infoBool
  unfold sv wv
  go_enter Tryz.func23, Tryz.ntmps23
  go_wp2
  go_loopw [3, 4, 5, 6] (fun v i _ _ wr => ∃ k : Nat, k ≤ 4 ∧ i = .int .i64 k ∧ wr.ownsRow (w.heap.size + 1) 4 1 v (64 * k) (flagsV S (64 * k)) ∧ wr.heap[w.heap.size]? = some (.cells (sa S) 45 (0, 0)) ∧ Below w.heap.size w wr) (fun _ i _ _ _ => 4 - (intOf i).toNat)
  case atStart => exact ⟨0, by omega, rfl, World.ownsRow_nil _ _ _ _, heap_alloc_new _ _, below_alloc1 _ _⟩
  case round =>
    obtain ⟨k, hk, rfl, hown, hblk, hb⟩ := hrel
    by_cases hlt : k < 4
    · have hz : w.heap.size < wr.heap.size := size_of_block hblk
      have d0 : wr.cell? ⟨w.heap.size, k, none⟩ = some (.int .u64 (wd S k).toNat) := by rw [cell_of_block hblk, sa_get S k hlt]; rfl
      have hdk : decide ((k : Int) < 4) = true := by simp; omega
      go_wp2
      obtain ⟨wo, rfl⟩ : ∃ wo : World, wo = wr := ⟨_, rfl⟩
      go_loopw [3, 5, 6] (fun v x j wr => ∃ n : Nat, n ≤ 64 ∧ j = .int .i64 n ∧ x = .int .u64 ((wd S k).toNat / 2 ^ n : Nat) ∧ wr.ownsRow (w.heap.size + 1) 4 1 v (64 * k + n) (flagsV S (64 * k + n)) ∧ wr.heap[w.heap.size]? = some (.cells (sa S) 45 (0, 0)) ∧ Below w.heap.size w wr) (fun _ _ j _ => 64 - (intOf j).toNat)
      case atStart => exact ⟨0, by omega, rfl, by simp, hown, hblk, hb⟩
      case round =>
        clear hown hblk hb d0 hz
        obtain ⟨n, hn, rfl, rfl, hown, hblk, hb⟩ := hrel
        by_cases hnt : n < 64
        · have hz : w.heap.size < wr.heap.size := size_of_block hblk
          have ho := odd_bit S k n hnt
          have hh := Lib.hid (half_step (wd S k).toNat n)
          have hql : (wd S k).toNat / 2 ^ n < 18446744073709551616 := Nat.lt_of_le_of_lt (Nat.div_le_self _ _) (wd S k).isLt
          generalize hq : (wd S k).toNat / 2 ^ n = q at ho hql
          have hq2 := Lib.hid hq
          clear hq
          go_wp2_with (at_builtin; go_loud (refine wpList_append_own _ rfl _ _ 48 rfl (w.heap.size + 1) 4 i0 (.bool false) 1 1 Tryz.underlying48 hi hz0 hz1 hz2 rfl (by decide) _ _ _ rfl (hown.alloc _) ⟨wr.heap.size, 0, none⟩ 1 1 [.bool (S.getLsbD (64 * k + n))] rfl rfl ?c1 ?c2 ?c3 ?c4 ?c5 ?_))
          case c1 => exact cell_one_new _ _ _
          case c2 => intro u hu; simp at hu; subst hu; rfl
          case c3 => unfold maxLen; omega
          case c4 => omega
          case c5 => simp; omega
          intro v' w2 hown2 hgrow _
          have hR : w2.heap[w.heap.size]? = some (.cells (sa S) 45 (0, 0)) ∧ Below w.heap.size w w2 :=
            ⟨((grown_low hown hgrow _ (by omega) (by simp; omega)).trans (Below.heap_alloc _ _ _ (by omega))).trans hblk, grown_below hown hgrow (hb.alloc (by omega) _) (by omega) (by simp; omega)⟩
          clear hgrow hown hblk hb ho
          go_wp2
          go_roundw
          case rel => exact ⟨n + 1, by omega, by go_num, by rw [← hh.out, hq2.out]; rfl, by rw [← Nat.add_assoc, flagsV_succ]; exact hown2, hR.1, hR.2⟩
          case measure => simp [intOf]; omega
        · have e : n = 64 := by omega
          subst e
          go_wp2
          go_roundw
          case rel => exact ⟨k + 1, by omega, by go_num, by rw [show 64 * (k + 1) = 64 * k + 64 by omega]; exact hown, hblk, hb⟩
          case measure => simp [intOf]; omega
    · have e : k = 4 := by omega
      subst e
      go_wp2
      go_ret
      exact ⟨_, rfl, ownsRow_le hown (by omega), hb⟩

/-- The words of the set of g, when all of the first i are made, and n bits of the next one. -/
def wsq (g : Nat → Bool) (i n j : Nat) : Nat := if j < i then wsum (fun p => g (64 * j + p)) 64 else if j = i then wsum (fun p => g (64 * j + p)) n else 0
def wsA (g : Nat → Bool) (i n : Nat) : Array Value := #[.int .u64 (wsq g i n 0 : Nat), .int .u64 (wsq g i n 1 : Nat), .int .u64 (wsq g i n 2 : Nat), .int .u64 (wsq g i n 3 : Nat)]
theorem wsA_get (g : Nat → Bool) (i n : Nat) (hi : i < 4) : (wsA g i n)[i]? = some (.int .u64 (wsum (fun p => g (64 * i + p)) n : Nat)) := by
  match i, hi with
  | 0, _ => simp [wsA, wsq]
  | 1, _ => simp [wsA, wsq]
  | 2, _ => simp [wsA, wsq]
  | 3, _ => simp [wsA, wsq]
theorem wsA_set (g : Nat → Bool) (i n : Nat) (hi : i < 4) : (wsA g i n).setIfInBounds i (.int .u64 (wsum (fun p => g (64 * i + p)) (n + 1) : Nat)) = wsA g i (n + 1) := by
  match i, hi with
  | 0, _ => simp [wsA, wsq]
  | 1, _ => simp [wsA, wsq]
  | 2, _ => simp [wsA, wsq]
  | 3, _ => simp [wsA, wsq]
theorem wsA_same (g : Nat → Bool) (i n : Nat) (h : wsum (fun p => g (64 * i + p)) (n + 1) = wsum (fun p => g (64 * i + p)) n) : wsA g i (n + 1) = wsA g i n := by
  have e : ∀ j, wsq g i (n + 1) j = wsq g i n j := by
    intro j
    unfold wsq
    by_cases h1 : j < i
    · simp [h1]
    · by_cases h2 : j = i
      · subst h2; simp [h]
      · simp [h1, h2]
  unfold wsA
  simp only [e]
theorem wsA_next (g : Nat → Bool) (i : Nat) : wsA g i 64 = wsA g (i + 1) 0 := by
  have e : ∀ j, wsq g i 64 j = wsq g (i + 1) 0 j := by
    intro j
    unfold wsq
    by_cases h1 : j < i
    · have : j < i + 1 := by omega
      simp [h1, this]
    · by_cases h2 : j = i
      · subst h2; simp
      · have a : ¬ j < i + 1 := by omega
        simp [h1, h2, a, wsum]
  unfold wsA
  simp only [e]
theorem wsA_zero (g : Nat → Bool) : wsA g 0 0 = #[.int .u64 0, .int .u64 0, .int .u64 0, .int .u64 0] := by simp [wsA, wsq, wsum]
theorem wsA_done (g : Nat → Bool) : wsA g 4 0 = sa (bvOf g) := by
  have e : ∀ j, j < 4 → Value.int .u64 (wsq g 4 0 j : Nat) = wv (wd (bvOf g) j) := by
    intro j hj
    unfold wv wsq
    rw [if_pos hj, wd_bvOf g j hj]
  unfold wsA sa
  rw [e 0 (by omega), e 1 (by omega), e 2 (by omega), e 3 (by omega)]

set_option maxHeartbeats 1000000 in
set_option maxRecDepth 1000000 in
theorem refset_any (g : Nat → Bool) (b cap : Nat) (w : World) (hbw : b < w.heap.size) (hcell : ∀ p, p < 256 → w.cell? ⟨b, p, none⟩ = some (.bool (g p))) :
    Calls Tryz.prog 15 #[.slice (some ⟨b, 0, none⟩) 256 cap] w fun e w' => e = .returned (sv (bvOf g)) ∧ Below w.heap.size w w' := by
  go_enter Tryz.func15, Tryz.ntmps15
  go_wp2
  go_loopw [4, 5] (fun i _ wr => ∃ k : Nat, k ≤ 4 ∧ i = .int .i64 k ∧ wr.heap[w.heap.size + 1]? = some (.cells (wsA g k 0) 45 (0, 0)) ∧ wr.heap[w.heap.size]? = some (.cells (wsA g 0 0) 45 (0, 0)) ∧ Below w.heap.size w wr) (fun i _ _ => 4 - (intOf i).toNat)
  case atStart => exact ⟨0, by omega, rfl, by rw [heap_alloc2_new, wsA_zero], by rw [heap_alloc2_old, wsA_zero], below_alloc2 _ _ _⟩
  case round =>
    obtain ⟨k, hk, rfl, hblk, hblk0, hb⟩ := hrel
    by_cases hlt : k < 4
    · have hdk : decide ((k : Int) < 4) = true := by simp; omega
      go_wp2
      obtain ⟨wo, rfl⟩ : ∃ wo : World, wo = wr := ⟨_, rfl⟩
      go_loopw [5] (fun j wr => ∃ n : Nat, n ≤ 64 ∧ j = .int .i64 n ∧ wr.heap[w.heap.size + 1]? = some (.cells (wsA g k n) 45 (0, 0)) ∧ wr.heap[w.heap.size]? = some (.cells (wsA g 0 0) 45 (0, 0)) ∧ Below w.heap.size w wr) (fun j _ => 64 - (intOf j).toNat)
      case atStart => exact ⟨0, by omega, rfl, hblk, hblk0, hb⟩
      case round =>
        clear hblk hblk0 hb
        obtain ⟨n, hn, rfl, hblk, hblk0, hb⟩ := hrel
        by_cases hnt : n < 64
        · have hlc : wr.cell? ⟨b, 64 * k + n, none⟩ = some (.bool (g (64 * k + n))) := by rw [hb.cell (by exact hbw), hcell _ (by omega)]
          have hws : wsum (fun p => g (64 * k + p)) (n + 1) = wsum (fun p => g (64 * k + p)) n + if g (64 * k + n) then 2 ^ n else 0 := rfl
          by_cases hg : g (64 * k + n)
          · rw [hg] at hlc
            rw [if_pos hg] at hws
            have hoc : wr.cell? ⟨w.heap.size + 1, k, none⟩ = some (.int .u64 (wsum (fun p => g (64 * k + p)) n : Nat)) := by rw [cell_of_block hblk, wsA_get g k n hlt]
            have hof : wr.frozen? ⟨w.heap.size + 1, k, none⟩ = false := unfrozen_of_block hblk _
            have hws2 := Lib.hid hws
            clear hws
            have hpw : 2 ^ n % 18446744073709551616 = 2 ^ n := Nat.mod_eq_of_lt (Nat.lt_of_lt_of_le (Nat.pow_lt_pow_right (by decide) hnt) (by decide))
            have hsum : wsum (fun p => g (64 * k + p)) (n + 1) < 18446744073709551616 := Nat.lt_of_lt_of_le (wsum_lt _ _) (Nat.pow_le_pow_right (n := 2) (by decide) (show n + 1 ≤ 64 by omega))
            have HP := power_any n (by omega)
            simp only [hpw] at HP
            clear hpw
            go_wp2_with fail
            go_region_with (go_at_call 33; refine (HP _).mono ?_; rintro e w' ⟨rfl, rfl⟩)
            all_goals
              clear hoc hof hlc
              go_wp2
              go_roundw
              case rel =>
                have hv : IntKind.u64.wrap (((wsum (fun p => g (64 * k + p)) n : Nat) : Int) + 2 ^ n) = ((wsum (fun p => g (64 * k + p)) (n + 1) : Nat) : Int) := by
                  have h2 : ((2 ^ n : Nat) : Int) = 2 ^ n := by simp
                  rw [← h2, ← Int.natCast_add, ← hws2.out]
                  exact wrap_u64_id _ (Int.natCast_nonneg _) (Int.ofNat_lt.2 hsum)
                rw [hv]
                exact ⟨n + 1, by omega, by go_num, (block_setCell hblk _).trans (by rw [wsA_set g k n hlt]), (Below.heap_setCell _ _ _ _ (by simp)).trans hblk0, (hb.setCell (by simp) _).drew⟩
              case measure => simp [intOf]; omega
          · rw [show g (64 * k + n) = false by simpa using hg] at hlc
            rw [if_neg hg] at hws
            have hsm := wsA_same g k n (by rw [hws]; rfl)
            clear hws
            go_wp2
            go_roundw
            case rel => exact ⟨n + 1, by omega, by go_num, by rw [hsm]; exact hblk, hblk0, hb⟩
            case measure => simp [intOf]; omega
        · have e : n = 64 := by omega
          subst e
          go_wp2
          go_roundw
          case rel => exact ⟨k + 1, by omega, by go_num, by rw [← wsA_next]; exact hblk, hblk0, hb⟩
          case measure => simp [intOf]; omega
    · have e : k = 4 := by omega
      subst e
      rw [wsA_done] at hblk
      have hc0 : wr.cell? ⟨w.heap.size + 1, 0, none⟩ = some (.int .u64 (wd (bvOf g) 0).toNat) := by rw [cell_of_block hblk]; rfl
      have hc1 : wr.cell? ⟨w.heap.size + 1, 1, none⟩ = some (.int .u64 (wd (bvOf g) 1).toNat) := by rw [cell_of_block hblk]; rfl
      have hc2 : wr.cell? ⟨w.heap.size + 1, 2, none⟩ = some (.int .u64 (wd (bvOf g) 2).toNat) := by rw [cell_of_block hblk]; rfl
      have hc3 : wr.cell? ⟨w.heap.size + 1, 3, none⟩ = some (.int .u64 (wd (bvOf g) 3).toNat) := by rw [cell_of_block hblk]; rfl
      obtain ⟨hd0, hd1, hd2, hd3, hf⟩ := res4 hblk0 (wsA_zero g)
      clear hcell hblk hblk0
      go_wp2
      exact bodyPost_ret (v := .agg #[.int .u64 (wd (bvOf g) 0).toNat, .int .u64 (wd (bvOf g) 1).toNat, .int .u64 (wd (bvOf g) 2).toNat, .int .u64 (wd (bvOf g) 3).toNat]) (by simp [results, Tryz.results15, go_sem, hd0, hd1, hd2, hd3]) rfl
        ⟨rfl, (((hb.setCell (by simp) _).setCell (by simp) _).setCell (by simp) _).setCell (by simp) _⟩

/-- A slice of 256 flags that a call has made: its cells. -/
theorem flags_form {w : World} {base : Nat} {v : Value} {S : BitVec 256} (h : w.ownsRow base 4 1 v 256 (flagsV S 256)) :
    ∃ b cap, v = .slice (some ⟨b, 0, none⟩) 256 cap ∧ base ≤ b ∧ b < w.heap.size ∧ ∀ p, p < 256 → w.cell? ⟨b, p, none⟩ = some (.bool (S.getLsbD p)) := by
  obtain ⟨b, cap, rfl⟩ := ownsRow_form h (by decide)
  have hl := h.lt b rfl
  exact ⟨b, cap, rfl, hl.1, hl.2, fun p hp => by rw [h.cellAt p (by omega), flagsV_get S 256 p hp]⟩

theorem pow_small (i : Nat) (hi : i < 8) : 2 ^ i % 18446744073709551616 = 2 ^ i := Nat.mod_eq_of_lt (Nat.lt_of_lt_of_le (Nat.pow_lt_pow_right (by decide) hi) (by decide))
set_option maxHeartbeats 400000 in
theorem bit_any (p i : Nat) (hp : p < 256) (hi : i < 8) (w : World) :
    Calls Tryz.prog 72 #[.int .i64 p, .int .i64 i] w fun e w' => e = .returned (.int .i64 (p / 2 ^ i % 2 : Nat)) ∧ w = w' := by
  have HP := power_any i (by omega)
  simp only [pow_small i hi] at HP
  have hq0 : 0 < 2 ^ i := Nat.two_pow_pos i
  have hq1 : 2 ^ i < 256 := Nat.lt_of_lt_of_le (Nat.pow_lt_pow_right (by decide) hi) (by decide)
  generalize 2 ^ i = q at HP hq0 hq1 ⊢
  go_enter Tryz.func72, Tryz.ntmps72
  go_wp2_with (go_at_call 33; refine (HP _).mono ?_; rintro e w' ⟨rfl, rfl⟩)
  go_ret
  refine ⟨ret_int ?_, rfl⟩
  have hd : (p : Int) / (q : Int) = ((p / q : Nat) : Int) := (Int.natCast_ediv p q).symm
  have hl : p / q ≤ p := Nat.div_le_self _ _
  rw [hd]
  generalize p / q = r at *
  have hw : wrap64 (r : Int) = r := by unfold wrap64; omega
  rw [hw, Int.tmod_eq_emod_of_nonneg (by omega)]
  omega

/-- The flags of the points of n inputs. -/
def allV (m : Nat) : List Value := (List.range 256).map (fun p => Value.bool (decide (p < m)))

set_option maxHeartbeats 1000000 in
set_option maxRecDepth 1000000 in
theorem reflist_any (S : BitVec 256) (w : World) :
    Calls Tryz.prog 44 #[sv S] w fun e w' => ∃ v, e = .returned v ∧ w'.ownsRow w.heap.size 3 1 v (pts S).length (intsV (pts S)) ∧ Below w.heap.size w w' := by
  obtain ⟨i0, hi, hz0, hz1, hz2⟩ := info_parts Tryz.infoInt
  have HF := fun w => flags_any S w
  unfold sv wv at HF ⊢
  go_enter Tryz.func44, Tryz.ntmps44
  go_wp2_with fail
  refine (HF _).mono ?_
  rintro e w1 ⟨vf, rfl, hownf, hbf⟩
  obtain ⟨b, cap, rfl, hb0, hb1, hc⟩ := flags_form hownf
  have hbw : Below w.heap.size w w1 := (below_alloc1 _ _).trans (hbf.mono (by simp))
  clear HF hownf hbf
  go_wp2
  go_loopw [4, 5] (fun v i wr => ∃ k : Nat, k ≤ 256 ∧ i = .int .i64 k ∧ wr.ownsRow w1.heap.size 3 1 v (ptsK S k).length (intsV (ptsK S k)) ∧ Below w1.heap.size w1 wr) (fun _ i _ => 256 - (intOf i).toNat)
  case atStart => exact ⟨0, by omega, rfl, World.ownsRow_nil _ _ _ _, Below.refl _ _⟩
  case round =>
    obtain ⟨k, hk, rfl, hown, hb⟩ := hrel
    have hlen := ptsK_len S k
    by_cases hlt : k < 256
    · have hlc : wr.cell? ⟨b, k, none⟩ = some (.bool (S.getLsbD k)) := by rw [hb.cell (by exact hb1), hc k hlt]
      have hsz := hb.size
      by_cases hbit : S.getLsbD k
      · rw [hbit] at hlc
        go_wp2_with (at_builtin; go_loud (refine wpList_append_own _ rfl _ _ 84 rfl w1.heap.size 3 i0 (.int .i64 0) 1 8 Tryz.underlying84 hi hz0 hz1 hz2 rfl (by decide) _ _ _ rfl (hown.alloc _) ⟨wr.heap.size, 0, none⟩ 1 1 [.int .i64 k] rfl rfl ?c1 ?c2 ?c3 ?c4 ?c5 ?_))
        case c1 => exact cell_one_new _ _ _
        case c2 => intro u hu; simp at hu; subst hu; rfl
        case c3 => unfold maxLen; omega
        case c4 => omega
        case c5 => simp; omega
        intro v' w2 hown2 hgrow _
        have hR : Below w1.heap.size w1 w2 := grown_below hown hgrow (hb.alloc (by omega) _) (by omega) (by simp; omega)
        clear hgrow hown hlc hb hc
        go_wp2
        go_roundw
        case rel => exact ⟨k + 1, by omega, by go_num, by rw [ptsK_succ, if_pos hbit]; simpa [intsV] using hown2, hR⟩
        case measure => simp [intOf]; omega
      · rw [show S.getLsbD k = false by simpa using hbit] at hlc
        clear hc
        go_wp2
        go_roundw
        case rel => exact ⟨k + 1, by omega, by go_num, by rw [ptsK_succ, if_neg hbit]; exact hown, hb⟩
        case measure => simp [intOf]; omega
    · have e : k = 256 := by omega
      subst e
      clear hc
      go_wp2
      go_ret
      exact ⟨_, rfl, ownsRow_le hown hbw.size, hbw.trans (hb.mono hbw.size)⟩

end Go.Proofs.YtckmjampgeojbaaGreatDoor
namespace Go.Proofs.YtckmjampgeojbaaGreatDoor
open Go.RowKit Go.Joins

def gk (S : BitVec 256) (i : Nat) (one : Bool) (k p : Nat) : Bool := ((pts S).take k).contains p && (p.testBit i == one)
theorem pts_lt (S : BitVec 256) (q : Nat) (h : q ∈ pts S) : q < 256 ∧ S.getLsbD q = true := by
  unfold pts at h
  rw [List.mem_filter] at h
  exact ⟨by simpa using h.1, h.2⟩
theorem gk_succ (S : BitVec 256) (i : Nat) (one : Bool) (k p : Nat) (hk : k < (pts S).length) : gk S i one (k + 1) p = (gk S i one k p || (p == (pts S)[k] && (p.testBit i == one))) := by
  unfold gk
  rw [List.take_succ_eq_append_getElem hk]
  rw [Bool.eq_iff_iff]
  simp only [List.contains_iff_mem, Bool.and_eq_true, Bool.or_eq_true, List.mem_append, List.mem_singleton, beq_iff_eq]
  constructor
  · rintro ⟨h1 | h1, h2⟩
    · exact .inl ⟨h1, h2⟩
    · exact .inr ⟨h1, h2⟩
  · rintro (⟨h1, h2⟩ | ⟨h1, h2⟩)
    · exact ⟨.inl h1, h2⟩
    · exact ⟨.inr h1, h2⟩
theorem gk_all (S : BitVec 256) (i : Nat) (one : Bool) (p : Nat) (hp : p < 256) : gk S i one (pts S).length p = (S.getLsbD p && (p.testBit i == one)) := by
  unfold gk
  rw [List.take_length]
  congr 1
  rw [Bool.eq_iff_iff, List.contains_iff_mem]
  unfold pts
  rw [List.mem_filter]
  simp [hp]
theorem half_flags (S : BitVec 256) (i : Nat) (one : Bool) (hi : i < 8) : bvOf (gk S i one (pts S).length) = halfB S i one := by
  have h : 0 ≤ (i : Int) ∧ (i : Int) < 8 := by omega
  unfold halfB
  rw [if_pos h]
  refine bvOf_eq _ _ fun p hp => ?_
  rw [gk_all S i one p hp]
  have ho : (onesB i).getLsbD p = p.testBit i := by unfold onesB; rw [bvOf_bit]; simp [hp]
  cases one <;> simp only [Int.toNat_natCast, if_true, Bool.false_eq_true, if_false, BitVec.getLsbD_and, BitVec.getLsbD_not, ho, hp, decide_true, Bool.true_and]
  · cases p.testBit i <;> simp
  · cases p.testBit i <;> simp
theorem no_flags : bvOf (fun _ => false) = 0 := bvOf_eq _ _ fun p _ => by simp

theorem bit_test (p i : Nat) (hp : p < 256) (hi : i < 8) (w : World) :
    Calls Tryz.prog 72 #[.int .i64 p, .int .i64 i] w fun e w' => e = .returned (.int .i64 (if p.testBit i then 1 else 0)) ∧ w = w' := by
  have h := bit_any p i hp hi w
  have e : ((p / 2 ^ i % 2 : Nat) : Int) = if p.testBit i then 1 else 0 := by
    rw [Nat.testBit_eq_decide_div_mod_eq]
    by_cases h1 : p / 2 ^ i % 2 = 1
    · simp [h1]
    · have h0 : p / 2 ^ i % 2 = 0 := by omega
      simp [h0]
  rw [e] at h
  exact h
theorem half_any (S : BitVec 256) (i : Int) (one : Bool) (w : World) :
    Calls Tryz.prog 70 #[sv S, .int .i64 i, .bool one] w fun e w' => e = .returned (sv (halfB S i one)) ∧ Below w.heap.size w w' := by
  by_cases h : 0 ≤ i ∧ i < 8
  · obtain ⟨n, rfl⟩ := Int.eq_ofNat_of_zero_le h.1
    have hn : n < 8 := by omega
    cases one
    · have := half_zero S n hn w
      simpa [halfB, h, hn] using this
    · have := half_one S n hn w
      simpa [halfB, h, hn] using this
  · have := half_no S i one (by omega) w
    simpa [halfB, h] using this

end Go.Proofs.YtckmjampgeojbaaGreatDoor
namespace Go.Proofs.YtckmjampgeojbaaGreatDoor
open Go.RowKit Go.Joins

/-- 256 flags in a block. -/
def flagsA (g : Nat → Bool) : Array Value := (boolsV g).toArray
theorem flagsA_get (g : Nat → Bool) (p : Nat) (h : p < 256) : (flagsA g)[p]? = some (.bool (g p)) := by unfold flagsA; simpa using boolsV_get g p h
theorem flagsA_set (g g' : Nat → Bool) (q : Nat) (u : Bool) (hq : g' q = u) (hne : ∀ p, p ≠ q → g' p = g p) : (flagsA g).setIfInBounds q (.bool u) = flagsA g' := by
  unfold flagsA
  rw [List.setIfInBounds_toArray, boolsV_set g g' q u hq hne]
theorem flagsA_made : madeCells #[Value.bool false] 256 = flagsA (fun _ => false) := by
  unfold flagsA
  rw [← boolsV_made]
theorem make256 (w : World) : (Instr.makeSlice 48 (.int .i64 256) (.int .i64 256)).run Tryz.prog w = .ok (.slice (some ⟨w.heap.size, 0, none⟩) 256 256) (w.alloc (.cells (flagsA (fun _ => false)) 4)) := by
  obtain ⟨ib, jb, kb0, kb1, kb2⟩ := info_parts Tryz.infoBool
  have h := run_makeSlice (P := Tryz.prog) w 48 4 ib (.bool false) Tryz.underlying48 jb kb0 .i64 .i64 256 256 (by decide) (by decide) (by rw [kb1]; decide) (by rw [kb2]; decide) (by decide)
  rw [kb1] at h
  rw [h, ← flagsA_made]
  rfl

/-- What stands in the round: the flags of both sets, three rows of flags that are made up to k, and the sets themselves. -/
structure BothInv (S T : BitVec 256) (w wr : World) (bx by' bo ba bl k : Nat) : Prop where
  x : ∀ p, p < 256 → wr.cell? ⟨bx, p, none⟩ = some (.bool (S.getLsbD p))
  y : ∀ p, p < 256 → wr.cell? ⟨by', p, none⟩ = some (.bool (T.getLsbD p))
  o : wr.heap[bo]? = some (.cells (flagsA (fun p => decide (p < k) && (S.getLsbD p || T.getLsbD p))) 4 (0, 0))
  a : wr.heap[ba]? = some (.cells (flagsA (fun p => decide (p < k) && (S.getLsbD p && T.getLsbD p))) 4 (0, 0))
  l : wr.heap[bl]? = some (.cells (flagsA (fun p => decide (p < k) && (S.getLsbD p && !T.getLsbD p))) 4 (0, 0))
  box1 : wr.heap[w.heap.size]? = some (.cells (sa S) 45 (0, 0))
  box2 : wr.heap[w.heap.size + 1]? = some (.cells (sa T) 45 (0, 0))
  below : Below w.heap.size w wr
  hx : bx ≠ bo ∧ bx ≠ ba ∧ bx ≠ bl
  hy : by' ≠ bo ∧ by' ≠ ba ∧ by' ≠ bl
  ho : bo ≠ ba ∧ bo ≠ bl ∧ ba ≠ bl
  hb : w.heap.size + 2 ≤ bo ∧ w.heap.size + 2 ≤ ba ∧ w.heap.size + 2 ≤ bl
theorem step_flags (f : Nat → Bool) (k : Nat) : (flagsA (fun p => decide (p < k) && f p)).setIfInBounds k (.bool (f k)) = flagsA (fun p => decide (p < k + 1) && f p) :=
  flagsA_set _ _ k (f k) (by simp) (fun p hp => by
    by_cases h : p < k
    · have : p < k + 1 := by omega
      simp [h, this]
    · have : ¬ p < k + 1 := by omega
      simp [h, this])
theorem heap_set3 (w : World) (b1 b2 b3 j : Nat) (u1 u2 u3 : Value) (b : Nat) (h1 : b ≠ b1) (h2 : b ≠ b2) (h3 : b ≠ b3) : (((w.setCell ⟨b1, j, none⟩ u1).setCell ⟨b2, j, none⟩ u2).setCell ⟨b3, j, none⟩ u3).heap[b]? = w.heap[b]? := by
  rw [Below.heap_setCell _ _ _ _ h3, Below.heap_setCell _ _ _ _ h2, Below.heap_setCell _ _ _ _ h1]
theorem BothInv.next {S T : BitVec 256} {w wr : World} {bx by' bo ba bl k : Nat} (h : BothInv S T w wr bx by' bo ba bl k) :
    BothInv S T w (((wr.setCell ⟨bo, k, none⟩ (.bool (S.getLsbD k || T.getLsbD k))).setCell ⟨ba, k, none⟩ (.bool (S.getLsbD k && T.getLsbD k))).setCell ⟨bl, k, none⟩ (.bool (S.getLsbD k && !T.getLsbD k))) bx by' bo ba bl (k + 1) where
  x := fun p hp => by rw [World.cell?_of_block (w := wr) (a := ⟨bx, p, none⟩) (heap_set3 _ _ _ _ _ _ _ _ _ h.hx.1 h.hx.2.1 h.hx.2.2)]; exact h.x p hp
  y := fun p hp => by rw [World.cell?_of_block (w := wr) (a := ⟨by', p, none⟩) (heap_set3 _ _ _ _ _ _ _ _ _ h.hy.1 h.hy.2.1 h.hy.2.2)]; exact h.y p hp
  o := by
    rw [Below.heap_setCell _ _ _ _ h.ho.2.1, Below.heap_setCell _ _ _ _ h.ho.1, block_setCell h.o, step_flags]
  a := by
    rw [Below.heap_setCell _ _ _ _ h.ho.2.2, block_setCell ((Below.heap_setCell _ _ _ _ (Ne.symm h.ho.1)).trans h.a), step_flags]
  l := by
    rw [block_setCell ((Below.heap_setCell _ _ _ _ (Ne.symm h.ho.2.2)).trans ((Below.heap_setCell _ _ _ _ (Ne.symm h.ho.2.1)).trans h.l)), step_flags]
  box1 := by rw [heap_set3 _ _ _ _ _ _ _ _ _ (by have := h.hb; omega) (by have := h.hb; omega) (by have := h.hb; omega)]; exact h.box1
  box2 := by rw [heap_set3 _ _ _ _ _ _ _ _ _ (by have := h.hb; omega) (by have := h.hb; omega) (by have := h.hb; omega)]; exact h.box2
  below := ((h.below.setCell (by have := h.hb; show w.heap.size ≤ bo; omega) _).setCell (by have := h.hb; show w.heap.size ≤ ba; omega) _).setCell (by have := h.hb; show w.heap.size ≤ bl; omega) _
  hx := h.hx
  hy := h.hy
  ho := h.ho
  hb := h.hb

theorem three_new (w : World) (o : Obj) (b : Nat) (h0 : w.heap.size ≤ b) (h1 : b < w.heap.size + 3) : (((w.alloc o).alloc o).alloc o).drew.heap[b]? = some o := by
  show (((w.alloc o).alloc o).alloc o).heap[b]? = some o
  have h : b = w.heap.size ∨ b = w.heap.size + 1 ∨ b = w.heap.size + 2 := by omega
  rcases h with rfl | rfl | rfl
  · rw [Below.heap_alloc _ _ _ (by simp; omega), heap_alloc2_old]
  · rw [Below.heap_alloc _ _ _ (by simp), heap_alloc2_new]
  · have e : w.heap.size + 2 = ((w.alloc o).alloc o).heap.size := by simp
    rw [e, heap_alloc_new]
theorem three_old (w : World) (o : Obj) (b : Nat) (h : b < w.heap.size) : (((w.alloc o).alloc o).alloc o).drew.heap[b]? = w.heap[b]? := by
  show (((w.alloc o).alloc o).alloc o).heap[b]? = w.heap[b]?
  rw [Below.heap_alloc _ _ _ (by simp; omega), Below.heap_alloc _ _ _ (by simp; omega), Below.heap_alloc _ _ _ h]
theorem flagsA_zero (f : Nat → Bool) : flagsA (fun p => decide (p < 0) && f p) = flagsA (fun _ => false) := by
  have e : (fun p => decide (p < 0) && f p) = fun _ => false := funext fun p => by simp
  rw [e]
theorem both_start {S T : BitVec 256} {w wc : World} {bx by' : Nat} (hbx : bx < wc.heap.size) (hby : by' < wc.heap.size) (hsz : w.heap.size + 2 ≤ wc.heap.size)
    (hX : ∀ p, p < 256 → wc.cell? ⟨bx, p, none⟩ = some (.bool (S.getLsbD p))) (hY : ∀ p, p < 256 → wc.cell? ⟨by', p, none⟩ = some (.bool (T.getLsbD p)))
    (hbox1 : wc.heap[w.heap.size]? = some (.cells (sa S) 45 (0, 0))) (hbox2 : wc.heap[w.heap.size + 1]? = some (.cells (sa T) 45 (0, 0))) (hB : Below w.heap.size w wc)
    (bo ba bl : Nat) (h1 : wc.heap.size ≤ bo ∧ bo < wc.heap.size + 3) (h2 : wc.heap.size ≤ ba ∧ ba < wc.heap.size + 3) (h3 : wc.heap.size ≤ bl ∧ bl < wc.heap.size + 3) (h4 : bo ≠ ba ∧ bo ≠ bl ∧ ba ≠ bl) :
    BothInv S T w (((wc.alloc (.cells (flagsA (fun _ => false)) 4)).alloc (.cells (flagsA (fun _ => false)) 4)).alloc (.cells (flagsA (fun _ => false)) 4)).drew bx by' bo ba bl 0 where
  x := fun p hp => by rw [World.cell?_of_block (w := wc) (a := ⟨bx, p, none⟩) (three_old wc _ _ hbx)]; exact hX p hp
  y := fun p hp => by rw [World.cell?_of_block (w := wc) (a := ⟨by', p, none⟩) (three_old wc _ _ hby)]; exact hY p hp
  o := by rw [flagsA_zero]; exact three_new wc _ bo h1.1 h1.2
  a := by rw [flagsA_zero]; exact three_new wc _ ba h2.1 h2.2
  l := by rw [flagsA_zero]; exact three_new wc _ bl h3.1 h3.2
  box1 := by rw [three_old wc _ _ (by omega)]; exact hbox1
  box2 := by rw [three_old wc _ _ (by omega)]; exact hbox2
  below := (((hB.alloc (by omega) _).alloc (by simp; omega) _).alloc (by simp; omega) _).drew
  hx := by omega
  hy := by omega
  ho := h4
  hb := by omega
theorem flags_any2 (S : BitVec 256) (w : World) :
    Calls Tryz.prog 23 #[sv S] w fun e w' => ∃ b cap : Nat, e = .returned (.slice (some ⟨b, 0, none⟩) 256 cap) ∧ w.heap.size ≤ b ∧ b < w'.heap.size ∧ (∀ p, p < 256 → w'.cell? ⟨b, p, none⟩ = some (.bool (S.getLsbD p))) ∧ Below w.heap.size w w' :=
  (flags_any S w).mono fun e w' ⟨v, he, hown, hb⟩ => by
    obtain ⟨b, cap, rfl, h1, h2, h3⟩ := flags_form hown
    exact ⟨b, cap, he, h1, h2, h3, hb⟩

theorem BothInv.set {wr : World} {b : Nat} {f : Nat → Bool} {R : BitVec 256} (h : wr.heap[b]? = some (.cells (flagsA (fun p => decide (p < 256) && f p)) 4 (0, 0))) (hR : ∀ p, p < 256 → (decide (p < 256) && f p) = R.getLsbD p) (x : After wr) :
    Calls Tryz.prog 15 #[.slice (some ⟨b, 0, none⟩) 256 256] x.1 fun e w' => e = .returned (sv R) ∧ Below x.1.heap.size x.1 w' := by
  have h1 := refset_any (fun p => decide (p < 256) && f p) b 256 x.1 (Nat.lt_of_lt_of_le (size_of_block h) x.2.size) (fun p hp => After.cell x (by rw [cell_of_block h, flagsA_get _ p hp]))
  rw [bvOf_eq R _ hR] at h1
  exact h1
theorem less_zero (S T : BitVec 256) : S &&& ~~~T = 0 ↔ ∀ p, p < 256 → (S.getLsbD p && !T.getLsbD p) = false := by
  constructor
  · intro h p hp
    have h1 := congrArg (fun x => x.getLsbD p) h
    simp only [BitVec.getLsbD_and, BitVec.getLsbD_not, hp, decide_true, Bool.true_and] at h1
    rw [h1]
    exact BitVec.getLsbD_zero
  · intro h
    apply BitVec.eq_of_getLsbD_eq
    intro p hp
    rw [BitVec.getLsbD_and, BitVec.getLsbD_not]
    have := h p hp
    simp only [hp, decide_true, Bool.true_and, this]
    exact BitVec.getLsbD_zero.symm
set_option maxHeartbeats 1000000 in
set_option maxRecDepth 1000000 in
theorem refwithin_any (S T : BitVec 256) (w : World) :
    Calls Tryz.prog 14 #[sv S, sv T] w fun e w' => e = .returned (.bool (decide (S &&& ~~~T = 0))) ∧ Below w.heap.size w w' := by
  have HF := fun w => flags_any2 S w
  have HG := fun w => flags_any2 T w
  unfold sv wv at *
  go_enter Tryz.func14, Tryz.ntmps14
  go_upto_region 1 with (fail)
  go_cut [5, 6] from 8 (fun s5 s6 wc => ∃ bx cx by' cy : Nat, s5 = .slice (some ⟨bx, 0, none⟩) 256 cx ∧ s6 = .slice (some ⟨by', 0, none⟩) 256 cy ∧ bx < wc.heap.size ∧ by' < wc.heap.size ∧ w.heap.size + 2 ≤ wc.heap.size ∧
    (∀ p, p < 256 → wc.cell? ⟨bx, p, none⟩ = some (.bool (S.getLsbD p))) ∧ (∀ p, p < 256 → wc.cell? ⟨by', p, none⟩ = some (.bool (T.getLsbD p))) ∧
    wc.heap[w.heap.size]? = some (.cells (sa S) 45 (0, 0)) ∧ wc.heap[w.heap.size + 1]? = some (.cells (sa T) 45 (0, 0)) ∧ Below w.heap.size w wc)
  case first =>
    go_region_with (first
      | (go_at_call_of 23 (Value.agg #[.int .u64 (wd S 0).toNat, .int .u64 (wd S 1).toNat, .int .u64 (wd S 2).toNat, .int .u64 (wd S 3).toNat]); refine (HF _).mono ?_; rintro e w1 ⟨b1, c1, rfl, hlo1, hhi1, hc1, hb1⟩; obtain ⟨hq1, hr1⟩ := bcell hb1; have hzz1 := hb1.size; try simp at hzz1 hlo1)
      | (go_at_call_of 23 (Value.agg #[.int .u64 (wd T 0).toNat, .int .u64 (wd T 1).toNat, .int .u64 (wd T 2).toNat, .int .u64 (wd T 3).toNat]); refine (HG _).mono ?_; rintro e w2 ⟨b2, c2, rfl, hlo2, hhi2, hc2, hb2⟩; obtain ⟨hq2, hr2⟩ := bcell hb2; have hzz2 := hb2.size; try simp at hzz2 hlo2))
    all_goals
      clear hq1 hr1 hq2 hr2
      go_wp2_with fail
      go_meet
      have hB : Below w.heap.size w w2 := by first | exact ((below_alloc2 w _ _).trans (hb1.mono (by simp; omega))).trans (hb2.mono (by omega)) | exact ((below_alloc2 w _ _).drew.trans (hb1.mono (by simp; omega))).trans (hb2.mono (by omega))
      refine ⟨b1, c1, b2, c2, rfl, rfl, by omega, by omega, by omega, fun p hp => ?_, hc2, ?_, ?_, hB⟩
      · rw [hb2.cell (p := ⟨b1, p, none⟩) (by exact hhi1)]; exact hc1 p hp
      · rw [hb2.block _ (by omega), hb1.block _ (by simp; omega)]; exact heap_alloc2_old _ _ _
      · rw [hb2.block _ (by omega), hb1.block _ (by simp)]; exact heap_alloc2_new _ _ _
  case rest =>
    obtain ⟨bx, cx, by', cy, rfl, rfl, hbx, hby, hsz, hX, hY, hbox1, hbox2, hB⟩ := hcut
    clear HF HG hbox1 hbox2
    go_wp2
    go_loop [7] (fun j => ∃ k : Nat, k ≤ 256 ∧ j = .int .i64 k ∧ ∀ p, p < k → (S.getLsbD p && !T.getLsbD p) = false) (fun j => 256 - (intOf j).toNat)
    case atStart => exact ⟨0, by omega, rfl, fun p hp => by omega⟩
    case round =>
      obtain ⟨k, hk, rfl, hall⟩ := hrel
      have hall2 := Lib.hid hall
      clear hall
      by_cases hlt : k < 256
      · have hx := hX k hlt
        have hy := hY k hlt
        clear hX hY
        have hz := Lib.hid (less_zero S T)
        cases hs : S.getLsbD k
        · rw [hs] at hx
          have hs2 := Lib.hid hs
          clear hs
          go_wp2
          go_round
          case rel =>
            refine ⟨k + 1, by omega, by go_num, fun p hp => ?_⟩
            by_cases e : p = k
            · subst e; rw [hs2.out]; rfl
            · exact hall2.out p (by omega)
          case measure => simp [intOf]; omega
        · rw [hs] at hx
          have hs2 := Lib.hid hs
          clear hs
          cases ht : T.getLsbD k
          · rw [ht] at hy
            have ht2 := Lib.hid ht
            clear ht
            go_wp2
            go_ret
            refine ⟨ret_bool (Eq.symm (decide_eq_false fun h => ?_)), hB⟩
            have := hz.out.1 h k hlt
            rw [hs2.out, ht2.out] at this
            simp at this
          · rw [ht] at hy
            have ht2 := Lib.hid ht
            clear ht
            go_wp2
            go_round
            case rel =>
              refine ⟨k + 1, by omega, by go_num, fun p hp => ?_⟩
              by_cases e : p = k
              · subst e; rw [ht2.out]; simp
              · exact hall2.out p (by omega)
            case measure => simp [intOf]; omega
      · have e : k = 256 := by omega
        subst e
        clear hX hY
        go_wp2
        go_ret
        exact ⟨ret_bool (Eq.symm (decide_eq_true ((less_zero S T).2 hall2.out))), hB⟩
end Go.Proofs.YtckmjampgeojbaaGreatDoor
namespace Go.Proofs.YtckmjampgeojbaaGreatDoor
open Go.RowKit Go.Joins

set_option maxHeartbeats 1000000 in
set_option maxRecDepth 1000000 in
theorem refall_blk (n : Nat) (hn : n ≤ 8) (w : World) :
    Calls Tryz.prog 16 #[.int .i64 n] w fun e w' => ∃ b : Nat, e = .returned (.slice (some ⟨b, 0, none⟩) 256 256) ∧ w.heap.size ≤ b ∧ w'.heap[b]? = some (.cells (flagsA (fun p => decide (p < 2 ^ n))) 4 (0, 0)) ∧ Below w.heap.size w w' := by
  have HP := power_any n (by omega)
  have hq : 2 ^ n ≤ 256 := Nat.pow_le_pow_right (n := 2) (by decide) hn
  rw [Nat.mod_eq_of_lt (by omega : 2 ^ n < 18446744073709551616)] at HP
  generalize 2 ^ n = q at HP hq ⊢
  have hmk := make256
  generalize hfa : flagsA (fun _ => false) = FA at hmk
  have hfa2 := Lib.hid hfa
  clear hfa
  go_enter Tryz.func16, Tryz.ntmps16
  go_wp2
  go_loopw [4] (fun i wr => ∃ k : Nat, k ≤ q ∧ i = .int .i64 k ∧ wr.heap[w.heap.size]? = some (.cells (flagsA (fun p => decide (p < k))) 4 (0, 0)) ∧ Below w.heap.size w wr) (fun i _ => q - (intOf i).toNat)
  case atStart => exact ⟨0, by omega, rfl, by rw [show (fun p => decide (p < 0)) = fun _ => false from funext fun p => by simp, hfa2.out]; exact heap_alloc_new _ _, below_alloc1 _ _⟩
  case round =>
    clear hfa2 hmk
    obtain ⟨k, hk, rfl, hblk, hb⟩ := hrel
    by_cases hlt : k < q
    · have hc := (cell_of_block hblk k).trans (flagsA_get _ k (by omega))
      have hf := unfrozen_of_block hblk k
      have hst : (flagsA (fun p => decide (p < k))).setIfInBounds k (.bool true) = flagsA (fun p => decide (p < k + 1)) := flagsA_set _ _ k true (by simp) (fun p hp => by
        by_cases h : p < k
        · have : p < k + 1 := by omega
          simp [h, this]
        · have : ¬ p < k + 1 := by omega
          simp [h, this])
      have hst2 := Lib.hid hst
      clear hst
      go_wp2_with (go_at_call 33; refine (HP _).mono ?_; rintro e w' ⟨rfl, rfl⟩)
      go_roundw
      case rel => exact ⟨k + 1, by omega, by go_num, by rw [block_setCell hblk, hst2.out], hb.setCell (Nat.le_refl _) _⟩
      case measure => simp [intOf]; omega
    · have e : k = q := by omega
      subst e
      go_wp2_with (go_at_call 33; refine (HP _).mono ?_; rintro e w' ⟨rfl, rfl⟩)
      go_ret
      exact ⟨_, rfl, Nat.le_refl _, hblk, hb⟩
theorem refall_any (n : Nat) (hn : n ≤ 8) (w : World) :
    Calls Tryz.prog 16 #[.int .i64 n] w fun e w' => ∃ b : Nat, e = .returned (.slice (some ⟨b, 0, none⟩) 256 256) ∧ w.heap.size ≤ b ∧ b < w'.heap.size ∧ (∀ p, p < 256 → w'.cell? ⟨b, p, none⟩ = some (.bool (decide (p < 2 ^ n)))) ∧ Below w.heap.size w w' := by
  refine (refall_blk n hn w).mono ?_
  rintro e w' ⟨b, rfl, hlo, hblk, hb⟩
  exact ⟨b, rfl, hlo, size_of_block hblk, fun p hp => by rw [cell_of_block hblk, flagsA_get _ p hp], hb⟩

theorem blk_below {w w1 : World} {b : Nat} {o : Obj} (hb : Below w.heap.size w w1) (h : w.heap[b]? = some o) : w1.heap[b]? = some o := by
  rw [hb.block _ (size_of_block h)]; exact h
theorem blk_alloc {w : World} {b : Nat} {o x : Obj} (h : w.heap[b]? = some o) : (w.alloc x).heap[b]? = some o := by
  rw [Below.heap_alloc _ _ _ (size_of_block h)]; exact h
theorem blk_set {w : World} {a : Addr} {b : Nat} {o : Obj} {u : Value} (hne : b ≠ a.block) (h : w.heap[b]? = some o) : (w.setCell a u).heap[b]? = some o := by
  rw [Below.heap_setCell _ _ _ _ hne]; exact h

/-- The flags of a set with one more. -/
def addF (S : BitVec 256) (p : Int) (q : Nat) : Bool := S.getLsbD q || (decide (0 ≤ p) && decide (q = p.toNat))
def addB (S : BitVec 256) (p : Int) : BitVec 256 := if 0 ≤ p ∧ p < 256 then S ||| BitVec.twoPow 256 p.toNat else S
theorem addB_bit (S : BitVec 256) (p : Int) : bvOf (addF S p) = addB S p := by
  refine bvOf_eq _ _ fun q hq => ?_
  unfold addF addB
  by_cases h : 0 ≤ p ∧ p < 256
  · rw [if_pos h, BitVec.getLsbD_or, BitVec.getLsbD_twoPow]
    have h1 : p.toNat < 256 := by omega
    have h2 : decide (q = p.toNat) = decide (p.toNat = q) := by simp [eq_comm]
    simp [h.1, h1, h2]
  · rw [if_neg h]
    have : ¬ (0 ≤ p ∧ q = p.toNat) := by omega
    by_cases h0 : 0 ≤ p
    · have h3 : ¬ q = p.toNat := by omega
      simp [h3]
    · simp [h0]
end Go.Proofs.YtckmjampgeojbaaGreatDoor
