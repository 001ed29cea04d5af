/- What the document's answers of layer 1 come to, for every input. The document's own examples of layer 1, as the statements hold them. -/
import Derived.Test.YtdfllifjbabfjaaGreatDoorGM06
import Derived.Test.YtdfllifjbabfjaaGreatDoorGM03
import Derived.StillTailTactics
namespace Go.Proofs.YtdfllifjbabfjaaGreatDoor
open Go.RowKit Go.Joins

theorem pow_step (k : Nat) : 2 ^ k % 18446744073709551616 * 2 % 18446744073709551616 = 2 ^ (k + 1) % 18446744073709551616 := by
  rw [Nat.pow_succ]; omega
theorem power_any (n : Nat) (hn : n < 4611686018427387904) (w : World) :
    Calls Tryz.prog 65 #[.int .i64 n] w fun e w' => e = .returned (.int .u64 (2 ^ n % 18446744073709551616 : Nat)) ∧ w = w' := by
  go_enter Tryz.func65, Tryz.ntmps65
  go_wp2
  go_loop [3, 4] (fun p i => ∃ k : Nat, k ≤ n ∧ i = .int .i64 k ∧ p = .int .u64 (2 ^ k % 18446744073709551616 : Nat)) (fun _ i => n - (intOf i).toNat)
  case atStart => exact ⟨0, by omega, rfl, rfl⟩
  case round =>
    obtain ⟨k, hk, rfl, rfl⟩ := hrel
    have hp := Lib.hid (pow_step k)
    by_cases hlt : k < n
    · generalize hq : 2 ^ k % 18446744073709551616 = q
      have hq2 := Lib.hid hq
      clear hq
      go_wp2
      go_round
      case rel => exact ⟨k + 1, by omega, by go_num, by have h1 := hp.out; rw [hq2.out] at h1; rw [← h1, IntKind.wrap_u64]; congr 1⟩
      case measure => simp [intOf]; omega
    · go_wp2
      have e : k = n := by omega
      subst e
      go_ret
      exact ⟨rfl, rfl⟩

/-- The flags of the first n points. -/
def flagsV (S : BitVec 256) (n : Nat) : List Value := (List.range n).map (fun p => Value.bool (S.getLsbD p))
theorem flagsV_succ (S : BitVec 256) (n : Nat) : flagsV S (n + 1) = flagsV S n ++ [.bool (S.getLsbD n)] := by
  unfold flagsV; rw [List.range_succ, List.map_append]; rfl
theorem flagsV_get (S : BitVec 256) (n p : Nat) (h : p < n) : (flagsV S n)[p]? = some (.bool (S.getLsbD p)) := by
  unfold flagsV; simp [h]
theorem odd_bit (S : BitVec 256) (i k : Nat) (hk : k < 64) : (((((wd S i).toNat / 2 ^ k : Nat) : Int) % 2) == 1) = S.getLsbD (64 * i + k) := by
  have hb := wd_bit S i k
  simp only [hk, decide_true, Bool.true_and, BitVec.getLsbD, Nat.testBit_eq_decide_div_mod_eq] at hb ⊢
  rw [← hb]
  by_cases h1 : (wd S i).toNat / 2 ^ k % 2 = 1
  · simp only [h1, decide_true, beq_iff_eq]; omega
  · simp only [h1, decide_false, beq_eq_false_iff_ne, ne_eq]; omega
theorem half_step (x k : Nat) : x / 2 ^ k / 2 = x / 2 ^ (k + 1) := by rw [Nat.pow_succ, Nat.div_div_eq_div_mul]

set_option maxHeartbeats 1000000 in
set_option maxRecDepth 1000000 in
theorem flags_any (S : BitVec 256) (w : World) :
    Calls Tryz.prog 47 #[sv S] w fun e w' => ∃ v, e = .returned v ∧ w'.ownsRow w.heap.size 4 1 v 256 (flagsV S 256) ∧ Below w.heap.size w w' := by
  obtain ⟨i0, hi, hz0, hz1, hz2⟩ := info_parts Tryz.infoBool
  unfold sv wv
  go_enter Tryz.func47, Tryz.ntmps47
  go_wp2
  go_loopw [3, 4, 5, 6] (fun v i _ _ wr => ∃ k : Nat, k ≤ 4 ∧ i = .int .i64 k ∧ wr.ownsRow (w.heap.size + 1) 4 1 v (64 * k) (flagsV S (64 * k)) ∧ wr.heap[w.heap.size]? = some (.cells (sa S) 50 (0, 0)) ∧ Below w.heap.size w wr) (fun _ i _ _ _ => 4 - (intOf i).toNat)
  case atStart => exact ⟨0, by omega, rfl, World.ownsRow_nil _ _ _ _, heap_alloc_new _ _, below_alloc1 _ _⟩
  case round =>
    obtain ⟨k, hk, rfl, hown, hblk, hb⟩ := hrel
    by_cases hlt : k < 4
    · have hz : w.heap.size < wr.heap.size := size_of_block hblk
      have d0 : wr.cell? ⟨w.heap.size, k, none⟩ = some (.int .u64 (wd S k).toNat) := by rw [cell_of_block hblk, sa_get S k hlt]; rfl
      have hdk : decide ((k : Int) < 4) = true := by simp; omega
      go_wp2
      obtain ⟨wo, rfl⟩ : ∃ wo : World, wo = wr := ⟨_, rfl⟩
      go_loopw [3, 5, 6] (fun v x j wr => ∃ n : Nat, n ≤ 64 ∧ j = .int .i64 n ∧ x = .int .u64 ((wd S k).toNat / 2 ^ n : Nat) ∧ wr.ownsRow (w.heap.size + 1) 4 1 v (64 * k + n) (flagsV S (64 * k + n)) ∧ wr.heap[w.heap.size]? = some (.cells (sa S) 50 (0, 0)) ∧ Below w.heap.size w wr) (fun _ _ j _ => 64 - (intOf j).toNat)
      case atStart => exact ⟨0, by omega, rfl, by simp, hown, hblk, hb⟩
      case round =>
        clear hown hblk hb d0 hz
        obtain ⟨n, hn, rfl, rfl, hown, hblk, hb⟩ := hrel
        by_cases hnt : n < 64
        · have hz : w.heap.size < wr.heap.size := size_of_block hblk
          have ho := odd_bit S k n hnt
          have hh := Lib.hid (half_step (wd S k).toNat n)
          have hql : (wd S k).toNat / 2 ^ n < 18446744073709551616 := Nat.lt_of_le_of_lt (Nat.div_le_self _ _) (wd S k).isLt
          generalize hq : (wd S k).toNat / 2 ^ n = q at ho hql
          have hq2 := Lib.hid hq
          clear hq
          go_wp2_with (at_builtin; go_loud (refine wpList_append_own _ rfl _ _ 38 rfl (w.heap.size + 1) 4 i0 (.bool false) 1 1 Tryz.underlying38 hi hz0 hz1 hz2 rfl (by decide) _ _ _ rfl (hown.alloc _) ⟨wr.heap.size, 0, none⟩ 1 1 [.bool (S.getLsbD (64 * k + n))] rfl rfl ?c1 ?c2 ?c3 ?c4 ?c5 ?_))
          case c1 => exact cell_one_new _ _ _
          case c2 => intro u hu; simp at hu; subst hu; rfl
          case c3 => unfold maxLen; omega
          case c4 => omega
          case c5 => simp; omega
          intro v' w2 hown2 hgrow _
          have hR : w2.heap[w.heap.size]? = some (.cells (sa S) 50 (0, 0)) ∧ Below w.heap.size w w2 :=
            ⟨((grown_low hown hgrow _ (by omega) (by simp; omega)).trans (Below.heap_alloc _ _ _ (by omega))).trans hblk, grown_below hown hgrow (hb.alloc (by omega) _) (by omega) (by simp; omega)⟩
          clear hgrow hown hblk hb ho
          go_wp2
          go_roundw
          case rel => exact ⟨n + 1, by omega, by go_num, by rw [← hh.out, hq2.out]; rfl, by rw [← Nat.add_assoc, flagsV_succ]; exact hown2, hR.1, hR.2⟩
          case measure => simp [intOf]; omega
        · have e : n = 64 := by omega
          subst e
          go_wp2
          go_roundw
          case rel => exact ⟨k + 1, by omega, by go_num, by rw [show 64 * (k + 1) = 64 * k + 64 by omega]; exact hown, hblk, hb⟩
          case measure => simp [intOf]; omega
    · have e : k = 4 := by omega
      subst e
      go_wp2
      go_ret
      exact ⟨_, rfl, ownsRow_le hown (by omega), hb⟩

/-- The words of the set of g, when all of the first i are made, and n bits of the next one. -/
def wsq (g : Nat → Bool) (i n j : Nat) : Nat := if j < i then wsum (fun p => g (64 * j + p)) 64 else if j = i then wsum (fun p => g (64 * j + p)) n else 0
def wsA (g : Nat → Bool) (i n : Nat) : Array Value := #[.int .u64 (wsq g i n 0 : Nat), .int .u64 (wsq g i n 1 : Nat), .int .u64 (wsq g i n 2 : Nat), .int .u64 (wsq g i n 3 : Nat)]
theorem wsA_get (g : Nat → Bool) (i n : Nat) (hi : i < 4) : (wsA g i n)[i]? = some (.int .u64 (wsum (fun p => g (64 * i + p)) n : Nat)) := by
  match i, hi with
  | 0, _ => simp [wsA, wsq]
  | 1, _ => simp [wsA, wsq]
  | 2, _ => simp [wsA, wsq]
  | 3, _ => simp [wsA, wsq]
theorem wsA_set (g : Nat → Bool) (i n : Nat) (hi : i < 4) : (wsA g i n).setIfInBounds i (.int .u64 (wsum (fun p => g (64 * i + p)) (n + 1) : Nat)) = wsA g i (n + 1) := by
  match i, hi with
  | 0, _ => simp [wsA, wsq]
  | 1, _ => simp [wsA, wsq]
  | 2, _ => simp [wsA, wsq]
  | 3, _ => simp [wsA, wsq]
theorem wsA_same (g : Nat → Bool) (i n : Nat) (h : wsum (fun p => g (64 * i + p)) (n + 1) = wsum (fun p => g (64 * i + p)) n) : wsA g i (n + 1) = wsA g i n := by
  have e : ∀ j, wsq g i (n + 1) j = wsq g i n j := by
    intro j
    unfold wsq
    by_cases h1 : j < i
    · simp [h1]
    · by_cases h2 : j = i
      · subst h2; simp [h]
      · simp [h1, h2]
  unfold wsA
  simp only [e]
theorem wsA_next (g : Nat → Bool) (i : Nat) : wsA g i 64 = wsA g (i + 1) 0 := by
  have e : ∀ j, wsq g i 64 j = wsq g (i + 1) 0 j := by
    intro j
    unfold wsq
    by_cases h1 : j < i
    · have : j < i + 1 := by omega
      simp [h1, this]
    · by_cases h2 : j = i
      · subst h2; simp
      · have a : ¬ j < i + 1 := by omega
        simp [h1, h2, a, wsum]
  unfold wsA
  simp only [e]
theorem wsA_zero (g : Nat → Bool) : wsA g 0 0 = #[.int .u64 0, .int .u64 0, .int .u64 0, .int .u64 0] := by simp [wsA, wsq, wsum]
theorem wsA_done (g : Nat → Bool) : wsA g 4 0 = sa (bvOf g) := by
  have e : ∀ j, j < 4 → Value.int .u64 (wsq g 4 0 j : Nat) = wv (wd (bvOf g) j) := by
    intro j hj
    unfold wv wsq
    rw [if_pos hj, wd_bvOf g j hj]
  unfold wsA sa
  rw [e 0 (by omega), e 1 (by omega), e 2 (by omega), e 3 (by omega)]

set_option maxHeartbeats 1000000 in
set_option maxRecDepth 1000000 in
theorem refset_any (g : Nat → Bool) (b cap : Nat) (w : World) (hbw : b < w.heap.size) (hcell : ∀ p, p < 256 → w.cell? ⟨b, p, none⟩ = some (.bool (g p))) :
    Calls Tryz.prog 36 #[.slice (some ⟨b, 0, none⟩) 256 cap] w fun e w' => e = .returned (sv (bvOf g)) ∧ Below w.heap.size w w' := by
  go_enter Tryz.func36, Tryz.ntmps36
  go_wp2
  go_loopw [4, 5] (fun i _ wr => ∃ k : Nat, k ≤ 4 ∧ i = .int .i64 k ∧ wr.heap[w.heap.size + 1]? = some (.cells (wsA g k 0) 50 (0, 0)) ∧ wr.heap[w.heap.size]? = some (.cells (wsA g 0 0) 50 (0, 0)) ∧ Below w.heap.size w wr) (fun i _ _ => 4 - (intOf i).toNat)
  case atStart => exact ⟨0, by omega, rfl, by rw [heap_alloc2_new, wsA_zero], by rw [heap_alloc2_old, wsA_zero], below_alloc2 _ _ _⟩
  case round =>
    obtain ⟨k, hk, rfl, hblk, hblk0, hb⟩ := hrel
    by_cases hlt : k < 4
    · have hdk : decide ((k : Int) < 4) = true := by simp; omega
      go_wp2
      obtain ⟨wo, rfl⟩ : ∃ wo : World, wo = wr := ⟨_, rfl⟩
      go_loopw [5] (fun j wr => ∃ n : Nat, n ≤ 64 ∧ j = .int .i64 n ∧ wr.heap[w.heap.size + 1]? = some (.cells (wsA g k n) 50 (0, 0)) ∧ wr.heap[w.heap.size]? = some (.cells (wsA g 0 0) 50 (0, 0)) ∧ Below w.heap.size w wr) (fun j _ => 64 - (intOf j).toNat)
      case atStart => exact ⟨0, by omega, rfl, hblk, hblk0, hb⟩
      case round =>
        clear hblk hblk0 hb
        obtain ⟨n, hn, rfl, hblk, hblk0, hb⟩ := hrel
        by_cases hnt : n < 64
        · have hlc : wr.cell? ⟨b, 64 * k + n, none⟩ = some (.bool (g (64 * k + n))) := by rw [hb.cell (by exact hbw), hcell _ (by omega)]
          have hws : wsum (fun p => g (64 * k + p)) (n + 1) = wsum (fun p => g (64 * k + p)) n + if g (64 * k + n) then 2 ^ n else 0 := rfl
          by_cases hg : g (64 * k + n)
          · rw [hg] at hlc
            rw [if_pos hg] at hws
            have hoc : wr.cell? ⟨w.heap.size + 1, k, none⟩ = some (.int .u64 (wsum (fun p => g (64 * k + p)) n : Nat)) := by rw [cell_of_block hblk, wsA_get g k n hlt]
            have hof : wr.frozen? ⟨w.heap.size + 1, k, none⟩ = false := unfrozen_of_block hblk _
            have hws2 := Lib.hid hws
            clear hws
            have hpw : 2 ^ n % 18446744073709551616 = 2 ^ n := Nat.mod_eq_of_lt (Nat.lt_of_lt_of_le (Nat.pow_lt_pow_right (by decide) hnt) (by decide))
            have hsum : wsum (fun p => g (64 * k + p)) (n + 1) < 18446744073709551616 := Nat.lt_of_lt_of_le (wsum_lt _ _) (Nat.pow_le_pow_right (n := 2) (by decide) (show n + 1 ≤ 64 by omega))
            have HP := power_any n (by omega)
            simp only [hpw] at HP
            clear hpw
            go_wp2_with fail
            go_region_with (go_at_call 65; refine (HP _).mono ?_; rintro e w' ⟨rfl, rfl⟩)
            all_goals
              clear hoc hof hlc
              go_wp2
              go_roundw
              case rel =>
                have hv : IntKind.u64.wrap (((wsum (fun p => g (64 * k + p)) n : Nat) : Int) + 2 ^ n) = ((wsum (fun p => g (64 * k + p)) (n + 1) : Nat) : Int) := by
                  have h2 : ((2 ^ n : Nat) : Int) = 2 ^ n := by simp
                  rw [← h2, ← Int.natCast_add, ← hws2.out]
                  exact wrap_u64_id _ (Int.natCast_nonneg _) (Int.ofNat_lt.2 hsum)
                rw [hv]
                exact ⟨n + 1, by omega, by go_num, (block_setCell hblk _).trans (by rw [wsA_set g k n hlt]), (Below.heap_setCell _ _ _ _ (by simp)).trans hblk0, (hb.setCell (by simp) _).drew⟩
              case measure => simp [intOf]; omega
          · rw [show g (64 * k + n) = false by simpa using hg] at hlc
            rw [if_neg hg] at hws
            have hsm := wsA_same g k n (by rw [hws]; rfl)
            clear hws
            go_wp2
            go_roundw
            case rel => exact ⟨n + 1, by omega, by go_num, by rw [hsm]; exact hblk, hblk0, hb⟩
            case measure => simp [intOf]; omega
        · have e : n = 64 := by omega
          subst e
          go_wp2
          go_roundw
          case rel => exact ⟨k + 1, by omega, by go_num, by rw [← wsA_next]; exact hblk, hblk0, hb⟩
          case measure => simp [intOf]; omega
    · have e : k = 4 := by omega
      subst e
      rw [wsA_done] at hblk
      have hc0 : wr.cell? ⟨w.heap.size + 1, 0, none⟩ = some (.int .u64 (wd (bvOf g) 0).toNat) := by rw [cell_of_block hblk]; rfl
      have hc1 : wr.cell? ⟨w.heap.size + 1, 1, none⟩ = some (.int .u64 (wd (bvOf g) 1).toNat) := by rw [cell_of_block hblk]; rfl
      have hc2 : wr.cell? ⟨w.heap.size + 1, 2, none⟩ = some (.int .u64 (wd (bvOf g) 2).toNat) := by rw [cell_of_block hblk]; rfl
      have hc3 : wr.cell? ⟨w.heap.size + 1, 3, none⟩ = some (.int .u64 (wd (bvOf g) 3).toNat) := by rw [cell_of_block hblk]; rfl
      obtain ⟨hd0, hd1, hd2, hd3, hf⟩ := res4 hblk0 (wsA_zero g)
      clear hcell hblk hblk0
      go_wp2
      exact bodyPost_ret (v := .agg #[.int .u64 (wd (bvOf g) 0).toNat, .int .u64 (wd (bvOf g) 1).toNat, .int .u64 (wd (bvOf g) 2).toNat, .int .u64 (wd (bvOf g) 3).toNat]) (by simp [results, Tryz.results36, go_sem, hd0, hd1, hd2, hd3]) rfl
        ⟨rfl, (((hb.setCell (by simp) _).setCell (by simp) _).setCell (by simp) _).setCell (by simp) _⟩

/-- A slice of 256 flags that a call has made: its cells. -/
theorem flags_form {w : World} {base : Nat} {v : Value} {S : BitVec 256} (h : w.ownsRow base 4 1 v 256 (flagsV S 256)) :
    ∃ b cap, v = .slice (some ⟨b, 0, none⟩) 256 cap ∧ base ≤ b ∧ b < w.heap.size ∧ ∀ p, p < 256 → w.cell? ⟨b, p, none⟩ = some (.bool (S.getLsbD p)) := by
  obtain ⟨b, cap, rfl⟩ := ownsRow_form h (by decide)
  have hl := h.lt b rfl
  exact ⟨b, cap, rfl, hl.1, hl.2, fun p hp => by rw [h.cellAt p (by omega), flagsV_get S 256 p hp]⟩

theorem pow_small (i : Nat) (hi : i < 8) : 2 ^ i % 18446744073709551616 = 2 ^ i := Nat.mod_eq_of_lt (Nat.lt_of_lt_of_le (Nat.pow_lt_pow_right (by decide) hi) (by decide))
set_option maxHeartbeats 400000 in
theorem bit_any (p i : Nat) (hp : p < 256) (hi : i < 8) (w : World) :
    Calls Tryz.prog 63 #[.int .i64 p, .int .i64 i] w fun e w' => e = .returned (.int .i64 (p / 2 ^ i % 2 : Nat)) ∧ w = w' := by
  have HP := power_any i (by omega)
  simp only [pow_small i hi] at HP
  have hq0 : 0 < 2 ^ i := Nat.two_pow_pos i
  have hq1 : 2 ^ i < 256 := Nat.lt_of_lt_of_le (Nat.pow_lt_pow_right (by decide) hi) (by decide)
  generalize 2 ^ i = q at HP hq0 hq1 ⊢
  go_enter Tryz.func63, Tryz.ntmps63
  go_wp2_with (go_at_call 65; refine (HP _).mono ?_; rintro e w' ⟨rfl, rfl⟩)
  go_ret
  refine ⟨ret_int ?_, rfl⟩
  have hd : (p : Int) / (q : Int) = ((p / q : Nat) : Int) := (Int.natCast_ediv p q).symm
  have hl : p / q ≤ p := Nat.div_le_self _ _
  rw [hd]
  generalize p / q = r at *
  have hw : wrap64 (r : Int) = r := by unfold wrap64; omega
  rw [hw, Int.tmod_eq_emod_of_nonneg (by omega)]
  omega

/-- The flags of the points of n inputs. -/
def allV (m : Nat) : List Value := (List.range 256).map (fun p => Value.bool (decide (p < m)))

set_option maxHeartbeats 1000000 in
set_option maxRecDepth 1000000 in
theorem reflist_any (S : BitVec 256) (w : World) :
    Calls Tryz.prog 28 #[sv S] w fun e w' => ∃ v, e = .returned v ∧ w'.ownsRow w.heap.size 3 1 v (pts S).length (intsV (pts S)) ∧ Below w.heap.size w w' := by
  obtain ⟨i0, hi, hz0, hz1, hz2⟩ := info_parts Tryz.infoInt
  have HF := fun w => flags_any S w
  unfold sv wv at HF ⊢
  go_enter Tryz.func28, Tryz.ntmps28
  go_wp2_with fail
  refine (HF _).mono ?_
  rintro e w1 ⟨vf, rfl, hownf, hbf⟩
  obtain ⟨b, cap, rfl, hb0, hb1, hc⟩ := flags_form hownf
  have hbw : Below w.heap.size w w1 := (below_alloc1 _ _).trans (hbf.mono (by simp))
  clear HF hownf hbf
  go_wp2
  go_loopw [4, 5] (fun v i wr => ∃ k : Nat, k ≤ 256 ∧ i = .int .i64 k ∧ wr.ownsRow w1.heap.size 3 1 v (ptsK S k).length (intsV (ptsK S k)) ∧ Below w1.heap.size w1 wr) (fun _ i _ => 256 - (intOf i).toNat)
  case atStart => exact ⟨0, by omega, rfl, World.ownsRow_nil _ _ _ _, Below.refl _ _⟩
  case round =>
    obtain ⟨k, hk, rfl, hown, hb⟩ := hrel
    have hlen := ptsK_len S k
    by_cases hlt : k < 256
    · have hlc : wr.cell? ⟨b, k, none⟩ = some (.bool (S.getLsbD k)) := by rw [hb.cell (by exact hb1), hc k hlt]
      have hsz := hb.size
      by_cases hbit : S.getLsbD k
      · rw [hbit] at hlc
        go_wp2_with (at_builtin; go_loud (refine wpList_append_own _ rfl _ _ 45 rfl w1.heap.size 3 i0 (.int .i64 0) 1 8 Tryz.underlying45 hi hz0 hz1 hz2 rfl (by decide) _ _ _ rfl (hown.alloc _) ⟨wr.heap.size, 0, none⟩ 1 1 [.int .i64 k] rfl rfl ?c1 ?c2 ?c3 ?c4 ?c5 ?_))
        case c1 => exact cell_one_new _ _ _
        case c2 => intro u hu; simp at hu; subst hu; rfl
        case c3 => unfold maxLen; omega
        case c4 => omega
        case c5 => simp; omega
        intro v' w2 hown2 hgrow _
        have hR : Below w1.heap.size w1 w2 := grown_below hown hgrow (hb.alloc (by omega) _) (by omega) (by simp; omega)
        clear hgrow hown hlc hb hc
        go_wp2
        go_roundw
        case rel => exact ⟨k + 1, by omega, by go_num, by rw [ptsK_succ, if_pos hbit]; simpa [intsV] using hown2, hR⟩
        case measure => simp [intOf]; omega
      · rw [show S.getLsbD k = false by simpa using hbit] at hlc
        clear hc
        go_wp2
        go_roundw
        case rel => exact ⟨k + 1, by omega, by go_num, by rw [ptsK_succ, if_neg hbit]; exact hown, hb⟩
        case measure => simp [intOf]; omega
    · have e : k = 256 := by omega
      subst e
      clear hc
      go_wp2
      go_ret
      exact ⟨_, rfl, ownsRow_le hown hbw.size, hbw.trans (hb.mono hbw.size)⟩

end Go.Proofs.YtdfllifjbabfjaaGreatDoor
namespace Go.Proofs.YtdfllifjbabfjaaGreatDoor
open Go.RowKit Go.Joins

def gk (S : BitVec 256) (i : Nat) (one : Bool) (k p : Nat) : Bool := ((pts S).take k).contains p && (p.testBit i == one)
theorem pts_lt (S : BitVec 256) (q : Nat) (h : q ∈ pts S) : q < 256 ∧ S.getLsbD q = true := by
  unfold pts at h
  rw [List.mem_filter] at h
  exact ⟨by simpa using h.1, h.2⟩
theorem gk_succ (S : BitVec 256) (i : Nat) (one : Bool) (k p : Nat) (hk : k < (pts S).length) : gk S i one (k + 1) p = (gk S i one k p || (p == (pts S)[k] && (p.testBit i == one))) := by
  unfold gk
  rw [List.take_succ_eq_append_getElem hk]
  rw [Bool.eq_iff_iff]
  simp only [List.contains_iff_mem, Bool.and_eq_true, Bool.or_eq_true, List.mem_append, List.mem_singleton, beq_iff_eq]
  constructor
  · rintro ⟨h1 | h1, h2⟩
    · exact .inl ⟨h1, h2⟩
    · exact .inr ⟨h1, h2⟩
  · rintro (⟨h1, h2⟩ | ⟨h1, h2⟩)
    · exact ⟨.inl h1, h2⟩
    · exact ⟨.inr h1, h2⟩
theorem gk_all (S : BitVec 256) (i : Nat) (one : Bool) (p : Nat) (hp : p < 256) : gk S i one (pts S).length p = (S.getLsbD p && (p.testBit i == one)) := by
  unfold gk
  rw [List.take_length]
  congr 1
  rw [Bool.eq_iff_iff, List.contains_iff_mem]
  unfold pts
  rw [List.mem_filter]
  simp [hp]
theorem half_flags (S : BitVec 256) (i : Nat) (one : Bool) (hi : i < 8) : bvOf (gk S i one (pts S).length) = halfB S i one := by
  have h : 0 ≤ (i : Int) ∧ (i : Int) < 8 := by omega
  unfold halfB
  rw [if_pos h]
  refine bvOf_eq _ _ fun p hp => ?_
  rw [gk_all S i one p hp]
  have ho : (onesB i).getLsbD p = p.testBit i := by unfold onesB; rw [bvOf_bit]; simp [hp]
  cases one <;> simp only [Int.toNat_natCast, if_true, Bool.false_eq_true, if_false, BitVec.getLsbD_and, BitVec.getLsbD_not, ho, hp, decide_true, Bool.true_and]
  · cases p.testBit i <;> simp
  · cases p.testBit i <;> simp
theorem no_flags : bvOf (fun _ => false) = 0 := bvOf_eq _ _ fun p _ => by simp

theorem bit_test (p i : Nat) (hp : p < 256) (hi : i < 8) (w : World) :
    Calls Tryz.prog 63 #[.int .i64 p, .int .i64 i] w fun e w' => e = .returned (.int .i64 (if p.testBit i then 1 else 0)) ∧ w = w' := by
  have h := bit_any p i hp hi w
  have e : ((p / 2 ^ i % 2 : Nat) : Int) = if p.testBit i then 1 else 0 := by
    rw [Nat.testBit_eq_decide_div_mod_eq]
    by_cases h1 : p / 2 ^ i % 2 = 1
    · simp [h1]
    · have h0 : p / 2 ^ i % 2 = 0 := by omega
      simp [h0]
  rw [e] at h
  exact h
theorem half_any (S : BitVec 256) (i : Int) (one : Bool) (w : World) :
    Calls Tryz.prog 85 #[sv S, .int .i64 i, .bool one] w fun e w' => e = .returned (sv (halfB S i one)) ∧ Below w.heap.size w w' := by
  by_cases h : 0 ≤ i ∧ i < 8
  · obtain ⟨n, rfl⟩ := Int.eq_ofNat_of_zero_le h.1
    have hn : n < 8 := by omega
    cases one
    · have := half_zero S n hn w
      simpa [halfB, h, hn] using this
    · have := half_one S n hn w
      simpa [halfB, h, hn] using this
  · have := half_no S i one (by omega) w
    simpa [halfB, h] using this

end Go.Proofs.YtdfllifjbabfjaaGreatDoor
