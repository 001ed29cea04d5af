/- What the document's Points and Text of layer 2 come to. -/
import Derived.Test.YtnddepijbbchiaaRef02c
namespace Go.Proofs.Ytnddepijbbchiaa
open Go.RowKit Go.Joins

/-- The flags when the first k points are asked. -/
def pf (m v : BitVec 8) (n k p : Nat) : Bool := decide (p < 2 ^ n) && (!decide (p < k) || fits m v 8 p)
theorem pf_step (m v : BitVec 8) (n k : Nat) : (flagsA (pf m v n k)).setIfInBounds k (.bool (decide (k < 2 ^ n) && fits m v 8 k)) = flagsA (pf m v n (k + 1)) :=
  flagsA_set _ _ k _ (by unfold pf; simp) (fun p hp => by
    unfold pf
    have e : (p < k + 1) ↔ (p < k) := by omega
    simp [e])
theorem pf_at (m v : BitVec 8) (n k : Nat) : pf m v n k k = decide (k < 2 ^ n) := by unfold pf; simp
theorem pf_zero (m v : BitVec 8) (n : Nat) : pf m v n 0 = fun p => decide (p < 2 ^ n) := by funext p; unfold pf; simp
theorem pf_all (m v : BitVec 8) (n : Nat) : bvOf (pf m v n 256) = cpts m v n 8 := by
  apply BitVec.eq_of_getLsbD_eq
  intro p hp
  unfold cpts
  rw [bvOf_bit, bvOf_bit]
  unfold pf
  simp [hp]
theorem cpts_right {m v : BitVec 8} {n : Nat} (h : rightB m v n = true) : cpts m v n 8 = cpts m v n n := by
  rw [rightB_iff] at h
  obtain ⟨_, h8, hm, _⟩ := h
  unfold cpts
  congr 1
  funext p
  congr 1
  rw [Bool.eq_iff_iff, fits_iff, fits_iff]
  constructor
  · intro h i hi h1; exact h i (by omega) h1
  · intro h i hi h1
    rcases Nat.lt_or_ge i n with k | k
    · exact h i k h1
    · rw [hm i (by simpa using k)] at h1; cases h1
set_option maxHeartbeats 1000000 in
set_option maxRecDepth 1000000 in
theorem rpoints_any (m v : BitVec 8) (n : Nat) (hn : n ≤ 8) (w : World) :
    Calls Try.prog 39 #[cv m v, .int .i64 n] w fun e w' => e = .returned (sv (cpts m v n 8)) ∧ Below w.heap.size w w' := by
  have HA := fun w => refall_blk n hn w
  have hf := Lib.hid (pf_all m v n)
  unfold cv sv bvv wv at *
  go_enter Try.func39, Try.ntmps39
  go_wp2_with fail
  refine (HA _).mono ?_
  rintro e w1 ⟨b, rfl, hlo, hblk, hb1⟩
  have hB : Below w.heap.size w w1 := (below_alloc2 w _ _).trans (hb1.mono (by simp; omega))
  have ha := (keep_blk hb1 (heap_alloc2_old _ _ _) : w1.heap[w.heap.size]? = some (cb m v))
  have hc := (keep_blk hb1 (heap_alloc2_new _ _ _) : w1.heap[w.heap.size + 1]? = some (.cells #[Value.int IntKind.u64 0, Value.int IntKind.u64 0, Value.int IntKind.u64 0, Value.int IntKind.u64 0] 24 (0, 0)))
  have hlo2 : w.heap.size + 2 ≤ b := by simpa using hlo
  rw [← pf_zero m v n] at hblk
  clear hb1 HA hlo
  go_wp2
  go_loopw [6] (fun i wr => ∃ k : Nat, k ≤ 256 ∧ i = .int .i64 k ∧ wr.heap[b]? = some (.cells (flagsA (pf m v n k)) 4 (0, 0)) ∧ wr.heap[w.heap.size]? = some (cb m v) ∧ wr.heap[w.heap.size + 1]? = some (.cells #[Value.int IntKind.u64 0, Value.int IntKind.u64 0, Value.int IntKind.u64 0, Value.int IntKind.u64 0] 24 (0, 0)) ∧ Below w.heap.size w wr) (fun i _ => 256 - (intOf i).toNat)
  case atStart => exact ⟨0, by omega, rfl, hblk, ha, hc, hB⟩
  case round =>
    clear hblk ha hc hB
    obtain ⟨k, hk, rfl, hblk, ha, hc, hB⟩ := hrel
    by_cases hlt : k < 256
    · have hck := (cell_of_block hblk k).trans (flagsA_get _ k hlt)
      rw [pf_at] at hck
      have hst := Lib.hid (pf_step m v n k)
      obtain ⟨a0, a1, -⟩ := now2 ha rfl
      cases hd : decide (k < 2 ^ n)
      · rw [hd] at hck hst
        have hfz := unfrozen_of_block hblk k
        clear hd
        go_wp2
        go_roundw
        case rel => exact ⟨k + 1, by omega, by go_num, by rw [block_setCell hblk, ← hst.out]; rfl, keep_set (by show _ ≠ b; omega) ha, keep_set (by show _ ≠ b; omega) hc, hB.setCell (by show _ ≤ b; omega) _⟩
        case measure => simp [intOf]; omega
      · rw [hd] at hck hst
        have HH := fun w => rhas_any m v k hlt w
        unfold cv bvv at HH
        clear hd
        generalize fits m v 8 k = F at *
        go_wp2_with fail
        refine (HH _).mono ?_
        rintro e w2 ⟨rfl, hb2⟩
        have hblk2 := keep_blk hb2 hblk
        have ha2 := keep_blk hb2 ha
        have hc2 := keep_blk hb2 hc
        have hB2 := hB.trans (hb2.mono hB.size)
        have hck2 := (cell_of_block hblk2 k).trans (flagsA_get _ k hlt)
        have hfz := unfrozen_of_block hblk2 k
        clear hb2 hblk ha hc hB hck a0 a1
        go_wp2
        go_roundw
        case rel => exact ⟨k + 1, by omega, by go_num, by rw [block_setCell hblk2, ← hst.out]; rfl, keep_set (by show _ ≠ b; omega) ha2, keep_set (by show _ ≠ b; omega) hc2, hB2.setCell (by show _ ≤ b; omega) _⟩
        case measure => simp [intOf]; omega
    · have e : k = 256 := by omega
      subst e
      have HS := refset_any (pf m v n 256) b 256 wr (size_of_block hblk) (fun p hp => (cell_of_block hblk p).trans (flagsA_get _ p hp))
      rw [hf.out] at HS
      unfold sv wv at HS
      go_wp2_with fail
      refine HS.mono ?_
      rintro e w2 ⟨rfl, hb2⟩
      have hc2 := keep_blk hb2 hc
      have hB2 := hB.trans (hb2.mono hB.size)
      obtain ⟨c0, c1, c2, c3, cf⟩ := now4 hc2 rfl
      clear hb2 hblk ha hc hB HS hc2
      go_wp2
      exact bodyPost_ret (v := .agg #[.int .u64 (wd (cpts m v n 8) 0).toNat, .int .u64 (wd (cpts m v n 8) 1).toNat, .int .u64 (wd (cpts m v n 8) 2).toNat, .int .u64 (wd (cpts m v n 8) 3).toNat]) (by simp [results, Try.results39, go_sem, c0, c1, c2, c3]) rfl
        ⟨rfl, below4 (le1 w) hB2⟩
end Go.Proofs.Ytnddepijbbchiaa
