/- What Has, With and List of the package set answer, for every input. -/
import Derived.Test.YtnddepijbbchiaaSet
import Derived.Test.YtnddepijbbchiaaTail
namespace Go.Proofs.Ytnddepijbbchiaa
open Go.RowKit Go.Joins

/-- Is point p in a set? -/
def hasB (S : BitVec 256) (p : Int) : Bool := decide (0 ≤ p) && S.getLsbD p.toNat
theorem wd_test (S : BitVec 256) (p : Nat) : (((wd S (p / 64)).toNat : Int) / 2 ^ (p % 64)) % 2 = if S.getLsbD p then 1 else 0 := by
  have hb := wd_bit S (p / 64) (p % 64)
  have e : 64 * (p / 64) + p % 64 = p := by omega
  rw [e] at hb
  have hm : p % 64 < 64 := by omega
  simp only [hm, decide_true, Bool.true_and, BitVec.getLsbD, Nat.testBit_eq_decide_div_mod_eq] at hb
  have hd : (((wd S (p / 64)).toNat : Int) / 2 ^ (p % 64)) = (((wd S (p / 64)).toNat / 2 ^ (p % 64) : Nat) : Int) := by
    rw [Int.natCast_ediv]; simp
  rw [hd]
  simp only [BitVec.getLsbD, Nat.testBit_eq_decide_div_mod_eq]
  rw [← hb]
  by_cases h1 : (wd S (p / 64)).toNat / 2 ^ (p % 64) % 2 = 1
  · simp [h1]; omega
  · simp [h1]; omega
set_option maxHeartbeats 400000 in
theorem has_no (S : BitVec 256) (p : Int) (h : p < 0 ∨ 256 ≤ p) (w : World) :
    Calls Try.prog 48 #[sv S, .int .i64 p] w fun e w' => e = .returned (.bool false) ∧ Below w.heap.size w w' := by
  unfold sv wv
  go_enter Try.func48, Try.ntmps48
  go_wp2_with (go_at_call 49; refine (isPoint_no p _ h).mono ?_; rintro e w' ⟨rfl, rfl⟩)
  go_ret
  exact ⟨rfl, below_alloc1 _ _⟩
set_option maxHeartbeats 400000 in
theorem has_any (S : BitVec 256) (p : Nat) (h : p < 256) (w : World) :
    Calls Try.prog 48 #[sv S, .int .i64 p] w fun e w' => e = .returned (.bool (S.getLsbD p)) ∧ Below w.heap.size w w' := by
  have hc : (w.alloc (.cells (sa S) 24)).cell? ⟨w.heap.size, p / 64, none⟩ = some (wv (wd S (p / 64))) := by
    rw [cell_of_block (heap_alloc_new w _), sa_get S _ (by omega)]
  unfold sa wv at hc
  unfold sv wv
  go_enter Try.func48, Try.ntmps48
  go_wp2_with (go_at_call 49; refine (isPoint_yes p _ (by omega) (by omega)).mono ?_; rintro e w' ⟨rfl, rfl⟩)
  go_ret
  refine ⟨ret_bool ?_, below_alloc1 _ _⟩
  have hn : ((wd S (p / 64)).toNat : Int) / 2 ^ (p % 64) = (((wd S (p / 64)).toNat / 2 ^ (p % 64) : Nat) : Int) := by rw [Int.natCast_ediv]; simp
  have hl : (wd S (p / 64)).toNat / 2 ^ (p % 64) ≤ (wd S (p / 64)).toNat := Nat.div_le_self _ _
  have hl2 := (wd S (p / 64)).isLt
  rw [and_one_u64 _ (by rw [hn]; exact Int.natCast_nonneg _) (by rw [hn]; generalize (wd S (p / 64)).toNat / 2 ^ (p % 64) = q at *; omega), wd_test S p]
  cases S.getLsbD p <;> rfl
theorem wd_twoPow (p k : Nat) (hp : p < 256) : wd (BitVec.twoPow 256 p) k = if k = p / 64 then BitVec.twoPow 64 (p % 64) else 0 := by
  apply BitVec.eq_of_getLsbD_eq
  intro j hj
  rw [wd_bit, BitVec.getLsbD_twoPow]
  simp only [hj, decide_true, Bool.true_and, hp]
  by_cases e : k = p / 64
  · rw [if_pos e, BitVec.getLsbD_twoPow]
    have hm : p % 64 < 64 := by omega
    simp only [hm, decide_true, Bool.true_and]
    have : (p = 64 * k + j) ↔ (p % 64 = j) := by omega
    simp only [this]
  · rw [if_neg e]
    have : ¬ (p = 64 * k + j) := by omega
    simp [this]
theorem with_word (S : BitVec 256) (p : Nat) (hp : p < 256) : bits .or .u64 ((wd S (p / 64)).toNat : Int) (IntKind.u64.wrap (2 ^ (p % 64))) = ((wd (S ||| BitVec.twoPow 256 p) (p / 64)).toNat : Int) := by
  have hm : p % 64 < 64 := by omega
  have e : IntKind.u64.wrap (2 ^ (p % 64)) = ((BitVec.twoPow 64 (p % 64)).toNat : Int) := by
    have hl : 2 ^ (p % 64) < 2 ^ 64 := Nat.pow_lt_pow_right (by decide) hm
    rw [BitVec.toNat_twoPow_of_lt hm]
    have h2 : ((2 ^ (p % 64) : Nat) : Int) = 2 ^ (p % 64) := by simp
    rw [h2]
    exact wrap_u64_id _ (by rw [← h2]; exact Int.natCast_nonneg _) (by rw [← h2]; generalize 2 ^ (p % 64) = q at *; omega)
  rw [e, bits_or_bv, wd_or, wd_twoPow p _ hp, if_pos rfl]
theorem with_cells (S : BitVec 256) (p : Nat) (hp : p < 256) :
    [Value.int IntKind.u64 ↑(wd S 0).toNat, Value.int IntKind.u64 ↑(wd S 1).toNat, Value.int IntKind.u64 ↑(wd S 2).toNat, Value.int IntKind.u64 ↑(wd S 3).toNat].set (p / 64)
      (Value.int IntKind.u64 (bits BinOp.or IntKind.u64 (↑(wd S (p / 64)).toNat) (IntKind.u64.wrap (2 ^ (p % 64))))) =
    [Value.int IntKind.u64 ↑(wd (S ||| BitVec.twoPow 256 p) 0).toNat, Value.int IntKind.u64 ↑(wd (S ||| BitVec.twoPow 256 p) 1).toNat, Value.int IntKind.u64 ↑(wd (S ||| BitVec.twoPow 256 p) 2).toNat, Value.int IntKind.u64 ↑(wd (S ||| BitVec.twoPow 256 p) 3).toNat] := by
  rw [with_word S p hp]
  have same : ∀ k, k ≠ p / 64 → wd (S ||| BitVec.twoPow 256 p) k = wd S k := by
    intro k hne
    rw [wd_or, wd_twoPow p k hp, if_neg hne]
    exact BitVec.or_zero
  have hk : p / 64 = 0 ∨ p / 64 = 1 ∨ p / 64 = 2 ∨ p / 64 = 3 := by omega
  rcases hk with e | e | e | e <;> rw [e] at same ⊢ <;>
    simp [same]
set_option maxHeartbeats 400000 in
theorem with_any (S : BitVec 256) (p : Nat) (h : p < 256) (w : World) :
    Calls Try.prog 24 #[sv S, .int .i64 p] w fun e w' => e = .returned (sv (S ||| BitVec.twoPow 256 p)) ∧ Below w.heap.size w w' := by
  obtain ⟨Z, hZ⟩ : ∃ Z, Z = Obj.cells #[Value.int IntKind.u64 0, Value.int IntKind.u64 0, Value.int IntKind.u64 0, Value.int IntKind.u64 0] 24 := ⟨_, rfl⟩
  have hc : ((w.alloc (.cells (sa S) 24)).alloc Z).cell? ⟨w.heap.size, p / 64, none⟩ = some (wv (wd S (p / 64))) := by
    rw [cell_of_block (heap_alloc2_old w _ _), sa_get S _ (by omega)]
  have hf : ((w.alloc (.cells (sa S) 24)).alloc Z).frozen? ⟨w.heap.size, p / 64, none⟩ = false := unfrozen_of_block (heap_alloc2_old w _ _) _
  subst hZ
  unfold sa wv at hc hf
  unfold sv wv
  have hb0 : (0 : Int) ≤ (p : Int) / 64 := by omega
  have hb1 : (p : Int) / 64 < 4 := by omega
  go_enter Try.func24, Try.ntmps24
  go_wp2_with (go_at_call 49; refine (isPoint_yes p _ (by omega) (by omega)).mono ?_; rintro e w' ⟨rfl, rfl⟩)
  go_region
  rw [with_cells S p h]
  clear hc hf
  go_wp2
  exact bodyPost_ret (v := .agg #[.int .u64 (wd (S ||| BitVec.twoPow 256 p) 0).toNat, .int .u64 (wd (S ||| BitVec.twoPow 256 p) 1).toNat, .int .u64 (wd (S ||| BitVec.twoPow 256 p) 2).toNat, .int .u64 (wd (S ||| BitVec.twoPow 256 p) 3).toNat]) (by simp [results, Try.results24, go_sem]) rfl
      ⟨rfl, (below_alloc2 _ _ _).drew⟩
theorem with_no (S : BitVec 256) (p : Int) (h : p < 0 ∨ 256 ≤ p) (w : World) :
    Calls Try.prog 24 #[sv S, .int .i64 p] w fun e w' => e = .returned (sv S) ∧ Below w.heap.size w w' := by
  unfold sv wv
  go_enter Try.func24, Try.ntmps24
  go_wp2_with (go_at_call 49; refine (isPoint_no p _ h).mono ?_; rintro e w' ⟨rfl, rfl⟩)
  exact bodyPost_ret (v := .agg #[.int .u64 (wd S 0).toNat, .int .u64 (wd S 1).toNat, .int .u64 (wd S 2).toNat, .int .u64 (wd S 3).toNat]) (by simp [results, Try.results24, go_sem]) rfl
      ⟨rfl, below_alloc2 _ _ _⟩

theorem grown_low {w w1 w2 : World} {base size n : Nat} {e : TypeId} {v : Value} {xs : List Value} (hown : w.ownsRow base e size v n xs) (hg : w1.grownBy w2 v.ownBlock) (b : Nat) (h : b < base) (hs : b < w1.heap.size) : w2.heap[b]? = w1.heap[b]? :=
  hg.block _ hs (fun e => by have := (hown.lt b e.symm).1; omega)
theorem grown_below {w w1 w2 a : World} {base size n B : Nat} {e : TypeId} {v : Value} {xs : List Value} (hown : w.ownsRow base e size v n xs) (hg : w1.grownBy w2 v.ownBlock) (hB : Below B a w1) (hle : B ≤ base) (hs : B ≤ w1.heap.size) : Below B a w2 :=
  hB.grown hg hs (fun k e => by have := (hown.lt k e).1; omega)
def ptsK (S : BitVec 256) (k : Nat) : List Nat := (List.range k).filter (fun p => S.getLsbD p)
def intsV (l : List Nat) : List Value := l.map (fun p : Nat => Value.int .i64 (p : Int))
theorem ptsK_succ (S : BitVec 256) (k : Nat) : ptsK S (k + 1) = if S.getLsbD k then ptsK S k ++ [k] else ptsK S k := by
  unfold ptsK
  rw [List.range_succ, List.filter_append]
  by_cases h : S.getLsbD k <;> simp [h]
theorem ptsK_len (S : BitVec 256) (k : Nat) : (ptsK S k).length ≤ k := by
  unfold ptsK
  exact Nat.le_trans (List.length_filter_le _ _) (by simp)
theorem Try.infoInt : (Try.prog.info? 3).map (fun i => (i.zero, i.size, i.bytes)) = some (some (.int .i64 0), 1, 8) := by kernel_rfl
theorem Try.infoBool : (Try.prog.info? 4).map (fun i => (i.zero, i.size, i.bytes)) = some (some (.bool false), 1, 1) := by kernel_rfl

set_option maxHeartbeats 1000000 in
set_option maxRecDepth 1000000 in
theorem list_any (S : BitVec 256) (w : World) :
    Calls Try.prog 23 #[sv S] w fun e w' => ∃ v, e = .returned v ∧ w'.ownsRow w.heap.size 3 1 v (pts S).length (intsV (pts S)) ∧ Below w.heap.size w w' := by
  obtain ⟨i0, hi, hz0, hz1, hz2⟩ := info_parts Try.infoInt
  unfold sv wv
  go_enter Try.func23, Try.ntmps23
  go_wp2
  go_loopw [3, 4, 5] (fun v _ i wr => ∃ k : Nat, k ≤ 256 ∧ i = .int .i64 k ∧ wr.ownsRow (w.heap.size + 1) 3 1 v (ptsK S k).length (intsV (ptsK S k)) ∧ wr.heap[w.heap.size]? = some (.cells (sa S) 24 (0, 0)) ∧ Below w.heap.size w wr) (fun _ _ i _ => 256 - (intOf i).toNat)
  case atStart => exact ⟨0, by omega, rfl, World.ownsRow_nil _ _ _ _, heap_alloc_new _ _, below_alloc1 _ _⟩
  case round =>
    obtain ⟨k, hk, rfl, hown, hblk, hb⟩ := hrel
    have hlen := ptsK_len S k
    by_cases hlt : k < 256
    · have hz : w.heap.size < wr.heap.size := size_of_block hblk
      have d0 : wr.cell? ⟨w.heap.size, 0, none⟩ = some (.int .u64 (wd S 0).toNat) := by rw [cell_of_block hblk]; rfl
      have d1 : wr.cell? ⟨w.heap.size, 1, none⟩ = some (.int .u64 (wd S 1).toNat) := by rw [cell_of_block hblk]; rfl
      have d2 : wr.cell? ⟨w.heap.size, 2, none⟩ = some (.int .u64 (wd S 2).toNat) := by rw [cell_of_block hblk]; rfl
      have d3 : wr.cell? ⟨w.heap.size, 3, none⟩ = some (.int .u64 (wd S 3).toNat) := by rw [cell_of_block hblk]; rfl
      by_cases hbit : S.getLsbD k
      · have H := has_any S k hlt wr
        rw [hbit] at H
        go_wp2_with fail
        refine H.mono ?_
        rintro e w1 ⟨rfl, hb1⟩
        have hown1 := owns_below hown hb1
        have hblk1 : w1.heap[w.heap.size]? = some (.cells (sa S) 24 (0, 0)) := by rw [hb1.block _ hz]; exact hblk
        have hb2 : Below w.heap.size w w1 := hb.trans (hb1.mono (by omega))
        have hsz1 : w.heap.size < w1.heap.size := size_of_block hblk1
        clear H d0 d1 d2 d3 hown hblk hb hb1
        go_wp2_with (at_builtin; go_loud (refine wpList_append_own _ rfl _ _ 46 rfl (w.heap.size + 1) 3 i0 (.int .i64 0) 1 8 Try.underlying46 hi hz0 hz1 hz2 rfl (by decide) _ _ _ rfl (hown1.alloc _) ⟨w1.heap.size, 0, none⟩ 1 1 [.int .i64 k] rfl rfl ?c1 ?c2 ?c3 ?c4 ?c5 ?_))
        case c1 => exact cell_one_new _ _ _
        case c2 => intro u hu; simp at hu; subst hu; rfl
        case c3 => unfold maxLen; omega
        case c4 => omega
        case c5 => simp; omega
        intro v' w2 hown2 hgrow _
        have hR : w2.heap[w.heap.size]? = some (.cells (sa S) 24 (0, 0)) ∧ Below w.heap.size w w2 := by
          exact ⟨((grown_low hown1 hgrow _ (by omega) (by simp; omega)).trans (Below.heap_alloc _ _ _ (by omega))).trans hblk1, grown_below hown1 hgrow (hb2.alloc (by omega) _) (by omega) (by simp; omega)⟩
        clear hgrow hown1 hblk1 hb2
        go_wp2
        go_roundw
        case rel => exact ⟨k + 1, by omega, by go_num, by rw [ptsK_succ, if_pos hbit]; simpa [intsV] using hown2, hR.1, hR.2⟩
        case measure => simp [intOf]; omega
      · have H := has_any S k hlt wr
        rw [show S.getLsbD k = false by simpa using hbit] at H
        go_wp2_with fail
        refine H.mono ?_
        rintro e w1 ⟨rfl, hb1⟩
        have hown1 := owns_below hown hb1
        have hblk1 : w1.heap[w.heap.size]? = some (.cells (sa S) 24 (0, 0)) := by rw [hb1.block _ hz]; exact hblk
        have hb2 : Below w.heap.size w w1 := hb.trans (hb1.mono (by omega))
        clear H d0 d1 d2 d3 hown hblk hb hb1
        go_wp2
        go_roundw
        case rel => exact ⟨k + 1, by omega, by go_num, by rw [ptsK_succ, if_neg hbit]; exact hown1, hblk1, hb2⟩
        case measure => simp [intOf]; omega
    · have e : k = 256 := by omega
      subst e
      go_wp2
      go_ret
      exact ⟨_, rfl, ownsRow_le hown (by omega), hb⟩
end Go.Proofs.Ytnddepijbbchiaa
