/- The document's own examples of layer 1, as the statements hold them. -/
import Derived.Test.YtpdmlngbagjhjaaRef01
import Derived.Test.YtpdmlngbagjhjaaAfter
namespace Go.Proofs.Ytpdmlngbagjhjaa
open Go.RowKit Go.Joins

set_option maxHeartbeats 1000000 in
set_option maxRecDepth 1000000 in
theorem knows_any (w : World) : Calls Try.prog 17 #[] w fun e w' => e = .returned (.bool true) ∧ Below w.heap.size w w' := by
  have e15 : sv (allB 2) = .agg #[.int .u64 15, .int .u64 0, .int .u64 0, .int .u64 0] := by kernel_rfl
  have e10 : sv (allB 2 &&& onesB 0) = .agg #[.int .u64 10, .int .u64 0, .int .u64 0, .int .u64 0] := by kernel_rfl
  have e0 : sv 0 = .agg #[.int .u64 0, .int .u64 0, .int .u64 0, .int .u64 0] := by kernel_rfl
  have e1 : sv (0 ||| BitVec.twoPow 256 64) = .agg #[.int .u64 0, .int .u64 1, .int .u64 0, .int .u64 0] := by kernel_rfl
  have hA := fun w => all_any 2 (by omega) w
  have hH := fun w => half_one (allB 2) 0 (by omega) w
  have hL := fun w => list_any (allB 2 &&& onesB 0) w
  have hC := fun w => count_any (allB 2) w
  have h3 := fun w => has_any (allB 2) 3 (by omega) w
  have h4 := fun w => has_any (allB 2) 4 (by omega) w
  have hW := fun w => with_any 0 64 (by omega) w
  have p1 : pts (allB 2 &&& onesB 0) = [1, 3] := by decide +kernel
  have p2 : pop (allB 2) = 4 := by decide +kernel
  have p3 : (allB 2).getLsbD 3 = true := by decide +kernel
  have p4 : (allB 2).getLsbD 4 = false := by decide +kernel
  rw [e15] at hA hH hC h3 h4
  rw [e10] at hH hL
  rw [e0, e1] at hW
  rw [p1] at hL
  rw [p2] at hC
  rw [p3] at h3
  rw [p4] at h4
  simp only [intsV, List.map_cons, List.map_nil, List.length_cons, List.length_nil, Nat.zero_add, Nat.reduceAdd] at hL
  clear e15 e10 e0 e1 p1 p2 p3 p4
  have E := eq4_refl
  go_enter Try.func17, Try.ntmps17
  go_wp2_with fail
  refine (hA _).mono ?_
  rintro e w1 ⟨rfl, hb1⟩
  go_wp2_with fail
  refine (hH _).mono ?_
  rintro e w2 ⟨rfl, hb2⟩
  go_wp2_with fail
  refine (hL _).mono ?_
  rintro e w3 ⟨v, rfl, hown, hb3⟩
  obtain ⟨b, cap, rfl⟩ := ownsRow_form hown (by decide)
  have hl := hown.lt b rfl
  have hx0 : w3.cell? ⟨b, 0, none⟩ = some (.int .i64 1) := by rw [hown.cellAt 0 (by omega)]; rfl
  have hx1 : w3.cell? ⟨b, 1, none⟩ = some (.int .i64 3) := by rw [hown.cellAt 1 (by omega)]; rfl
  have hB : Below w1.heap.size w1 w3 := ((below_alloc1 w1 _).trans (hb2.mono (by simp))).trans (hb3.mono (by have := hb2.size; simp at this; omega))
  have hz2 := hb2.size
  simp at hz2
  have hblk : w3.heap[w1.heap.size]? = some (.cells #[.int .u64 15, .int .u64 0, .int .u64 0, .int .u64 0] 24 (0, 0)) := by
    rw [hb3.block _ (by omega), hb2.block _ (by simp)]; exact heap_alloc_new _ _
  clear hown hb2 hb3 hA hH hL
  obtain ⟨hc3, hf3⟩ := bcell hB
  have d0 : w3.cell? ⟨w1.heap.size, 0, none⟩ = some (.int .u64 15) := by rw [cell_of_block hblk]; rfl
  have d1 : w3.cell? ⟨w1.heap.size, 1, none⟩ = some (.int .u64 0) := by rw [cell_of_block hblk]; rfl
  have d2 : w3.cell? ⟨w1.heap.size, 2, none⟩ = some (.int .u64 0) := by rw [cell_of_block hblk]; rfl
  have d3 : w3.cell? ⟨w1.heap.size, 3, none⟩ = some (.int .u64 0) := by rw [cell_of_block hblk]; rfl
  have hz3 : w1.heap.size < w3.heap.size := size_of_block hblk
  clear hblk hc3 hf3
  have hB3 : Below w.heap.size w w3 := hb1.trans (hB.mono hb1.size)
  clear hz2 hl hB hb1
  go_wp2_with fail
  refine (hC _).mono ?_
  rintro e w4 ⟨rfl, hb4⟩
  obtain ⟨f0, f1, f2, f3⟩ := carry4 hb4 d0 d1 d2 d3
  go_wp2_with fail
  refine (h3 _).mono ?_
  rintro e w5 ⟨rfl, hb5⟩
  obtain ⟨g0, g1, g2, g3⟩ := carry4 hb5 f0 f1 f2 f3
  go_wp2_with fail
  refine (h4 _).mono ?_
  rintro e w6 ⟨rfl, hb6⟩
  go_wp2_with fail
  refine (hW _).mono ?_
  rintro e w7 ⟨rfl, hb7⟩
  have hB7 : Below w.heap.size w w7 := (((hB3.trans (hb4.mono hB3.size)).trans (hb5.mono (Nat.le_trans hB3.size hb4.size))).trans (hb6.mono (Nat.le_trans (Nat.le_trans hB3.size hb4.size) hb5.size))).trans (hb7.mono (Nat.le_trans (Nat.le_trans (Nat.le_trans hB3.size hb4.size) hb5.size) hb6.size))
  go_wp2
  go_ret
  exact ⟨rfl, hB7⟩

def gk (S : BitVec 256) (i : Nat) (one : Bool) (k p : Nat) : Bool := ((pts S).take k).contains p && (p.testBit i == one)
theorem pts_lt (S : BitVec 256) (q : Nat) (h : q ∈ pts S) : q < 256 ∧ S.getLsbD q = true := by
  unfold pts at h
  rw [List.mem_filter] at h
  exact ⟨by simpa using h.1, h.2⟩
theorem gk_succ (S : BitVec 256) (i : Nat) (one : Bool) (k p : Nat) (hk : k < (pts S).length) : gk S i one (k + 1) p = (gk S i one k p || (p == (pts S)[k] && (p.testBit i == one))) := by
  unfold gk
  rw [List.take_succ_eq_append_getElem hk]
  rw [Bool.eq_iff_iff]
  simp only [List.contains_iff_mem, Bool.and_eq_true, Bool.or_eq_true, List.mem_append, List.mem_singleton, beq_iff_eq]
  constructor
  · rintro ⟨h1 | h1, h2⟩
    · exact .inl ⟨h1, h2⟩
    · exact .inr ⟨h1, h2⟩
  · rintro (⟨h1, h2⟩ | ⟨h1, h2⟩)
    · exact ⟨.inl h1, h2⟩
    · exact ⟨.inr h1, h2⟩
theorem gk_all (S : BitVec 256) (i : Nat) (one : Bool) (p : Nat) (hp : p < 256) : gk S i one (pts S).length p = (S.getLsbD p && (p.testBit i == one)) := by
  unfold gk
  rw [List.take_length]
  congr 1
  rw [Bool.eq_iff_iff, List.contains_iff_mem]
  unfold pts
  rw [List.mem_filter]
  simp [hp]
theorem half_flags (S : BitVec 256) (i : Nat) (one : Bool) (hi : i < 8) : bvOf (gk S i one (pts S).length) = halfB S i one := by
  have h : 0 ≤ (i : Int) ∧ (i : Int) < 8 := by omega
  unfold halfB
  rw [if_pos h]
  refine bvOf_eq _ _ fun p hp => ?_
  rw [gk_all S i one p hp]
  have ho : (onesB i).getLsbD p = p.testBit i := by unfold onesB; rw [bvOf_bit]; simp [hp]
  cases one <;> simp only [Int.toNat_natCast, if_true, Bool.false_eq_true, if_false, BitVec.getLsbD_and, BitVec.getLsbD_not, ho, hp, decide_true, Bool.true_and]
  · cases p.testBit i <;> simp
  · cases p.testBit i <;> simp
theorem no_flags : bvOf (fun _ => false) = 0 := bvOf_eq _ _ fun p _ => by simp

theorem bit_test (p i : Nat) (hp : p < 256) (hi : i < 8) (w : World) :
    Calls Try.prog 23 #[.int .i64 p, .int .i64 i] w fun e w' => e = .returned (.int .i64 (if p.testBit i then 1 else 0)) ∧ w = w' := by
  have h := bit_any p i hp hi w
  have e : ((p / 2 ^ i % 2 : Nat) : Int) = if p.testBit i then 1 else 0 := by
    rw [Nat.testBit_eq_decide_div_mod_eq]
    by_cases h1 : p / 2 ^ i % 2 = 1
    · simp [h1]
    · have h0 : p / 2 ^ i % 2 = 0 := by omega
      simp [h0]
  rw [e] at h
  exact h
theorem half_any (S : BitVec 256) (i : Int) (one : Bool) (w : World) :
    Calls Try.prog 24 #[sv S, .int .i64 i, .bool one] w fun e w' => e = .returned (sv (halfB S i one)) ∧ Below w.heap.size w w' := by
  by_cases h : 0 ≤ i ∧ i < 8
  · obtain ⟨n, rfl⟩ := Int.eq_ofNat_of_zero_le h.1
    have hn : n < 8 := by omega
    cases one
    · have := half_zero S n hn w
      simpa [halfB, h, hn] using this
    · have := half_one S n hn w
      simpa [halfB, h, hn] using this
  · have := half_no S i one (by omega) w
    simpa [halfB, h] using this

set_option maxHeartbeats 1000000 in
set_option maxRecDepth 1000000 in
theorem setHalves_in (S : BitVec 256) (i : Nat) (one : Bool) (w : World) (hi : i < 8) : Calls Try.prog 5 #[sv S, .int .i64 i, .bool one] w fun e w' => e = .returned (.bool true) ∧ Below w.heap.size w w' := by
  obtain ⟨ib, jb, kb0, kb1, kb2⟩ := info_parts Try.infoBool
  have hL := fun w => reflist_any S w
  unfold sv wv at *
  have hi0 : (0 : Int) ≤ i := by omega
  have hi1 : (i : Int) < 8 := by omega
  go_enter Try.func5, Try.ntmps5
  go_wp2_with (at_make; go_loud (refine wpList_make_full _ rfl _ _ 29 rfl (w.heap.size + 1) 4 ib (.bool false) 1 Try.underlying29 jb kb0 kb1 .i64 .i64 256 256 256 rfl rfl rfl rfl ?c1 ?c2 ?c3 ?_))
  case c1 => rw [kb2]; decide
  case c2 => decide
  case c3 => simp
  intro w1 hown0 hg0
  rw [boolsV_made] at hown0
  have hsz1 := hg0.size
  simp at hsz1
  have hbox : w1.heap[w.heap.size]? = some (.cells (sa S) 24 (0, 0)) := (hg0.block _ (by simp) (by simp)).trans (heap_alloc_new _ _)
  have hB1 : Below w.heap.size w w1 := (below_alloc1 w _).grown hg0 (by simp) (by simp)
  obtain ⟨d0, d1, d2, d3⟩ := cells_sa hbox rfl
  unfold wv at d0 d1 d2 d3
  clear hg0
  go_wp2_with fail
  refine (hL _).mono ?_
  rintro e w2 ⟨v, rfl, hownL, hb2⟩
  have hown2 := owns_below hown0 hb2
  have hbox2 : w2.heap[w.heap.size]? = some (.cells (sa S) 24 (0, 0)) := (hb2.block _ (by omega)).trans hbox
  have hB2 : Below w.heap.size w w2 := hB1.trans (hb2.mono (by omega))
  have hlt1 := (hown0.lt _ rfl).2
  have hsz2 := hb2.size
  clear hL hown0 hbox hB1 d0 d1 d2 d3
  obtain ⟨ad, cap, rfl, hLc⟩ : ∃ ad cap, v = .slice ad (pts S).length cap ∧ ∀ k (hk : k < (pts S).length), ∃ g, ad = some ⟨g, 0, none⟩ ∧ w1.heap.size ≤ g ∧ g < w2.heap.size ∧ w2.cell? ⟨g, k, none⟩ = some (.int .i64 ((pts S)[k] : Nat)) := by
    rcases ownsRow_forms hownL with ⟨rfl, h0⟩ | ⟨g, cap, rfl⟩
    · exact ⟨none, 0, by rw [h0], fun k hk => by omega⟩
    · refine ⟨some ⟨g, 0, none⟩, cap, rfl, fun k hk => ⟨g, rfl, (hownL.lt g rfl).1, (hownL.lt g rfl).2, ?_⟩⟩
      rw [hownL.cellAt k (by omega)]
      simp [intsV, hk]
  clear hownL
  have hplen : (pts S).length ≤ 256 := by rw [← pop_eq]; exact pop_le S
  have HH := fun w => half_any S i one w
  unfold sv wv at HH
  have E := eq4_refl
  go_wp2
  go_loopw [9] (fun j wr => ∃ k : Nat, k ≤ (pts S).length ∧ j = .int .i64 k ∧ wr.ownsRow (w.heap.size + 1) 4 1 (.slice (some ⟨w.heap.size + 1, 0, none⟩) 256 256) 256 (boolsV (gk S i one k)) ∧ w2.grownBy wr (some (w.heap.size + 1))) (fun j _ => (pts S).length - (intOf j).toNat)
  case atStart => exact ⟨0, by omega, rfl, by rw [show gk S i one 0 = fun _ => false from funext fun p => by simp [gk]]; exact hown2, ⟨rfl, rfl, rfl, Nat.le_refl _, fun _ _ _ => rfl⟩⟩
  case round =>
    obtain ⟨k, hk, rfl, hown, hg⟩ := hrel
    clear hown2
    by_cases hlt : k < (pts S).length
    · obtain ⟨g, rfl, hg1, hg2, hgc⟩ := hLc k hlt
      have hq := pts_lt S _ (List.getElem_mem hlt)
      have hsucc := fun p => gk_succ S i one k p hlt
      generalize hqe : (pts S)[k] = q at *
      have hlc : wr.cell? ⟨g, k, none⟩ = some (.int .i64 q) := by rw [World.cell?_of_block (a := ⟨g, k, none⟩) (grown_at hg hg2 (by show g ≠ w.heap.size + 1; omega))]; exact hgc
      have hwc : wr.cell? ⟨w.heap.size + 1, q, none⟩ = some (.bool (gk S i one k q)) := by rw [hown.cellAt q (by omega), boolsV_get _ q hq.1]
      have hwf : wr.frozen? ⟨w.heap.size + 1, q, none⟩ = false := hown.frozenAt q
      have hq0 : (0 : Int) ≤ q := by omega
      have hq1 : (q : Int) < 256 := by omega
      have hq2 := hq.1
      have HB := fun w => bit_test q i hq.1 hi w
      have hset : q.testBit i = one → (boolsV (gk S i one k)).set q (.bool true) = boolsV (gk S i one (k + 1)) := fun h =>
        boolsV_set _ _ q true (by rw [hsucc]; simp [h]) (fun p hp => by rw [hsucc]; simp [hp])
      have hkeep : ¬ q.testBit i = one → gk S i one (k + 1) = gk S i one k := fun h => funext fun p => by
        rw [hsucc]
        by_cases e : p = q
        · subst e; simp [h]
        · simp [e]
      have hset2 := Lib.hid hset
      have hkeep2 := Lib.hid hkeep
      clear hset hkeep hsucc hLc hgc hqe HH
      cases hb : q.testBit i <;> rw [hb] at hset2 hkeep2 <;> simp only [hb, if_true, if_false, Bool.false_eq_true] at HB <;> cases one
      all_goals
        go_wp2_with (go_at_call 23; refine (HB _).mono ?_; rintro e w' ⟨rfl, rfl⟩)
        go_roundw
        case rel => first | exact ⟨k + 1, by omega, by go_num, by rw [hkeep2.out (by simp)]; exact hown, hg⟩ | exact ⟨k + 1, by omega, by go_num, by rw [← hset2.out (by simp)]; exact (hown.stored q _).1, grown_set hg⟩
        case measure => simp [intOf]; omega
    · have e : k = (pts S).length := by omega
      subst e
      have hbox3 : wr.heap[w.heap.size]? = some (.cells (sa S) 24 (0, 0)) := by rw [grown_at hg (by omega) (by omega)]; exact hbox2
      have hB3 : Below w.heap.size w wr := below_of_grown hg hB2 (by omega) (by omega)
      have hbw : w.heap.size + 1 < wr.heap.size := (hown.lt _ rfl).2
      obtain ⟨d0, d1, d2, d3⟩ := cells_sa hbox3 rfl
      unfold wv at d0 d1 d2 d3
      have HS := fun x : After wr => refset_any (gk S i one (pts S).length) (w.heap.size + 1) 256 x.1 (Nat.lt_of_lt_of_le hbw x.2.size) (fun p hp => After.cell x (by rw [hown.cellAt p (by omega), boolsV_get _ p hp]))
      rw [half_flags S i one hi] at HS
      unfold sv wv at HS
      clear hown hg hLc hbox2 hbox3 hB2
      go_wp2_with fail
      refine (HH _).mono ?_
      rintro e w3 ⟨rfl, hb3⟩
      go_wp2_with fail
      refine (HS ⟨w3, hb3⟩).mono ?_
      rintro e w4 ⟨rfl, hb4⟩
      go_wp2_with fail
      refine (knows_any _).mono ?_
      rintro e w5 ⟨rfl, hb5⟩
      go_wp2
      go_ret
      exact ⟨rfl, ((hB3.trans (hb3.mono hB3.size)).trans (hb4.mono (Nat.le_trans hB3.size hb3.size))).trans (hb5.mono (Nat.le_trans (Nat.le_trans hB3.size hb3.size) hb4.size))⟩
set_option maxHeartbeats 1000000 in
set_option maxRecDepth 1000000 in
theorem setHalves_out (S : BitVec 256) (i : Int) (one : Bool) (w : World) (hi : ¬ (0 ≤ i ∧ i < 8)) : Calls Try.prog 5 #[sv S, .int .i64 i, .bool one] w fun e w' => e = .returned (.bool true) ∧ Below w.heap.size w w' := by
  obtain ⟨ib, jb, kb0, kb1, kb2⟩ := info_parts Try.infoBool
  have hL := fun w => reflist_any S w
  unfold sv wv at *
  go_enter Try.func5, Try.ntmps5
  go_wp2_with (at_make; go_loud (refine wpList_make_full _ rfl _ _ 29 rfl (w.heap.size + 1) 4 ib (.bool false) 1 Try.underlying29 jb kb0 kb1 .i64 .i64 256 256 256 rfl rfl rfl rfl ?c1 ?c2 ?c3 ?_))
  case c1 => rw [kb2]; decide
  case c2 => decide
  case c3 => simp
  intro w1 hown0 hg0
  rw [boolsV_made] at hown0
  have hsz1 := hg0.size
  simp at hsz1
  have hbox : w1.heap[w.heap.size]? = some (.cells (sa S) 24 (0, 0)) := (hg0.block _ (by simp) (by simp)).trans (heap_alloc_new _ _)
  have hB1 : Below w.heap.size w w1 := (below_alloc1 w _).grown hg0 (by simp) (by simp)
  obtain ⟨d0, d1, d2, d3⟩ := cells_sa hbox rfl
  unfold wv at d0 d1 d2 d3
  clear hg0
  go_wp2_with fail
  refine (hL _).mono ?_
  rintro e w2 ⟨v, rfl, hownL, hb2⟩
  have hown2 := owns_below hown0 hb2
  have hbox2 : w2.heap[w.heap.size]? = some (.cells (sa S) 24 (0, 0)) := (hb2.block _ (by omega)).trans hbox
  have hB2 : Below w.heap.size w w2 := hB1.trans (hb2.mono (by omega))
  have hlt1 := (hown0.lt _ rfl).2
  have hsz2 := hb2.size
  clear hL hown0 hbox hB1 d0 d1 d2 d3
  obtain ⟨ad, cap, rfl, hLc⟩ : ∃ ad cap, v = .slice ad (pts S).length cap ∧ ∀ k (hk : k < (pts S).length), ∃ g, ad = some ⟨g, 0, none⟩ ∧ w1.heap.size ≤ g ∧ g < w2.heap.size ∧ w2.cell? ⟨g, k, none⟩ = some (.int .i64 ((pts S)[k] : Nat)) := by
    rcases ownsRow_forms hownL with ⟨rfl, h0⟩ | ⟨g, cap, rfl⟩
    · exact ⟨none, 0, by rw [h0], fun k hk => by omega⟩
    · refine ⟨some ⟨g, 0, none⟩, cap, rfl, fun k hk => ⟨g, rfl, (hownL.lt g rfl).1, (hownL.lt g rfl).2, ?_⟩⟩
      rw [hownL.cellAt k (by omega)]
      simp [intsV, hk]
  clear hownL hLc
  have hplen : (pts S).length ≤ 256 := by rw [← pop_eq]; exact pop_le S
  have HH := fun w => half_any S i one w
  rw [show halfB S i one = 0 by unfold halfB; rw [if_neg (by omega)]] at HH
  have hbw : w.heap.size + 1 < w2.heap.size := (hown2.lt _ rfl).2
  obtain ⟨d0, d1, d2, d3⟩ := cells_sa hbox2 rfl
  have HS := fun x : After w2 => refset_any (fun _ => false) (w.heap.size + 1) 256 x.1 (Nat.lt_of_lt_of_le hbw x.2.size) (fun p hp => After.cell x (by rw [hown2.cellAt p (by omega), boolsV_get _ p hp]))
  rw [no_flags] at HS
  unfold sv wv at HS HH
  unfold wv at d0 d1 d2 d3
  have E := eq4_refl
  have ho : i < 0 ∨ (¬ i < 0 ∧ 8 ≤ i) := by omega
  by_cases hn : (0 : Int) < ((pts S).length : Int)
  all_goals
    rcases ho with ho | ⟨ho, ho2⟩
    all_goals
      clear hi hown2 hbox2 hb2
      go_wp2
      refine wp_loop_rounds 1 ?_
      rw [rounds_succ]
      go_wp2_with fail
      refine (HH _).mono ?_
      rintro e w3 ⟨rfl, hb3⟩
      go_wp2_with fail
      refine (HS ⟨w3, hb3⟩).mono ?_
      rintro e w4 ⟨rfl, hb4⟩
      go_wp2_with fail
      refine (knows_any _).mono ?_
      rintro e w5 ⟨rfl, hb5⟩
      go_wp2
      go_ret
      exact ⟨rfl, ((hB2.trans (hb3.mono hB2.size)).trans (hb4.mono (Nat.le_trans hB2.size hb3.size))).trans (hb5.mono (Nat.le_trans (Nat.le_trans hB2.size hb3.size) hb4.size))⟩
theorem setHalves_any (S : BitVec 256) (i : Int) (one : Bool) (w : World) : Calls Try.prog 5 #[sv S, .int .i64 i, .bool one] w fun e w' => e = .returned (.bool true) ∧ Below w.heap.size w w' := by
  by_cases h : 0 ≤ i ∧ i < 8
  · obtain ⟨n, rfl⟩ := Int.eq_ofNat_of_zero_le h.1
    exact setHalves_in S n one w (by omega)
  · exact setHalves_out S i one w h
end Go.Proofs.Ytpdmlngbagjhjaa
