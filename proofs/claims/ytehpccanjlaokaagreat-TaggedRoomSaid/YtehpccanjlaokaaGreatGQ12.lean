/- A node is made: Make, for every arena and all numbers. -/
import Derived.Test.YtehpccanjlaokaaGreatGQ11
import Derived.IntWalk
namespace Go.Proofs.YtehpccanjlaokaaGreat
open Go.RowKit Go.Joins

/-- 'm[k] = v' at the operation, for the arena's map. -/
theorem wpList_store_is (w : World) {ops : Array Oper} {rest : List Oper} {o : Oper} {a : Act} {Q : Exit → Act → World → Prop}
    (hg : o.guard = none) (m x v : Operand) (hop : o.op = Op.mapUpdate 80 m x v) (bm : Nat) (S : St) (i : Nat) (n : Nd) (hm : a.eval m = .map (some bm)) (hx : a.eval x = ndV n) (c : Int) (hv : a.eval v = .int .i64 c) (hc : c = (i : Int) + 2)
    (h : MapIs w bm S) (hl : S.length ≤ 20000) (hi : i ≤ S.length) (hf : ∀ m, S[i]? ≠ some (some m)) (hn : wfN n) (hw : whereN S n = none) (hV : ∀ (j : Nat) (m : Nd), S[j]? = some (some m) → wfN m) (hV' : VSt (putS S i n))
    (hK : ∀ w', MapIs w' bm (putS S i n) → w.mapTurned w' bm → wpList Tryz.prog ops Q rest (a.put o.dst undef) w') : wpList Tryz.prog ops Q (o :: rest) a w := by
  subst hc
  refine wpList_plain hg fun K' hK' => ?_
  obtain ⟨w', hrun, r1, r2⟩ := h.store hl hi hf hn hw hV hV'
  unfold Oper.wp
  simp [execOp, hop, hm, hx, hv, hrun, Result.andThen]
  exact hK' _ _ (hK w' r1 r2)
/-- .. and what is the arena's own then was so before, or is new. -/
def MakeDoneF (w : World) (B ab bm : Nat) (v : Value) (room : Nat) (S : St) (n : Nd) (e : Ending) (w' : World) : Prop :=
  e = .returned (.tuple #[.int .i64 (mkS room S n).2.1, .int .i64 (mkS room S n).2.2]) ∧ ∃ v' full', ArAt w' B ab bm v' room full' (mkS room S n).1 ∧ ArOk room full' (mkS room S n).1 ∧ Off (Fp ab bm v) w w' ∧ ∀ k, Fp ab bm v' k → Fp ab bm v k ∨ w.heap.size ≤ k
theorem zeroInt (w : World) : (zeroValue 3).run Tryz.prog w = .ok (.int .i64 0) w := by kernel_rfl
set_option maxHeartbeats 1000000 in
theorem make_bad {w : World} {B ab bm : Nat} {v : Value} {room full : Nat} {S : St} (h : ArAt w B ab bm v room full S) (ho : ArOk room full S) (l lo hi : Int) (hk : okN S (l, lo, hi) = false) :
    Calls Tryz.prog 122 #[.pointer (some ⟨ab, 0, none⟩), .int .i64 l, .int .i64 lo, .int .i64 hi] w (MakeDoneF w B ab bm v room S (l, lo, hi)) := by
  have hl : S.length ≤ 20000 := by have := ho.len; have := ho.max; omega
  have hB := below_alloc1 w (.cells #[.int .i64 l, .int .i64 lo, .int .i64 hi] 145 (0, 0))
  have h2 := h.below hB
  have HP := permits_any h2 hl l lo hi
  rw [hk] at HP
  have hR := Lib.hid (show mkS room S (l, lo, hi) = (S, 0, 1) by unfold mkS; rw [if_pos hk])
  clear hk
  go_enter Tryz.func122, Tryz.ntmps122
  go_wp2_with fail
  refine HP.mono ?_
  rintro e w1 ⟨rfl, hb1⟩
  clear HP
  go_wp2
  go_ret2
  unfold MakeDoneF
  rw [hR.out]
  exact ⟨rfl, v, full, h2.below hb1, ho, Off.of_below (hB.trans (hb1.mono hB.size)), fun _ h => .inl h⟩
set_option maxHeartbeats 1000000 in
theorem make_old {w : World} {B ab bm : Nat} {v : Value} {room full : Nat} {S : St} (h : ArAt w B ab bm v room full S) (ho : ArOk room full S) (l lo hi : Int) (hk : okN S (l, lo, hi) = true) (i : Nat) (hw : whereN S (l, lo, hi) = some i) :
    Calls Tryz.prog 122 #[.pointer (some ⟨ab, 0, none⟩), .int .i64 l, .int .i64 lo, .int .i64 hi] w (MakeDoneF w B ab bm v room S (l, lo, hi)) := by
  have hl : S.length ≤ 20000 := by have := ho.len; have := ho.max; omega
  have hB := below_alloc1 w (.cells #[.int .i64 l, .int .i64 lo, .int .i64 hi] 145 (0, 0))
  have hn0 := heap_alloc_new w (.cells #[.int .i64 l, .int .i64 lo, .int .i64 hi] 145 (0, 0))
  have h2 := h.below hB
  have HP := permits_any h2 hl l lo hi
  rw [hk] at HP
  have hR := Lib.hid (show mkS room S (l, lo, hi) = (S, (i : Int) + 2, 0) by unfold mkS; rw [if_neg (by rw [hk]; decide), hw])
  have hwf := wfN_ok hl hk
  clear hk h
  go_enter Tryz.func122, Tryz.ntmps122
  go_wp2_with fail
  refine HP.mono ?_
  rintro e w1 ⟨rfl, hb1⟩
  have hB1 := hB.trans (hb1.mono hB.size)
  have h3 := h2.below hb1
  have hn1 := keep_blk hb1 hn0
  clear HP hb1 hn0 h2 hB
  have hlk : ∀ x : After w1, (Instr.lookup 80 (.map (some bm)) (.agg #[.int .i64 l, .int .i64 lo, .int .i64 hi]) true).run Tryz.prog x.1 = .ok (.tuple #[.int .i64 ((i : Int) + 2), .bool true]) x.1 := fun x => by
    obtain ⟨c, hrun, hc⟩ := (h3.below x.2).ids.look hwf (zeroInt x.1)
    rw [hc i hw, hw] at hrun
    exact hrun
  obtain ⟨b0, b1, b2, b3, bf⟩ := box4 h3.head rfl
  obtain ⟨n0, n1, n2, nf⟩ := box3 hn1 rfl
  have hw' := Lib.hid hw
  clear hw
  go_wp2
  refine wp_region_after (by kernel_rfl) (by kernel_rfl) ?_
  repeat (first | go_big_quiet_step (fail))
  refine wpQuiet_nil ?_
  intro x1
  go_wp2
  go_ret2
  unfold MakeDoneF
  rw [hR.out]
  exact ⟨rfl, v, full, h3.below x1.2, ho, Off.of_below (hB1.trans (x1.2.mono hB1.size)), fun _ h => .inl h⟩
set_option maxHeartbeats 1000000 in
set_option maxRecDepth 100000 in
theorem make_full {w : World} {B ab bm : Nat} {v : Value} {room full : Nat} {S : St} (h : ArAt w B ab bm v room full S) (ho : ArOk room full S) (l lo hi : Int) (hk : okN S (l, lo, hi) = true) (hw : whereN S (l, lo, hi) = none) (hf : room ≤ cnt S) :
    Calls Tryz.prog 122 #[.pointer (some ⟨ab, 0, none⟩), .int .i64 l, .int .i64 lo, .int .i64 hi] w (MakeDoneF w B ab bm v room S (l, lo, hi)) := by
  have hl : S.length ≤ 20000 := by have := ho.len; have := ho.max; omega
  have hB := below_alloc1 w (.cells #[.int .i64 l, .int .i64 lo, .int .i64 hi] 145 (0, 0))
  have hn0 := heap_alloc_new w (.cells #[.int .i64 l, .int .i64 lo, .int .i64 hi] 145 (0, 0))
  have h2 := h.below hB
  have HP := permits_any h2 hl l lo hi
  rw [hk] at HP
  have hR := Lib.hid (show mkS room S (l, lo, hi) = (S, 0, 5) by unfold mkS; rw [if_neg (by rw [hk]; decide), hw]; exact if_pos hf)
  have hwf := wfN_ok hl hk
  have hk' := Lib.hid hk
  clear hk h
  go_enter Tryz.func122, Tryz.ntmps122
  go_wp2_with fail
  refine HP.mono ?_
  rintro e w1 ⟨rfl, hb1⟩
  have hB1 := hB.trans (hb1.mono hB.size)
  have h3 := h2.below hb1
  have hn1 := keep_blk hb1 hn0
  clear HP hb1 hn0 h2 hB
  obtain ⟨c, hlk⟩ : ∃ c : Int, ∀ x : After w1, (Instr.lookup 80 (.map (some bm)) (.agg #[.int .i64 l, .int .i64 lo, .int .i64 hi]) true).run Tryz.prog x.1 = .ok (.tuple #[.int .i64 c, .bool false]) x.1 := by
    obtain ⟨D, hD, ht⟩ := h3.ids
    have h0 : D.atKey (klN (l, lo, hi)) (.lit (.int .i64 0)) = .lit (.int .i64 0) := Maps.atKey_of_not_has (by rw [ht.has _ hwf, hw]; rfl) _
    refine ⟨0, fun x => ?_⟩
    obtain ⟨D', hD', ht'⟩ := (h3.below x.2).ids
    obtain ⟨v, ps, hrun, hv⟩ := hD'.look_ok Tryz.nodeKeyed Tryz.underlying80 (zeroInt x.1) (plainElem_int Tryz.underlying3 (by decide)) (key_nd hwf)
    obtain ⟨c, rfl, hc, _⟩ := plainElem_int_inv Tryz.underlying3 hv
    rw [Maps.atKey_of_not_has (by rw [ht'.has _ hwf, hw]; rfl) _] at hc
    rw [ht'.has _ hwf, hw] at hrun
    simp only [Prod.mk.injEq] at hc
    have := hc.1
    injection this with this
    injection this with _ this
    rw [← this] at hrun
    exact hrun
  obtain ⟨b0, b1, b2, b3, bf⟩ := box4 h3.head rfl
  obtain ⟨n0, n1, n2, nf⟩ := box3 hn1 rfl
  have hw' := Lib.hid hw
  clear hw
  go_wp2
  refine wp_region_after (by kernel_rfl) (by kernel_rfl) ?_
  repeat (first | go_big_quiet_step (fail))
  refine wpQuiet_nil ?_
  intro x1
  have h4 := h3.below x1.2
  have hn4 := keep_blk x1.2 hn1
  have hB4 := hB1.trans (x1.2.mono hB1.size)
  clear hlk b0 b1 b2 b3 bf n0 n1 n2 nf h3 hn1 hB1
  obtain ⟨w4, hx1⟩ := x1
  dsimp only at *
  clear hx1
  have HL := fun x : After w4 => len_any (h4.below x.2)
  obtain ⟨b0, b1, b2, b3, bf⟩ := box4 h4.head rfl
  obtain ⟨n0, n1, n2, nf⟩ := box3 hn4 rfl
  go_wp2
  refine wp_region_after (by kernel_rfl) (by kernel_rfl) ?_
  repeat (first | go_big_quiet_step ((go_at_call 83; exact Calls.after_same (HL _))))
  refine wpQuiet_nil ?_
  intro x2
  have h5 := h4.below x2.2
  have hn5 := keep_blk x2.2 hn4
  have hB5 := hB4.trans (x2.2.mono hB4.size)
  clear HL b0 b1 b2 b3 bf n0 n1 n2 nf h4 hn4 hB4
  obtain ⟨w5, hx2⟩ := x2
  dsimp only at *
  clear hx2
  go_wp2
  go_ret2
  unfold MakeDoneF
  rw [hR.out]
  exact ⟨rfl, v, full, h5, ho, Off.of_below hB5, fun _ h => .inl h⟩
set_option maxHeartbeats 2000000 in
set_option maxRecDepth 100000 in
theorem make_new {w : World} {B ab bm : Nat} {v : Value} {room full : Nat} {S : St} (h : ArAt w B ab bm v room full S) (ho : ArOk room full S) (l lo hi : Int) (hk : okN S (l, lo, hi) = true) (hw : whereN S (l, lo, hi) = none) (hf : cnt S < room) :
    Calls Tryz.prog 122 #[.pointer (some ⟨ab, 0, none⟩), .int .i64 l, .int .i64 lo, .int .i64 hi] w (MakeDoneF w B ab bm v room S (l, lo, hi)) := by
  have hl : S.length ≤ 20000 := by have := ho.len; have := ho.max; omega
  have hB := below_alloc1 w (.cells #[.int .i64 l, .int .i64 lo, .int .i64 hi] 145 (0, 0))
  have hn0 := heap_alloc_new w (.cells #[.int .i64 l, .int .i64 lo, .int .i64 hi] 145 (0, 0))
  have h2 := h.below hB
  have HP := permits_any h2 hl l lo hi
  rw [hk] at HP
  have hR := Lib.hid (show mkS room S (l, lo, hi) = (putS S (freeI S) (l, lo, hi), (freeI S : Int) + 2, 0) by unfold mkS; rw [if_neg (by rw [hk]; decide), hw]; exact if_neg (by omega))
  have hwf := wfN_ok hl hk
  have hk' := Lib.hid hk
  clear hk h
  go_enter Tryz.func122, Tryz.ntmps122
  go_wp2_with fail
  refine HP.mono ?_
  rintro e w1 ⟨rfl, hb1⟩
  have hB1 := hB.trans (hb1.mono hB.size)
  have h3 := h2.below hb1
  have hn1 := keep_blk hb1 hn0
  clear HP hb1 hn0 h2 hB
  obtain ⟨c, hlk⟩ : ∃ c : Int, ∀ x : After w1, (Instr.lookup 80 (.map (some bm)) (.agg #[.int .i64 l, .int .i64 lo, .int .i64 hi]) true).run Tryz.prog x.1 = .ok (.tuple #[.int .i64 c, .bool false]) x.1 := by
    obtain ⟨D, hD, ht⟩ := h3.ids
    have h0 : D.atKey (klN (l, lo, hi)) (.lit (.int .i64 0)) = .lit (.int .i64 0) := Maps.atKey_of_not_has (by rw [ht.has _ hwf, hw]; rfl) _
    refine ⟨0, fun x => ?_⟩
    obtain ⟨D', hD', ht'⟩ := (h3.below x.2).ids
    obtain ⟨v, ps, hrun, hv⟩ := hD'.look_ok Tryz.nodeKeyed Tryz.underlying80 (zeroInt x.1) (plainElem_int Tryz.underlying3 (by decide)) (key_nd hwf)
    obtain ⟨c, rfl, hc, _⟩ := plainElem_int_inv Tryz.underlying3 hv
    rw [Maps.atKey_of_not_has (by rw [ht'.has _ hwf, hw]; rfl) _] at hc
    rw [ht'.has _ hwf, hw] at hrun
    simp only [Prod.mk.injEq] at hc
    have := hc.1
    injection this with this
    injection this with _ this
    rw [← this] at hrun
    exact hrun
  obtain ⟨b0, b1, b2, b3, bf⟩ := box4 h3.head rfl
  obtain ⟨n0, n1, n2, nf⟩ := box3 hn1 rfl
  have hw' := Lib.hid hw
  clear hw
  go_wp2
  refine wp_region_after (by kernel_rfl) (by kernel_rfl) ?_
  repeat (first | go_big_quiet_step (fail))
  refine wpQuiet_nil ?_
  intro x1
  have h4 := h3.below x1.2
  have hn4 := keep_blk x1.2 hn1
  have hB4 := hB1.trans (x1.2.mono hB1.size)
  clear hlk b0 b1 b2 b3 bf n0 n1 n2 nf h3 hn1 hB1
  obtain ⟨w4, hx1⟩ := x1
  dsimp only at *
  clear hx1
  have HL := fun x : After w4 => len_any (h4.below x.2)
  obtain ⟨b0, b1, b2, b3, bf⟩ := box4 h4.head rfl
  obtain ⟨n0, n1, n2, nf⟩ := box3 hn4 rfl
  go_wp2
  refine wp_region_after (by kernel_rfl) (by kernel_rfl) ?_
  repeat (first | go_big_quiet_step ((go_at_call 83; exact Calls.after_same (HL _))))
  refine wpQuiet_nil ?_
  intro x2
  have h5 := h4.below x2.2
  have hn5 := keep_blk x2.2 hn4
  have hB5 := hB4.trans (x2.2.mono hB4.size)
  clear HL b0 b1 b2 b3 bf n0 n1 n2 nf h4 hn4 hB4
  obtain ⟨w5, hx2⟩ := x2
  dsimp only at *
  clear hx2
  have HP := place_any h5 ho
  go_wp2_with fail
  refine HP.mono ?_
  rintro e w6 ⟨rfl, v6, hh6, hr6, hm6, hoff6, hnew6⟩
  have hn6 := h5.keep hoff6 hn5 (by decide) (by decide)
  have hfl := freeI_le S
  have hro : roomy S = S ++ [none] ∧ freeI S = S.length ∨ roomy S = S ∧ freeI S < S.length := by
    unfold roomy
    by_cases e : freeI S = S.length
    · rw [if_pos e]; exact .inl ⟨rfl, e⟩
    · rw [if_neg e]; exact .inr ⟨rfl, by omega⟩
  have hlen : freeI S < (roomy S).length ∧ (roomy S).length ≤ 20001 := by
    rcases hro with ⟨e, e2⟩ | ⟨e, e2⟩
    · rw [e, List.length_append, List.length_singleton]; omega
    · rw [e]; omega
  have hnone : (roomy S)[freeI S]? = some none := by
    rcases hro with ⟨e, e2⟩ | ⟨e, e2⟩
    · rw [e, e2]; simp
    · rw [e]; exact freeI_none e2
  have hset : (roomy S).set (freeI S) (some (l, lo, hi)) = putS S (freeI S) (l, lo, hi) := by
    unfold putS
    rcases hro with ⟨e, e2⟩ | ⟨e, e2⟩
    · rw [e, if_pos e2, e2]; simp
    · rw [e, if_neg (by omega)]
  have hset' := Lib.hid hset
  have hvp := ho.vst.put (i := freeI S) (n := (l, lo, hi)) hfl free_not hk'.out hw'.out
  have hofw := ho.wf
  have hlp := length_put_le (n := (l, lo, hi)) ho.len hf
  have hput := putS_get (n := (l, lo, hi)) hfl
  have hpl : (putS S (freeI S) (l, lo, hi)).length = (roomy S).length := by rw [← hset]; simp
  have hbase := h5.base
  have hok' : ArOk room (freeI S) (putS S (freeI S) (l, lo, hi)) := ⟨hvp, hlp, ho.max, by rw [hpl]; omega, fun j hj => by
    rw [putS_other (by omega) hfl]; exact freeI_before hj⟩
  have hoffA := (Off.of_below (F := Fp ab bm v) hB5).then hoff6
  have hnewA : ∀ g, v6.ownBlock = some g → Fp ab bm v g ∨ w.heap.size ≤ g := fun g hg => (hnew6 g hg).imp (fun e => .inr (.inr e)) (fun e => Nat.le_trans hB5.size e)
  generalize hi' : freeI S = i at *
  obtain ⟨g, c6, rfl⟩ := own_some hr6 (by omega)
  have hnewG := hnewA g rfl
  have hilt : (i : Int) < (roomy S).length := by omega
  clear hro hset hpl hoff6 hnew6 hB5 HP h5 hn5 hlp hnewA
  obtain ⟨b0, b1, b2, b3, bf⟩ := box4 hh6 rfl
  obtain ⟨n0, n1, n2, nf⟩ := box3 hn6 rfl
  generalize hL : (roomy S).length = L at *
  have hL' := Lib.hid hL
  go_wp2
  refine wp_region_after_tail 8 (by kernel_rfl) (by kernel_rfl) ?_
  simp only [List.take_succ_cons, List.take_zero, List.drop_succ_cons, List.drop_zero]
  repeat (first | go_big_quiet_step (fail))
  refine wpQuiet_nil ?_
  intro x3
  have hh7 := keep_blk x3.2 hh6
  have hn7 := keep_blk x3.2 hn6
  have hm7 := hm6.keep (x3.2.block _ hm6.lt)
  have hr7 := owns_below hr6 x3.2
  have hoff7 := hoffA.more x3.2
  clear b0 b1 b2 b3 bf n0 n1 n2 nf hh6 hn6 hm6 hr6 hoffA
  obtain ⟨w7, hx3⟩ := x3
  dsimp only at *
  clear hx3
  have hlt7 : i < (roomy S).length := by rw [hL'.out]; exact hlen.1
  have hr7' : w7.ownsRow B 170 4 (.slice (some ⟨g, 0, none⟩) (roomy S).length c6) (roomy S).length (slotsV (roomy S)) := by rw [hL'.out]; exact hr7
  obtain ⟨d0, d1, d2, d3⟩ := slots_at hr7' hnone
  simp only [slotL, List.getElem?_cons_zero, List.getElem?_cons_succ] at d0 d1 d2 d3
  have df := hr7.frozenAt
  obtain ⟨ho8, hg8⟩ := own_put4 (f := slotL) (l := roomy S) hr7 slotL_len (some (l, lo, hi)) (v0 := .int .i64 l) (v1 := .int .i64 lo) (v2 := .int .i64 hi) (v3 := .bool true) rfl hlt7
  rw [hset'.out] at ho8
  have hne8 := own_ne hr7 hh7 (by decide)
  have hne9 := own_ne hr7 hn7 (by decide)
  have hh8 := (hg8.block _ (size_of_block hh7) (fun e => hne8 e.symm)).trans hh7
  have hn8 := (hg8.block _ (size_of_block hn7) (fun e => hne9 e.symm)).trans hn7
  have hm8 := hm7.keep (hg8.block _ hm7.lt (fun e => hm7.ne_own hr7 e.symm))
  have hoff8 := hoff7.grown hg8 hnewG
  clear hr7' hg8
  go_wp2_with fail
  clear d0 d1 d2 d3 df hh7 hn7 hm7 hr7 hoff7 hne8 hne9 hlt7
  generalize (((w7.setCell ⟨g, i * 4, none⟩ (.int .i64 l)).setCell ⟨g, i * 4 + 1, none⟩ (.int .i64 lo)).setCell ⟨g, i * 4 + 2, none⟩ (.int .i64 hi)).setCell ⟨g, i * 4 + 3, none⟩ (.bool true) = w8 at *
  obtain ⟨b0, b1, b2, b3, bf⟩ := box4 hh8 rfl
  obtain ⟨n0, n1, n2, nf⟩ := box3 hn8 rfl
  have hii : i ≤ S.length := by omega
  have hwr : IntKind.i64.wrap (2 + (i : Int)) = 2 + (i : Int) := IntWalk.i64_in _ (by omega)
  have hfr : ∀ m, S[i]? ≠ some (some m) := fun m => by rw [← hi']; exact free_not m
  have hi2 := Lib.hid hi'
  clear hi'
  refine wp_region_after_tail 7 (by kernel_rfl) (by kernel_rfl) ?_
  simp only [List.take_succ_cons, List.take_zero, List.drop_succ_cons, List.drop_zero]
  repeat (first | go_big_quiet_step (fail))
  refine wpQuiet_nil ?_
  intro x4
  have hm9 := hm8.keep (x4.2.block _ hm8.lt)
  go_wp2_with (at_mapUpdate; refine wpList_store_is _ rfl _ _ _ rfl bm S i (l, lo, hi) rfl rfl _ rfl (by omega) hm9 hl hii hfr hwf hw'.out hofw hvp ?_)
  intro w9 hm10 ht10
  have hh9 := (turned_block ht10 (hm9.ne (keep_blk x4.2 hh8)).symm).trans (keep_blk x4.2 hh8)
  have hr9 := own_keep (owns_below ho8 x4.2) (fun k hv _ _ => turned_block ht10 (fun e => hm9.ne_own (owns_below ho8 x4.2) (hv.trans (congrArg some e))))
  have hoff9 := (hoff8.more x4.2).grown ht10.grown (.inl (.inr (.inl rfl)))
  clear hm8 hm9 ho8 b0 b1 b2 b3 bf n0 n1 n2 nf hh8 hn8 hoff8 ht10 hofw hvp hfr
  go_wp2
  go_ret2
  unfold MakeDoneF
  rw [hR.out]
  exact ⟨by first | rfl | (congr 1; go_num), _, i, ⟨hbase, hh9, by rw [show (putS S i (l, lo, hi)).length = L by rw [← hset'.out, List.length_set, hL'.out]]; exact hr9, hm10⟩, hok', hoff9, fun k hk => by
    rcases hk with e | e | e
    · exact .inl (.inl e)
    · exact .inl (.inr (.inl e))
    · have e2 : g = k := by simpa [Value.ownBlock] using e
      rw [← e2]; exact hnewG⟩
theorem make_anyF {w : World} {B ab bm : Nat} {v : Value} {room full : Nat} {S : St} (h : ArAt w B ab bm v room full S) (ho : ArOk room full S) (l lo hi : Int) :
    Calls Tryz.prog 122 #[.pointer (some ⟨ab, 0, none⟩), .int .i64 l, .int .i64 lo, .int .i64 hi] w (MakeDoneF w B ab bm v room S (l, lo, hi)) := by
  cases hk : okN S (l, lo, hi) with
  | false => exact make_bad h ho l lo hi hk
  | true =>
    cases hw : whereN S (l, lo, hi) with
    | some i => exact make_old h ho l lo hi hk i hw
    | none =>
      rcases Nat.lt_or_ge (cnt S) room with hf | hf
      · exact make_new h ho l lo hi hk hw hf
      · exact make_full h ho l lo hi hk hw hf
end Go.Proofs.YtehpccanjlaokaaGreat
