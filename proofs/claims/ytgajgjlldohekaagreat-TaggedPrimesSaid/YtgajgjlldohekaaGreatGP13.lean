/- Nodes are made: New, place, Make, for every arena and all numbers. A node is made: Make, for every arena and all numbers. -/
import Derived.Test.YtgajgjlldohekaaGreatGP12
import Derived.Test.YtgajgjlldohekaaGreatGP04
import Derived.OwnWalk
import Derived.Deep.LoopGhost
import Derived.Deep.AppendLies
import Derived.Maps.AppendAt
import Derived.IntWalk
namespace Go.Proofs.YtgajgjlldohekaaGreat
open Go.RowKit Go.Joins

/-- An arena is new. -/
def NewDone (w : World) (room : Nat) (e : Ending) (w' : World) : Prop :=
  ∃ ab bm, e = .returned (.tuple #[.pointer (some ⟨ab, 0, none⟩), .int .i64 0]) ∧ ArAt w' w.heap.size ab bm (.slice none 0 0) room 0 [] ∧ Below w.heap.size w w'
theorem new_yes (room : Nat) (w : World) (h : room ≤ 20000) : Calls Tryz.prog 32 #[.int .i64 room] w (NewDone w room) := by
  have hmm := @run_makeMap Tryz.prog
  have h0 : ¬ (room : Int) < 0 := by omega
  have h1 : ¬ (20000 : Int) < (room : Int) := by omega
  have hm := MapIs.made w
  have hB := below_alloc2 w (.map #[] 0) (arV room w.heap.size (.slice none 0 0) 0)
  have hm2 := hm.keep (w' := (w.alloc (.map #[] 0)).alloc (arV room w.heap.size (.slice none 0 0) 0)) (Below.heap_alloc _ _ _ hm.lt)
  have hh := heap_alloc2_new w (.map #[] 0) (arV room w.heap.size (.slice none 0 0) 0)
  have hA : ArAt ((w.alloc (.map #[] 0)).alloc (arV room w.heap.size (.slice none 0 0) 0)) w.heap.size (w.heap.size + 1) w.heap.size (.slice none 0 0) room 0 [] :=
    ⟨⟨by omega, Nat.le_refl _⟩, hh, World.ownsRow_nil _ _ _ _, hm2⟩
  unfold arV at hB hA
  have hA' := Lib.hid hA
  clear hm hm2 hh hA
  go_enter Tryz.func32, Tryz.ntmps32
  go_wp2
  go_ret2
  exact ⟨_, _, rfl, hA'.out, hB⟩
theorem Tryz.infoSlot : (Tryz.prog.info? 171).map (fun i => (i.zero, i.size, i.bytes)) = some (some (.agg #[.int .i64 0, .int .i64 0, .int .i64 0, .bool false]), 4, 32) := by kernel_rfl
/-- The first place that is free: there is one more if there was none. -/
def roomy (S : St) : St := if freeI S = S.length then S ++ [none] else S
def PlaceDone (w : World) (B ab bm : Nat) (v : Value) (room : Nat) (S : St) (e : Ending) (w' : World) : Prop :=
  e = .returned (.int .i64 (freeI S)) ∧ ∃ v', w'.heap[ab]? = some (arV room bm v' (freeI S)) ∧ w'.ownsRow B 171 4 v' (roomy S).length (slotsV (roomy S)) ∧ MapIs w' bm S ∧ Off (Fp ab bm v) w w' ∧ (∀ g, v'.ownBlock = some g → v.ownBlock = some g ∨ w.heap.size ≤ g)
set_option maxHeartbeats 1000000 in
theorem place_any {w : World} {B ab bm : Nat} {v : Value} {room full : Nat} {S : St} (h : ArAt w B ab bm v room full S) (ho : ArOk room full S) :
    Calls Tryz.prog 153 #[.pointer (some ⟨ab, 0, none⟩)] w (PlaceDone w B ab bm v room S) := by
  have hl : S.length ≤ 20000 := by have := ho.len; have := ho.max; omega
  have hff : full ≤ freeI S := by
    rcases Nat.lt_or_ge (freeI S) full with hlt | hge
    · obtain ⟨n, hn⟩ := ho.used _ hlt
      exact absurd hn (free_not n)
    · exact hge
  have hfl := freeI_le S
  obtain ⟨A, c, rfl⟩ := own_form h.rows
  have hz := h.lt
  go_enter Tryz.func153, Tryz.ntmps153
  go_wp2
  go_loopg [3] (S.length - full) (fun k _ wr => ∃ q : Nat, full ≤ q ∧ q ≤ freeI S ∧ k = S.length - q ∧ wr.heap[ab]? = some (arV room bm (.slice A S.length c) q) ∧ w.grownBy wr (some ab))
  case atStart => exact ⟨full, by omega, hff, rfl, h.head, grown_any (Below.refl _ _) _⟩
  case round =>
    obtain ⟨q, hq1, hq2, hgk, hh, hg⟩ := hrel
    have hrows : wr.ownsRow B 171 4 (.slice A S.length c) S.length (slotsV S) := own_keep h.rows (fun g hv _ hlt => hg.block g hlt (by intro e; injection e with e; subst e; exact own_ne h.rows h.head (by decide) hv))
    obtain ⟨c0, c1, c2, c3, cf⟩ := now4 hh rfl
    by_cases hlt : q < S.length
    · obtain ⟨o, hoq⟩ : ∃ o, S[q]? = some o := ⟨_, List.getElem?_eq_getElem hlt⟩
      obtain ⟨g, cg, hA⟩ := own_some h.rows (by omega)
      obtain rfl : A = some ⟨g, 0, none⟩ := by injection hA
      have d3 := (slots_at hrows hoq).2.2.2
      have hlt' : (q : Int) < S.length := by omega
      cases o with
      | some n =>
        have hne : q ≠ freeI S := fun e => free_not n (e ▸ hoq)
        simp only [slotL, List.getElem?_cons_zero, List.getElem?_cons_succ] at d3
        have hgk' := Lib.hid hgk
        clear hgk hoq hA hrows h
        go_wp2
        go_quiet (fail)
        go_wp2
        go_roundg (S.length - (q + 1))
        case measure => rw [hgk'.out]; omega
        case rel => exact ⟨q + 1, by omega, by omega, rfl, by
          unfold arV at hh ⊢
          rw [block_setCell (keep_blk (below_drews (Below.refl _ _) _) hh)]
          simp, grown_set (grown_then hg (grown_any (below_drews (Below.refl _ _) _) _))⟩
      | none =>
        have he : freeI S = q := freeI_eq (by omega) (fun j hj => freeI_before (by omega)) (fun n hn => by rw [hoq] at hn; injection hn with hn; cases hn)
        simp only [slotL, List.getElem?_cons_zero, List.getElem?_cons_succ] at d3
        have hne : ((q : Int) == (S.length : Int)) = false := by rw [beq_eq_false_iff_ne]; omega
        have he' := Lib.hid he
        have hR := Lib.hid (show roomy S = S by unfold roomy; rw [if_neg (by omega)])
        have hids := h.ids.keep (hg.block _ hz.2.2 (by intro e; injection e with e; exact h.ids.ne h.head e))
        clear hgk hoq hA h he hq2
        go_wp2
        go_quiet (fail)
        go_wp2
        go_quiet (fail)
        go_wp2
        go_ret
        have hD := below_drews (Below.refl wr.heap.size wr)
        exact ⟨by rw [he'.out]; rfl, _, by rw [he'.out]; exact keep_blk (hD _) hh, by rw [hR.out]; exact owns_below hrows (hD _), hids.keep ((hD _).block _ hids.lt), ((Off.refl _ w).grown hg (.inl (.inl rfl))).more (hD _), fun g hg => .inl hg⟩
    · have hqS : q = S.length := by omega
      have he : freeI S = S.length := by omega
      have hfull := cnt_full he
      have heq : ((q : Int) == (S.length : Int)) = true := by rw [beq_iff_eq]; omega
      have he' := Lib.hid he
      have hR := Lib.hid (show roomy S = S ++ [none] by unfold roomy; rw [if_pos he])
      have hids := h.ids.keep (hg.block _ hz.2.2 (by intro e; injection e with e; exact h.ids.ne h.head e))
      have hqd : decide (q < S.length) = false := decide_eq_false (by omega)
      obtain ⟨i0, hi0, hz0, hz1, hz2⟩ := info_parts Tryz.infoSlot
      have hqS' := Lib.hid hqS
      have hzr := hg.size
      clear hgk h he hq2 hlt hqS c0 c1 c2 c3 cf
      obtain ⟨b0, b1, b2, b3, bf⟩ := box4 hh rfl
      go_wp2
      refine wp_region_after (by kernel_rfl) (by kernel_rfl) ?_
      repeat (first | go_big_quiet_step (fail))
      refine wpQuiet_nil ?_
      intro x1
      have hh1 := keep_blk x1.2 hh
      have hr1 := owns_below hrows x1.2
      have hg1 := grown_then hg (grown_any x1.2 _)
      have hids1 := hids.keep (x1.2.block _ hids.lt)
      clear b0 b1 b2 b3 bf hg hrows hh hids hzr
      obtain ⟨w1, hx1⟩ := x1
      dsimp only at *
      clear hx1
      obtain ⟨b0, b1, b2, b3, bf⟩ := box4 hh1 rfl
      go_wp2
      refine wp_region_after (by kernel_rfl) (by kernel_rfl) ?_
      repeat (first | go_big_quiet_step (fail))
      refine wpQuiet_nil ?_
      intro x2
      have hh2 := keep_blk x2.2 hh1
      have hr2 := owns_below hr1 x2.2
      have hg2 := grown_then hg1 (grown_any x2.2 _)
      have hids2 := hids1.keep (x2.2.block _ hids1.lt)
      clear b0 b1 b2 b3 bf hg1 hr1 hh1 hids1
      obtain ⟨w2, hx2⟩ := x2
      dsimp only at *
      clear hx2
      obtain ⟨c0, c1, c2, c3, cf⟩ := now4 hh2 rfl
      have hzr := hg2.size
      go_wp2_with (at_builtin; go_loud (refine wpList_append_own_at _ rfl _ _ 106 rfl B 171 i0 (.agg #[.int .i64 0, .int .i64 0, .int .i64 0, .bool false]) 4 32 Tryz.underlying106 hi0 hz0 hz1 hz2 rfl (by decide) _ _ _ rfl (hr2.alloc _) ⟨w2.heap.size, 0, none⟩ 1 1 [.int .i64 0, .int .i64 0, .int .i64 0, .bool false] rfl rfl ?c1 ?c2 ?c3 ?c4 ?c5 ?_))
      case c1 => exact World.news_of_block (cs := #[.int .i64 0, .int .i64 0, .int .i64 0, .bool false]) (t := 171) (fr := (0, 0)) (heap_alloc_new w2 _)
      case c2 => intro u hu; simp at hu; rcases hu with rfl | rfl <;> rfl
      case c3 => unfold maxLen; omega
      case c4 => omega
      case c5 => simp; omega
      intro v' w8 ho8 hg8 _ hloc
      have hne8 := own_ne hr2 hh2 (by decide)
      have hab2 := size_of_block hh2
      have hh8 : w8.heap[ab]? = some (arV room bm (.slice A S.length c) q) := (hg8.block ab (by simp; omega) (fun e => hne8 e.symm)).trans ((Below.heap_alloc _ _ _ hab2).trans hh2)
      have hids8 := hids2.keep ((hg8.block bm (by have := hids2.lt; simp; omega) (fun e => hids2.ne_own hr2 e.symm)).trans (Below.heap_alloc _ _ _ hids2.lt))
      have hoff : Off (Fp ab bm (.slice A S.length c)) w w8 := (((Off.refl _ w).grown hg2 (.inl (.inl rfl))).alloc _).grownNew hg8 (fun b hb => .inl (.inr (.inr hb)))
      have hloc' : ∀ g, v'.ownBlock = some g → (Value.slice A S.length c).ownBlock = some g ∨ w.heap.size ≤ g := fun g hgv => by
        rcases hloc with hl8 | hl8
        · exact .inl (hl8.symm.trans hgv)
        · have e3 := Option.some.inj (hl8.symm.trans hgv); right; rw [← e3]; have := hg2.size; have := heap_alloc_new w2 (.cells #[.int .i64 0, .int .i64 0, .int .i64 0, .bool false] 171 (0, 0)); have := size_of_block this; omega
      obtain ⟨A', c', rfl⟩ := own_form ho8
      have hrr : w8.ownsRow B 171 4 (.slice A' (S.length + 1) c') (roomy S).length (slotsV (roomy S)) := by
        rw [hR.out]
        have e : slotsV (S ++ [none]) = slotsV S ++ [.int .i64 0, .int .i64 0, .int .i64 0, .bool false] := by unfold slotsV; simp [slotL]
        rw [e, List.length_append]
        exact ho8
      obtain ⟨c0, c1, c2, c3, cf⟩ := now4 hh8 rfl
      have hrr' := Lib.hid hrr
      clear hg8 hloc ho8 hh2 hr2 hg2 hids2 hrr
      go_wp2
      go_ret
      refine ⟨by rw [he'.out, hqS'.out]; rfl, _, ?_, own_set hrr'.out (own_ne hrr'.out hh8 (by decide)) _ _, hids8.keep (Below.heap_setCell _ _ _ _ (hids8.ne hh8)), hoff.setCell (.inl (.inl rfl)) _, hloc'⟩
      unfold arV at hh8 ⊢
      rw [block_setCell hh8, he'.out, hqS'.out]
      simp
end Go.Proofs.YtgajgjlldohekaaGreat
namespace Go.Proofs.YtgajgjlldohekaaGreat
open Go.RowKit Go.Joins

/-- 'm[k] = v' at the operation, for the arena's map. -/
theorem wpList_store_is (w : World) {ops : Array Oper} {rest : List Oper} {o : Oper} {a : Act} {Q : Exit → Act → World → Prop}
    (hg : o.guard = none) (m x v : Operand) (hop : o.op = Op.mapUpdate 105 m x v) (bm : Nat) (S : St) (i : Nat) (n : Nd) (hm : a.eval m = .map (some bm)) (hx : a.eval x = ndV n) (c : Int) (hv : a.eval v = .int .i64 c) (hc : c = (i : Int) + 2)
    (h : MapIs w bm S) (hl : S.length ≤ 20000) (hi : i ≤ S.length) (hf : ∀ m, S[i]? ≠ some (some m)) (hn : wfN n) (hw : whereN S n = none) (hV : ∀ (j : Nat) (m : Nd), S[j]? = some (some m) → wfN m) (hV' : VSt (putS S i n))
    (hK : ∀ w', MapIs w' bm (putS S i n) → w.mapTurned w' bm → wpList Tryz.prog ops Q rest (a.put o.dst undef) w') : wpList Tryz.prog ops Q (o :: rest) a w := by
  subst hc
  refine wpList_plain hg fun K' hK' => ?_
  obtain ⟨w', hrun, r1, r2⟩ := h.store hl hi hf hn hw hV hV'
  unfold Oper.wp
  simp [execOp, hop, hm, hx, hv, hrun, Result.andThen]
  exact hK' _ _ (hK w' r1 r2)
/-- .. and what is the arena's own then was so before, or is new. -/
def MakeDoneF (w : World) (B ab bm : Nat) (v : Value) (room : Nat) (S : St) (n : Nd) (e : Ending) (w' : World) : Prop :=
  e = .returned (.tuple #[.int .i64 (mkS room S n).2.1, .int .i64 (mkS room S n).2.2]) ∧ ∃ v' full', ArAt w' B ab bm v' room full' (mkS room S n).1 ∧ ArOk room full' (mkS room S n).1 ∧ Off (Fp ab bm v) w w' ∧ ∀ k, Fp ab bm v' k → Fp ab bm v k ∨ w.heap.size ≤ k
theorem zeroInt (w : World) : (zeroValue 3).run Tryz.prog w = .ok (.int .i64 0) w := by kernel_rfl
set_option maxHeartbeats 1000000 in
theorem make_bad {w : World} {B ab bm : Nat} {v : Value} {room full : Nat} {S : St} (h : ArAt w B ab bm v room full S) (ho : ArOk room full S) (l lo hi : Int) (hk : okN S (l, lo, hi) = false) :
    Calls Tryz.prog 124 #[.pointer (some ⟨ab, 0, none⟩), .int .i64 l, .int .i64 lo, .int .i64 hi] w (MakeDoneF w B ab bm v room S (l, lo, hi)) := by
  have hl : S.length ≤ 20000 := by have := ho.len; have := ho.max; omega
  have hB := below_alloc1 w (.cells #[.int .i64 l, .int .i64 lo, .int .i64 hi] 149 (0, 0))
  have h2 := h.below hB
  have HP := permits_any h2 hl l lo hi
  rw [hk] at HP
  have hR := Lib.hid (show mkS room S (l, lo, hi) = (S, 0, 1) by unfold mkS; rw [if_pos hk])
  clear hk
  go_enter Tryz.func124, Tryz.ntmps124
  go_wp2_with fail
  refine HP.mono ?_
  rintro e w1 ⟨rfl, hb1⟩
  clear HP
  go_wp2
  go_ret2
  unfold MakeDoneF
  rw [hR.out]
  exact ⟨rfl, v, full, h2.below hb1, ho, Off.of_below (hB.trans (hb1.mono hB.size)), fun _ h => .inl h⟩
set_option maxHeartbeats 1000000 in
theorem make_old {w : World} {B ab bm : Nat} {v : Value} {room full : Nat} {S : St} (h : ArAt w B ab bm v room full S) (ho : ArOk room full S) (l lo hi : Int) (hk : okN S (l, lo, hi) = true) (i : Nat) (hw : whereN S (l, lo, hi) = some i) :
    Calls Tryz.prog 124 #[.pointer (some ⟨ab, 0, none⟩), .int .i64 l, .int .i64 lo, .int .i64 hi] w (MakeDoneF w B ab bm v room S (l, lo, hi)) := by
  have hl : S.length ≤ 20000 := by have := ho.len; have := ho.max; omega
  have hB := below_alloc1 w (.cells #[.int .i64 l, .int .i64 lo, .int .i64 hi] 149 (0, 0))
  have hn0 := heap_alloc_new w (.cells #[.int .i64 l, .int .i64 lo, .int .i64 hi] 149 (0, 0))
  have h2 := h.below hB
  have HP := permits_any h2 hl l lo hi
  rw [hk] at HP
  have hR := Lib.hid (show mkS room S (l, lo, hi) = (S, (i : Int) + 2, 0) by unfold mkS; rw [if_neg (by rw [hk]; decide), hw])
  have hwf := wfN_ok hl hk
  clear hk h
  go_enter Tryz.func124, Tryz.ntmps124
  go_wp2_with fail
  refine HP.mono ?_
  rintro e w1 ⟨rfl, hb1⟩
  have hB1 := hB.trans (hb1.mono hB.size)
  have h3 := h2.below hb1
  have hn1 := keep_blk hb1 hn0
  clear HP hb1 hn0 h2 hB
  have hlk : ∀ x : After w1, (Instr.lookup 105 (.map (some bm)) (.agg #[.int .i64 l, .int .i64 lo, .int .i64 hi]) true).run Tryz.prog x.1 = .ok (.tuple #[.int .i64 ((i : Int) + 2), .bool true]) x.1 := fun x => by
    obtain ⟨c, hrun, hc⟩ := (h3.below x.2).ids.look hwf (zeroInt x.1)
    rw [hc i hw, hw] at hrun
    exact hrun
  obtain ⟨b0, b1, b2, b3, bf⟩ := box4 h3.head rfl
  obtain ⟨n0, n1, n2, nf⟩ := box3 hn1 rfl
  have hw' := Lib.hid hw
  clear hw
  go_wp2
  refine wp_region_after (by kernel_rfl) (by kernel_rfl) ?_
  repeat (first | go_big_quiet_step (fail))
  refine wpQuiet_nil ?_
  intro x1
  go_wp2
  go_ret2
  unfold MakeDoneF
  rw [hR.out]
  exact ⟨rfl, v, full, h3.below x1.2, ho, Off.of_below (hB1.trans (x1.2.mono hB1.size)), fun _ h => .inl h⟩
set_option maxHeartbeats 1000000 in
set_option maxRecDepth 100000 in
theorem make_full {w : World} {B ab bm : Nat} {v : Value} {room full : Nat} {S : St} (h : ArAt w B ab bm v room full S) (ho : ArOk room full S) (l lo hi : Int) (hk : okN S (l, lo, hi) = true) (hw : whereN S (l, lo, hi) = none) (hf : room ≤ cnt S) :
    Calls Tryz.prog 124 #[.pointer (some ⟨ab, 0, none⟩), .int .i64 l, .int .i64 lo, .int .i64 hi] w (MakeDoneF w B ab bm v room S (l, lo, hi)) := by
  have hl : S.length ≤ 20000 := by have := ho.len; have := ho.max; omega
  have hB := below_alloc1 w (.cells #[.int .i64 l, .int .i64 lo, .int .i64 hi] 149 (0, 0))
  have hn0 := heap_alloc_new w (.cells #[.int .i64 l, .int .i64 lo, .int .i64 hi] 149 (0, 0))
  have h2 := h.below hB
  have HP := permits_any h2 hl l lo hi
  rw [hk] at HP
  have hR := Lib.hid (show mkS room S (l, lo, hi) = (S, 0, 5) by unfold mkS; rw [if_neg (by rw [hk]; decide), hw]; exact if_pos hf)
  have hwf := wfN_ok hl hk
  have hk' := Lib.hid hk
  clear hk h
  go_enter Tryz.func124, Tryz.ntmps124
  go_wp2_with fail
  refine HP.mono ?_
  rintro e w1 ⟨rfl, hb1⟩
  have hB1 := hB.trans (hb1.mono hB.size)
  have h3 := h2.below hb1
  have hn1 := keep_blk hb1 hn0
  clear HP hb1 hn0 h2 hB
  obtain ⟨c, hlk⟩ : ∃ c : Int, ∀ x : After w1, (Instr.lookup 105 (.map (some bm)) (.agg #[.int .i64 l, .int .i64 lo, .int .i64 hi]) true).run Tryz.prog x.1 = .ok (.tuple #[.int .i64 c, .bool false]) x.1 := by
    obtain ⟨D, hD, ht⟩ := h3.ids
    have h0 : D.atKey (klN (l, lo, hi)) (.lit (.int .i64 0)) = .lit (.int .i64 0) := Maps.atKey_of_not_has (by rw [ht.has _ hwf, hw]; rfl) _
    refine ⟨0, fun x => ?_⟩
    obtain ⟨D', hD', ht'⟩ := (h3.below x.2).ids
    obtain ⟨v, ps, hrun, hv⟩ := hD'.look_ok Tryz.nodeKeyed Tryz.underlying105 (zeroInt x.1) (plainElem_int Tryz.underlying3 (by decide)) (key_nd hwf)
    obtain ⟨c, rfl, hc, _⟩ := plainElem_int_inv Tryz.underlying3 hv
    rw [Maps.atKey_of_not_has (by rw [ht'.has _ hwf, hw]; rfl) _] at hc
    rw [ht'.has _ hwf, hw] at hrun
    simp only [Prod.mk.injEq] at hc
    have := hc.1
    injection this with this
    injection this with _ this
    rw [← this] at hrun
    exact hrun
  obtain ⟨b0, b1, b2, b3, bf⟩ := box4 h3.head rfl
  obtain ⟨n0, n1, n2, nf⟩ := box3 hn1 rfl
  have hw' := Lib.hid hw
  clear hw
  go_wp2
  refine wp_region_after (by kernel_rfl) (by kernel_rfl) ?_
  repeat (first | go_big_quiet_step (fail))
  refine wpQuiet_nil ?_
  intro x1
  have h4 := h3.below x1.2
  have hn4 := keep_blk x1.2 hn1
  have hB4 := hB1.trans (x1.2.mono hB1.size)
  clear hlk b0 b1 b2 b3 bf n0 n1 n2 nf h3 hn1 hB1
  obtain ⟨w4, hx1⟩ := x1
  dsimp only at *
  clear hx1
  have HL := fun x : After w4 => len_any (h4.below x.2)
  obtain ⟨b0, b1, b2, b3, bf⟩ := box4 h4.head rfl
  obtain ⟨n0, n1, n2, nf⟩ := box3 hn4 rfl
  go_wp2
  refine wp_region_after (by kernel_rfl) (by kernel_rfl) ?_
  repeat (first | go_big_quiet_step ((go_at_call 92; exact Calls.after_same (HL _))))
  refine wpQuiet_nil ?_
  intro x2
  have h5 := h4.below x2.2
  have hn5 := keep_blk x2.2 hn4
  have hB5 := hB4.trans (x2.2.mono hB4.size)
  clear HL b0 b1 b2 b3 bf n0 n1 n2 nf h4 hn4 hB4
  obtain ⟨w5, hx2⟩ := x2
  dsimp only at *
  clear hx2
  go_wp2
  go_ret2
  unfold MakeDoneF
  rw [hR.out]
  exact ⟨rfl, v, full, h5, ho, Off.of_below hB5, fun _ h => .inl h⟩
set_option maxHeartbeats 2000000 in
set_option maxRecDepth 100000 in
theorem make_new {w : World} {B ab bm : Nat} {v : Value} {room full : Nat} {S : St} (h : ArAt w B ab bm v room full S) (ho : ArOk room full S) (l lo hi : Int) (hk : okN S (l, lo, hi) = true) (hw : whereN S (l, lo, hi) = none) (hf : cnt S < room) :
    Calls Tryz.prog 124 #[.pointer (some ⟨ab, 0, none⟩), .int .i64 l, .int .i64 lo, .int .i64 hi] w (MakeDoneF w B ab bm v room S (l, lo, hi)) := by
  have hl : S.length ≤ 20000 := by have := ho.len; have := ho.max; omega
  have hB := below_alloc1 w (.cells #[.int .i64 l, .int .i64 lo, .int .i64 hi] 149 (0, 0))
  have hn0 := heap_alloc_new w (.cells #[.int .i64 l, .int .i64 lo, .int .i64 hi] 149 (0, 0))
  have h2 := h.below hB
  have HP := permits_any h2 hl l lo hi
  rw [hk] at HP
  have hR := Lib.hid (show mkS room S (l, lo, hi) = (putS S (freeI S) (l, lo, hi), (freeI S : Int) + 2, 0) by unfold mkS; rw [if_neg (by rw [hk]; decide), hw]; exact if_neg (by omega))
  have hwf := wfN_ok hl hk
  have hk' := Lib.hid hk
  clear hk h
  go_enter Tryz.func124, Tryz.ntmps124
  go_wp2_with fail
  refine HP.mono ?_
  rintro e w1 ⟨rfl, hb1⟩
  have hB1 := hB.trans (hb1.mono hB.size)
  have h3 := h2.below hb1
  have hn1 := keep_blk hb1 hn0
  clear HP hb1 hn0 h2 hB
  obtain ⟨c, hlk⟩ : ∃ c : Int, ∀ x : After w1, (Instr.lookup 105 (.map (some bm)) (.agg #[.int .i64 l, .int .i64 lo, .int .i64 hi]) true).run Tryz.prog x.1 = .ok (.tuple #[.int .i64 c, .bool false]) x.1 := by
    obtain ⟨D, hD, ht⟩ := h3.ids
    have h0 : D.atKey (klN (l, lo, hi)) (.lit (.int .i64 0)) = .lit (.int .i64 0) := Maps.atKey_of_not_has (by rw [ht.has _ hwf, hw]; rfl) _
    refine ⟨0, fun x => ?_⟩
    obtain ⟨D', hD', ht'⟩ := (h3.below x.2).ids
    obtain ⟨v, ps, hrun, hv⟩ := hD'.look_ok Tryz.nodeKeyed Tryz.underlying105 (zeroInt x.1) (plainElem_int Tryz.underlying3 (by decide)) (key_nd hwf)
    obtain ⟨c, rfl, hc, _⟩ := plainElem_int_inv Tryz.underlying3 hv
    rw [Maps.atKey_of_not_has (by rw [ht'.has _ hwf, hw]; rfl) _] at hc
    rw [ht'.has _ hwf, hw] at hrun
    simp only [Prod.mk.injEq] at hc
    have := hc.1
    injection this with this
    injection this with _ this
    rw [← this] at hrun
    exact hrun
  obtain ⟨b0, b1, b2, b3, bf⟩ := box4 h3.head rfl
  obtain ⟨n0, n1, n2, nf⟩ := box3 hn1 rfl
  have hw' := Lib.hid hw
  clear hw
  go_wp2
  refine wp_region_after (by kernel_rfl) (by kernel_rfl) ?_
  repeat (first | go_big_quiet_step (fail))
  refine wpQuiet_nil ?_
  intro x1
  have h4 := h3.below x1.2
  have hn4 := keep_blk x1.2 hn1
  have hB4 := hB1.trans (x1.2.mono hB1.size)
  clear hlk b0 b1 b2 b3 bf n0 n1 n2 nf h3 hn1 hB1
  obtain ⟨w4, hx1⟩ := x1
  dsimp only at *
  clear hx1
  have HL := fun x : After w4 => len_any (h4.below x.2)
  obtain ⟨b0, b1, b2, b3, bf⟩ := box4 h4.head rfl
  obtain ⟨n0, n1, n2, nf⟩ := box3 hn4 rfl
  go_wp2
  refine wp_region_after (by kernel_rfl) (by kernel_rfl) ?_
  repeat (first | go_big_quiet_step ((go_at_call 92; exact Calls.after_same (HL _))))
  refine wpQuiet_nil ?_
  intro x2
  have h5 := h4.below x2.2
  have hn5 := keep_blk x2.2 hn4
  have hB5 := hB4.trans (x2.2.mono hB4.size)
  clear HL b0 b1 b2 b3 bf n0 n1 n2 nf h4 hn4 hB4
  obtain ⟨w5, hx2⟩ := x2
  dsimp only at *
  clear hx2
  have HP := place_any h5 ho
  go_wp2_with fail
  refine HP.mono ?_
  rintro e w6 ⟨rfl, v6, hh6, hr6, hm6, hoff6, hnew6⟩
  have hn6 := h5.keep hoff6 hn5 (by decide) (by decide)
  have hfl := freeI_le S
  have hro : roomy S = S ++ [none] ∧ freeI S = S.length ∨ roomy S = S ∧ freeI S < S.length := by
    unfold roomy
    by_cases e : freeI S = S.length
    · rw [if_pos e]; exact .inl ⟨rfl, e⟩
    · rw [if_neg e]; exact .inr ⟨rfl, by omega⟩
  have hlen : freeI S < (roomy S).length ∧ (roomy S).length ≤ 20001 := by
    rcases hro with ⟨e, e2⟩ | ⟨e, e2⟩
    · rw [e, List.length_append, List.length_singleton]; omega
    · rw [e]; omega
  have hnone : (roomy S)[freeI S]? = some none := by
    rcases hro with ⟨e, e2⟩ | ⟨e, e2⟩
    · rw [e, e2]; simp
    · rw [e]; exact freeI_none e2
  have hset : (roomy S).set (freeI S) (some (l, lo, hi)) = putS S (freeI S) (l, lo, hi) := by
    unfold putS
    rcases hro with ⟨e, e2⟩ | ⟨e, e2⟩
    · rw [e, if_pos e2, e2]; simp
    · rw [e, if_neg (by omega)]
  have hset' := Lib.hid hset
  have hvp := ho.vst.put (i := freeI S) (n := (l, lo, hi)) hfl free_not hk'.out hw'.out
  have hofw := ho.wf
  have hlp := length_put_le (n := (l, lo, hi)) ho.len hf
  have hput := putS_get (n := (l, lo, hi)) hfl
  have hpl : (putS S (freeI S) (l, lo, hi)).length = (roomy S).length := by rw [← hset]; simp
  have hbase := h5.base
  have hok' : ArOk room (freeI S) (putS S (freeI S) (l, lo, hi)) := ⟨hvp, hlp, ho.max, by rw [hpl]; omega, fun j hj => by
    rw [putS_other (by omega) hfl]; exact freeI_before hj⟩
  have hoffA := (Off.of_below (F := Fp ab bm v) hB5).then hoff6
  have hnewA : ∀ g, v6.ownBlock = some g → Fp ab bm v g ∨ w.heap.size ≤ g := fun g hg => (hnew6 g hg).imp (fun e => .inr (.inr e)) (fun e => Nat.le_trans hB5.size e)
  generalize hi' : freeI S = i at *
  obtain ⟨g, c6, rfl⟩ := own_some hr6 (by omega)
  have hnewG := hnewA g rfl
  have hilt : (i : Int) < (roomy S).length := by omega
  clear hro hset hpl hoff6 hnew6 hB5 HP h5 hn5 hlp hnewA
  obtain ⟨b0, b1, b2, b3, bf⟩ := box4 hh6 rfl
  obtain ⟨n0, n1, n2, nf⟩ := box3 hn6 rfl
  generalize hL : (roomy S).length = L at *
  have hL' := Lib.hid hL
  go_wp2
  refine wp_region_after_tail 8 (by kernel_rfl) (by kernel_rfl) ?_
  simp only [List.take_succ_cons, List.take_zero, List.drop_succ_cons, List.drop_zero]
  repeat (first | go_big_quiet_step (fail))
  refine wpQuiet_nil ?_
  intro x3
  have hh7 := keep_blk x3.2 hh6
  have hn7 := keep_blk x3.2 hn6
  have hm7 := hm6.keep (x3.2.block _ hm6.lt)
  have hr7 := owns_below hr6 x3.2
  have hoff7 := hoffA.more x3.2
  clear b0 b1 b2 b3 bf n0 n1 n2 nf hh6 hn6 hm6 hr6 hoffA
  obtain ⟨w7, hx3⟩ := x3
  dsimp only at *
  clear hx3
  have hlt7 : i < (roomy S).length := by rw [hL'.out]; exact hlen.1
  have hr7' : w7.ownsRow B 171 4 (.slice (some ⟨g, 0, none⟩) (roomy S).length c6) (roomy S).length (slotsV (roomy S)) := by rw [hL'.out]; exact hr7
  obtain ⟨d0, d1, d2, d3⟩ := slots_at hr7' hnone
  simp only [slotL, List.getElem?_cons_zero, List.getElem?_cons_succ] at d0 d1 d2 d3
  have df := hr7.frozenAt
  obtain ⟨ho8, hg8⟩ := own_put4 (f := slotL) (l := roomy S) hr7 slotL_len (some (l, lo, hi)) (v0 := .int .i64 l) (v1 := .int .i64 lo) (v2 := .int .i64 hi) (v3 := .bool true) rfl hlt7
  rw [hset'.out] at ho8
  have hne8 := own_ne hr7 hh7 (by decide)
  have hne9 := own_ne hr7 hn7 (by decide)
  have hh8 := (hg8.block _ (size_of_block hh7) (fun e => hne8 e.symm)).trans hh7
  have hn8 := (hg8.block _ (size_of_block hn7) (fun e => hne9 e.symm)).trans hn7
  have hm8 := hm7.keep (hg8.block _ hm7.lt (fun e => hm7.ne_own hr7 e.symm))
  have hoff8 := hoff7.grown hg8 hnewG
  clear hr7' hg8
  go_wp2_with fail
  clear d0 d1 d2 d3 df hh7 hn7 hm7 hr7 hoff7 hne8 hne9 hlt7
  generalize (((w7.setCell ⟨g, i * 4, none⟩ (.int .i64 l)).setCell ⟨g, i * 4 + 1, none⟩ (.int .i64 lo)).setCell ⟨g, i * 4 + 2, none⟩ (.int .i64 hi)).setCell ⟨g, i * 4 + 3, none⟩ (.bool true) = w8 at *
  obtain ⟨b0, b1, b2, b3, bf⟩ := box4 hh8 rfl
  obtain ⟨n0, n1, n2, nf⟩ := box3 hn8 rfl
  have hii : i ≤ S.length := by omega
  have hwr : IntKind.i64.wrap (2 + (i : Int)) = 2 + (i : Int) := IntWalk.i64_in _ (by omega)
  have hfr : ∀ m, S[i]? ≠ some (some m) := fun m => by rw [← hi']; exact free_not m
  have hi2 := Lib.hid hi'
  clear hi'
  refine wp_region_after_tail 7 (by kernel_rfl) (by kernel_rfl) ?_
  simp only [List.take_succ_cons, List.take_zero, List.drop_succ_cons, List.drop_zero]
  repeat (first | go_big_quiet_step (fail))
  refine wpQuiet_nil ?_
  intro x4
  have hm9 := hm8.keep (x4.2.block _ hm8.lt)
  go_wp2_with (at_mapUpdate; refine wpList_store_is _ rfl _ _ _ rfl bm S i (l, lo, hi) rfl rfl _ rfl (by omega) hm9 hl hii hfr hwf hw'.out hofw hvp ?_)
  intro w9 hm10 ht10
  have hh9 := (turned_block ht10 (hm9.ne (keep_blk x4.2 hh8)).symm).trans (keep_blk x4.2 hh8)
  have hr9 := own_keep (owns_below ho8 x4.2) (fun k hv _ _ => turned_block ht10 (fun e => hm9.ne_own (owns_below ho8 x4.2) (hv.trans (congrArg some e))))
  have hoff9 := (hoff8.more x4.2).grown ht10.grown (.inl (.inr (.inl rfl)))
  clear hm8 hm9 ho8 b0 b1 b2 b3 bf n0 n1 n2 nf hh8 hn8 hoff8 ht10 hofw hvp hfr
  go_wp2
  go_ret2
  unfold MakeDoneF
  rw [hR.out]
  exact ⟨by first | rfl | (congr 1; go_num), _, i, ⟨hbase, hh9, by rw [show (putS S i (l, lo, hi)).length = L by rw [← hset'.out, List.length_set, hL'.out]]; exact hr9, hm10⟩, hok', hoff9, fun k hk => by
    rcases hk with e | e | e
    · exact .inl (.inl e)
    · exact .inl (.inr (.inl e))
    · have e2 : g = k := by simpa [Value.ownBlock] using e
      rw [← e2]; exact hnewG⟩
theorem make_anyF {w : World} {B ab bm : Nat} {v : Value} {room full : Nat} {S : St} (h : ArAt w B ab bm v room full S) (ho : ArOk room full S) (l lo hi : Int) :
    Calls Tryz.prog 124 #[.pointer (some ⟨ab, 0, none⟩), .int .i64 l, .int .i64 lo, .int .i64 hi] w (MakeDoneF w B ab bm v room S (l, lo, hi)) := by
  cases hk : okN S (l, lo, hi) with
  | false => exact make_bad h ho l lo hi hk
  | true =>
    cases hw : whereN S (l, lo, hi) with
    | some i => exact make_old h ho l lo hi hk i hw
    | none =>
      rcases Nat.lt_or_ge (cnt S) room with hf | hf
      · exact make_new h ho l lo hi hk hw hf
      · exact make_full h ho l lo hi hk hw hf
end Go.Proofs.YtgajgjlldohekaaGreat
