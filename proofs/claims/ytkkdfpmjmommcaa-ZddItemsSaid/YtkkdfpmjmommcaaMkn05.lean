/- Nodes are made: New, place, Make, for every arena and all numbers. -/
import Derived.Test.YtkkdfpmjmommcaaMrk05
import Derived.Test.YtkkdfpmjmommcaaSet2
import Derived.OwnWalk
import Derived.Deep.LoopGhost
import Derived.Deep.AppendLies
import Derived.Maps.AppendAt
namespace Go.Proofs.Ytkkdfpmjmommcaa
open Go.RowKit Go.Joins

theorem new_no (room : Int) (w : World) (h : room < 0 ∨ 20000 < room) :
    Calls Try.prog 61 #[.int .i64 room] w fun e w' => e = .returned (.tuple #[.pointer none, .int .i64 1]) ∧ w = w' := by
  rcases h with h | h
  · go_enter Try.func61, Try.ntmps61
    go_wp2
    go_ret2
    exact ⟨rfl, rfl⟩
  · have h' : ¬ room < 0 := by omega
    go_enter Try.func61, Try.ntmps61
    go_wp2
    go_ret2
    exact ⟨rfl, rfl⟩
/-- An arena is new. -/
def NewDone (w : World) (room : Nat) (e : Ending) (w' : World) : Prop :=
  ∃ ab bm, e = .returned (.tuple #[.pointer (some ⟨ab, 0, none⟩), .int .i64 0]) ∧ ArAt w' w.heap.size ab bm (.slice none 0 0) room 0 [] ∧ Below w.heap.size w w'
theorem new_yes (room : Nat) (w : World) (h : room ≤ 20000) : Calls Try.prog 61 #[.int .i64 room] w (NewDone w room) := by
  have hmm := @run_makeMap Try.prog
  have h0 : ¬ (room : Int) < 0 := by omega
  have h1 : ¬ (20000 : Int) < (room : Int) := by omega
  have hm := MapIs.made w
  have hB := below_alloc2 w (.map #[] 0) (arV room w.heap.size (.slice none 0 0) 0)
  have hm2 := hm.keep (w' := (w.alloc (.map #[] 0)).alloc (arV room w.heap.size (.slice none 0 0) 0)) (Below.heap_alloc _ _ _ hm.lt)
  have hh := heap_alloc2_new w (.map #[] 0) (arV room w.heap.size (.slice none 0 0) 0)
  have hA : ArAt ((w.alloc (.map #[] 0)).alloc (arV room w.heap.size (.slice none 0 0) 0)) w.heap.size (w.heap.size + 1) w.heap.size (.slice none 0 0) room 0 [] :=
    ⟨⟨by omega, Nat.le_refl _⟩, hh, World.ownsRow_nil _ _ _ _, hm2⟩
  unfold arV at hB hA
  have hA' := Lib.hid hA
  clear hm hm2 hh hA
  go_enter Try.func61, Try.ntmps61
  go_wp2
  go_ret2
  exact ⟨_, _, rfl, hA'.out, hB⟩
theorem Try.infoSlot : (Try.prog.info? 113).map (fun i => (i.zero, i.size, i.bytes)) = some (some (.agg #[.int .i64 0, .int .i64 0, .int .i64 0, .bool false]), 4, 32) := by kernel_rfl
/-- The first place that is free: there is one more if there was none. -/
def roomy (S : St) : St := if freeI S = S.length then S ++ [none] else S
def PlaceDone (w : World) (B ab bm : Nat) (v : Value) (room : Nat) (S : St) (e : Ending) (w' : World) : Prop :=
  e = .returned (.int .i64 (freeI S)) ∧ ∃ v', w'.heap[ab]? = some (arV room bm v' (freeI S)) ∧ w'.ownsRow B 113 4 v' (roomy S).length (slotsV (roomy S)) ∧ MapIs w' bm S ∧ Off (Fp ab bm v) w w' ∧ (∀ g, v'.ownBlock = some g → v.ownBlock = some g ∨ w.heap.size ≤ g)
set_option maxHeartbeats 1000000 in
theorem place_any {w : World} {B ab bm : Nat} {v : Value} {room full : Nat} {S : St} (h : ArAt w B ab bm v room full S) (ho : ArOk room full S) :
    Calls Try.prog 115 #[.pointer (some ⟨ab, 0, none⟩)] w (PlaceDone w B ab bm v room S) := by
  have hl : S.length ≤ 20000 := by have := ho.len; have := ho.max; omega
  have hff : full ≤ freeI S := by
    rcases Nat.lt_or_ge (freeI S) full with hlt | hge
    · obtain ⟨n, hn⟩ := ho.used _ hlt
      exact absurd hn (free_not n)
    · exact hge
  have hfl := freeI_le S
  obtain ⟨A, c, rfl⟩ := own_form h.rows
  have hz := h.lt
  go_enter Try.func115, Try.ntmps115
  go_wp2
  go_loopg [3] (S.length - full) (fun k _ wr => ∃ q : Nat, full ≤ q ∧ q ≤ freeI S ∧ k = S.length - q ∧ wr.heap[ab]? = some (arV room bm (.slice A S.length c) q) ∧ w.grownBy wr (some ab))
  case atStart => exact ⟨full, by omega, hff, rfl, h.head, grown_any (Below.refl _ _) _⟩
  case round =>
    obtain ⟨q, hq1, hq2, hgk, hh, hg⟩ := hrel
    have hrows : wr.ownsRow B 113 4 (.slice A S.length c) S.length (slotsV S) := own_keep h.rows (fun g hv _ hlt => hg.block g hlt (by intro e; injection e with e; subst e; exact own_ne h.rows h.head (by decide) hv))
    obtain ⟨c0, c1, c2, c3, cf⟩ := now4 hh rfl
    by_cases hlt : q < S.length
    · obtain ⟨o, hoq⟩ : ∃ o, S[q]? = some o := ⟨_, List.getElem?_eq_getElem hlt⟩
      obtain ⟨g, cg, hA⟩ := own_some h.rows (by omega)
      obtain rfl : A = some ⟨g, 0, none⟩ := by injection hA
      have d3 := (slots_at hrows hoq).2.2.2
      have hlt' : (q : Int) < S.length := by omega
      cases o with
      | some n =>
        have hne : q ≠ freeI S := fun e => free_not n (e ▸ hoq)
        simp only [slotL, List.getElem?_cons_zero, List.getElem?_cons_succ] at d3
        have hgk' := Lib.hid hgk
        clear hgk hoq hA hrows h
        go_wp2
        go_quiet (fail)
        go_wp2
        go_roundg (S.length - (q + 1))
        case measure => rw [hgk'.out]; omega
        case rel => exact ⟨q + 1, by omega, by omega, rfl, by
          unfold arV at hh ⊢
          rw [block_setCell (keep_blk (below_drews (Below.refl _ _) _) hh)]
          simp, grown_set (grown_then hg (grown_any (below_drews (Below.refl _ _) _) _))⟩
      | none =>
        have he : freeI S = q := freeI_eq (by omega) (fun j hj => freeI_before (by omega)) (fun n hn => by rw [hoq] at hn; injection hn with hn; cases hn)
        simp only [slotL, List.getElem?_cons_zero, List.getElem?_cons_succ] at d3
        have hne : ((q : Int) == (S.length : Int)) = false := by rw [beq_eq_false_iff_ne]; omega
        have he' := Lib.hid he
        have hR := Lib.hid (show roomy S = S by unfold roomy; rw [if_neg (by omega)])
        have hids := h.ids.keep (hg.block _ hz.2.2 (by intro e; injection e with e; exact h.ids.ne h.head e))
        clear hgk hoq hA h he hq2
        go_wp2
        go_quiet (fail)
        go_wp2
        go_quiet (fail)
        go_wp2
        go_ret
        have hD := below_drews (Below.refl wr.heap.size wr)
        exact ⟨by rw [he'.out]; rfl, _, by rw [he'.out]; exact keep_blk (hD _) hh, by rw [hR.out]; exact owns_below hrows (hD _), hids.keep ((hD _).block _ hids.lt), ((Off.refl _ w).grown hg (.inl (.inl rfl))).more (hD _), fun g hg => .inl hg⟩
    · have hqS : q = S.length := by omega
      have he : freeI S = S.length := by omega
      have hfull := cnt_full he
      have heq : ((q : Int) == (S.length : Int)) = true := by rw [beq_iff_eq]; omega
      have he' := Lib.hid he
      have hR := Lib.hid (show roomy S = S ++ [none] by unfold roomy; rw [if_pos he])
      have hids := h.ids.keep (hg.block _ hz.2.2 (by intro e; injection e with e; exact h.ids.ne h.head e))
      have hqd : decide (q < S.length) = false := decide_eq_false (by omega)
      obtain ⟨i0, hi0, hz0, hz1, hz2⟩ := info_parts Try.infoSlot
      have hqS' := Lib.hid hqS
      have hzr := hg.size
      clear hgk h he hq2 hlt hqS c0 c1 c2 c3 cf
      obtain ⟨b0, b1, b2, b3, bf⟩ := box4 hh rfl
      go_wp2
      refine wp_region_after (by kernel_rfl) (by kernel_rfl) ?_
      repeat (first | go_big_quiet_step (fail))
      refine wpQuiet_nil ?_
      intro x1
      have hh1 := keep_blk x1.2 hh
      have hr1 := owns_below hrows x1.2
      have hg1 := grown_then hg (grown_any x1.2 _)
      have hids1 := hids.keep (x1.2.block _ hids.lt)
      clear b0 b1 b2 b3 bf hg hrows hh hids hzr
      obtain ⟨w1, hx1⟩ := x1
      dsimp only at *
      clear hx1
      obtain ⟨b0, b1, b2, b3, bf⟩ := box4 hh1 rfl
      go_wp2
      refine wp_region_after (by kernel_rfl) (by kernel_rfl) ?_
      repeat (first | go_big_quiet_step (fail))
      refine wpQuiet_nil ?_
      intro x2
      have hh2 := keep_blk x2.2 hh1
      have hr2 := owns_below hr1 x2.2
      have hg2 := grown_then hg1 (grown_any x2.2 _)
      have hids2 := hids1.keep (x2.2.block _ hids1.lt)
      clear b0 b1 b2 b3 bf hg1 hr1 hh1 hids1
      obtain ⟨w2, hx2⟩ := x2
      dsimp only at *
      clear hx2
      obtain ⟨c0, c1, c2, c3, cf⟩ := now4 hh2 rfl
      have hzr := hg2.size
      go_wp2_with (at_builtin; go_loud (refine wpList_append_own_at _ rfl _ _ 77 rfl B 113 i0 (.agg #[.int .i64 0, .int .i64 0, .int .i64 0, .bool false]) 4 32 Try.underlying77 hi0 hz0 hz1 hz2 rfl (by decide) _ _ _ rfl (hr2.alloc _) ⟨w2.heap.size, 0, none⟩ 1 1 [.int .i64 0, .int .i64 0, .int .i64 0, .bool false] rfl rfl ?c1 ?c2 ?c3 ?c4 ?c5 ?_))
      case c1 => exact World.news_of_block (cs := #[.int .i64 0, .int .i64 0, .int .i64 0, .bool false]) (t := 113) (fr := (0, 0)) (heap_alloc_new w2 _)
      case c2 => intro u hu; simp at hu; rcases hu with rfl | rfl <;> rfl
      case c3 => unfold maxLen; omega
      case c4 => omega
      case c5 => simp; omega
      intro v' w8 ho8 hg8 _ hloc
      have hne8 := own_ne hr2 hh2 (by decide)
      have hab2 := size_of_block hh2
      have hh8 : w8.heap[ab]? = some (arV room bm (.slice A S.length c) q) := (hg8.block ab (by simp; omega) (fun e => hne8 e.symm)).trans ((Below.heap_alloc _ _ _ hab2).trans hh2)
      have hids8 := hids2.keep ((hg8.block bm (by have := hids2.lt; simp; omega) (fun e => hids2.ne_own hr2 e.symm)).trans (Below.heap_alloc _ _ _ hids2.lt))
      have hoff : Off (Fp ab bm (.slice A S.length c)) w w8 := (((Off.refl _ w).grown hg2 (.inl (.inl rfl))).alloc _).grownNew hg8 (fun b hb => .inl (.inr (.inr hb)))
      have hloc' : ∀ g, v'.ownBlock = some g → (Value.slice A S.length c).ownBlock = some g ∨ w.heap.size ≤ g := fun g hgv => by
        rcases hloc with hl8 | hl8
        · exact .inl (hl8.symm.trans hgv)
        · have e3 := Option.some.inj (hl8.symm.trans hgv); right; rw [← e3]; have := hg2.size; have := heap_alloc_new w2 (.cells #[.int .i64 0, .int .i64 0, .int .i64 0, .bool false] 113 (0, 0)); have := size_of_block this; omega
      obtain ⟨A', c', rfl⟩ := own_form ho8
      have hrr : w8.ownsRow B 113 4 (.slice A' (S.length + 1) c') (roomy S).length (slotsV (roomy S)) := by
        rw [hR.out]
        have e : slotsV (S ++ [none]) = slotsV S ++ [.int .i64 0, .int .i64 0, .int .i64 0, .bool false] := by unfold slotsV; simp [slotL]
        rw [e, List.length_append]
        exact ho8
      obtain ⟨c0, c1, c2, c3, cf⟩ := now4 hh8 rfl
      have hrr' := Lib.hid hrr
      clear hg8 hloc ho8 hh2 hr2 hg2 hids2 hrr
      go_wp2
      go_ret
      refine ⟨by rw [he'.out, hqS'.out]; rfl, _, ?_, own_set hrr'.out (own_ne hrr'.out hh8 (by decide)) _ _, hids8.keep (Below.heap_setCell _ _ _ _ (hids8.ne hh8)), hoff.setCell (.inl (.inl rfl)) _, hloc'⟩
      unfold arV at hh8 ⊢
      rw [block_setCell hh8, he'.out, hqS'.out]
      simp
end Go.Proofs.Ytkkdfpmjmommcaa
