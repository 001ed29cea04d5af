/- What is reached: Reach, for every arena and every id. -/
import Derived.Test.YtkkdfpmjmommcaaSwp05
namespace Go.Proofs.Ytkkdfpmjmommcaa
open Go.RowKit Go.Joins

def idsK (f : Nat → Bool) (k : Nat) : List Nat := (List.range k).filter f
theorem idsK_succ (f : Nat → Bool) (k : Nat) : idsK f (k + 1) = if f k then idsK f k ++ [k] else idsK f k := by
  unfold idsK
  rw [List.range_succ, List.filter_append]
  by_cases h : f k <;> simp [h]
theorem idsK_len (f : Nat → Bool) (k : Nat) : (idsK f k).length ≤ k := by
  unfold idsK
  exact Nat.le_trans (List.length_filter_le _ _) (by simp)
def idsV (l : List Nat) : List Value := l.map fun i : Nat => Value.int .i64 ((i : Int) + 2)
def ReachDone (w : World) (S : St) (id : Int) (e : Ending) (w' : World) : Prop :=
  ∃ (v : Value) (f : Nat → Bool), e = .returned v ∧ (∀ i, i < S.length → (f i = true ↔ Rch S [id] i)) ∧ w'.ownsRow w.heap.size 3 1 v (idsK f S.length).length (idsV (idsK f S.length)) ∧ Below w.heap.size w w'
theorem reach_nil (id : Int) (w : World) : Calls Try.prog 38 #[.pointer none, .int .i64 id] w fun e w' => e = .returned (.slice none 0 0) ∧ w = w' := by
  have HN := node_nil id w
  go_enter Try.func38, Try.ntmps38
  go_wp2_with fail
  refine HN.mono ?_
  rintro e w1 ⟨rfl, rfl⟩
  go_wp2
  go_ret
  exact ⟨rfl, rfl⟩
theorem reach_none {w : World} {B ab bm : Nat} {v : Value} {room full : Nat} {S : St} (h : ArAt w B ab bm v room full S) (hl : S.length ≤ 20000) (id : Int) (hn : ndAt S id = none) :
    Calls Try.prog 38 #[.pointer (some ⟨ab, 0, none⟩), .int .i64 id] w (ReachDone w S id) := by
  have HN := node_any h hl id
  rw [hn] at HN
  unfold ndT at HN
  have hno := Lib.hid (fun j => Rch.nobody hn (i := j))
  have he : Hid (∀ k, idsK (fun _ => false) k = []) := Lib.hid (fun k => by unfold idsK; simp)
  clear hn h
  go_enter Try.func38, Try.ntmps38
  go_wp2_with fail
  refine HN.mono ?_
  rintro e w1 ⟨rfl, hb1⟩
  clear HN
  go_wp2
  go_ret
  exact ⟨_, fun _ => false, rfl, fun i _ => ⟨(fun h => by cases h), fun h => absurd h (hno.out i)⟩, by rw [he.out]; exact World.ownsRow_nil _ _ _ _, hb1⟩
set_option maxHeartbeats 1000000 in
theorem reach_some {w : World} {B ab bm : Nat} {v : Value} {room full : Nat} {S : St} (h : ArAt w B ab bm v room full S) (hV : VSt S) (hl : S.length ≤ 20000) (id : Int) (n : Nd) (hn : ndAt S id = some n) :
    Calls Try.prog 38 #[.pointer (some ⟨ab, 0, none⟩), .int .i64 id] w (ReachDone w S id) := by
  obtain ⟨A, c, rfl⟩ := own_form h.rows
  obtain ⟨i0, hi0, hz0, hz1, hz2⟩ := info_parts Try.infoInt
  have HN := node_any h hl id
  rw [hn] at HN
  unfold ndT at HN
  have hmk := make_seen S.length (by omega)
  have hlev := (okN_iff _ _).1 (hV.ok _ n (ndAt_some.1 hn).2)
  have hlv : Hid (∀ n', ndAt S id = some n' → 24 ≤ n'.1 + (25 : Nat) ∧ (-1 : Int) < n'.1) := Lib.hid (fun n' hn' => by rw [hn] at hn'; injection hn' with e; subst e; omega)
  have hcl : Clo S (fun _ => false) (-1) := fun i n h => by cases h
  clear hlev hn
  go_enter Try.func38, Try.ntmps38
  go_wp2_with fail
  refine HN.mono ?_
  rintro e w1 ⟨rfl, hb1⟩
  have h1 := h.below hb1
  have hB2 := below_alloc1 w1 (seenO S.length fun _ => false)
  have hs2 := heap_alloc_new w1 (seenO S.length fun _ => false)
  have h2 := h1.below hB2
  have HM := mark_any hV hl w1.heap.size 25 id (fun _ => false) _ (-1) hlv.out h2 hs2 hcl
  obtain ⟨c0, c1, c2, c3, cf⟩ := h1.cells
  clear HN
  go_wp2_with fail
  refine HM.mono ?_
  rintro e w3 ⟨rfl, f, hf, hs3, hG3⟩
  have hf' : ∀ j, j < S.length → (f j = true ↔ Rch S [id] j) := fun j hj => by rw [hf j hj]; simp
  have hfH := Lib.hid hf'
  have hB3 : Below w.heap.size w w3 := ((hb1.trans (hB2.mono hb1.size)).grown hG3 (by have := hb1.size; have := hB2.size; omega) (fun q hq => by injection hq with hq; have := hb1.size; omega))
  have hw1 := hb1.size
  clear HM hf hf' hG3 hs2 h2 h1 c0 c1 c2 c3 cf hb1 hB2 hcl
  go_wp2
  go_loopw [10, 11, 12, 35] (fun V _ _ t wr => ∃ k : Nat, k ≤ S.length ∧ t = .int .i64 k ∧ wr.ownsRow w.heap.size 3 1 V (idsK f k).length (idsV (idsK f k)) ∧ wr.heap[w1.heap.size]? = some (seenO S.length f) ∧ Below w.heap.size w wr) (fun _ _ _ t _ => S.length - (intOf t).toNat)
  case atStart => exact ⟨0, by omega, rfl, World.ownsRow_nil _ _ _ _, hs3, hB3⟩
  case round =>
    obtain ⟨k, hk, rfl, hown, hs, hb⟩ := hrel
    have hlen := idsK_len f k
    by_cases hlt : k < S.length
    · obtain ⟨q, qf⟩ := seen_cell hs hlt
      have hsucc := Lib.hid (idsK_succ f k)
      cases hfk : f k
      · rw [hfk] at q hsucc
        go_wp2
        go_roundw
        case rel => exact ⟨k + 1, by omega, by go_num, by rw [hsucc.out]; exact hown, hs, hb⟩
        case measure => simp [intOf]; omega
      · rw [hfk] at q hsucc
        have hwr : IntKind.i64.wrap (2 + (k : Int)) = 2 + (k : Int) := IntWalk.i64_in _ (by omega)
        have hbz := hb.size
        have hs' := Lib.hid hs
        clear hs hfk
        go_wp2_with (at_builtin; go_loud (refine wpList_append_own_at _ rfl _ _ 22 rfl w.heap.size 3 i0 (.int .i64 0) 1 8 Try.underlying22 hi0 hz0 hz1 hz2 rfl (by decide) _ _ _ rfl (hown.alloc _) ⟨wr.heap.size, 0, none⟩ 1 1 [.int .i64 (2 + (k : Int))] rfl rfl ?c1 ?c2 ?c3 ?c4 ?c5 ?_))
        case c2 => rfl
        case c3 => unfold maxLen; omega
        case c4 => omega
        case c5 => omega
        intro v' w8 ho8 hg8 _ hloc
        have hB8 := grown_below (hown.alloc (.cells #[.int .i64 (2 + (k : Int))] 3)) hg8 (hb.alloc hb.size _) (Nat.le_refl _) (by simp; omega)
        have hs8 : w8.heap[w1.heap.size]? = some (seenO S.length f) := (hg8.block _ (by have := size_of_block hs'.out; simp; omega) (fun e => own_ne hown hs'.out (by decide) e.symm)).trans (keep_alloc hs'.out)
        have ho8' : w8.ownsRow w.heap.size 3 1 v' (idsK f (k + 1)).length (idsV (idsK f (k + 1))) := by
          have e : idsK f (k + 1) = idsK f k ++ [k] := by rw [hsucc.out]; rfl
          rw [e, List.length_append]
          have e2 : idsV (idsK f k ++ [k]) = idsV (idsK f k) ++ [.int .i64 (2 + (k : Int))] := by unfold idsV; simp; omega
          rw [e2]
          exact ho8
        clear hg8 hown ho8 hloc q qf
        go_wp2
        go_roundw
        case rel => exact ⟨k + 1, by omega, by go_num, ho8', hs8, hB8⟩
        case measure => simp [intOf]; omega
    · have hkS : k = S.length := by omega
      have hown' := hown
      rw [hkS] at hown'
      clear hkS hown
      go_wp2
      go_ret
      exact ⟨_, f, rfl, hfH.out, hown', hb⟩
theorem reach_any {w : World} {B ab bm : Nat} {v : Value} {room full : Nat} {S : St} (h : ArAt w B ab bm v room full S) (ho : ArOk room full S) (id : Int) :
    Calls Try.prog 38 #[.pointer (some ⟨ab, 0, none⟩), .int .i64 id] w (ReachDone w S id) := by
  have hl : S.length ≤ 20000 := by have := ho.len; have := ho.max; omega
  cases hn : ndAt S id with
  | none => exact reach_none h hl id hn
  | some n => exact reach_some h ho.vst hl id n hn
end Go.Proofs.Ytkkdfpmjmommcaa
