/- What is kept: Sweep, for every arena and all ids. What is reached: Reach, for every arena and every id. What an id says, plain: where the bit of each level is given; two ids that say the same are one; more nodes, and a sweep, turn nothing. How many nodes a set needs, plain: at each level as many as there are unlike rows that hang on the bit there. Points and the bits of the levels, by an order of the inputs, plain. What comes of a step down a diagram, plain: what is made says what it should, few nodes are made, and only those that a set needs. The halves of an id and of a set, point by point, plain: what Of and the others come down by. A diagram in memory: what stays while only an arena and some maps are written; level, half, uses. What an id is asked: whether a point is in its set, the set, how many nodes it leads to; and what is kept. -/
import Derived.Test.YtehpccanjlaokaaGreatGQ12
import Derived.Test.YtehpccanjlaokaaGreatGQ09
import Derived.Test.YtehpccanjlaokaaGreatGQ05
import Derived.Maps.OwnSet
namespace Go.Proofs.YtehpccanjlaokaaGreat
open Go.RowKit Go.Joins

theorem seenA_made (n : Nat) : madeCells #[Value.bool false] n = seenA n fun _ => false := by
  unfold seenA
  apply Array.toList_inj.1
  rw [toList_madeCells_one]
  apply List.ext_getElem?
  intro j
  by_cases hj : j < n <;> simp [hj]
theorem make_seen (n : Nat) (hn : n ≤ 1000000) (w : World) : (Instr.makeSlice 53 (.int .i64 n) (.int .i64 n)).run Tryz.prog w = .ok (.slice (some ⟨w.heap.size, 0, none⟩) n n) (w.alloc (seenO n fun _ => false)) := by
  obtain ⟨i0, hi, hz0, hz1, hz2⟩ := info_parts Tryz.infoBool
  have h := run_makeSlice (P := Tryz.prog) w 53 4 i0 (.bool false) Tryz.underlying53 hi hz0 .i64 .i64 n n (by omega) (by omega) (by rw [hz1]; simp; omega) (by rw [hz2]; omega) (by omega)
  rw [h, hz1]
  unfold seenO
  rw [← seenA_made]
  simp [Value.cells]
/-- 'delete(m, k)' at the operation, for the arena's map. -/
theorem wpList_drop_is (w : World) {ops : Array Oper} {rest : List Oper} {o : Oper} {a : Act} {Q : Exit → Act → World → Prop}
    (hg : o.guard = none) (m x : Operand) (hop : o.op = .call { callee := .builtin .delete, args := #[m, x], argTypes := #[80, 145] }) (bm : Nat) (S : St) (i : Nat) (n : Nd) (hm : a.eval m = .map (some bm)) (hx : a.eval x = ndV n)
    (h : MapIs w bm S) (hi : S[i]? = some (some n)) (hn : wfN n) (hV : ∀ (j : Nat) (m : Nd), S[j]? = some (some m) → wfN m) (h1 : ∀ (i j : Nat) (n : Nd), S[i]? = some (some n) → S[j]? = some (some n) → i = j)
    (hK : ∀ w', MapIs w' bm (S.set i none) → w.mapTurned w' bm → wpList Tryz.prog ops Q rest (a.put o.dst (.tuple #[])) w') : wpList Tryz.prog ops Q (o :: rest) a w := by
  refine wpList_plain hg fun K' hK' => ?_
  obtain ⟨w', hrun, r1, r2⟩ := h.drop hi hn hV h1 o.type
  unfold Oper.wp execOp
  simp [hop, resolve, invoke, builtin, hm, hx, hrun, Result.andThen]
  exact hK' _ _ (hK w' r1 r2)
/-- The places behind k steps of a sweep. -/
def swpK (S : St) (f : Nat → Bool) (k : Nat) : St := S.mapIdx fun i o => if decide (i < k) && !f i then none else o
theorem swpK_zero (S : St) (f : Nat → Bool) : swpK S f 0 = S := by
  apply List.ext_getElem?
  intro i
  unfold swpK
  rw [List.getElem?_mapIdx]
  cases S[i]? <;> simp
theorem swpK_len (S : St) (f : Nat → Bool) (k : Nat) : (swpK S f k).length = S.length := by unfold swpK; simp
theorem swpK_all (S : St) (f : Nat → Bool) : swpK S f S.length = swp S f := by
  apply List.ext_getElem?
  intro i
  unfold swpK swp
  rw [List.getElem?_mapIdx, List.getElem?_mapIdx]
  cases hx : S[i]? with
  | none => rfl
  | some o =>
    have := (List.getElem?_eq_some_iff.1 hx).1
    cases hf : f i <;> simp [this]
theorem swpK_at {S : St} {f : Nat → Bool} {k i : Nat} {o : Option Nd} (h : S[i]? = some o) : (swpK S f k)[i]? = some (if decide (i < k) && !f i then none else o) := by
  unfold swpK; rw [List.getElem?_mapIdx, h]; rfl
theorem swpK_some {S : St} {f : Nat → Bool} {k i : Nat} {n : Nd} (h : (swpK S f k)[i]? = some (some n)) : S[i]? = some (some n) := by
  unfold swpK at h
  rw [List.getElem?_mapIdx] at h
  cases hx : S[i]? with
  | none => rw [hx] at h; cases h
  | some o =>
    rw [hx] at h
    simp only [Option.map_some, Option.some.injEq] at h
    split at h
    · cases h
    · rw [h]
/-- A place that stays. -/
theorem swpK_keep {S : St} {f : Nat → Bool} {k : Nat} {o : Option Nd} (h : S[k]? = some o) (hs : o = none ∨ f k = true) : swpK S f (k + 1) = swpK S f k := by
  apply List.ext_getElem?
  intro i
  unfold swpK
  rw [List.getElem?_mapIdx, List.getElem?_mapIdx]
  by_cases e : i = k
  · subst e
    rw [h]
    rcases hs with rfl | hs
    · simp
    · simp [hs]
  · have : decide (i < k + 1) = decide (i < k) := by rw [Bool.eq_iff_iff]; simp; omega
    rw [this]
theorem swpK_drop {S : St} {f : Nat → Bool} {k : Nat} {o : Option Nd} (h : S[k]? = some o) (hs : f k = false) : swpK S f (k + 1) = (swpK S f k).set k none := by
  have hl := (List.getElem?_eq_some_iff.1 h).1
  apply List.ext_getElem?
  intro i
  by_cases e : i = k
  · subst e
    rw [List.getElem?_set_self (by rw [swpK_len]; exact hl), swpK_at h]
    simp [hs]
  · rw [List.getElem?_set_ne (Ne.symm e)]
    unfold swpK
    rw [List.getElem?_mapIdx, List.getElem?_mapIdx]
    have : decide (i < k + 1) = decide (i < k) := by rw [Bool.eq_iff_iff]; simp; omega
    rw [this]
theorem take_rch {S : St} {K : List Int} {k : Nat} {x : Int} (h : K[k]? = some x) (j : Nat) : Rch S (K.take (k + 1)) j ↔ Rch S (K.take k) j ∨ Rch S [x] j := by
  rw [List.take_add_one, h]; exact Rch.append
def SweepDone (w : World) (B ab bm : Nat) (v : Value) (room : Nat) (S : St) (K : List Int) (e : Ending) (w' : World) : Prop :=
  e = .returned (.tuple #[]) ∧ ∃ f : Nat → Bool, (∀ i, i < S.length → (f i = true ↔ Rch S K i)) ∧ ArAt w' B ab bm v room 0 (swp S f) ∧ ArOk room 0 (swp S f) ∧ Off (Fp ab bm v) w w'
set_option maxHeartbeats 2000000 in
theorem sweep_any {w : World} {B ab bm : Nat} {v : Value} {room full : Nat} {S : St} (h : ArAt w B ab bm v room full S) (ho : ArOk room full S) (kv : Value) (K : List Int) (hK : IntsAt w w.heap.size kv K) :
    Calls Tryz.prog 84 #[.pointer (some ⟨ab, 0, none⟩), kv] w (SweepDone w B ab bm v room S K) := by
  have hl : S.length ≤ 20000 := by have := ho.len; have := ho.max; omega
  obtain ⟨KA, kc, rfl, hkl, hkc⟩ := hK
  obtain ⟨A, c, rfl⟩ := own_form h.rows
  have hmk := make_seen S.length (by omega)
  have hB0 := below_alloc1 w (seenO S.length fun _ => false)
  have hs0 := heap_alloc_new w (seenO S.length fun _ => false)
  have h0 := h.below hB0
  obtain ⟨c0, c1, c2, c3, cf⟩ := h.cells
  go_enter Tryz.func84, Tryz.ntmps84
  go_wp2
  go_loopw [6, 19] (fun _ t wr => ∃ (k : Nat) (f : Nat → Bool), k ≤ K.length ∧ t = .int .i64 k ∧ (∀ j, j < S.length → (f j = true ↔ Rch S (K.take k) j)) ∧ wr.heap[w.heap.size]? = some (seenO S.length f) ∧ Below w.heap.size w wr) (fun _ t _ => K.length - (intOf t).toNat)
  case atStart => exact ⟨0, fun _ => false, by omega, rfl, fun j _ => by simp [Rch.none], hs0, hB0⟩
  case round =>
    obtain ⟨k, f, hk, rfl, hf, hs, hb⟩ := hrel
    have hr := h.below hb
    by_cases hlt : k < K.length
    · obtain ⟨kb, ko, rfl, hkB, hkx⟩ := hkc (by omega)
      obtain ⟨x, hx⟩ : ∃ x, K[k]? = some x := ⟨_, List.getElem?_eq_getElem hlt⟩
      have q := (hb.cell (p := ⟨kb, ko + k, none⟩) hkB).trans (hkx k x hx)
      have HM := mark_any ho.vst hl w.heap.size 25 x f wr (-1) (fun n hn => by
        have h1 := (okN_iff _ _).1 (ho.vst.ok _ n (ndAt_some.1 hn).2)
        omega) hr hs (Clo.of_rch hf _)
      have hf' := Lib.hid hf
      have htk := Lib.hid (fun j => take_rch (S := S) hx j)
      clear hx hkx hf
      go_wp2_with fail
      refine HM.mono ?_
      rintro e w1 ⟨rfl, g, hg, hs1, hG⟩
      clear HM
      go_wp2
      go_roundw
      case rel => exact ⟨k + 1, g, by omega, by go_num, fun j hj => by rw [hg j hj, hf'.out j hj, htk.out j], hs1, hb.grown hG hb.size (fun q hq => by injection hq with hq; omega)⟩
      case measure => simp [intOf]; omega
    · have hkK : k = K.length := by omega
      have hf' : ∀ j, j < S.length → (f j = true ↔ Rch S K j) := fun j hj => by rw [hf j hj, hkK, List.take_length]
      have hfH := Lib.hid hf'
      have hV' := Lib.hid (ho.vst.swept hf')
      have hoH := Lib.hid ho
      have hbase := h.base
      have hW := Lib.hid (fun j m (hj : (swpK S f k)[j]? = some (some m)) => ho.wf j m (swpK_some hj))
      have hwf := Lib.hid (fun (q : Nat) (j : Nat) (m : Nd) (hj : (swpK S f q)[j]? = some (some m)) => ho.wf j m (swpK_some hj))
      have hone := Lib.hid (fun (q : Nat) (i j : Nat) (n : Nd) (hi : (swpK S f q)[i]? = some (some n)) (hj : (swpK S f q)[j]? = some (some n)) => ho.vst.one i j n (swpK_some hi) (swpK_some hj))
      obtain ⟨c0, c1, c2, c3, cf⟩ := hr.cells
      have hz := h.lt
      have hoff0 : Off (Fp ab bm (.slice A S.length c)) w wr := Off.of_below hb
      have hh0 := hr.head
      have hrw0 := hr.rows
      have hids0 := hr.ids
      clear hf hf' hkc h0 hs0 hB0 hW h hb ho hr hkK
      go_wp2
      go_loopw [7, 8, 33] (fun _ _ t wj => ∃ j : Nat, j ≤ S.length ∧ t = .int .i64 j ∧ wj.heap[ab]? = some (arV room bm (.slice A S.length c) full) ∧ wj.ownsRow B 170 4 (.slice A S.length c) S.length (slotsV (swpK S f j)) ∧ MapIs wj bm (swpK S f j) ∧ wj.heap[w.heap.size]? = some (seenO S.length f) ∧ Off (Fp ab bm (.slice A S.length c)) w wj) (fun _ _ t _ => S.length - (intOf t).toNat)
      case atStart => exact ⟨0, by omega, rfl, hh0, by rw [swpK_zero]; exact hrw0, by rw [swpK_zero]; exact hids0, hs, hoff0⟩
      case round =>
        clear hh0 hrw0 hids0 hs hoff0 c0 c1 c2 c3 cf
        obtain ⟨j, hj, rfl, hh, hrw, hids, hsn, hoff⟩ := hrel
        by_cases hlt2 : j < S.length
        · obtain ⟨o, hoj⟩ : ∃ o, S[j]? = some o := ⟨_, List.getElem?_eq_getElem hlt2⟩
          obtain ⟨g, cg, hA⟩ := own_some hrw (by omega)
          obtain rfl : A = some ⟨g, 0, none⟩ := by injection hA
          have hjj : (swpK S f j)[j]? = some o := by rw [swpK_at hoj]; simp
          obtain ⟨d0, d1, d2, d3⟩ := slots_at (S := swpK S f j) (by rw [swpK_len]; exact hrw) hjj
          have hgl : g < wr.heap.size := (hrw.lt g rfl).2
          cases o with
          | none =>
            simp only [slotL, List.getElem?_cons_zero, List.getElem?_cons_succ] at d0 d1 d2 d3
            have hst := Lib.hid (swpK_keep (f := f) hoj (.inl rfl))
            clear hA hoj hjj
            go_wp2
            go_roundw
            case rel => exact ⟨j + 1, by omega, by go_num, keep_alloc hh, by rw [hst.out]; exact hrw.alloc _, by rw [hst.out]; exact hids.keep (Below.heap_alloc _ _ _ hids.lt), keep_alloc hsn, hoff.alloc _⟩
            case measure => simp [intOf]; omega
          | some n =>
            obtain ⟨x, y, z⟩ := n
            simp only [slotL, List.getElem?_cons_zero, List.getElem?_cons_succ] at d0 d1 d2 d3
            have hsn1 := keep_alloc (x := .cells #[.int .i64 x, .int .i64 y, .int .i64 z, .bool true] 170 (0, 0)) hsn
            obtain ⟨q, qf⟩ := seen_cell hsn1 hlt2
            cases hfj : f j
            · rw [hfj] at q
              have hst := Lib.hid (swpK_drop (f := f) hoj hfj)
              have hh1 := keep_alloc (x := .cells #[.int .i64 x, .int .i64 y, .int .i64 z, .bool true] 170 (0, 0)) hh
              have hids1 := hids.keep (w' := wr.alloc (.cells #[.int .i64 x, .int .i64 y, .int .i64 z, .bool true] 170 (0, 0))) (Below.heap_alloc _ _ _ hids.lt)
              have hrw1 := hrw.alloc (.cells #[.int .i64 x, .int .i64 y, .int .i64 z, .bool true] 170 (0, 0))
              have hbx := heap_alloc_new wr (.cells #[.int .i64 x, .int .i64 y, .int .i64 z, .bool true] 170 (0, 0))
              have hoff1 := hoff.alloc (.cells #[.int .i64 x, .int .i64 y, .int .i64 z, .bool true] 170 (0, 0))
              have hw0 := hwf.out j j _ hjj
              have hw1 := hwf.out j
              have hone1 := hone.out j
              have hjjH := Lib.hid hjj
              have hlt3 : (j : Int) < S.length := by omega
              clear hA hoj hjj hfj hh hids hrw hoff hsn
              go_wp2
              generalize wr.alloc (.cells #[.int .i64 x, .int .i64 y, .int .i64 z, .bool true] 170 (0, 0)) = W at *
              clear d0 d1 d2 d3 q qf
              obtain ⟨b0, b1, b2, b3, bf⟩ := box4 hh1 rfl
              obtain ⟨n0, n1, n2, n3, nf⟩ := box4 hbx rfl
              refine wp_region_after_tail 6 (by kernel_rfl) (by kernel_rfl) ?_
              simp only [List.take_succ_cons, List.take_zero, List.drop_succ_cons, List.drop_zero]
              repeat (first | go_big_quiet_step (fail))
              refine wpQuiet_nil ?_
              intro x4
              have hm9 := hids1.keep (x4.2.block _ hids1.lt)
              go_wp2_with (at_delete; refine wpList_drop_is _ rfl _ _ rfl bm (swpK S f j) j (x, y, z) rfl rfl hm9 hjjH.out hw0 hw1 hone1 ?_)
              intro w9 hm10 ht10
              have hh9 := (turned_block ht10 (hm9.ne (keep_blk x4.2 hh1)).symm).trans (keep_blk x4.2 hh1)
              have hs9 := (turned_block ht10 (hm9.ne (keep_blk x4.2 hsn1)).symm).trans (keep_blk x4.2 hsn1)
              have hr9 := own_keep (owns_below hrw1 x4.2) (fun k hv _ _ => turned_block ht10 (fun e => hm9.ne_own (owns_below hrw1 x4.2) (hv.trans (congrArg some e))))
              have hoff9 := (hoff1.more x4.2).grown ht10.grown (.inl (.inr (.inl rfl)))
              clear b0 b1 b2 b3 bf n0 n1 n2 n3 nf hh1 hids1 hrw1 hbx hoff1 hm9 ht10 hw0 hw1 hone1 hsn1
              obtain ⟨d0, d1, d2, d3⟩ := slots_at (S := swpK S f j) (by rw [swpK_len]; exact hr9) hjjH.out
              simp only [slotL, List.getElem?_cons_zero, List.getElem?_cons_succ] at d0 d1 d2 d3
              have df := hr9.frozenAt
              obtain ⟨c0, c1, c2, c3, cf⟩ := now4 hh9 rfl
              obtain ⟨ho8, hg8⟩ := own_put4 (f := slotL) (l := swpK S f j) hr9 slotL_len none (v0 := .int .i64 0) (v1 := .int .i64 0) (v2 := .int .i64 0) (v3 := .bool false) rfl (by rw [swpK_len]; exact hlt2)
              have hh8 := (hg8.block _ (size_of_block hh9) (fun e => own_ne hr9 hh9 (by decide) e.symm)).trans hh9
              have hs8 := (hg8.block _ (size_of_block hs9) (fun e => own_ne hr9 hs9 (by decide) e.symm)).trans hs9
              have hm8 := hm10.keep (hg8.block _ hm10.lt (fun e => hm10.ne_own hr9 e.symm))
              have hoff8 := hoff9.grown hg8 (.inl (.inr (.inr rfl)))
              have ho8' := Lib.hid ho8
              have hm8' := Lib.hid hm8
              clear hh9 hs9 hr9 hoff9 hg8 hm10 ho8 hm8
              go_wp2
              go_roundw
              case rel => exact ⟨j + 1, by omega, by go_num, hh8, by rw [hst.out]; exact ho8'.out, by rw [hst.out]; exact hm8'.out, hs8, hoff8⟩
              case measure => simp [intOf]; omega
            · rw [hfj] at q
              have hst := Lib.hid (swpK_keep (f := f) hoj (.inr hfj))
              clear hA hoj hjj hfj
              go_wp2
              go_roundw
              case rel => exact ⟨j + 1, by omega, by go_num, keep_alloc hh, by rw [hst.out]; exact hrw.alloc _, by rw [hst.out]; exact hids.keep (Below.heap_alloc _ _ _ hids.lt), hsn1, hoff.alloc _⟩
              case measure => simp [intOf]; omega
        · have hjS : j = S.length := by omega
          obtain ⟨c0, c1, c2, c3, cf⟩ := now4 hh rfl
          have hjH := Lib.hid hjS
          clear hjS
          go_wp2
          go_end0
          have hids' := hids.keep (w' := wr.setCell ⟨ab, 3, none⟩ (.int .i64 0)) (Below.heap_setCell _ _ _ _ (hids.ne hh))
          have hrw' := own_set hrw (own_ne hrw hh (by decide)) 3 (.int .i64 0)
          rw [hjH.out, swpK_all] at hids' hrw'
          refine ⟨rfl, f, hfH.out, ⟨hbase, ?_, by rw [swp_length]; exact hrw', hids'⟩, ⟨hV'.out, by rw [swp_length]; exact hoH.out.len, hoH.out.max, Nat.zero_le _, fun j hj => by omega⟩, hoff.setCell (.inl (.inl rfl)) _⟩
          unfold arV at hh ⊢
          rw [block_setCell hh]
          simp
end Go.Proofs.YtehpccanjlaokaaGreat
namespace Go.Proofs.YtehpccanjlaokaaGreat
open Go.RowKit Go.Joins

end Go.Proofs.YtehpccanjlaokaaGreat
namespace Go.Proofs.YtehpccanjlaokaaGreat

/-- What id says where the bit of level l is c l; k: how many levels at most are to come. -/
def ev (S : St) (c : Nat → Bool) : Nat → Int → Bool
  | 0, id => decide (id = 1)
  | k + 1, id => match ndAt S id with
    | some n => ev S c k (if c n.1.toNat then n.2.2 else n.2.1)
    | none => decide (id = 1)
theorem nd_of_lvl {S : St} {id : Int} (h0 : 0 ≤ lvl S id) (h : lvl S id < 24) : ∃ n, ndAt S id = some n ∧ lvl S id = n.1 := by
  rcases lvl_kind h0 with he | ⟨j, m, rfl, hm, hl⟩
  · rw [lvl_end he] at h; omega
  · exact ⟨m, ndAt_id hm, hl⟩
theorem end_of_lvl {S : St} (hV : VSt S) {id : Int} (h : 24 ≤ lvl S id) : id = 0 ∨ id = 1 := by
  rcases lvl_kind (S := S) (id := id) (by omega) with he | ⟨j, m, rfl, hm, hl⟩
  · exact he
  · have := ((okN_iff _ _).1 (hV.ok j m hm)).2.1
    omega
theorem nd_end {S : St} {id : Int} (h : id = 0 ∨ id = 1) : ndAt S id = none := ndAt_not (.inl (by omega))
/-- The kids of a node: their levels. -/
theorem kids_lvl {S : St} (hV : VSt S) {id : Int} {n : Nd} (h : ndAt S id = some n) : (0 ≤ n.1 ∧ n.1 < 24) ∧ n.1 < lvl S n.2.1 ∧ n.1 < lvl S n.2.2 := by
  obtain ⟨h0, h1, h2, h3⟩ := (okN_iff _ _).1 (hV.ok _ n (ndAt_some.1 h).2)
  exact ⟨⟨h0, h1⟩, h2, h3⟩
theorem kid_lvl {S : St} (hV : VSt S) {id : Int} {n : Nd} (h : ndAt S id = some n) (b : Bool) : n.1 < lvl S (if b then n.2.2 else n.2.1) := by
  obtain ⟨_, h2, h3⟩ := kids_lvl hV h
  cases b
  · exact h2
  · exact h3
theorem ev_end {S : St} {c : Nat → Bool} {id : Int} (h : id = 0 ∨ id = 1) : ∀ k, ev S c k id = decide (id = 1)
  | 0 => rfl
  | k + 1 => by unfold ev; rw [nd_end h]
/-! ### More nodes; fewer -/
/-- What was there is there. -/
def Ext (S T : St) : Prop := ∀ (i : Nat) (n : Nd), S[i]? = some (some n) → T[i]? = some (some n)
theorem Ext.refl (S : St) : Ext S S := fun _ _ h => h
theorem Ext.trans {S T U : St} (h : Ext S T) (k : Ext T U) : Ext S U := fun _ _ hn => k _ _ (h _ _ hn)
theorem Ext.nd {S T : St} (h : Ext S T) {id : Int} {n : Nd} (hn : ndAt S id = some n) : ndAt T id = some n := by
  obtain ⟨h2, h3⟩ := ndAt_some.1 hn
  exact ndAt_some.2 ⟨h2, h _ n h3⟩
theorem Ext.lvl {S T : St} (h : Ext S T) {id : Int} (h0 : 0 ≤ Go.Proofs.YtehpccanjlaokaaGreat.lvl S id) : Go.Proofs.YtehpccanjlaokaaGreat.lvl T id = Go.Proofs.YtehpccanjlaokaaGreat.lvl S id := by
  rcases lvl_kind h0 with he | ⟨j, m, rfl, hm, hl⟩
  · rw [lvl_end he, lvl_end he]
  · rw [lvl_node (ndAt_id hm), lvl_node (ndAt_id (h j m hm))]
theorem Ext.ev {S T : St} (hV : VSt S) (h : Ext S T) (c : Nat → Bool) : ∀ (k : Nat) (id : Int), 0 ≤ Go.Proofs.YtehpccanjlaokaaGreat.lvl S id → Go.Proofs.YtehpccanjlaokaaGreat.ev T c k id = Go.Proofs.YtehpccanjlaokaaGreat.ev S c k id
  | 0, id, _ => rfl
  | k + 1, id, h0 => by
    rcases lvl_kind h0 with he | ⟨j, m, rfl, hm, hl⟩
    · rw [ev_end he, ev_end he]
    · have hn := ndAt_id hm
      have hk := kid_lvl hV hn (c m.1.toNat)
      have h1 := (kids_lvl hV hn).1
      show (match ndAt T ((j : Int) + 2) with | some n => Go.Proofs.YtehpccanjlaokaaGreat.ev T c k (if c n.1.toNat then n.2.2 else n.2.1) | none => _) = (match ndAt S ((j : Int) + 2) with | some n => Go.Proofs.YtehpccanjlaokaaGreat.ev S c k (if c n.1.toNat then n.2.2 else n.2.1) | none => _)
      rw [hn, h.nd hn]
      exact Ext.ev hV h c k _ (by omega)
theorem Ext.put {S : St} {i : Nat} {n : Nd} (hi : i ≤ S.length) (hf : ∀ m, S[i]? ≠ some (some m)) : Ext S (putS S i n) := fun j m hj => by
  have hji : j ≠ i := fun e => hf m (e ▸ hj)
  exact (putS_other hji hi).trans hj
theorem Ext.mk (room : Nat) (S : St) (n : Nd) : Ext S (mkS room S n).1 := by
  unfold mkS
  split
  · exact Ext.refl S
  · split
    · exact Ext.refl S
    · split
      · exact Ext.refl S
      · exact Ext.put (freeI_le S) free_not
theorem Ext.swp (S : St) (f : Nat → Bool) : Ext (Go.Proofs.YtehpccanjlaokaaGreat.swp S f) S := fun _ _ h => (swp_some.1 h).1
end Go.Proofs.YtehpccanjlaokaaGreat
namespace Go.Proofs.YtehpccanjlaokaaGreat

end Go.Proofs.YtehpccanjlaokaaGreat
namespace Go.Proofs.YtehpccanjlaokaaGreat

end Go.Proofs.YtehpccanjlaokaaGreat
namespace Go.Proofs.YtehpccanjlaokaaGreat

end Go.Proofs.YtehpccanjlaokaaGreat
namespace Go.Proofs.YtehpccanjlaokaaGreat

end Go.Proofs.YtehpccanjlaokaaGreat
namespace Go.Proofs.YtehpccanjlaokaaGreat
open Go.RowKit Go.Joins

theorem ArAt.not_fp_map {w : World} {B ab bm : Nat} {v : Value} {room full : Nat} {S : St} (h : ArAt w B ab bm v room full S) {k : Nat} {es clock} (hk : w.heap[k]? = some (.map es clock)) (hne : k ≠ bm) : ¬ Fp ab bm v k := by
  rintro (rfl | rfl | hv)
  · rw [h.head] at hk; unfold arV at hk; injection hk with hk; cases hk
  · exact hne rfl
  · rcases h.rows.2 with ⟨e, _⟩ | ⟨g, cap, cur, e, _, hg, _⟩
    · rw [e] at hv; simp [Value.ownBlock] at hv
    · rw [e] at hv
      have : g = k := by simpa [Value.ownBlock] using hv
      subst this
      rw [hg] at hk; injection hk with hk; cases hk
theorem Tryz.neIntA6 : (3 : TypeId) ≠ 83 := by decide
theorem Tryz.neIntS6 : (3 : TypeId) ≠ 170 := by decide
/-- An id that is used. -/
def usedB (S : St) (id : Int) : Bool := decide (0 ≤ lvl S id)
theorem used_cases {S : St} (hV : VSt S) (id : Int) : (∃ m, ndAt S id = some m ∧ usedB S id = true ∧ id ≠ 0 ∧ id ≠ 1) ∨ (ndAt S id = none ∧ usedB S id = decide (id = 0 ∨ id = 1)) := by
  cases hn : ndAt S id with
  | some m =>
    obtain ⟨h2, hm⟩ := ndAt_some.1 hn
    have h1 := (kids_lvl hV hn).1
    exact .inl ⟨m, rfl, by unfold usedB; rw [lvl_node hn]; simpa using h1.1, by omega, by omega⟩
  | none =>
    refine .inr ⟨rfl, ?_⟩
    unfold usedB
    by_cases he : id = 0 ∨ id = 1
    · rw [lvl_end he]; simp [he]
    · rw [lvl_not he hn]; simp; omega
end Go.Proofs.YtehpccanjlaokaaGreat
namespace Go.Proofs.YtehpccanjlaokaaGreat
open Go.RowKit Go.Joins

theorem intsV_at {l : List Nat} {j i : Nat} (h : l[j]? = some i) : (intsV l)[j]? = some (.int .i64 (i : Int)) := by unfold intsV; simp [h]
theorem i64_nat (op : Bool) (a b : Nat) (ha : a < 4611686018427387904) (hb : b < 4611686018427387904) : bits (if op then .or else .and) .i64 (a : Int) (b : Int) = (((if op then a ||| b else a &&& b) : Nat) : Int) := by
  have ea : (BitVec.ofInt 64 (a : Int)).toNat = a := by rw [BitVec.ofInt_natCast, BitVec.toNat_ofNat]; omega
  have eb : (BitVec.ofInt 64 (b : Int)).toNat = b := by rw [BitVec.ofInt_natCast, BitVec.toNat_ofNat]; omega
  cases op
  · show IntKind.i64.wrap (((BitVec.ofInt 64 (a : Int) &&& BitVec.ofInt 64 (b : Int)).toNat : Nat) : Int) = ((a &&& b : Nat) : Int)
    rw [BitVec.toNat_and, ea, eb, IntKind.wrap_i64]
    have := Nat.and_le_left (n := a) (m := b)
    omega
  · show IntKind.i64.wrap (((BitVec.ofInt 64 (a : Int) ||| BitVec.ofInt 64 (b : Int)).toNat : Nat) : Int) = ((a ||| b : Nat) : Int)
    rw [BitVec.toNat_or, ea, eb, IntKind.wrap_i64]
    have : a ||| b < 2 ^ 62 := Nat.or_lt_two_pow (by omega) (by omega)
    omega
end Go.Proofs.YtehpccanjlaokaaGreat
