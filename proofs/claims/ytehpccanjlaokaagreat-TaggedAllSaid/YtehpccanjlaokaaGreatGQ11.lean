/- What an arena is asked: find, isEnd, below, permits, Len, Node, for every arena and every number. What is come to from an id is marked: mark, for every arena, by induction on the levels above. Nodes are made: New, place, Make, for every arena and all numbers. -/
import Derived.Test.YtehpccanjlaokaaGreatGQ10
import Derived.Test.YtehpccanjlaokaaGreatGQ04
import Derived.OwnWalk
import Derived.Deep.LoopGhost
import Derived.Deep.AppendLies
import Derived.Maps.AppendAt
namespace Go.Proofs.YtehpccanjlaokaaGreat
open Go.RowKit Go.Joins

theorem below_drews {B : Nat} {a w : World} (h : Below B a w) (n : Nat) : Below B a (w.drewN n) := h.trans ⟨rfl, rfl, rfl, Nat.le_refl _, fun _ _ => rfl⟩
theorem isEnd_any (id : Int) (w : World) : Calls Tryz.prog 171 #[.int .i64 id] w fun e w' => e = .returned (.bool (decide (0 ≤ id ∧ id < 2))) ∧ w = w' := by
  by_cases h0 : 0 ≤ id
  · go_enter Tryz.func171, Tryz.ntmps171
    go_wp2
    go_ret
    exact ⟨ret_bool (by rw [Bool.eq_iff_iff]; simp; omega), rfl⟩
  · go_enter Tryz.func171, Tryz.ntmps171
    go_wp2
    go_ret
    exact ⟨ret_bool (by rw [Bool.eq_iff_iff]; simp; omega), rfl⟩
theorem len_any {w : World} {B ab bm : Nat} {v : Value} {room full : Nat} {S : St} (h : ArAt w B ab bm v room full S) :
    Calls Tryz.prog 83 #[.pointer (some ⟨ab, 0, none⟩)] w fun e w' => e = .returned (.int .i64 (cnt S)) ∧ w = w' := by
  obtain ⟨c0, c1, c2, c3, cf⟩ := h.cells
  have hl := h.ids.len
  go_enter Tryz.func83, Tryz.ntmps83
  go_wp2
  go_ret
  exact ⟨rfl, rfl⟩
/-- What find hands back. -/
def fndV : Option Nd → Value
  | none => .tuple #[.agg #[.int .i64 0, .int .i64 0, .int .i64 0], .bool false]
  | some n => .tuple #[.agg #[.int .i64 n.1, .int .i64 n.2.1, .int .i64 n.2.2], .bool true]
theorem find_any {w : World} {B ab bm : Nat} {v : Value} {room full : Nat} {S : St} (h : ArAt w B ab bm v room full S) (hl : S.length ≤ 20000) (id : Int) :
    Calls Tryz.prog 97 #[.pointer (some ⟨ab, 0, none⟩), .int .i64 id] w fun e w' => e = .returned (fndV (ndAt S id)) ∧ Below w.heap.size w w' := by
  obtain ⟨A, c, rfl⟩ := own_form h.rows
  obtain ⟨-, -, -, -, -⟩ := h.cells
  have h2 := h.below (below_alloc1 w (.cells #[.int .i64 0, .int .i64 0, .int .i64 0] 145 (0, 0)))
  obtain ⟨c0, c1, c2, c3, cf⟩ := h2.cells
  by_cases hlo : id < 2
  · have e := Lib.hid (ndAt_not (S := S) (id := id) (.inl hlo))
    go_enter Tryz.func97, Tryz.ntmps97
    go_wp2
    exact bodyPost_ret (v := .tuple #[.agg #[.int .i64 0, .int .i64 0, .int .i64 0], .bool false]) (by simp [results, Tryz.results97, go_sem]) rfl ⟨by rw [e.out]; rfl, (Below.refl _ _).alloc (Nat.le_refl _) _⟩
  · by_cases hhi : (S.length : Int) + 2 ≤ id
    · have e := Lib.hid (ndAt_not (S := S) (id := id) (.inr hhi))
      have hhi' : (2 : Int) + S.length ≤ id := by omega
      go_enter Tryz.func97, Tryz.ntmps97
      go_wp2
      exact bodyPost_ret (v := .tuple #[.agg #[.int .i64 0, .int .i64 0, .int .i64 0], .bool false]) (by simp [results, Tryz.results97, go_sem]) rfl ⟨by rw [e.out]; rfl, by repeat (first | (with_reducible exact below_alloc1 w _) | (with_reducible refine Below.setCell ?_ (by simp) _))⟩
    · obtain ⟨i, rfl⟩ : ∃ i : Nat, id = (i : Int) + 2 := ⟨(id - 2).toNat, by omega⟩
      have hi : i < S.length := by omega
      obtain ⟨o, ho⟩ : ∃ o, S[i]? = some o := ⟨_, List.getElem?_eq_getElem hi⟩
      have e := Lib.hid (ndAt_out ho)
      have hA : ∃ g, A = some ⟨g, 0, none⟩ := by
        rcases h.rows.2 with ⟨hv, h0⟩ | ⟨g, cap, cur, hv, _⟩
        · omega
        · exact ⟨g, by injection hv⟩
      obtain ⟨g, rfl⟩ := hA
      obtain ⟨d0, d1, d2, d3⟩ := slots_at h2.rows ho
      obtain ⟨x, y, z, u, hf, hs⟩ : ∃ (x y z : Int) (u : Bool), fndV o = .tuple #[.agg #[.int .i64 x, .int .i64 y, .int .i64 z], .bool u] ∧ slotL o = [.int .i64 x, .int .i64 y, .int .i64 z, .bool u] := by
        cases o with
        | none => exact ⟨0, 0, 0, false, rfl, rfl⟩
        | some n => exact ⟨n.1, n.2.1, n.2.2, true, rfl, rfl⟩
      rw [hs] at d0 d1 d2 d3
      have hR := Lib.hid (show fndV (ndAt S ((i : Int) + 2)) = _ from (congrArg fndV e.out).trans hf)
      have hhi' : (i : Int) + 2 < (2 : Int) + S.length := by omega
      have hlt : (i : Int) < S.length := by omega
      simp only [List.getElem?_cons_zero, List.getElem?_cons_succ] at d0 d1 d2 d3
      clear hs hf e ho h h2 hhi
      go_enter Tryz.func97, Tryz.ntmps97
      go_wp2
      have hb0 := heap_alloc2_old w (.cells #[.int .i64 0, .int .i64 0, .int .i64 0] 145 (0, 0)) (.cells #[.int .i64 x, .int .i64 y, .int .i64 z, .bool u] 170 (0, 0))
      have hb1 := heap_alloc2_new w (.cells #[.int .i64 0, .int .i64 0, .int .i64 0] 145 (0, 0)) (.cells #[.int .i64 x, .int .i64 y, .int .i64 z, .bool u] 170 (0, 0))
      have hB := below_alloc2 w (.cells #[.int .i64 0, .int .i64 0, .int .i64 0] 145 (0, 0)) (.cells #[.int .i64 x, .int .i64 y, .int .i64 z, .bool u] 170 (0, 0))
      clear c0 c1 c2 c3 cf d0 d1 d2 d3
      generalize hW : (w.alloc (.cells #[.int .i64 0, .int .i64 0, .int .i64 0] 145 (0, 0))).alloc (.cells #[.int .i64 x, .int .i64 y, .int .i64 z, .bool u] 170 (0, 0)) = W at *
      clear hW
      obtain ⟨n0, n1, n2, nf⟩ := now3 hb0 rfl
      obtain ⟨s0, s1, s2, s3, -⟩ := now4 hb1 rfl
      go_region
      all_goals
        go_wp2
        exact bodyPost_ret (v := .tuple #[.agg #[.int .i64 x, .int .i64 y, .int .i64 z], .bool u]) (by simp [results, Tryz.results97, go_sem, n0, n1, n2]) rfl ⟨by rw [hR.out], by repeat (first | (with_reducible exact hB) | (with_reducible exact hB.drew) | (with_reducible refine Below.drew ?_) | (with_reducible refine Below.setCell ?_ (by simp) _))⟩
theorem below_any {w : World} {B ab bm : Nat} {v : Value} {room full : Nat} {S : St} (h : ArAt w B ab bm v room full S) (hl : S.length ≤ 20000) (l id : Int) (h0 : 0 ≤ l) (h1 : l < 24) :
    Calls Tryz.prog 169 #[.pointer (some ⟨ab, 0, none⟩), .int .i64 l, .int .i64 id] w fun e w' => e = .returned (.bool (decide (l < lvl S id))) ∧ Below w.heap.size w w' := by
  have HE := fun w => isEnd_any id w
  have HF := find_any h hl id
  by_cases he : id = 0 ∨ id = 1
  · have hd : decide (0 ≤ id ∧ id < 2) = true := decide_eq_true (by omega)
    rw [hd] at HE
    have hR := Lib.hid (show decide (l < lvl S id) = true from decide_eq_true (by rw [lvl_end he]; exact h1))
    clear he hd HF
    go_enter Tryz.func169, Tryz.ntmps169
    go_wp2_with (refine (HE _).mono ?_; rintro e w' ⟨rfl, rfl⟩)
    go_ret
    exact ⟨by rw [hR.out]; rfl, Below.refl _ _⟩
  · have hd : decide (0 ≤ id ∧ id < 2) = false := decide_eq_false (by omega)
    rw [hd] at HE
    cases hn : ndAt S id with
    | none =>
      rw [hn] at HF
      unfold fndV at HF
      have hR := Lib.hid (show decide (l < lvl S id) = false from decide_eq_false (by rw [lvl_not he hn]; omega))
      clear he hd hn
      go_enter Tryz.func169, Tryz.ntmps169
      go_wp2_with (refine (HE _).mono ?_; rintro e w' ⟨rfl, rfl⟩)
      refine HF.mono ?_
      rintro e w1 ⟨rfl, hb1⟩
      clear HE HF
      go_wp2
      go_ret
      exact ⟨by rw [hR.out]; rfl, hb1.alloc hb1.size _⟩
    | some n =>
      rw [hn] at HF
      unfold fndV at HF
      have hR := Lib.hid (show lvl S id = n.1 from lvl_node hn)
      clear he hd hn
      go_enter Tryz.func169, Tryz.ntmps169
      go_wp2_with (refine (HE _).mono ?_; rintro e w' ⟨rfl, rfl⟩)
      refine HF.mono ?_
      rintro e w1 ⟨rfl, hb1⟩
      clear HE HF
      go_wp2
      go_ret
      exact ⟨by rw [hR.out]; rfl, hb1.alloc hb1.size _⟩
theorem permits_any {w : World} {B ab bm : Nat} {v : Value} {room full : Nat} {S : St} (h : ArAt w B ab bm v room full S) (hl : S.length ≤ 20000) (l lo hi : Int) :
    Calls Tryz.prog 154 #[.pointer (some ⟨ab, 0, none⟩), .agg #[.int .i64 l, .int .i64 lo, .int .i64 hi]] w fun e w' => e = .returned (.bool (okN S (l, lo, hi))) ∧ Below w.heap.size w w' := by
  have hB := below_alloc1 w (.cells #[.int .i64 l, .int .i64 lo, .int .i64 hi] 145 (0, 0))
  have h2 := h.below hB
  have HL := fun (h0 : 0 ≤ l) (h1 : l < 24) => below_any h2 hl l lo h0 h1
  have HH := fun (w1 : World) (hb : Below (w.alloc (.cells #[.int .i64 l, .int .i64 lo, .int .i64 hi] 145 (0, 0))).heap.size (w.alloc (.cells #[.int .i64 l, .int .i64 lo, .int .i64 hi] 145 (0, 0))) w1) (h0 : 0 ≤ l) (h1 : l < 24) => below_any (h2.below hb) hl l hi h0 h1
  have hn0 := heap_alloc_new w (.cells #[.int .i64 l, .int .i64 lo, .int .i64 hi] 145 (0, 0))
  have hR : Hid (okN S (l, lo, hi) = (decide (0 ≤ l) && decide (l < 24) && decide (l < lvl S lo) && decide (l < lvl S hi))) := Lib.hid rfl
  generalize okN S (l, lo, hi) = R at *
  clear h h2
  by_cases h0 : 0 ≤ l
  · by_cases h1 : l < 24
    · have HL := HL h0 h1
      have HH := fun w1 hb => HH w1 hb h0 h1
      cases e1 : decide (l < lvl S lo)
      · rw [e1] at HL
        have hR := Lib.hid (show R = false by rw [hR.out, e1]; simp)
        clear e1 HH
        go_enter Tryz.func154, Tryz.ntmps154
        go_wp2_with fail
        refine HL.mono ?_
        rintro e w1 ⟨rfl, hb1⟩
        clear HL
        go_wp2
        go_ret
        exact ⟨by rw [hR.out]; rfl, hB.trans (hb1.mono hB.size)⟩
      · rw [e1] at HL
        have hR := Lib.hid (show R = decide (l < lvl S hi) by rw [hR.out, e1, decide_eq_true h0, decide_eq_true h1]; simp)
        clear e1
        go_enter Tryz.func154, Tryz.ntmps154
        go_wp2_with fail
        refine HL.mono ?_
        rintro e w1 ⟨rfl, hb1⟩
        have HH := HH w1 hb1
        have hn1 := keep_blk hb1 hn0
        obtain ⟨n0, n1, n2, nf⟩ := now3 hn1 rfl
        clear HL
        go_wp2_with fail
        refine HH.mono ?_
        rintro e w2 ⟨rfl, hb2⟩
        clear HH
        go_wp2
        go_ret
        exact ⟨by rw [hR.out]; rfl, (hB.trans (hb1.mono hB.size)).trans (hb2.mono (hB.trans (hb1.mono hB.size)).size)⟩
    · have hR := Lib.hid (show R = false by rw [hR.out, decide_eq_false h1]; simp)
      have h1' : 24 ≤ l := by omega
      clear HL HH
      go_enter Tryz.func154, Tryz.ntmps154
      go_wp2
      go_ret
      exact ⟨by rw [hR.out]; rfl, hB⟩
  · have hR := Lib.hid (show R = false by rw [hR.out, decide_eq_false h0]; simp)
    clear HL HH
    go_enter Tryz.func154, Tryz.ntmps154
    go_wp2
    go_ret
    exact ⟨by rw [hR.out]; rfl, hB⟩
/-- What Node hands back. -/
def ndT : Option Nd → Value
  | none => .tuple #[.int .i64 0, .int .i64 0, .int .i64 0, .bool false]
  | some n => .tuple #[.int .i64 n.1, .int .i64 n.2.1, .int .i64 n.2.2, .bool true]
theorem node_any {w : World} {B ab bm : Nat} {v : Value} {room full : Nat} {S : St} (h : ArAt w B ab bm v room full S) (hl : S.length ≤ 20000) (id : Int) :
    Calls Tryz.prog 68 #[.pointer (some ⟨ab, 0, none⟩), .int .i64 id] w fun e w' => e = .returned (ndT (ndAt S id)) ∧ Below w.heap.size w w' := by
  have HF := find_any h hl id
  generalize ndAt S id = o at *
  obtain ⟨x, y, z, u, hf, hs⟩ : ∃ (x y z : Int) (u : Bool), fndV o = .tuple #[.agg #[.int .i64 x, .int .i64 y, .int .i64 z], .bool u] ∧ ndT o = .tuple #[.int .i64 x, .int .i64 y, .int .i64 z, .bool u] := by
    cases o with
    | none => exact ⟨0, 0, 0, false, rfl, rfl⟩
    | some n => exact ⟨n.1, n.2.1, n.2.2, true, rfl, rfl⟩
  rw [hf] at HF
  have hR := Lib.hid hs
  clear hf hs
  go_enter Tryz.func68, Tryz.ntmps68
  go_wp2_with fail
  refine HF.mono ?_
  rintro e w1 ⟨rfl, hb1⟩
  clear HF
  go_wp2
  have hb0 := heap_alloc_new w1 (.cells #[.int .i64 x, .int .i64 y, .int .i64 z] 145 (0, 0))
  have hB := hb1.alloc hb1.size (.cells #[.int .i64 x, .int .i64 y, .int .i64 z] 145 (0, 0))
  generalize w1.alloc (.cells #[.int .i64 x, .int .i64 y, .int .i64 z] 145 (0, 0)) = W at *
  obtain ⟨n0, n1, n2, nf⟩ := now3 hb0 rfl
  go_quiet (fail)
  go_wp2
  exact bodyPost_ret (v := .tuple #[.int .i64 x, .int .i64 y, .int .i64 z, .bool u]) (by simp [results, Tryz.results68, go_sem]) rfl ⟨by rw [hR.out], below_drews hB _⟩
end Go.Proofs.YtehpccanjlaokaaGreat
namespace Go.Proofs.YtehpccanjlaokaaGreat
open Go.RowKit Go.Joins

/-- n flags, as cells. -/
def seenA (n : Nat) (f : Nat → Bool) : Array Value := ((List.range n).map fun p => Value.bool (f p)).toArray
theorem seenA_get {n p : Nat} (f : Nat → Bool) (h : p < n) : (seenA n f)[p]? = some (.bool (f p)) := by
  unfold seenA; simp [h]
theorem seenA_set {n p : Nat} {f g : Nat → Bool} {u : Bool} (hp : g p = u) (h : ∀ j, j ≠ p → g j = f j) : (seenA n f).setIfInBounds p (.bool u) = seenA n g := by
  unfold seenA
  rw [List.setIfInBounds_toArray]
  congr 1
  apply List.ext_getElem?
  intro j
  rw [List.getElem?_set]
  by_cases hj : j < n
  · by_cases e : p = j
    · subst e
      simp [hj, hp]
    · simp [e, hj, h j (Ne.symm e)]
  · by_cases e : p = j
    · subst e
      simp [hj]
    · simp [e, hj]
def seenO (n : Nat) (f : Nat → Bool) : Obj := .cells (seenA n f) 4 (0, 0)
theorem seen_cell {w : World} {sbk n p : Nat} {f : Nat → Bool} (h : w.heap[sbk]? = some (seenO n f)) (hp : p < n) : w.cell? ⟨sbk, p, none⟩ = some (.bool (f p)) ∧ w.frozen? ⟨sbk, p, none⟩ = false := by
  unfold seenO at h
  exact ⟨by rw [cell_of_block h]; exact seenA_get f hp, unfrozen_of_block h p⟩
/-- Marked: what was, and what is come to from id. -/
def MarkDone (w : World) (sbk : Nat) (S : St) (f : Nat → Bool) (id : Int) (e : Ending) (w' : World) : Prop :=
  e = .returned (.tuple #[]) ∧ ∃ g : Nat → Bool, (∀ j, j < S.length → (g j = true ↔ f j = true ∨ Rch S [id] j)) ∧ w'.heap[sbk]? = some (seenO S.length g) ∧ w.grownBy w' (some sbk)
theorem ArAt.grown {w w' : World} {B ab bm : Nat} {v : Value} {room full : Nat} {S : St} (h : ArAt w B ab bm v room full S) {sbk : Nat} {C : Array Value} {T : TypeId} {z : Nat × Nat} (hs : w.heap[sbk]? = some (.cells C T z)) (h1 : T ≠ 83) (h2 : T ≠ 170) (hg : w.grownBy w' (some sbk)) : ArAt w' B ab bm v room full S := by
  have hn := h.not_fp hs h1 h2
  have hk : ∀ k, k < w.heap.size → Fp ab bm v k → w'.heap[k]? = w.heap[k]? := fun k hk hf => hg.block k hk (by intro e; injection e with e; subst e; exact hn hf)
  exact ⟨h.base, (hk ab h.lt.2.1 (.inl rfl)).trans h.head, own_keep h.rows (fun g hv _ hl => hk g hl (.inr (.inr hv))), h.ids.keep (hk bm h.lt.2.2 (.inr (.inl rfl)))⟩
theorem Tryz.neBoolA : (4 : TypeId) ≠ 83 := by decide
theorem Tryz.neBoolS : (4 : TypeId) ≠ 170 := by decide
theorem own_some {w : World} {base size n : Nat} {e : TypeId} {v : Value} {xs : List Value} (h : w.ownsRow base e size v n xs) (hn : 0 < n) : ∃ g c, v = .slice (some ⟨g, 0, none⟩) n c := by
  rcases h.2 with ⟨hv, h0⟩ | ⟨g, cap, cur, hv, _⟩
  · omega
  · exact ⟨g, cap, hv⟩
theorem grown_any {w w1 : World} (h : Below w.heap.size w w1) (r : Option Nat) : w.grownBy w1 r := ⟨h.os, h.tape, h.output, h.size, fun k hk _ => h.block k hk⟩
theorem grown_then {a b c : World} {sbk : Nat} (h : a.grownBy b (some sbk)) (k : b.grownBy c (some sbk)) : a.grownBy c (some sbk) :=
  ⟨k.os.trans h.os, k.tape.trans h.tape, k.output.trans h.output, Nat.le_trans h.size k.size, fun i hi hn => (k.block i (Nat.lt_of_lt_of_le hi h.size) hn).trans (h.block i hi hn)⟩
theorem mark_none {B ab bm : Nat} {v : Value} {room full : Nat} {S : St} (hl : S.length ≤ 20000) (sbk : Nat) (id : Int) (f : Nat → Bool) (w : World) (hn : ndAt S id = none) (h : ArAt w B ab bm v room full S) (hs : w.heap[sbk]? = some (seenO S.length f)) :
    Calls Tryz.prog 121 #[.pointer (some ⟨ab, 0, none⟩), .slice (some ⟨sbk, 0, none⟩) S.length S.length, .int .i64 id] w (MarkDone w sbk S f id) := by
  have HF := find_any h hl id
  rw [hn] at HF
  unfold fndV at HF
  have hno := Lib.hid (fun j => Rch.nobody hn (i := j))
  clear hn
  go_enter Tryz.func121, Tryz.ntmps121
  go_wp2_with fail
  refine HF.mono ?_
  rintro e w1 ⟨rfl, hb1⟩
  clear HF
  go_wp2
  go_end0
  have hB := hb1.alloc hb1.size (.cells #[.int .i64 0, .int .i64 0, .int .i64 0] 145 (0, 0))
  exact ⟨rfl, f, fun j _ => ⟨.inl, fun o => o.elim (fun x => x) fun r => absurd r (hno.out j)⟩, keep_blk hB hs, grown_any hB _⟩
set_option maxHeartbeats 1000000 in
theorem mark_any {B ab bm : Nat} {v : Value} {room full : Nat} {S : St} (hV : VSt S) (hl : S.length ≤ 20000) (sbk : Nat) (k : Nat) :
    ∀ (id : Int) (f : Nat → Bool) (w : World) (l : Int), (∀ n, ndAt S id = some n → 24 ≤ n.1 + k ∧ l < n.1) → ArAt w B ab bm v room full S → w.heap[sbk]? = some (seenO S.length f) → Clo S f l →
    Calls Tryz.prog 121 #[.pointer (some ⟨ab, 0, none⟩), .slice (some ⟨sbk, 0, none⟩) S.length S.length, .int .i64 id] w (MarkDone w sbk S f id) := by
  induction k with
  | zero =>
    intro id f w l hid h hs hc
    cases hn : ndAt S id with
    | none => exact mark_none hl sbk id f w hn h hs
    | some n =>
      have h1 := ((okN_iff _ _).1 (hV.ok _ n (ndAt_some.1 hn).2)).2.1
      have h2 := (hid n hn).1
      omega
  | succ k ih =>
    intro id f w l hid h hs hc
    cases hn : ndAt S id with
    | none => exact mark_none hl sbk id f w hn h hs
    | some n =>
      obtain ⟨hk, hlt⟩ := hid n hn
      obtain ⟨h2, hi⟩ := ndAt_some.1 hn
      obtain ⟨i, rfl⟩ : ∃ i : Nat, id = (i : Int) + 2 := ⟨(id - 2).toNat, by omega⟩
      rw [show (((i : Int) + 2 - 2).toNat) = i by omega] at hi
      have hil := (List.getElem?_eq_some_iff.1 hi).1
      have HF := find_any h hl ((i : Int) + 2)
      rw [hn] at HF
      unfold fndV at HF
      have hlow := fun (j : Nat) m => kid_level hV (j := j) (m := m) hi
      obtain ⟨x, y, z⟩ := n
      dsimp only at *
      cases hfi : f i
      · have hkid : ∀ id : Int, (id = y ∨ id = z) → ∀ n', ndAt S id = some n' → 24 ≤ n'.1 + k ∧ x < n'.1 := fun id he n' hn' => by
          obtain ⟨a, b⟩ := ndAt_some.1 hn'
          have := hlow (id - 2).toNat n' (by rcases he with rfl | rfl; exact .inl (by omega); exact .inr (by omega)) b
          omega
        have hlo := hkid y (.inl rfl)
        have hhi := hkid z (.inr rfl)
        have hc1 : Clo S (fun j => f j || decide (j = i)) x := hc.one hi hlt fun _ => rfl
        have hall := Lib.hid (fun g2 g3 => mark_all (S := S) (f := f) (g1 := fun j => f j || decide (j = i)) (g2 := g2) (g3 := g3) hi fun _ => rfl)
        have hcl := Lib.hid hc1
        clear hc hid hn hlow hkid hk
        go_enter Tryz.func121, Tryz.ntmps121
        go_wp2_with fail
        refine HF.mono ?_
        rintro e w1 ⟨rfl, hb1⟩
        have hB := hb1.alloc hb1.size (.cells #[.int .i64 x, .int .i64 y, .int .i64 z] 145 (0, 0))
        have hn1 := heap_alloc_new w1 (.cells #[.int .i64 x, .int .i64 y, .int .i64 z] 145 (0, 0))
        have hs1 := keep_blk hB hs
        have h1 := h.below hB
        have hil' : (i : Int) < S.length := by omega
        obtain ⟨q, qf⟩ := seen_cell hs1 hil
        rw [hfi] at q
        have hne : w1.heap.size ≠ sbk := by have := size_of_block hs; have := hb1.size; omega
        have hG2 : w.grownBy ((w1.alloc (.cells #[.int .i64 x, .int .i64 y, .int .i64 z] 145 (0, 0))).setCell ⟨sbk, i, none⟩ (.bool true)) (some sbk) := grown_set (grown_any hB _)
        have hs2 : ((w1.alloc (.cells #[.int .i64 x, .int .i64 y, .int .i64 z] 145 (0, 0))).setCell ⟨sbk, i, none⟩ (.bool true)).heap[sbk]? = some (seenO S.length fun j => f j || decide (j = i)) := by
          unfold seenO at hs1 ⊢
          rw [block_setCell hs1, seenA_set (g := fun j => f j || decide (j = i)) (by simp) (fun j hj => by simp [hj])]
        have hn2 := keep_set (a := ⟨sbk, i, none⟩) (u := .bool true) hne hn1
        have h2 := h.grown (w' := (w1.alloc (.cells #[.int .i64 x, .int .i64 y, .int .i64 z] 145 (0, 0))).setCell ⟨sbk, i, none⟩ (.bool true)) hs Tryz.neBoolA Tryz.neBoolS hG2
        have HL := ih y _ _ x hlo h2 hs2 hc1
        obtain ⟨p0, p1, p2, -⟩ := now3 hn2 rfl
        clear HF hn1 hs1 h1 hfi hlo hc1
        go_wp2_with fail
        refine HL.mono ?_
        rintro e w3 ⟨rfl, g2, hg2, hs3, hG3⟩
        have hn3 := (grown_at hG3 (size_of_block hn2) hne).trans hn2
        have h3 := h2.grown hs2 Tryz.neBoolA Tryz.neBoolS hG3
        have HH := ih z g2 w3 x hhi h3 hs3 (hcl.out.two hg2)
        obtain ⟨r0, r1, r2, -⟩ := now3 hn3 rfl
        clear HL hn2 h2 p0 p1 p2 ih
        go_wp2_with fail
        refine HH.mono ?_
        rintro e w4 ⟨rfl, g3, hg3, hs4, hG4⟩
        clear HH
        go_wp2
        go_end0
        exact ⟨rfl, g3, hall.out g2 g3 hg2 hg3, hs4, grown_then hG2 (grown_then hG3 hG4)⟩
      · have hdone := Lib.hid (fun j => mark_seen hV hc hfi hi hlt j)
        clear ih hc hid hn hlow
        go_enter Tryz.func121, Tryz.ntmps121
        go_wp2_with fail
        refine HF.mono ?_
        rintro e w1 ⟨rfl, hb1⟩
        have hB := hb1.alloc hb1.size (.cells #[.int .i64 x, .int .i64 y, .int .i64 z] 145 (0, 0))
        have hs1 := keep_blk hB hs
        have hil' : (i : Int) < S.length := by omega
        obtain ⟨q, qf⟩ := seen_cell hs1 hil
        rw [hfi] at q
        clear HF
        go_wp2
        go_end0
        exact ⟨rfl, f, fun j _ => hdone.out j, hs1, grown_any hB _⟩
end Go.Proofs.YtehpccanjlaokaaGreat
namespace Go.Proofs.YtehpccanjlaokaaGreat
open Go.RowKit Go.Joins

/-- An arena is new. -/
def NewDone (w : World) (room : Nat) (e : Ending) (w' : World) : Prop :=
  ∃ ab bm, e = .returned (.tuple #[.pointer (some ⟨ab, 0, none⟩), .int .i64 0]) ∧ ArAt w' w.heap.size ab bm (.slice none 0 0) room 0 [] ∧ Below w.heap.size w w'
theorem new_yes (room : Nat) (w : World) (h : room ≤ 20000) : Calls Tryz.prog 15 #[.int .i64 room] w (NewDone w room) := by
  have hmm := @run_makeMap Tryz.prog
  have h0 : ¬ (room : Int) < 0 := by omega
  have h1 : ¬ (20000 : Int) < (room : Int) := by omega
  have hm := MapIs.made w
  have hB := below_alloc2 w (.map #[] 0) (arV room w.heap.size (.slice none 0 0) 0)
  have hm2 := hm.keep (w' := (w.alloc (.map #[] 0)).alloc (arV room w.heap.size (.slice none 0 0) 0)) (Below.heap_alloc _ _ _ hm.lt)
  have hh := heap_alloc2_new w (.map #[] 0) (arV room w.heap.size (.slice none 0 0) 0)
  have hA : ArAt ((w.alloc (.map #[] 0)).alloc (arV room w.heap.size (.slice none 0 0) 0)) w.heap.size (w.heap.size + 1) w.heap.size (.slice none 0 0) room 0 [] :=
    ⟨⟨by omega, Nat.le_refl _⟩, hh, World.ownsRow_nil _ _ _ _, hm2⟩
  unfold arV at hB hA
  have hA' := Lib.hid hA
  clear hm hm2 hh hA
  go_enter Tryz.func15, Tryz.ntmps15
  go_wp2
  go_ret2
  exact ⟨_, _, rfl, hA'.out, hB⟩
theorem Tryz.infoSlot : (Tryz.prog.info? 170).map (fun i => (i.zero, i.size, i.bytes)) = some (some (.agg #[.int .i64 0, .int .i64 0, .int .i64 0, .bool false]), 4, 32) := by kernel_rfl
/-- The first place that is free: there is one more if there was none. -/
def roomy (S : St) : St := if freeI S = S.length then S ++ [none] else S
def PlaceDone (w : World) (B ab bm : Nat) (v : Value) (room : Nat) (S : St) (e : Ending) (w' : World) : Prop :=
  e = .returned (.int .i64 (freeI S)) ∧ ∃ v', w'.heap[ab]? = some (arV room bm v' (freeI S)) ∧ w'.ownsRow B 170 4 v' (roomy S).length (slotsV (roomy S)) ∧ MapIs w' bm S ∧ Off (Fp ab bm v) w w' ∧ (∀ g, v'.ownBlock = some g → v.ownBlock = some g ∨ w.heap.size ≤ g)
set_option maxHeartbeats 1000000 in
theorem place_any {w : World} {B ab bm : Nat} {v : Value} {room full : Nat} {S : St} (h : ArAt w B ab bm v room full S) (ho : ArOk room full S) :
    Calls Tryz.prog 155 #[.pointer (some ⟨ab, 0, none⟩)] w (PlaceDone w B ab bm v room S) := by
  have hl : S.length ≤ 20000 := by have := ho.len; have := ho.max; omega
  have hff : full ≤ freeI S := by
    rcases Nat.lt_or_ge (freeI S) full with hlt | hge
    · obtain ⟨n, hn⟩ := ho.used _ hlt
      exact absurd hn (free_not n)
    · exact hge
  have hfl := freeI_le S
  obtain ⟨A, c, rfl⟩ := own_form h.rows
  have hz := h.lt
  go_enter Tryz.func155, Tryz.ntmps155
  go_wp2
  go_loopg [3] (S.length - full) (fun k _ wr => ∃ q : Nat, full ≤ q ∧ q ≤ freeI S ∧ k = S.length - q ∧ wr.heap[ab]? = some (arV room bm (.slice A S.length c) q) ∧ w.grownBy wr (some ab))
  case atStart => exact ⟨full, by omega, hff, rfl, h.head, grown_any (Below.refl _ _) _⟩
  case round =>
    obtain ⟨q, hq1, hq2, hgk, hh, hg⟩ := hrel
    have hrows : wr.ownsRow B 170 4 (.slice A S.length c) S.length (slotsV S) := own_keep h.rows (fun g hv _ hlt => hg.block g hlt (by intro e; injection e with e; subst e; exact own_ne h.rows h.head (by decide) hv))
    obtain ⟨c0, c1, c2, c3, cf⟩ := now4 hh rfl
    by_cases hlt : q < S.length
    · obtain ⟨o, hoq⟩ : ∃ o, S[q]? = some o := ⟨_, List.getElem?_eq_getElem hlt⟩
      obtain ⟨g, cg, hA⟩ := own_some h.rows (by omega)
      obtain rfl : A = some ⟨g, 0, none⟩ := by injection hA
      have d3 := (slots_at hrows hoq).2.2.2
      have hlt' : (q : Int) < S.length := by omega
      cases o with
      | some n =>
        have hne : q ≠ freeI S := fun e => free_not n (e ▸ hoq)
        simp only [slotL, List.getElem?_cons_zero, List.getElem?_cons_succ] at d3
        have hgk' := Lib.hid hgk
        clear hgk hoq hA hrows h
        go_wp2
        go_quiet (fail)
        go_wp2
        go_roundg (S.length - (q + 1))
        case measure => rw [hgk'.out]; omega
        case rel => exact ⟨q + 1, by omega, by omega, rfl, by
          unfold arV at hh ⊢
          rw [block_setCell (keep_blk (below_drews (Below.refl _ _) _) hh)]
          simp, grown_set (grown_then hg (grown_any (below_drews (Below.refl _ _) _) _))⟩
      | none =>
        have he : freeI S = q := freeI_eq (by omega) (fun j hj => freeI_before (by omega)) (fun n hn => by rw [hoq] at hn; injection hn with hn; cases hn)
        simp only [slotL, List.getElem?_cons_zero, List.getElem?_cons_succ] at d3
        have hne : ((q : Int) == (S.length : Int)) = false := by rw [beq_eq_false_iff_ne]; omega
        have he' := Lib.hid he
        have hR := Lib.hid (show roomy S = S by unfold roomy; rw [if_neg (by omega)])
        have hids := h.ids.keep (hg.block _ hz.2.2 (by intro e; injection e with e; exact h.ids.ne h.head e))
        clear hgk hoq hA h he hq2
        go_wp2
        go_quiet (fail)
        go_wp2
        go_quiet (fail)
        go_wp2
        go_ret
        have hD := below_drews (Below.refl wr.heap.size wr)
        exact ⟨by rw [he'.out]; rfl, _, by rw [he'.out]; exact keep_blk (hD _) hh, by rw [hR.out]; exact owns_below hrows (hD _), hids.keep ((hD _).block _ hids.lt), ((Off.refl _ w).grown hg (.inl (.inl rfl))).more (hD _), fun g hg => .inl hg⟩
    · have hqS : q = S.length := by omega
      have he : freeI S = S.length := by omega
      have hfull := cnt_full he
      have heq : ((q : Int) == (S.length : Int)) = true := by rw [beq_iff_eq]; omega
      have he' := Lib.hid he
      have hR := Lib.hid (show roomy S = S ++ [none] by unfold roomy; rw [if_pos he])
      have hids := h.ids.keep (hg.block _ hz.2.2 (by intro e; injection e with e; exact h.ids.ne h.head e))
      have hqd : decide (q < S.length) = false := decide_eq_false (by omega)
      obtain ⟨i0, hi0, hz0, hz1, hz2⟩ := info_parts Tryz.infoSlot
      have hqS' := Lib.hid hqS
      have hzr := hg.size
      clear hgk h he hq2 hlt hqS c0 c1 c2 c3 cf
      obtain ⟨b0, b1, b2, b3, bf⟩ := box4 hh rfl
      go_wp2
      refine wp_region_after (by kernel_rfl) (by kernel_rfl) ?_
      repeat (first | go_big_quiet_step (fail))
      refine wpQuiet_nil ?_
      intro x1
      have hh1 := keep_blk x1.2 hh
      have hr1 := owns_below hrows x1.2
      have hg1 := grown_then hg (grown_any x1.2 _)
      have hids1 := hids.keep (x1.2.block _ hids.lt)
      clear b0 b1 b2 b3 bf hg hrows hh hids hzr
      obtain ⟨w1, hx1⟩ := x1
      dsimp only at *
      clear hx1
      obtain ⟨b0, b1, b2, b3, bf⟩ := box4 hh1 rfl
      go_wp2
      refine wp_region_after (by kernel_rfl) (by kernel_rfl) ?_
      repeat (first | go_big_quiet_step (fail))
      refine wpQuiet_nil ?_
      intro x2
      have hh2 := keep_blk x2.2 hh1
      have hr2 := owns_below hr1 x2.2
      have hg2 := grown_then hg1 (grown_any x2.2 _)
      have hids2 := hids1.keep (x2.2.block _ hids1.lt)
      clear b0 b1 b2 b3 bf hg1 hr1 hh1 hids1
      obtain ⟨w2, hx2⟩ := x2
      dsimp only at *
      clear hx2
      obtain ⟨c0, c1, c2, c3, cf⟩ := now4 hh2 rfl
      have hzr := hg2.size
      go_wp2_with (at_builtin; go_loud (refine wpList_append_own_at _ rfl _ _ 81 rfl B 170 i0 (.agg #[.int .i64 0, .int .i64 0, .int .i64 0, .bool false]) 4 32 Tryz.underlying81 hi0 hz0 hz1 hz2 rfl (by decide) _ _ _ rfl (hr2.alloc _) ⟨w2.heap.size, 0, none⟩ 1 1 [.int .i64 0, .int .i64 0, .int .i64 0, .bool false] rfl rfl ?c1 ?c2 ?c3 ?c4 ?c5 ?_))
      case c1 => exact World.news_of_block (cs := #[.int .i64 0, .int .i64 0, .int .i64 0, .bool false]) (t := 170) (fr := (0, 0)) (heap_alloc_new w2 _)
      case c2 => intro u hu; simp at hu; rcases hu with rfl | rfl <;> rfl
      case c3 => unfold maxLen; omega
      case c4 => omega
      case c5 => simp; omega
      intro v' w8 ho8 hg8 _ hloc
      have hne8 := own_ne hr2 hh2 (by decide)
      have hab2 := size_of_block hh2
      have hh8 : w8.heap[ab]? = some (arV room bm (.slice A S.length c) q) := (hg8.block ab (by simp; omega) (fun e => hne8 e.symm)).trans ((Below.heap_alloc _ _ _ hab2).trans hh2)
      have hids8 := hids2.keep ((hg8.block bm (by have := hids2.lt; simp; omega) (fun e => hids2.ne_own hr2 e.symm)).trans (Below.heap_alloc _ _ _ hids2.lt))
      have hoff : Off (Fp ab bm (.slice A S.length c)) w w8 := (((Off.refl _ w).grown hg2 (.inl (.inl rfl))).alloc _).grownNew hg8 (fun b hb => .inl (.inr (.inr hb)))
      have hloc' : ∀ g, v'.ownBlock = some g → (Value.slice A S.length c).ownBlock = some g ∨ w.heap.size ≤ g := fun g hgv => by
        rcases hloc with hl8 | hl8
        · exact .inl (hl8.symm.trans hgv)
        · have e3 := Option.some.inj (hl8.symm.trans hgv); right; rw [← e3]; have := hg2.size; have := heap_alloc_new w2 (.cells #[.int .i64 0, .int .i64 0, .int .i64 0, .bool false] 170 (0, 0)); have := size_of_block this; omega
      obtain ⟨A', c', rfl⟩ := own_form ho8
      have hrr : w8.ownsRow B 170 4 (.slice A' (S.length + 1) c') (roomy S).length (slotsV (roomy S)) := by
        rw [hR.out]
        have e : slotsV (S ++ [none]) = slotsV S ++ [.int .i64 0, .int .i64 0, .int .i64 0, .bool false] := by unfold slotsV; simp [slotL]
        rw [e, List.length_append]
        exact ho8
      obtain ⟨c0, c1, c2, c3, cf⟩ := now4 hh8 rfl
      have hrr' := Lib.hid hrr
      clear hg8 hloc ho8 hh2 hr2 hg2 hids2 hrr
      go_wp2
      go_ret
      refine ⟨by rw [he'.out, hqS'.out]; rfl, _, ?_, own_set hrr'.out (own_ne hrr'.out hh8 (by decide)) _ _, hids8.keep (Below.heap_setCell _ _ _ _ (hids8.ne hh8)), hoff.setCell (.inl (.inl rfl)) _, hloc'⟩
      unfold arV at hh8 ⊢
      rw [block_setCell hh8, he'.out, hqS'.out]
      simp
end Go.Proofs.YtehpccanjlaokaaGreat
