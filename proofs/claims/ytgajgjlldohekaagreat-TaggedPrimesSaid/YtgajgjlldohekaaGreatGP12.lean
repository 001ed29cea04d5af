/- What an arena is asked: find, isEnd, below, permits, Len, Node, for every arena and every number. What is come to from an id is marked: mark, for every arena, by induction on the levels above. -/
import Derived.Test.YtgajgjlldohekaaGreatGP11
namespace Go.Proofs.YtgajgjlldohekaaGreat
open Go.RowKit Go.Joins

theorem below_drews {B : Nat} {a w : World} (h : Below B a w) (n : Nat) : Below B a (w.drewN n) := h.trans ⟨rfl, rfl, rfl, Nat.le_refl _, fun _ _ => rfl⟩
theorem isEnd_any (id : Int) (w : World) : Calls Tryz.prog 177 #[.int .i64 id] w fun e w' => e = .returned (.bool (decide (0 ≤ id ∧ id < 2))) ∧ w = w' := by
  by_cases h0 : 0 ≤ id
  · go_enter Tryz.func177, Tryz.ntmps177
    go_wp2
    go_ret
    exact ⟨ret_bool (by rw [Bool.eq_iff_iff]; simp; omega), rfl⟩
  · go_enter Tryz.func177, Tryz.ntmps177
    go_wp2
    go_ret
    exact ⟨ret_bool (by rw [Bool.eq_iff_iff]; simp; omega), rfl⟩
theorem len_any {w : World} {B ab bm : Nat} {v : Value} {room full : Nat} {S : St} (h : ArAt w B ab bm v room full S) :
    Calls Tryz.prog 92 #[.pointer (some ⟨ab, 0, none⟩)] w fun e w' => e = .returned (.int .i64 (cnt S)) ∧ w = w' := by
  obtain ⟨c0, c1, c2, c3, cf⟩ := h.cells
  have hl := h.ids.len
  go_enter Tryz.func92, Tryz.ntmps92
  go_wp2
  go_ret
  exact ⟨rfl, rfl⟩
/-- What find hands back. -/
def fndV : Option Nd → Value
  | none => .tuple #[.agg #[.int .i64 0, .int .i64 0, .int .i64 0], .bool false]
  | some n => .tuple #[.agg #[.int .i64 n.1, .int .i64 n.2.1, .int .i64 n.2.2], .bool true]
theorem find_any {w : World} {B ab bm : Nat} {v : Value} {room full : Nat} {S : St} (h : ArAt w B ab bm v room full S) (hl : S.length ≤ 20000) (id : Int) :
    Calls Tryz.prog 101 #[.pointer (some ⟨ab, 0, none⟩), .int .i64 id] w fun e w' => e = .returned (fndV (ndAt S id)) ∧ Below w.heap.size w w' := by
  obtain ⟨A, c, rfl⟩ := own_form h.rows
  obtain ⟨-, -, -, -, -⟩ := h.cells
  have h2 := h.below (below_alloc1 w (.cells #[.int .i64 0, .int .i64 0, .int .i64 0] 149 (0, 0)))
  obtain ⟨c0, c1, c2, c3, cf⟩ := h2.cells
  by_cases hlo : id < 2
  · have e := Lib.hid (ndAt_not (S := S) (id := id) (.inl hlo))
    go_enter Tryz.func101, Tryz.ntmps101
    go_wp2
    exact bodyPost_ret (v := .tuple #[.agg #[.int .i64 0, .int .i64 0, .int .i64 0], .bool false]) (by simp [results, Tryz.results101, go_sem]) rfl ⟨by rw [e.out]; rfl, (Below.refl _ _).alloc (Nat.le_refl _) _⟩
  · by_cases hhi : (S.length : Int) + 2 ≤ id
    · have e := Lib.hid (ndAt_not (S := S) (id := id) (.inr hhi))
      have hhi' : (2 : Int) + S.length ≤ id := by omega
      go_enter Tryz.func101, Tryz.ntmps101
      go_wp2
      exact bodyPost_ret (v := .tuple #[.agg #[.int .i64 0, .int .i64 0, .int .i64 0], .bool false]) (by simp [results, Tryz.results101, go_sem]) rfl ⟨by rw [e.out]; rfl, by repeat (first | (with_reducible exact below_alloc1 w _) | (with_reducible refine Below.setCell ?_ (by simp) _))⟩
    · obtain ⟨i, rfl⟩ : ∃ i : Nat, id = (i : Int) + 2 := ⟨(id - 2).toNat, by omega⟩
      have hi : i < S.length := by omega
      obtain ⟨o, ho⟩ : ∃ o, S[i]? = some o := ⟨_, List.getElem?_eq_getElem hi⟩
      have e := Lib.hid (ndAt_out ho)
      have hA : ∃ g, A = some ⟨g, 0, none⟩ := by
        rcases h.rows.2 with ⟨hv, h0⟩ | ⟨g, cap, cur, hv, _⟩
        · omega
        · exact ⟨g, by injection hv⟩
      obtain ⟨g, rfl⟩ := hA
      obtain ⟨d0, d1, d2, d3⟩ := slots_at h2.rows ho
      obtain ⟨x, y, z, u, hf, hs⟩ : ∃ (x y z : Int) (u : Bool), fndV o = .tuple #[.agg #[.int .i64 x, .int .i64 y, .int .i64 z], .bool u] ∧ slotL o = [.int .i64 x, .int .i64 y, .int .i64 z, .bool u] := by
        cases o with
        | none => exact ⟨0, 0, 0, false, rfl, rfl⟩
        | some n => exact ⟨n.1, n.2.1, n.2.2, true, rfl, rfl⟩
      rw [hs] at d0 d1 d2 d3
      have hR := Lib.hid (show fndV (ndAt S ((i : Int) + 2)) = _ from (congrArg fndV e.out).trans hf)
      have hhi' : (i : Int) + 2 < (2 : Int) + S.length := by omega
      have hlt : (i : Int) < S.length := by omega
      simp only [List.getElem?_cons_zero, List.getElem?_cons_succ] at d0 d1 d2 d3
      clear hs hf e ho h h2 hhi
      go_enter Tryz.func101, Tryz.ntmps101
      go_wp2
      have hb0 := heap_alloc2_old w (.cells #[.int .i64 0, .int .i64 0, .int .i64 0] 149 (0, 0)) (.cells #[.int .i64 x, .int .i64 y, .int .i64 z, .bool u] 171 (0, 0))
      have hb1 := heap_alloc2_new w (.cells #[.int .i64 0, .int .i64 0, .int .i64 0] 149 (0, 0)) (.cells #[.int .i64 x, .int .i64 y, .int .i64 z, .bool u] 171 (0, 0))
      have hB := below_alloc2 w (.cells #[.int .i64 0, .int .i64 0, .int .i64 0] 149 (0, 0)) (.cells #[.int .i64 x, .int .i64 y, .int .i64 z, .bool u] 171 (0, 0))
      clear c0 c1 c2 c3 cf d0 d1 d2 d3
      generalize hW : (w.alloc (.cells #[.int .i64 0, .int .i64 0, .int .i64 0] 149 (0, 0))).alloc (.cells #[.int .i64 x, .int .i64 y, .int .i64 z, .bool u] 171 (0, 0)) = W at *
      clear hW
      obtain ⟨n0, n1, n2, nf⟩ := now3 hb0 rfl
      obtain ⟨s0, s1, s2, s3, -⟩ := now4 hb1 rfl
      go_region
      all_goals
        go_wp2
        exact bodyPost_ret (v := .tuple #[.agg #[.int .i64 x, .int .i64 y, .int .i64 z], .bool u]) (by simp [results, Tryz.results101, go_sem, n0, n1, n2]) rfl ⟨by rw [hR.out], by repeat (first | (with_reducible exact hB) | (with_reducible exact hB.drew) | (with_reducible refine Below.drew ?_) | (with_reducible refine Below.setCell ?_ (by simp) _))⟩
theorem below_any {w : World} {B ab bm : Nat} {v : Value} {room full : Nat} {S : St} (h : ArAt w B ab bm v room full S) (hl : S.length ≤ 20000) (l id : Int) (h0 : 0 ≤ l) (h1 : l < 24) :
    Calls Tryz.prog 171 #[.pointer (some ⟨ab, 0, none⟩), .int .i64 l, .int .i64 id] w fun e w' => e = .returned (.bool (decide (l < lvl S id))) ∧ Below w.heap.size w w' := by
  have HE := fun w => isEnd_any id w
  have HF := find_any h hl id
  by_cases he : id = 0 ∨ id = 1
  · have hd : decide (0 ≤ id ∧ id < 2) = true := decide_eq_true (by omega)
    rw [hd] at HE
    have hR := Lib.hid (show decide (l < lvl S id) = true from decide_eq_true (by rw [lvl_end he]; exact h1))
    clear he hd HF
    go_enter Tryz.func171, Tryz.ntmps171
    go_wp2_with (refine (HE _).mono ?_; rintro e w' ⟨rfl, rfl⟩)
    go_ret
    exact ⟨by rw [hR.out]; rfl, Below.refl _ _⟩
  · have hd : decide (0 ≤ id ∧ id < 2) = false := decide_eq_false (by omega)
    rw [hd] at HE
    cases hn : ndAt S id with
    | none =>
      rw [hn] at HF
      unfold fndV at HF
      have hR := Lib.hid (show decide (l < lvl S id) = false from decide_eq_false (by rw [lvl_not he hn]; omega))
      clear he hd hn
      go_enter Tryz.func171, Tryz.ntmps171
      go_wp2_with (refine (HE _).mono ?_; rintro e w' ⟨rfl, rfl⟩)
      refine HF.mono ?_
      rintro e w1 ⟨rfl, hb1⟩
      clear HE HF
      go_wp2
      go_ret
      exact ⟨by rw [hR.out]; rfl, hb1.alloc hb1.size _⟩
    | some n =>
      rw [hn] at HF
      unfold fndV at HF
      have hR := Lib.hid (show lvl S id = n.1 from lvl_node hn)
      clear he hd hn
      go_enter Tryz.func171, Tryz.ntmps171
      go_wp2_with (refine (HE _).mono ?_; rintro e w' ⟨rfl, rfl⟩)
      refine HF.mono ?_
      rintro e w1 ⟨rfl, hb1⟩
      clear HE HF
      go_wp2
      go_ret
      exact ⟨by rw [hR.out]; rfl, hb1.alloc hb1.size _⟩
theorem permits_any {w : World} {B ab bm : Nat} {v : Value} {room full : Nat} {S : St} (h : ArAt w B ab bm v room full S) (hl : S.length ≤ 20000) (l lo hi : Int) :
    Calls Tryz.prog 152 #[.pointer (some ⟨ab, 0, none⟩), .agg #[.int .i64 l, .int .i64 lo, .int .i64 hi]] w fun e w' => e = .returned (.bool (okN S (l, lo, hi))) ∧ Below w.heap.size w w' := by
  have hB := below_alloc1 w (.cells #[.int .i64 l, .int .i64 lo, .int .i64 hi] 149 (0, 0))
  have h2 := h.below hB
  have HL := fun (h0 : 0 ≤ l) (h1 : l < 24) => below_any h2 hl l lo h0 h1
  have HH := fun (w1 : World) (hb : Below (w.alloc (.cells #[.int .i64 l, .int .i64 lo, .int .i64 hi] 149 (0, 0))).heap.size (w.alloc (.cells #[.int .i64 l, .int .i64 lo, .int .i64 hi] 149 (0, 0))) w1) (h0 : 0 ≤ l) (h1 : l < 24) => below_any (h2.below hb) hl l hi h0 h1
  have hn0 := heap_alloc_new w (.cells #[.int .i64 l, .int .i64 lo, .int .i64 hi] 149 (0, 0))
  have hR : Hid (okN S (l, lo, hi) = (decide (0 ≤ l) && decide (l < 24) && decide (l < lvl S lo) && decide (l < lvl S hi))) := Lib.hid rfl
  generalize okN S (l, lo, hi) = R at *
  clear h h2
  by_cases h0 : 0 ≤ l
  · by_cases h1 : l < 24
    · have HL := HL h0 h1
      have HH := fun w1 hb => HH w1 hb h0 h1
      cases e1 : decide (l < lvl S lo)
      · rw [e1] at HL
        have hR := Lib.hid (show R = false by rw [hR.out, e1]; simp)
        clear e1 HH
        go_enter Tryz.func152, Tryz.ntmps152
        go_wp2_with fail
        refine HL.mono ?_
        rintro e w1 ⟨rfl, hb1⟩
        clear HL
        go_wp2
        go_ret
        exact ⟨by rw [hR.out]; rfl, hB.trans (hb1.mono hB.size)⟩
      · rw [e1] at HL
        have hR := Lib.hid (show R = decide (l < lvl S hi) by rw [hR.out, e1, decide_eq_true h0, decide_eq_true h1]; simp)
        clear e1
        go_enter Tryz.func152, Tryz.ntmps152
        go_wp2_with fail
        refine HL.mono ?_
        rintro e w1 ⟨rfl, hb1⟩
        have HH := HH w1 hb1
        have hn1 := keep_blk hb1 hn0
        obtain ⟨n0, n1, n2, nf⟩ := now3 hn1 rfl
        clear HL
        go_wp2_with fail
        refine HH.mono ?_
        rintro e w2 ⟨rfl, hb2⟩
        clear HH
        go_wp2
        go_ret
        exact ⟨by rw [hR.out]; rfl, (hB.trans (hb1.mono hB.size)).trans (hb2.mono (hB.trans (hb1.mono hB.size)).size)⟩
    · have hR := Lib.hid (show R = false by rw [hR.out, decide_eq_false h1]; simp)
      have h1' : 24 ≤ l := by omega
      clear HL HH
      go_enter Tryz.func152, Tryz.ntmps152
      go_wp2
      go_ret
      exact ⟨by rw [hR.out]; rfl, hB⟩
  · have hR := Lib.hid (show R = false by rw [hR.out, decide_eq_false h0]; simp)
    clear HL HH
    go_enter Tryz.func152, Tryz.ntmps152
    go_wp2
    go_ret
    exact ⟨by rw [hR.out]; rfl, hB⟩
/-- What Node hands back. -/
def ndT : Option Nd → Value
  | none => .tuple #[.int .i64 0, .int .i64 0, .int .i64 0, .bool false]
  | some n => .tuple #[.int .i64 n.1, .int .i64 n.2.1, .int .i64 n.2.2, .bool true]
theorem node_any {w : World} {B ab bm : Nat} {v : Value} {room full : Nat} {S : St} (h : ArAt w B ab bm v room full S) (hl : S.length ≤ 20000) (id : Int) :
    Calls Tryz.prog 80 #[.pointer (some ⟨ab, 0, none⟩), .int .i64 id] w fun e w' => e = .returned (ndT (ndAt S id)) ∧ Below w.heap.size w w' := by
  have HF := find_any h hl id
  generalize ndAt S id = o at *
  obtain ⟨x, y, z, u, hf, hs⟩ : ∃ (x y z : Int) (u : Bool), fndV o = .tuple #[.agg #[.int .i64 x, .int .i64 y, .int .i64 z], .bool u] ∧ ndT o = .tuple #[.int .i64 x, .int .i64 y, .int .i64 z, .bool u] := by
    cases o with
    | none => exact ⟨0, 0, 0, false, rfl, rfl⟩
    | some n => exact ⟨n.1, n.2.1, n.2.2, true, rfl, rfl⟩
  rw [hf] at HF
  have hR := Lib.hid hs
  clear hf hs
  go_enter Tryz.func80, Tryz.ntmps80
  go_wp2_with fail
  refine HF.mono ?_
  rintro e w1 ⟨rfl, hb1⟩
  clear HF
  go_wp2
  have hb0 := heap_alloc_new w1 (.cells #[.int .i64 x, .int .i64 y, .int .i64 z] 149 (0, 0))
  have hB := hb1.alloc hb1.size (.cells #[.int .i64 x, .int .i64 y, .int .i64 z] 149 (0, 0))
  generalize w1.alloc (.cells #[.int .i64 x, .int .i64 y, .int .i64 z] 149 (0, 0)) = W at *
  obtain ⟨n0, n1, n2, nf⟩ := now3 hb0 rfl
  go_quiet (fail)
  go_wp2
  exact bodyPost_ret (v := .tuple #[.int .i64 x, .int .i64 y, .int .i64 z, .bool u]) (by simp [results, Tryz.results80, go_sem]) rfl ⟨by rw [hR.out], below_drews hB _⟩
end Go.Proofs.YtgajgjlldohekaaGreat
namespace Go.Proofs.YtgajgjlldohekaaGreat
open Go.RowKit Go.Joins

/-- n flags, as cells. -/
def seenA (n : Nat) (f : Nat → Bool) : Array Value := ((List.range n).map fun p => Value.bool (f p)).toArray
theorem seenA_get {n p : Nat} (f : Nat → Bool) (h : p < n) : (seenA n f)[p]? = some (.bool (f p)) := by
  unfold seenA; simp [h]
theorem seenA_set {n p : Nat} {f g : Nat → Bool} {u : Bool} (hp : g p = u) (h : ∀ j, j ≠ p → g j = f j) : (seenA n f).setIfInBounds p (.bool u) = seenA n g := by
  unfold seenA
  rw [List.setIfInBounds_toArray]
  congr 1
  apply List.ext_getElem?
  intro j
  rw [List.getElem?_set]
  by_cases hj : j < n
  · by_cases e : p = j
    · subst e
      simp [hj, hp]
    · simp [e, hj, h j (Ne.symm e)]
  · by_cases e : p = j
    · subst e
      simp [hj]
    · simp [e, hj]
def seenO (n : Nat) (f : Nat → Bool) : Obj := .cells (seenA n f) 4 (0, 0)
theorem seen_cell {w : World} {sbk n p : Nat} {f : Nat → Bool} (h : w.heap[sbk]? = some (seenO n f)) (hp : p < n) : w.cell? ⟨sbk, p, none⟩ = some (.bool (f p)) ∧ w.frozen? ⟨sbk, p, none⟩ = false := by
  unfold seenO at h
  exact ⟨by rw [cell_of_block h]; exact seenA_get f hp, unfrozen_of_block h p⟩
/-- Marked: what was, and what is come to from id. -/
def MarkDone (w : World) (sbk : Nat) (S : St) (f : Nat → Bool) (id : Int) (e : Ending) (w' : World) : Prop :=
  e = .returned (.tuple #[]) ∧ ∃ g : Nat → Bool, (∀ j, j < S.length → (g j = true ↔ f j = true ∨ Rch S [id] j)) ∧ w'.heap[sbk]? = some (seenO S.length g) ∧ w.grownBy w' (some sbk)
theorem ArAt.grown {w w' : World} {B ab bm : Nat} {v : Value} {room full : Nat} {S : St} (h : ArAt w B ab bm v room full S) {sbk : Nat} {C : Array Value} {T : TypeId} {z : Nat × Nat} (hs : w.heap[sbk]? = some (.cells C T z)) (h1 : T ≠ 108) (h2 : T ≠ 171) (hg : w.grownBy w' (some sbk)) : ArAt w' B ab bm v room full S := by
  have hn := h.not_fp hs h1 h2
  have hk : ∀ k, k < w.heap.size → Fp ab bm v k → w'.heap[k]? = w.heap[k]? := fun k hk hf => hg.block k hk (by intro e; injection e with e; subst e; exact hn hf)
  exact ⟨h.base, (hk ab h.lt.2.1 (.inl rfl)).trans h.head, own_keep h.rows (fun g hv _ hl => hk g hl (.inr (.inr hv))), h.ids.keep (hk bm h.lt.2.2 (.inr (.inl rfl)))⟩
theorem Tryz.neBoolA : (4 : TypeId) ≠ 108 := by decide
theorem Tryz.neBoolS : (4 : TypeId) ≠ 171 := by decide
theorem own_some {w : World} {base size n : Nat} {e : TypeId} {v : Value} {xs : List Value} (h : w.ownsRow base e size v n xs) (hn : 0 < n) : ∃ g c, v = .slice (some ⟨g, 0, none⟩) n c := by
  rcases h.2 with ⟨hv, h0⟩ | ⟨g, cap, cur, hv, _⟩
  · omega
  · exact ⟨g, cap, hv⟩
theorem grown_any {w w1 : World} (h : Below w.heap.size w w1) (r : Option Nat) : w.grownBy w1 r := ⟨h.os, h.tape, h.output, h.size, fun k hk _ => h.block k hk⟩
theorem grown_then {a b c : World} {sbk : Nat} (h : a.grownBy b (some sbk)) (k : b.grownBy c (some sbk)) : a.grownBy c (some sbk) :=
  ⟨k.os.trans h.os, k.tape.trans h.tape, k.output.trans h.output, Nat.le_trans h.size k.size, fun i hi hn => (k.block i (Nat.lt_of_lt_of_le hi h.size) hn).trans (h.block i hi hn)⟩
theorem mark_none {B ab bm : Nat} {v : Value} {room full : Nat} {S : St} (hl : S.length ≤ 20000) (sbk : Nat) (id : Int) (f : Nat → Bool) (w : World) (hn : ndAt S id = none) (h : ArAt w B ab bm v room full S) (hs : w.heap[sbk]? = some (seenO S.length f)) :
    Calls Tryz.prog 123 #[.pointer (some ⟨ab, 0, none⟩), .slice (some ⟨sbk, 0, none⟩) S.length S.length, .int .i64 id] w (MarkDone w sbk S f id) := by
  have HF := find_any h hl id
  rw [hn] at HF
  unfold fndV at HF
  have hno := Lib.hid (fun j => Rch.nobody hn (i := j))
  clear hn
  go_enter Tryz.func123, Tryz.ntmps123
  go_wp2_with fail
  refine HF.mono ?_
  rintro e w1 ⟨rfl, hb1⟩
  clear HF
  go_wp2
  go_end0
  have hB := hb1.alloc hb1.size (.cells #[.int .i64 0, .int .i64 0, .int .i64 0] 149 (0, 0))
  exact ⟨rfl, f, fun j _ => ⟨.inl, fun o => o.elim (fun x => x) fun r => absurd r (hno.out j)⟩, keep_blk hB hs, grown_any hB _⟩
set_option maxHeartbeats 1000000 in
theorem mark_any {B ab bm : Nat} {v : Value} {room full : Nat} {S : St} (hV : VSt S) (hl : S.length ≤ 20000) (sbk : Nat) (k : Nat) :
    ∀ (id : Int) (f : Nat → Bool) (w : World) (l : Int), (∀ n, ndAt S id = some n → 24 ≤ n.1 + k ∧ l < n.1) → ArAt w B ab bm v room full S → w.heap[sbk]? = some (seenO S.length f) → Clo S f l →
    Calls Tryz.prog 123 #[.pointer (some ⟨ab, 0, none⟩), .slice (some ⟨sbk, 0, none⟩) S.length S.length, .int .i64 id] w (MarkDone w sbk S f id) := by
  induction k with
  | zero =>
    intro id f w l hid h hs hc
    cases hn : ndAt S id with
    | none => exact mark_none hl sbk id f w hn h hs
    | some n =>
      have h1 := ((okN_iff _ _).1 (hV.ok _ n (ndAt_some.1 hn).2)).2.1
      have h2 := (hid n hn).1
      omega
  | succ k ih =>
    intro id f w l hid h hs hc
    cases hn : ndAt S id with
    | none => exact mark_none hl sbk id f w hn h hs
    | some n =>
      obtain ⟨hk, hlt⟩ := hid n hn
      obtain ⟨h2, hi⟩ := ndAt_some.1 hn
      obtain ⟨i, rfl⟩ : ∃ i : Nat, id = (i : Int) + 2 := ⟨(id - 2).toNat, by omega⟩
      rw [show (((i : Int) + 2 - 2).toNat) = i by omega] at hi
      have hil := (List.getElem?_eq_some_iff.1 hi).1
      have HF := find_any h hl ((i : Int) + 2)
      rw [hn] at HF
      unfold fndV at HF
      have hlow := fun (j : Nat) m => kid_level hV (j := j) (m := m) hi
      obtain ⟨x, y, z⟩ := n
      dsimp only at *
      cases hfi : f i
      · have hkid : ∀ id : Int, (id = y ∨ id = z) → ∀ n', ndAt S id = some n' → 24 ≤ n'.1 + k ∧ x < n'.1 := fun id he n' hn' => by
          obtain ⟨a, b⟩ := ndAt_some.1 hn'
          have := hlow (id - 2).toNat n' (by rcases he with rfl | rfl; exact .inl (by omega); exact .inr (by omega)) b
          omega
        have hlo := hkid y (.inl rfl)
        have hhi := hkid z (.inr rfl)
        have hc1 : Clo S (fun j => f j || decide (j = i)) x := hc.one hi hlt fun _ => rfl
        have hall := Lib.hid (fun g2 g3 => mark_all (S := S) (f := f) (g1 := fun j => f j || decide (j = i)) (g2 := g2) (g3 := g3) hi fun _ => rfl)
        have hcl := Lib.hid hc1
        clear hc hid hn hlow hkid hk
        go_enter Tryz.func123, Tryz.ntmps123
        go_wp2_with fail
        refine HF.mono ?_
        rintro e w1 ⟨rfl, hb1⟩
        have hB := hb1.alloc hb1.size (.cells #[.int .i64 x, .int .i64 y, .int .i64 z] 149 (0, 0))
        have hn1 := heap_alloc_new w1 (.cells #[.int .i64 x, .int .i64 y, .int .i64 z] 149 (0, 0))
        have hs1 := keep_blk hB hs
        have h1 := h.below hB
        have hil' : (i : Int) < S.length := by omega
        obtain ⟨q, qf⟩ := seen_cell hs1 hil
        rw [hfi] at q
        have hne : w1.heap.size ≠ sbk := by have := size_of_block hs; have := hb1.size; omega
        have hG2 : w.grownBy ((w1.alloc (.cells #[.int .i64 x, .int .i64 y, .int .i64 z] 149 (0, 0))).setCell ⟨sbk, i, none⟩ (.bool true)) (some sbk) := grown_set (grown_any hB _)
        have hs2 : ((w1.alloc (.cells #[.int .i64 x, .int .i64 y, .int .i64 z] 149 (0, 0))).setCell ⟨sbk, i, none⟩ (.bool true)).heap[sbk]? = some (seenO S.length fun j => f j || decide (j = i)) := by
          unfold seenO at hs1 ⊢
          rw [block_setCell hs1, seenA_set (g := fun j => f j || decide (j = i)) (by simp) (fun j hj => by simp [hj])]
        have hn2 := keep_set (a := ⟨sbk, i, none⟩) (u := .bool true) hne hn1
        have h2 := h.grown (w' := (w1.alloc (.cells #[.int .i64 x, .int .i64 y, .int .i64 z] 149 (0, 0))).setCell ⟨sbk, i, none⟩ (.bool true)) hs Tryz.neBoolA Tryz.neBoolS hG2
        have HL := ih y _ _ x hlo h2 hs2 hc1
        obtain ⟨p0, p1, p2, -⟩ := now3 hn2 rfl
        clear HF hn1 hs1 h1 hfi hlo hc1
        go_wp2_with fail
        refine HL.mono ?_
        rintro e w3 ⟨rfl, g2, hg2, hs3, hG3⟩
        have hn3 := (grown_at hG3 (size_of_block hn2) hne).trans hn2
        have h3 := h2.grown hs2 Tryz.neBoolA Tryz.neBoolS hG3
        have HH := ih z g2 w3 x hhi h3 hs3 (hcl.out.two hg2)
        obtain ⟨r0, r1, r2, -⟩ := now3 hn3 rfl
        clear HL hn2 h2 p0 p1 p2 ih
        go_wp2_with fail
        refine HH.mono ?_
        rintro e w4 ⟨rfl, g3, hg3, hs4, hG4⟩
        clear HH
        go_wp2
        go_end0
        exact ⟨rfl, g3, hall.out g2 g3 hg2 hg3, hs4, grown_then hG2 (grown_then hG3 hG4)⟩
      · have hdone := Lib.hid (fun j => mark_seen hV hc hfi hi hlt j)
        clear ih hc hid hn hlow
        go_enter Tryz.func123, Tryz.ntmps123
        go_wp2_with fail
        refine HF.mono ?_
        rintro e w1 ⟨rfl, hb1⟩
        have hB := hb1.alloc hb1.size (.cells #[.int .i64 x, .int .i64 y, .int .i64 z] 149 (0, 0))
        have hs1 := keep_blk hB hs
        have hil' : (i : Int) < S.length := by omega
        obtain ⟨q, qf⟩ := seen_cell hs1 hil
        rw [hfi] at q
        clear HF
        go_wp2
        go_end0
        exact ⟨rfl, f, fun j _ => hdone.out j, hs1, grown_any hB _⟩
end Go.Proofs.YtgajgjlldohekaaGreat
