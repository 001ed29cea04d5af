/- Parse: a text's table, in memory. -/
import Derived.Test.YtpjjnafegngdkaaDoorParse03
namespace Go.Proofs.YtpjjnafegngdkaaDoor
open Go.RowKit Go.Joins

theorem own_cells {w : World} {base size n : Nat} {e : TypeId} {v : Value} {xs : List Value} (h : w.ownsRow base e size v n xs) (hn : 0 < n) :
    ∃ g c, v = .slice (some ⟨g, 0, none⟩) n c ∧ g < w.heap.size ∧ n ≤ 9223372036854775807 ∧ ∀ i x, xs[i]? = some x → w.cell? ⟨g, i, none⟩ = some x := by
  rcases h.2 with ⟨rfl, h0⟩ | ⟨g, cap, cur, rfl, hg, hgg, h1, h2, h3, h4⟩
  · omega
  · have hm : maxLen = 9223372036854775807 := rfl
    refine ⟨g, cap, rfl, size_of_block hgg, by omega, fun i x hx => ?_⟩
    rw [cell_of_block hgg]
    rw [← h4, List.getElem?_take] at hx
    split at hx
    · simpa using hx
    · cases hx
theorem linesV_at : ∀ (ls : List Ln) (os : List Value) (j : Nat) (l : Ln) (ov : Value), ls[j]? = some l → os[j]? = some ov →
    (linesV ls os)[j * 3]? = some (bvv l.m) ∧ (linesV ls os)[j * 3 + 1]? = some (bvv l.v) ∧ (linesV ls os)[j * 3 + 2]? = some ov
  | [], _, _, _, _, h, _ => by simp at h
  | _ :: _, [], _, _, _, _, h => by simp at h
  | a :: ls, b :: os, 0, l, ov, h, h' => by
    simp at h h'
    subst h h'
    exact ⟨rfl, rfl, rfl⟩
  | a :: ls, b :: os, j + 1, l, ov, h, h' => by
    obtain ⟨x, y, z⟩ := linesV_at ls os j l ov (by simpa using h) (by simpa using h')
    have e : linesV (a :: ls) (b :: os) = bvv a.m :: bvv a.v :: b :: linesV ls os := rfl
    rw [e, show (j + 1) * 3 = j * 3 + 3 by omega]
    exact ⟨x, y, z⟩
theorem own_ints {w : World} {bd : Nat} {v : Value} {o : List Int} (h : w.ownsRow bd 3 1 v o.length (intsI o)) : IntsAt w w.heap.size v o := by
  rcases Nat.eq_zero_or_pos o.length with h0 | h0
  · obtain ⟨A, c, rfl⟩ := own_form h
    exact ⟨A, c, rfl, by omega, fun h => by omega⟩
  · obtain ⟨g, c, rfl, hg, hlen, hc⟩ := own_cells h h0
    refine ⟨_, c, rfl, hlen, fun _ => ⟨g, 0, rfl, hg, fun j x hx => ?_⟩⟩
    rw [Nat.zero_add]
    exact hc j _ (by simp [intsI, hx])
theorem RowsAt.lines {w : World} {bd : Nat} {L : Value} {ls : List Ln} (h : RowsAt w bd L ls) : LinesAt w w.heap.size L ls := by
  obtain ⟨os, h1, h2, h3⟩ := h
  rcases Nat.eq_zero_or_pos ls.length with h0 | h0
  · obtain ⟨A, c, rfl⟩ := own_form h2
    exact ⟨A, c, rfl, by omega, fun h => by omega⟩
  · obtain ⟨g, c, rfl, hg, hlen, hc⟩ := own_cells h2 h0
    refine ⟨_, c, rfl, hlen, fun _ => ⟨g, 0, rfl, hg, fun j l hl => ?_⟩⟩
    have hj : j < os.length := by rw [h1]; exact (List.getElem?_eq_some_iff.1 hl).1
    have ho : os[j]? = some os[j] := List.getElem?_eq_getElem hj
    obtain ⟨a, b, d⟩ := linesV_at ls os j l _ hl ho
    rw [Nat.zero_add]
    exact ⟨os[j], hc _ _ a, hc _ _ b, hc _ _ d, own_ints (h3 j l _ hl ho)⟩
/-- What Parse leaves. -/
def ParseLeaves (w : World) (R : Option Tb) (E : Int × Int) (e : Ending) (w' : World) : Prop :=
  Below w.heap.size w w' ∧ ((∃ t L, R = some t ∧ e = .returned (.tuple #[tv t.k t.i t.n L, .int .i64 0, .int .i64 0]) ∧ LinesAt w' w'.heap.size L t.ls) ∨
    (R = none ∧ E.2 ≠ 0 ∧ e = .returned (.tuple #[tv 0 0 0 (.slice none 0 0), .int .i64 E.1, .int .i64 E.2])))
set_option maxHeartbeats 1000000 in
set_option maxRecDepth 100000 in
theorem parse_long (S : List UInt8) (hS : S.length ≤ 9000) (h8 : 8000 < S.length) (w : World) :
    Calls Tryd.prog 13 #[.string (str S)] w (ParseLeaves w (parseT S) (parseE S)) := by
  have hR : parseT S = none := by unfold parseT; rw [if_pos h8]
  have hE : parseE S = (0, 3) := by unfold parseE; rw [if_pos h8]
  rw [hR, hE]
  have hs := size_str S
  have h1 : (8000 : Int) < ((str S).size : Int) := by omega
  have h2 : (str S).size ≤ 9000 := by omega
  clear hs hR hE h8
  generalize str S = s at *
  go_enter Tryd.func13, Tryd.ntmps13
  go_wp2
  exact bodyPost_ret (v := .tuple #[tv 0 0 0 (.slice none 0 0), .int .i64 0, .int .i64 3]) (by simp [results, Tryd.results13, go_sem, tv]) rfl
    ⟨below_alloc1 w _, Or.inr ⟨rfl, by decide, rfl⟩⟩
theorem heap2_a (w : World) (o1 o2 : Obj) : ((w.alloc o1).alloc o2).heap[w.heap.size]? = some o1 := heap_alloc2_old _ _ _
theorem RowsAt.low {w : World} {bd : Nat} {L : Value} {ls : List Ln} (h : RowsAt w bd L ls) {a : Addr} (ha : a.block < bd) (u : Value) : RowsAt (w.setCell a u) bd L ls := by
  obtain ⟨os, h1, h2, h3⟩ := h
  exact ⟨os, h1, ownsRow_setCell_below h2 ha u, fun j l ov hl ho => ownsRow_setCell_below (h3 j l ov hl ho) ha u⟩
theorem RowsAt.low4 {w : World} {bd : Nat} {L : Value} {ls : List Ln} (h : RowsAt w bd L ls) {b : Nat} (ha : b < bd) (u0 u1 u2 u3 : Value) : RowsAt ((((w.setCell ⟨b, 0, none⟩ u0).setCell ⟨b, 1, none⟩ u1).setCell ⟨b, 2, none⟩ u2).setCell ⟨b, 3, none⟩ u3) bd L ls :=
  (((h.low ha u0).low ha u1).low ha u2).low ha u3
theorem cellsT {w : World} {b : Nat} {k i n : Int} {L : Value} (h : w.heap[b]? = some (tb k i n L)) (u0 u1 u2 u3 : Value) : ((((w.setCell ⟨b, 0, none⟩ u0).setCell ⟨b, 1, none⟩ u1).setCell ⟨b, 2, none⟩ u2).setCell ⟨b, 3, none⟩ u3).heap[b]? = some (.cells #[u0, u1, u2, u3] 24 (0, 0)) := by
  unfold tb at h
  have h1 := block_setCell (i := 0) h u0
  have h2 := block_setCell (i := 1) h1 u1
  have h3 := block_setCell (i := 2) h2 u2
  rw [block_setCell h3]
  rfl
theorem heap2_b (w : World) (o1 o2 : Obj) : ((w.alloc o1).alloc o2).heap[w.heap.size + 1]? = some o2 := by
  have := heap_alloc_new (w.alloc o1) o2
  simpa using this
/-- A table's box, here and now. -/
theorem nowT {w : World} {b : Nat} {k i n : Int} {L : Value} (h : w.heap[b]? = some (tb k i n L)) :
    w.cell? ⟨b, 0, none⟩ = some (.int .i64 k) ∧ w.cell? ⟨b, 1, none⟩ = some (.int .i64 i) ∧ w.cell? ⟨b, 2, none⟩ = some (.int .i64 n) ∧ w.cell? ⟨b, 3, none⟩ = some L ∧ (∀ j : Nat, w.frozen? ⟨b, j, none⟩ = false) := by
  unfold tb at h
  exact ⟨by rw [cell_of_block h]; rfl, by rw [cell_of_block h]; rfl, by rw [cell_of_block h]; rfl, by rw [cell_of_block h]; rfl, unfrozen_of_block h⟩
def outT : (Nat × Int) ⊕ (Nat × Dr) → Option Tb
  | .inl _ => none
  | .inr (_, d) => if d.last = 6 then some ⟨d.k, d.i, d.n, d.ls⟩ else none
def outE : (Nat × Int) ⊕ (Nat × Dr) → Int × Int
  | .inl (n, e) => (n, e)
  | .inr (n, d) => if d.last = 6 then (0, 0) else (n, 7)
theorem parseT_out {S : List UInt8} (h : ¬ 8000 < S.length) : parseT S = outT (pGo S [] dr0 0) := by
  unfold parseT; rw [if_neg h]
  rcases pGo S [] dr0 0 with a | ⟨a, b⟩ <;> rfl
theorem parseE_out {S : List UInt8} (h : ¬ 8000 < S.length) : parseE S = outE (pGo S [] dr0 0) := by
  unfold parseE; rw [if_neg h]
  rcases pGo S [] dr0 0 with ⟨a, b⟩ | ⟨a, b⟩ <;> rfl
set_option maxHeartbeats 1000000 in
set_option maxRecDepth 100000 in
theorem parse_short (S : List UInt8) (h8 : S.length ≤ 8000) (w : World) (hkw : KW w) :
    Calls Tryd.prog 13 #[.string (str S)] w (ParseLeaves w (parseT S) (parseE S)) := by
  have hmf : ∀ (fn : Fn) (first cap : Array Value) (w : World), (Instr.makeFunc fn first cap).run Tryd.prog w = .ok (.func fn first cap) w := fun _ _ _ _ => rfl
  have hW0 : Below w.heap.size w ((w.alloc (tb 0 0 0 (.slice none 0 0))).alloc (db 1 0 0 (.slice none 0 0) 0 (-1))) := below_alloc2 w _ _
  have HE := each_any S h8 (w.heap.size + 1) dr0 good0 (by decide) (.slice none 0 0) ((w.alloc (tb 0 0 0 (.slice none 0 0))).alloc (db 1 0 0 (.slice none 0 0) 0 (-1))) (heap2_b _ _ _) ⟨[], rfl, World.ownsRow_nil _ _ _ _, by simp [dr0]⟩ (hkw.below hW0) (by have := hkw.2.1; omega)
  have hk0 := Lib.hid (heap2_a w (tb 0 0 0 (.slice none 0 0)) (db 1 0 0 (.slice none 0 0) 0 (-1)))
  have hlt : w.heap.size < ((w.alloc (tb 0 0 0 (.slice none 0 0))).alloc (db 1 0 0 (.slice none 0 0) 0 (-1))).heap.size := by simp; omega
  have hs := size_str S
  have h1 : ¬ (8000 : Int) < ((str S).size : Int) := by omega
  have h2 : (str S).size ≤ 8000 := by omega
  have hnS : ¬ 8000 < S.length := by omega
  have hT := Lib.hid (parseT_out hnS)
  have hE := Lib.hid (parseE_out hnS)
  generalize parseT S = RT at *
  generalize parseE S = RE at *
  generalize pGo S [] dr0 0 = R at *
  clear hs hnS h8 hkw
  generalize str S = s at *
  have hW := Lib.hid hW0
  clear hW0
  unfold tb db at HE
  go_enter Tryd.func13, Tryd.ntmps13
  go_wp2_with fail
  refine HE.mono ?_
  intro e w1 hL
  clear HE
  rcases hL with ⟨m, x, hR, hx, rfl, hB⟩ | ⟨m, d, L, hR, rfl, hbox, hrows, hB⟩
  · have hxb : ((x : Int) != 0) = true := by rw [bne_iff_ne]; exact hx
    have hk1 : w1.heap[w.heap.size]? = some (tb 0 0 0 (.slice none 0 0)) := (hB.block _ (by omega)).trans hk0.out
    have hT1 := Lib.hid (hT.out.trans (congrArg outT hR))
    have hE1 := Lib.hid (hE.out.trans (congrArg outE hR))
    have hx' := Lib.hid hx
    obtain ⟨q0, q1, q2, q3, qf⟩ := nowT hk1
    have hz := size_of_block hk1
    have hk := Lib.hid hk1
    have hbB := Lib.hid (hW.out.trans (hB.mono (by omega)))
    clear hR hT hE hx hk0 hlt hk1 hB hW
    go_wp2
    obtain ⟨d0, d1, d2, d3, -⟩ := nowT (cellsT hk.out (.int .i64 0) (.int .i64 0) (.int .i64 0) (.slice none 0 0))
    exact bodyPost_ret (v := .tuple #[tv 0 0 0 (.slice none 0 0), .int .i64 m, .int .i64 x]) (by simp [results, Tryd.results13, go_sem, tv, d0, d1, d2, d3]) rfl
      ⟨below4 (Nat.le_refl _) hbB.out, Or.inr ⟨hT1.out, by rw [hE1.out]; exact hx'.out, by rw [hE1.out]; rfl⟩⟩
  · obtain ⟨A, c, rfl⟩ := hrows.form
    have hk1 : w1.heap[w.heap.size]? = some (tb 0 0 0 (.slice none 0 0)) := (hB.block _ (by omega)).trans hk0.out
    have hT1 := Lib.hid (hT.out.trans (congrArg outT hR))
    have hE1 := Lib.hid (hE.out.trans (congrArg outE hR))
    obtain ⟨q0, q1, q2, q3, qf⟩ := nowT hk1
    have hz := size_of_block hk1
    have hk := Lib.hid hk1
    have hbB := Lib.hid (hW.out.trans (hB.mono (by omega)))
    obtain ⟨p0, p1, p2, p3, p4, p5, pf⟩ := now6 hbox
    have hz2 := size_of_block hbox
    clear hR hT hE hk0 hlt hk1 hB hW hbox
    by_cases h6 : d.last = 6
    · have hd : ((d.last : Int) != 6) = false := by simpa using h6
      have hT2 : Hid (RT = some ⟨d.k, d.i, d.n, d.ls⟩) := Lib.hid (hT1.out.trans (if_pos h6))
      clear hT1 hE1 h6
      go_wp2
      obtain ⟨d0, d1, d2, d3, -⟩ := nowT (cellsT hk.out (.int .i64 d.k) (.int .i64 d.i) (.int .i64 d.n) (.slice A d.ls.length c))
      have hLs := (hrows.low4 (b := w.heap.size) (by omega) (.int .i64 d.k) (.int .i64 d.i) (.int .i64 d.n) (.slice A d.ls.length c)).lines
      exact bodyPost_ret (v := .tuple #[tv d.k d.i d.n (.slice A d.ls.length c), .int .i64 0, .int .i64 0]) (by simp [results, Tryd.results13, go_sem, tv, d0, d1, d2, d3]) rfl
        ⟨below4 (Nat.le_refl _) hbB.out, Or.inl ⟨_, _, hT2.out, rfl, hLs⟩⟩
    · have hd : ((d.last : Int) != 6) = true := by simpa using h6
      have hT2 : Hid (RT = none) := Lib.hid (hT1.out.trans (if_neg h6))
      have hE2 : Hid (RE = ((m : Int), (7 : Int))) := Lib.hid (hE1.out.trans (if_neg h6))
      clear hT1 hE1 h6
      go_wp2
      obtain ⟨d0, d1, d2, d3, -⟩ := nowT (cellsT hk.out (.int .i64 0) (.int .i64 0) (.int .i64 0) (.slice none 0 0))
      exact bodyPost_ret (v := .tuple #[tv 0 0 0 (.slice none 0 0), .int .i64 m, .int .i64 7]) (by simp [results, Tryd.results13, go_sem, tv, d0, d1, d2, d3]) rfl
        ⟨below4 (Nat.le_refl _) hbB.out, Or.inr ⟨hT2.out, by rw [hE2.out]; show (7 : Int) ≠ 0; decide, by rw [hE2.out]⟩⟩
theorem parse_any (S : List UInt8) (hS : S.length ≤ 9000) (w : World) (hkw : KW w) :
    Calls Tryd.prog 13 #[.string (str S)] w (ParseLeaves w (parseT S) (parseE S)) := by
  rcases Nat.lt_or_ge 8000 S.length with h | h
  · exact parse_long S hS h w
  · exact parse_short S h w hkw
end Go.Proofs.YtpjjnafegngdkaaDoor
