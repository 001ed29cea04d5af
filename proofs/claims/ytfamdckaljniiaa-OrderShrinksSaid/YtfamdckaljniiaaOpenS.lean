/- A slice of sets that comes in. -/
import Derived.Test.YtfamdckaljniiaaOpenI
import Derived.Test.YtfamdckaljniiaaStsAt
import Derived.Deep.Slices
namespace Go.Proofs.Ytfamdckaljniiaa
open Go.ChangeShapes Go.WideShapes Go.ChangeAt Go.RowKit Go.Joins

theorem Try.cellsSet4 : Try.prog.cellsOf 42 = 4 := by kernel_rfl
set_option maxRecDepth 100000 in
theorem set_of {H : Type} {enc : TypeId × Value → H} {w : World} {base n : Nat} {sp : Nat → Bool} {held : Bool} {c0 c1 c2 c3 : Value} {y : DataW H × List MemPlace}
    (h : DataW.trod enc Try.prog w base sp held n 42 [c0, c1, c2, c3] = some y) : ∃ S : BitVec 256, c0 = wv (wd S 0) ∧ c1 = wv (wd S 1) ∧ c2 = wv (wd S 2) ∧ c3 = wv (wd S 3) := by
  obtain ⟨xs, m, _, _, _, hx, he⟩ := DataW.trod_array Try.underlying42 h
  rw [Try.cellsWord] at he
  obtain ⟨y0, y1, y2, y3, rfl⟩ : ∃ y0 y1 y2 y3, xs = [y0, y1, y2, y3] := by
    match xs, hx with
    | [a, b, c, d], _ => exact ⟨a, b, c, d, rfl⟩
  obtain ⟨x0, e0⟩ := word_of (he 0 (by decide))
  obtain ⟨x1, e1⟩ := word_of (he 1 (by decide))
  obtain ⟨x2, e2⟩ := word_of (he 2 (by decide))
  obtain ⟨x3, e3⟩ := word_of (he 3 (by decide))
  obtain ⟨S, f0, f1, f2, f3⟩ := of_words x0 x1 x2 x3
  exact ⟨S, by rw [f0]; exact e0, by rw [f1]; exact e1, by rw [f2]; exact e2, by rw [f3]; exact e3⟩
set_option maxRecDepth 100000 in
theorem sets_of {H : Type} {enc : TypeId × Value → H} {w : World} {base m : Nat} {sp : Nat → Bool} {held : Bool} {c : Value} {y : DataW H × List MemPlace}
    (h : DataW.trod enc Try.prog w base sp held m 22 [c] = some y) : ∃ Ss, SetsAt w w.heap.size c Ss := by
  rcases Go.Deep.open_slice Try.underlying22 h with ⟨e, _⟩ | ⟨a, len, cap, m, n, D, Pl, e, hb, hl, hm, hmm, hx, hel⟩
  · simp at e
    subst e
    exact ⟨[], none, 0, rfl, by decide, fun h => absurd h (by simp)⟩
  · simp at e
    subst e
    have hle : len ≤ m := by rw [hmm]; split <;> omega
    have hmx : maxLen = 9223372036854775807 := rfl
    have each : ∀ i, i < len → ∃ S : BitVec 256, w.cell? (a.add (i * 4)) = some (wv (wd S 0)) ∧ w.cell? ((a.add (i * 4)).add 1) = some (wv (wd S 1)) ∧ w.cell? ((a.add (i * 4)).add 2) = some (wv (wd S 2)) ∧ w.cell? ((a.add (i * 4)).add 3) = some (wv (wd S 3)) := by
      intro i hi
      obtain ⟨cs, hcs, ht⟩ := hel i (by omega)
      rw [Try.cellsSet4] at hcs
      obtain ⟨_, hn, hat⟩ := World.cells?_some hcs
      match cs, hn with
      | [c0, c1, c2, c3], _ =>
        have a0 := hat 0 (by decide)
        have a1 := hat 1 (by decide)
        have a2 := hat 2 (by decide)
        have a3 := hat 3 (by decide)
        obtain ⟨S, rfl, rfl, rfl, rfl⟩ := set_of ht
        exact ⟨S, by simpa [Addr.add] using a0, by simpa using a1, by simpa using a2, by simpa using a3⟩
    obtain ⟨F, hF⟩ := Go.Deep.choose_lt each
    refine ⟨(List.range len).map F, some a, cap, by simp, by simp; omega, fun h0 => ?_⟩
    have hl0 : 0 < len := by simpa using h0
    obtain ⟨z0, -⟩ := hF 0 hl0
    obtain ⟨ea, hblk⟩ := plain_addr (by simpa using z0)
    refine ⟨a.block, a.off, congrArg some ea, hblk, fun j l hj => ?_⟩
    rw [List.getElem?_map] at hj
    obtain ⟨j', hj', rfl⟩ := Option.map_eq_some_iff.1 hj
    obtain ⟨hlt, e⟩ := List.getElem?_eq_some_iff.1 hj'
    have e' : j' = j := by simpa using e.symm
    subst e'
    obtain ⟨q0, q1, q2, q3⟩ := hF j' (by simpa using hlt)
    rw [ea] at q0 q1 q2 q3
    simp only [add_plain] at q0 q1 q2 q3
    exact ⟨q0, q1, q2, q3⟩
set_option maxRecDepth 100000 in
theorem open_sets {H : Type} {enc : TypeId × Value → H} {w : World} {base : Nat} {sp : Nat → Bool} {held : Bool} {v : Value} {d : DataW H} {p : List MemPlace}
    (hc : v.cells = #[v]) (h : DataW.Trod enc Try.prog w base sp held 22 v d p) : ∃ Ss, SetsAt w w.heap.size v Ss := by
  obtain ⟨fuel, hf⟩ := h
  rw [hc] at hf
  exact sets_of hf
end Go.Proofs.Ytfamdckaljniiaa
