/- What is asked of an arena: a slice of asks, in memory and as it comes in. -/
import Derived.Test.YtkcchdaadajjcaaOpenI
import Derived.Deep.Slices
import Derived.Deep.Fields
import Derived.ChangeSame
namespace Go.Proofs.Ytkcchdaadajjcaa
open Go.ChangeShapes Go.WideShapes Go.ChangeAt Go.RowKit Go.Joins

/-- An ask: its kind, its level, low and high, and what it keeps. -/
structure Ak where
  k : Int
  l : Int
  lo : Int
  hi : Int
  ks : List Int
instance : Inhabited Ak := ⟨⟨0, 0, 0, 0, []⟩⟩
/-- The slice v reads as the asks; what it reads lies below block B. -/
def AsksAt (w : World) (B : Nat) (v : Value) (qs : List Ak) : Prop :=
  ∃ A c, v = .slice A qs.length c ∧ qs.length ≤ 9223372036854775807 ∧
    (0 < qs.length → ∃ b off, A = some ⟨b, off, none⟩ ∧ b < B ∧ ∀ j x, qs[j]? = some x → ∃ kv, w.cell? ⟨b, off + j * 5, none⟩ = some (.int .i64 x.k) ∧ w.cell? ⟨b, off + j * 5 + 1, none⟩ = some (.int .i64 x.l) ∧
      w.cell? ⟨b, off + j * 5 + 2, none⟩ = some (.int .i64 x.lo) ∧ w.cell? ⟨b, off + j * 5 + 3, none⟩ = some (.int .i64 x.hi) ∧ w.cell? ⟨b, off + j * 5 + 4, none⟩ = some kv ∧ IntsAt w B kv x.ks)
theorem AsksAt.below {w w' : World} {B : Nat} {v : Value} {qs : List Ak} (h : AsksAt w B v qs) (hb : Below B w w') : AsksAt w' B v qs := by
  obtain ⟨A, c, e, hl, h⟩ := h
  refine ⟨A, c, e, hl, fun h0 => ?_⟩
  obtain ⟨b, off, eA, hB, hc⟩ := h h0
  refine ⟨b, off, eA, hB, fun j x hx => ?_⟩
  obtain ⟨kv, c0, c1, c2, c3, c4, hi⟩ := hc j x hx
  exact ⟨kv, (hb.cell (p := ⟨b, off + j * 5, none⟩) hB).trans c0, (hb.cell (p := ⟨b, off + j * 5 + 1, none⟩) hB).trans c1, (hb.cell (p := ⟨b, off + j * 5 + 2, none⟩) hB).trans c2, (hb.cell (p := ⟨b, off + j * 5 + 3, none⟩) hB).trans c3, (hb.cell (p := ⟨b, off + j * 5 + 4, none⟩) hB).trans c4, hi.below hb⟩
theorem Try.cellsKeep : Try.prog.cellsOf 31 = 1 := by kernel_rfl
theorem Try.cellsAsk : Try.prog.cellsOf 33 = 5 := by kernel_rfl
set_option maxRecDepth 100000 in
theorem asks_of {H : Type} {enc : TypeId × Value → H} {w : World} {base m : Nat} {sp : Nat → Bool} {held : Bool} {c : Value} {y : DataW H × List MemPlace}
    (h : DataW.trod enc Try.prog w base sp held m 22 [c] = some y) : ∃ qs, AsksAt w w.heap.size c qs := by
  rcases Go.Deep.open_slice Try.underlying22 h with ⟨e, _⟩ | ⟨a, len, cap, m, n, D, Pl, e, hb, hl, hm, hmm, hx, hel⟩
  · simp at e
    subst e
    exact ⟨[], none, 0, rfl, by decide, fun h => absurd h (by simp)⟩
  · simp at e
    subst e
    have hle : len ≤ m := by rw [hmm]; split <;> omega
    have hmx : maxLen = 9223372036854775807 := rfl
    have each : ∀ i, i < len → ∃ x : Ak, ∃ kv, w.cell? (a.add (i * 5)) = some (.int .i64 x.k) ∧ w.cell? ((a.add (i * 5)).add 1) = some (.int .i64 x.l) ∧ w.cell? ((a.add (i * 5)).add 2) = some (.int .i64 x.lo) ∧ w.cell? ((a.add (i * 5)).add 3) = some (.int .i64 x.hi) ∧ w.cell? ((a.add (i * 5)).add 4) = some kv ∧ IntsAt w w.heap.size kv x.ks := by
      intro i hi
      obtain ⟨cs, hcs, ht⟩ := hel i (by omega)
      rw [Try.cellsAsk] at hcs
      obtain ⟨_, hn, hat⟩ := World.cells?_some hcs
      match cs, hn with
      | [c0, c1, c2, c3, c4], _ =>
        have a0 := hat 0 (by decide)
        have a1 := hat 1 (by decide)
        have a2 := hat 2 (by decide)
        have a3 := hat 3 (by decide)
        have a4 := hat 4 (by decide)
        obtain ⟨ys, n', _, _, _, hyl, hf⟩ := DataW.trod_struct Try.underlying33 ht
        have f0 : DataW.trod enc Try.prog w base sp held n' 3 (([c0, c1, c2, c3, c4].drop 0).take (Try.prog.cellsOf 3)) = ys[0]? := hf 0 _ rfl
        rw [Try.cellsInt] at f0
        have f1 : DataW.trod enc Try.prog w base sp held n' 3 (([c0, c1, c2, c3, c4].drop 1).take (Try.prog.cellsOf 3)) = ys[1]? := hf 1 _ rfl
        rw [Try.cellsInt] at f1
        have f2 : DataW.trod enc Try.prog w base sp held n' 3 (([c0, c1, c2, c3, c4].drop 2).take (Try.prog.cellsOf 3)) = ys[2]? := hf 2 _ rfl
        rw [Try.cellsInt] at f2
        have f3 : DataW.trod enc Try.prog w base sp held n' 3 (([c0, c1, c2, c3, c4].drop 3).take (Try.prog.cellsOf 3)) = ys[3]? := hf 3 _ rfl
        rw [Try.cellsInt] at f3
        have f4 : DataW.trod enc Try.prog w base sp held n' 31 (([c0, c1, c2, c3, c4].drop 4).take (Try.prog.cellsOf 31)) = ys[4]? := hf 4 _ rfl
        rw [Try.cellsKeep] at f4
        have hy : ∀ j, j < 5 → ∃ y, ys[j]? = some y := fun j hj => ⟨_, List.getElem?_eq_getElem (by rw [hyl]; exact hj)⟩
        obtain ⟨y0, e0⟩ := hy 0 (by decide)
        obtain ⟨y1, e1⟩ := hy 1 (by decide)
        obtain ⟨y2, e2⟩ := hy 2 (by decide)
        obtain ⟨y3, e3⟩ := hy 3 (by decide)
        obtain ⟨y4, e4⟩ := hy 4 (by decide)
        obtain ⟨x0, rfl⟩ := num_of (f0.trans e0)
        obtain ⟨x1, rfl⟩ := num_of (f1.trans e1)
        obtain ⟨x2, rfl⟩ := num_of (f2.trans e2)
        obtain ⟨x3, rfl⟩ := num_of (f3.trans e3)
        obtain ⟨o, hx4⟩ := ints_of (f4.trans e4)
        exact ⟨⟨x0, x1, x2, x3, o⟩, c4, by simpa [Addr.add] using a0, by simpa using a1, by simpa using a2, by simpa using a3, by simpa using a4, hx4⟩
    obtain ⟨F, hF⟩ := Go.Deep.choose_lt each
    refine ⟨(List.range len).map F, some a, cap, by simp, by simp; omega, fun h0 => ?_⟩
    have hl0 : 0 < len := by simpa using h0
    obtain ⟨kv0, z0, -⟩ := hF 0 hl0
    obtain ⟨ea, hblk⟩ := plain_addr (by simpa using z0)
    refine ⟨a.block, a.off, congrArg some ea, hblk, fun j x hj => ?_⟩
    rw [List.getElem?_map] at hj
    obtain ⟨j', hj', rfl⟩ := Option.map_eq_some_iff.1 hj
    obtain ⟨hlt, e⟩ := List.getElem?_eq_some_iff.1 hj'
    have e' : j' = j := by simpa using e.symm
    subst e'
    obtain ⟨kv, q0, q1, q2, q3, q4, hi⟩ := hF j' (by simpa using hlt)
    rw [ea] at q0 q1 q2 q3 q4
    simp only [add_plain] at q0 q1 q2 q3 q4
    exact ⟨kv, q0, q1, q2, q3, q4, hi⟩
theorem open_asks {H : Type} {enc : TypeId × Value → H} {w : World} {base : Nat} {sp : Nat → Bool} {held : Bool} {v : Value} {d : DataW H} {p : List MemPlace}
    (hc : v.cells = #[v]) (h : DataW.Trod enc Try.prog w base sp held 22 v d p) : ∃ qs, AsksAt w w.heap.size v qs := by
  obtain ⟨fuel, hf⟩ := h
  rw [hc] at hf
  exact asks_of hf
end Go.Proofs.Ytkcchdaadajjcaa
