/- A table that comes in: its numbers, and its lines. -/
import Derived.Test.YtpjjnafegngdkaaDoorOpen2
import Derived.Test.YtpjjnafegngdkaaDoorTab03
import Derived.Deep.Slices
import Derived.ChangeSlices
namespace Go.Proofs.YtpjjnafegngdkaaDoor
open Go.ChangeShapes Go.WideShapes Go.ChangeAt Go.RowKit Go.Joins

theorem Tryd.cellsTable : Tryd.prog.cellsOf 24 = 4 := by kernel_rfl
theorem Tryd.cellsLine : Tryd.prog.cellsOf 39 = 3 := by kernel_rfl
theorem Tryd.cellsInt : Tryd.prog.cellsOf 3 = 1 := by kernel_rfl
theorem Tryd.cellsInts : Tryd.prog.cellsOf 37 = 1 := by kernel_rfl
theorem Tryd.cellsLines : Tryd.prog.cellsOf 22 = 1 := by kernel_rfl
set_option maxRecDepth 100000 in
theorem num_of {H : Type} {enc : TypeId × Value → H} {w : World} {base m : Nat} {sp : Nat → Bool} {held : Bool} {c : Value} {y : DataW H × List MemPlace}
    (h : DataW.trod enc Tryd.prog w base sp held m 3 [c] = some y) : ∃ x : Int, c = .int .i64 x := by
  obtain ⟨a, e0, _, wa⟩ := DataW.trod_int Tryd.underlying3 h
  simp at e0
  exact ⟨a, e0⟩
theorem plain_addr {w : World} {a : Addr} {v : Value} (h : w.cell? (a.add 0) = some v) : a = ⟨a.block, a.off, none⟩ ∧ a.block < w.heap.size := by
  have h0 : w.cell? a = some v := by simpa [Addr.add] using h
  have hs := World.cell?_spot h0
  refine ⟨?_, World.block_lt_of_cell? w a h0⟩
  cases a with
  | mk b o s => simp at hs; subst hs; rfl
theorem add_plain (b off i : Nat) : (⟨b, off, none⟩ : Addr).add i = ⟨b, off + i, none⟩ := by
  unfold Addr.add
  split
  · rename_i h; subst h; rfl
  · rfl
set_option maxRecDepth 100000 in
theorem ints_of {H : Type} {enc : TypeId × Value → H} {w : World} {base m : Nat} {sp : Nat → Bool} {held : Bool} {c : Value} {y : DataW H × List MemPlace}
    (h : DataW.trod enc Tryd.prog w base sp held m 37 [c] = some y) : ∃ o, IntsAt w w.heap.size c o := by
  rcases open_ints Tryd.underlying37 Tryd.underlying3 Tryd.cellsInt h with ⟨e, _⟩ | ⟨a, len, cap, zs, e, hb, hl, hm, hz, hx, hc, hw⟩
  · simp at e
    subst e
    exact ⟨[], none, 0, rfl, by decide, fun h => absurd h (by simp)⟩
  · simp at e
    subst e
    have hle : len ≤ zs.length := by rw [hz]; split <;> omega
    have hlen : (zs.take len).length = len := by rw [List.length_take]; omega
    have hmx : maxLen = 9223372036854775807 := rfl
    refine ⟨zs.take len, some a, cap, by rw [hlen], by omega, fun h0 => ?_⟩
    obtain ⟨ea, hblk⟩ := plain_addr (hc 0 (by omega))
    refine ⟨a.block, a.off, congrArg some ea, hblk, fun j x hx => ?_⟩
    rw [List.getElem?_take] at hx
    split at hx
    · have := hc j (by omega)
      rw [ea, add_plain] at this
      rw [this, List.getD_eq_getElem?_getD, hx]
      rfl
    · cases hx
set_option maxRecDepth 100000 in
theorem cube_of {H : Type} {enc : TypeId × Value → H} {w : World} {base n : Nat} {sp : Nat → Bool} {held : Bool} {c0 c1 : Value} {y : DataW H × List MemPlace}
    (h : DataW.trod enc Tryd.prog w base sp held n 36 [c0, c1] = some y) : ∃ m v : BitVec 8, c0 = bvv m ∧ c1 = bvv v := by
  obtain ⟨y0, y1, n, _, _, h0, h1⟩ := trod_struct2 Tryd.underlying36 h
  simp only [List.drop_zero, Tryd.cellsByte] at h0 h1
  obtain ⟨x0, e0⟩ := byte_of h0
  obtain ⟨x1, e1⟩ := byte_of h1
  exact ⟨x0, x1, e0, e1⟩
instance : Inhabited Ln := ⟨⟨0, 0, []⟩⟩
set_option maxRecDepth 100000 in
theorem lines_of {H : Type} {enc : TypeId × Value → H} {w : World} {base m : Nat} {sp : Nat → Bool} {held : Bool} {c : Value} {y : DataW H × List MemPlace}
    (h : DataW.trod enc Tryd.prog w base sp held m 22 [c] = some y) : ∃ ls, LinesAt w w.heap.size c ls := by
  rcases Go.Deep.open_slice Tryd.underlying22 h with ⟨e, _⟩ | ⟨a, len, cap, m, n, D, Pl, e, hb, hl, hm, hmm, hx, hel⟩
  · simp at e
    subst e
    exact ⟨[], none, 0, rfl, by decide, fun h => absurd h (by simp)⟩
  · simp at e
    subst e
    have hle : len ≤ m := by rw [hmm]; split <;> omega
    have hmx : maxLen = 9223372036854775807 := rfl
    have each : ∀ i, i < len → ∃ l : Ln, ∃ ov, w.cell? (a.add (i * 3)) = some (bvv l.m) ∧ w.cell? ((a.add (i * 3)).add 1) = some (bvv l.v) ∧ w.cell? ((a.add (i * 3)).add 2) = some ov ∧ IntsAt w w.heap.size ov l.o := by
      intro i hi
      obtain ⟨cs, hcs, ht⟩ := hel i (by omega)
      rw [Tryd.cellsLine] at hcs
      obtain ⟨_, hn, hat⟩ := World.cells?_some hcs
      match cs, hn with
      | [c0, c1, c2], _ =>
        have a0 := hat 0 (by decide)
        have a1 := hat 1 (by decide)
        have a2 := hat 2 (by decide)
        obtain ⟨y0, y1, n, _, _, h0, h1⟩ := trod_struct2 Tryd.underlying39 ht
        simp only [List.drop_zero, Tryd.cellsCube, Tryd.cellsInts] at h0 h1
        obtain ⟨mm, vv, rfl, rfl⟩ := cube_of h0
        obtain ⟨o, ho⟩ := ints_of h1
        exact ⟨⟨mm, vv, o⟩, c2, by simpa [Addr.add] using a0, by simpa using a1, by simpa using a2, ho⟩
    obtain ⟨F, hF⟩ := Go.Deep.choose_lt each
    refine ⟨(List.range len).map F, some a, cap, by simp, by simp; omega, fun h0 => ?_⟩
    have hl0 : 0 < len := by simpa using h0
    obtain ⟨ov0, z0, -⟩ := hF 0 hl0
    obtain ⟨ea, hblk⟩ := plain_addr (by simpa using z0)
    refine ⟨a.block, a.off, congrArg some ea, hblk, fun j l hj => ?_⟩
    rw [List.getElem?_map] at hj
    obtain ⟨j', hj', rfl⟩ := Option.map_eq_some_iff.1 hj
    obtain ⟨hlt, e⟩ := List.getElem?_eq_some_iff.1 hj'
    have e' : j' = j := by simpa using e.symm
    subst e'
    obtain ⟨ov, q0, q1, q2, hi⟩ := hF j' (by simpa using hlt)
    rw [ea] at q0 q1 q2
    simp only [add_plain] at q0 q1 q2
    exact ⟨ov, q0, q1, q2, hi⟩
set_option maxRecDepth 100000 in
theorem open_table {H : Type} {enc : TypeId × Value → H} {w W : World} {r : Reach} {b0 base : Nat} {sp : Nat → Bool} {held : Bool} {v : Value} {d : DataW H} {p : List MemPlace}
    (hv : Value.okWide Tryd.prog W r b0 24 v) (h : DataW.Trod enc Tryd.prog w base sp held 24 v d p) : ∃ (k i n : Int) (L : Value) (ls : List Ln), v = tv k i n L ∧ LinesAt w w.heap.size L ls := by
  have hv' : ∃ cs, v = .agg cs ∧ cs.size = Tryd.prog.cellsOf 24 := by
    unfold Value.okWide at hv
    rw [Tryd.underlying24] at hv
    obtain ⟨cs, h1, h2, _⟩ := hv
    exact ⟨cs, h1, h2⟩
  obtain ⟨cs, rfl, hsz⟩ := hv'
  obtain ⟨c0, c1, c2, c3, rfl⟩ := array4 (hsz.trans Tryd.cellsTable)
  obtain ⟨fuel, hf⟩ := h
  obtain ⟨y0, y1, y2, y3, n, _, _, h0, h1, h2, h3⟩ := trod_struct4 Tryd.underlying24 hf
  simp only [Value.cells, List.drop_zero, Tryd.cellsInt, Tryd.cellsLines] at h0 h1 h2 h3
  obtain ⟨k, rfl⟩ := num_of h0
  obtain ⟨i, rfl⟩ := num_of h1
  obtain ⟨n, rfl⟩ := num_of h2
  obtain ⟨ls, hL⟩ := lines_of h3
  exact ⟨k, i, n, c3, ls, rfl, hL⟩
end Go.Proofs.YtpjjnafegngdkaaDoor
