/- A slice of numbers that comes in. -/
import Derived.Test.YtkkdfpmjmommcaaOpen
import Derived.Test.YtkkdfpmjmommcaaInts
import Derived.Deep.Slices
import Derived.ChangeSlices
namespace Go.Proofs.Ytkkdfpmjmommcaa
open Go.ChangeShapes Go.WideShapes Go.ChangeAt Go.RowKit Go.Joins

theorem Try.cellsInt : Try.prog.cellsOf 3 = 1 := by kernel_rfl
set_option maxRecDepth 100000 in
theorem num_of {H : Type} {enc : TypeId × Value → H} {w : World} {base m : Nat} {sp : Nat → Bool} {held : Bool} {c : Value} {y : DataW H × List MemPlace}
    (h : DataW.trod enc Try.prog w base sp held m 3 [c] = some y) : ∃ x : Int, c = .int .i64 x := by
  obtain ⟨a, e0, _, wa⟩ := DataW.trod_int Try.underlying3 h
  simp at e0
  exact ⟨a, e0⟩
theorem plain_addr {w : World} {a : Addr} {v : Value} (h : w.cell? (a.add 0) = some v) : a = ⟨a.block, a.off, none⟩ ∧ a.block < w.heap.size := by
  have h0 : w.cell? a = some v := by simpa [Addr.add] using h
  have hs := World.cell?_spot h0
  refine ⟨?_, World.block_lt_of_cell? w a h0⟩
  cases a with
  | mk b o s => simp at hs; subst hs; rfl
theorem add_plain (b off i : Nat) : (⟨b, off, none⟩ : Addr).add i = ⟨b, off + i, none⟩ := by
  unfold Addr.add
  split
  · rename_i h; subst h; rfl
  · rfl
set_option maxRecDepth 100000 in
theorem ints_of {H : Type} {enc : TypeId × Value → H} {w : World} {base m : Nat} {sp : Nat → Bool} {held : Bool} {c : Value} {y : DataW H × List MemPlace}
    (h : DataW.trod enc Try.prog w base sp held m 22 [c] = some y) : ∃ o, IntsAt w w.heap.size c o := by
  rcases open_ints Try.underlying22 Try.underlying3 Try.cellsInt h with ⟨e, _⟩ | ⟨a, len, cap, zs, e, hb, hl, hm, hz, hx, hc, hw⟩
  · simp at e
    subst e
    exact ⟨[], none, 0, rfl, by decide, fun h => absurd h (by simp)⟩
  · simp at e
    subst e
    have hle : len ≤ zs.length := by rw [hz]; split <;> omega
    have hlen : (zs.take len).length = len := by rw [List.length_take]; omega
    have hmx : maxLen = 9223372036854775807 := rfl
    refine ⟨zs.take len, some a, cap, by rw [hlen], by omega, fun h0 => ?_⟩
    obtain ⟨ea, hblk⟩ := plain_addr (hc 0 (by omega))
    refine ⟨a.block, a.off, congrArg some ea, hblk, fun j x hx => ?_⟩
    rw [List.getElem?_take] at hx
    split at hx
    · have := hc j (by omega)
      rw [ea, add_plain] at this
      rw [this, List.getD_eq_getElem?_getD, hx]
      rfl
    · cases hx
theorem slice_cells {P : Program} {W : World} {r : Reach} {b t e : Nat} {v : Value} (ht : P.underlying t = some (.slice e)) (h : Value.okWide P W r b t v) : v.cells = #[v] := by
  obtain ⟨a, len, cap, rfl⟩ := okWide_slice ht h
  rfl
theorem open_intl {H : Type} {enc : TypeId × Value → H} {w : World} {base : Nat} {sp : Nat → Bool} {held : Bool} {v : Value} {d : DataW H} {p : List MemPlace}
    (hc : v.cells = #[v]) (h : DataW.Trod enc Try.prog w base sp held 22 v d p) : ∃ ks, IntsAt w w.heap.size v ks := by
  obtain ⟨fuel, hf⟩ := h
  rw [hc] at hf
  exact ints_of hf
end Go.Proofs.Ytkkdfpmjmommcaa
