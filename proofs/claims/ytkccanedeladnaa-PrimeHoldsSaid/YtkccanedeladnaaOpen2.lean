/- A cube that comes in reads as two numbers of 8 bits. -/
import Derived.Test.YtkccanedeladnaaOpen
import Derived.Test.YtkccanedeladnaaCube
namespace Go.Proofs.Ytkccanedeladnaa
open Go.ChangeShapes Go.WideShapes Go.ChangeAt Go.RowKit Go.Joins

theorem Try.cellsCube : Try.prog.cellsOf 34 = 2 := by kernel_rfl
theorem Try.cellsByte : Try.prog.cellsOf 5 = 1 := by kernel_rfl
theorem byte_of {H : Type} {enc : TypeId × Value → H} {w : World} {base m : Nat} {sp : Nat → Bool} {held : Bool} {c : Value} {y : DataW H × List MemPlace}
    (h : DataW.trod enc Try.prog w base sp held m 5 [c] = some y) : ∃ x : BitVec 8, c = bvv x := by
  obtain ⟨a, e0, _, wa⟩ := DataW.trod_int Try.underlying5 h
  simp at e0
  subst e0
  have hb : 0 ≤ a ∧ a ≤ 255 := by
    simp [Lit.wf, IntKind.min, IntKind.max, IntKind.signed, IntKind.bits] at wa
    omega
  obtain ⟨n, rfl⟩ := Int.eq_ofNat_of_zero_le hb.1
  refine ⟨BitVec.ofNat 8 n, ?_⟩
  unfold bvv
  rw [BitVec.toNat_ofNat, Nat.mod_eq_of_lt (by omega)]
set_option maxRecDepth 100000 in
theorem open_cube {H : Type} {enc : TypeId × Value → H} {w W : World} {r : Reach} {b0 base : Nat} {sp : Nat → Bool} {held : Bool} {v : Value} {d : DataW H} {p : List MemPlace}
    (hv : Value.okWide Try.prog W r b0 34 v) (h : DataW.Trod enc Try.prog w base sp held 34 v d p) : ∃ m x : BitVec 8, v = cv m x := by
  have hv' : ∃ cs, v = .agg cs ∧ cs.size = Try.prog.cellsOf 34 := by
    unfold Value.okWide at hv
    rw [Try.underlying34] at hv
    obtain ⟨cs, h1, h2, _⟩ := hv
    exact ⟨cs, h1, h2⟩
  obtain ⟨cs, rfl, hsz⟩ := hv'
  obtain ⟨c0, c1, rfl⟩ : ∃ c0 c1, cs = #[c0, c1] := by
    have h2 := hsz.trans Try.cellsCube
    obtain ⟨l⟩ := cs
    match l, h2 with
    | [c0, c1], _ => exact ⟨c0, c1, rfl⟩
  obtain ⟨fuel, hf⟩ := h
  obtain ⟨y0, y1, n, _, _, h0, h1⟩ := trod_struct2 Try.underlying34 hf
  simp only [Value.cells, List.drop_zero, Try.cellsByte] at h0 h1
  obtain ⟨x0, e0⟩ := byte_of h0
  obtain ⟨x1, e1⟩ := byte_of h1
  exact ⟨x0, x1, by unfold cv; rw [e0, e1]⟩
end Go.Proofs.Ytkccanedeladnaa
