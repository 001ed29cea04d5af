/- A set that comes in reads as 256 bits. -/
import Derived.Test.YtnddepijbbchiaaRows
import Derived.Test.YtnddepijbbchiaaBits
import Derived.ProofKit
import Derived.OpenShut
import Derived.Lib.SmallJoins
namespace Go.Proofs.Ytnddepijbbchiaa
open Go.ChangeShapes Go.WideShapes Go.ChangeAt Go.RowKit Go.Joins

theorem Try.own : ownKnob Try.prog.godebug = none := by kernel_rfl
theorem Try.laidOut : laidOutB Try.prog = true := by kernel_rfl
theorem Try.cellsSet : Try.prog.cellsOf 24 = 4 := by kernel_rfl
theorem Try.cellsWord : Try.prog.cellsOf 22 = 1 := by kernel_rfl

set_option maxRecDepth 100000 in
theorem word_of {H : Type} {enc : TypeId × Value → H} {w : World} {base m : Nat} {sp : Nat → Bool} {held : Bool} {c : Value} {y : DataW H × List MemPlace}
    (h : DataW.trod enc Try.prog w base sp held m 22 [c] = some y) : ∃ x : BitVec 64, c = wv x := by
  obtain ⟨a, e0, _, wa⟩ := DataW.trod_int Try.underlying22 h
  simp at e0
  subst e0
  have hb : 0 ≤ a ∧ a ≤ 18446744073709551615 := by
    simp [Lit.wf, IntKind.min, IntKind.max, IntKind.signed, IntKind.bits] at wa
    omega
  obtain ⟨n, rfl⟩ := Int.eq_ofNat_of_zero_le hb.1
  refine ⟨BitVec.ofNat 64 n, ?_⟩
  unfold wv
  rw [BitVec.toNat_ofNat, Nat.mod_eq_of_lt (by omega)]

set_option maxRecDepth 100000 in
theorem open_set {H : Type} {enc : TypeId × Value → H} {w W : World} {r : Reach} {b0 base : Nat} {sp : Nat → Bool} {held : Bool} {v : Value} {d : DataW H} {p : List MemPlace}
    (hv : Value.okWide Try.prog W r b0 24 v) (h : DataW.Trod enc Try.prog w base sp held 24 v d p) : ∃ S : BitVec 256, v = sv S := by
  have hv' : ∃ cs, v = .agg cs ∧ cs.size = Try.prog.cellsOf 24 := by
    unfold Value.okWide at hv
    rw [Try.underlying24] at hv
    obtain ⟨cs, h1, h2, _⟩ := hv
    exact ⟨cs, h1, h2⟩
  obtain ⟨cs, rfl, hsz⟩ := hv'
  obtain ⟨c0, c1, c2, c3, rfl⟩ := array4 (hsz.trans Try.cellsSet)
  obtain ⟨fuel, hf⟩ := h
  obtain ⟨xs, m, _, _, _, hx, he⟩ := DataW.trod_array Try.underlying24 hf
  rw [Try.cellsWord] at he
  obtain ⟨y0, y1, y2, y3, rfl⟩ : ∃ y0 y1 y2 y3, xs = [y0, y1, y2, y3] := by
    match xs, hx with
    | [y0, y1, y2, y3], _ => exact ⟨y0, y1, y2, y3, rfl⟩
  have h0 := he 0 (by omega)
  have h1 := he 1 (by omega)
  have h2 := he 2 (by omega)
  have h3 := he 3 (by omega)
  obtain ⟨x0, rfl⟩ := word_of h0
  obtain ⟨x1, rfl⟩ := word_of h1
  obtain ⟨x2, rfl⟩ := word_of h2
  obtain ⟨x3, rfl⟩ := word_of h3
  obtain ⟨S, e0, e1, e2, e3⟩ := of_words x0 x1 x2 x3
  exact ⟨S, by unfold sv; rw [e0, e1, e2, e3]⟩
end Go.Proofs.Ytnddepijbbchiaa
