/- A set that comes in reads as 256 bits. -/
import Derived.Test.YtkkdfpmjmommcaaRows
import Derived.Test.YtkkdfpmjmommcaaBits
import Derived.ProofKit
import Derived.OpenShut
import Derived.Lib.SmallJoins
namespace Go.Proofs.Ytkkdfpmjmommcaa
open Go.ChangeShapes Go.WideShapes Go.ChangeAt Go.RowKit Go.Joins

theorem Try.own : ownKnob Try.prog.godebug = none := by kernel_rfl
theorem Try.laidOut : laidOutB Try.prog = true := by kernel_rfl
theorem Try.cellsWord : Try.prog.cellsOf 111 = 1 := by kernel_rfl

set_option maxRecDepth 100000 in
theorem word_of {H : Type} {enc : TypeId × Value → H} {w : World} {base m : Nat} {sp : Nat → Bool} {held : Bool} {c : Value} {y : DataW H × List MemPlace}
    (h : DataW.trod enc Try.prog w base sp held m 111 [c] = some y) : ∃ x : BitVec 64, c = wv x := by
  obtain ⟨a, e0, _, wa⟩ := DataW.trod_int Try.underlying111 h
  simp at e0
  subst e0
  have hb : 0 ≤ a ∧ a ≤ 18446744073709551615 := by
    simp [Lit.wf, IntKind.min, IntKind.max, IntKind.signed, IntKind.bits] at wa
    omega
  obtain ⟨n, rfl⟩ := Int.eq_ofNat_of_zero_le hb.1
  refine ⟨BitVec.ofNat 64 n, ?_⟩
  unfold wv
  rw [BitVec.toNat_ofNat, Nat.mod_eq_of_lt (by omega)]

end Go.Proofs.Ytkkdfpmjmommcaa
