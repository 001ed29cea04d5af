/- Whatever order and whatever set: a set has an id that says it and that leads to as many nodes as the document says, or the error is told, and a list that is no order is refused: the statement BddSets holds, with no condition. -/
import Derived.Test.YtbffcnnfkfjpgaaLaw06
import Derived.Test.YtbffcnnfkfjpgaaOpen
import Derived.Test.YtbffcnnfkfjpgaaOpenI
namespace Go.Proofs.Ytbffcnnfkfjpgaa
open Go.ChangeShapes Go.WideShapes Go.ChangeAt Go.RowKit Go.Joins

theorem bddSets_any (v : Value) (zs : List Int) (X : BitVec 256) (w : World) (hz : IntsAt w w.heap.size v zs) :
    Calls Try.prog 3 #[v, sv X] w fun e w' => e = .returned (.bool true) ∧ Below w.heap.size w w' := by
  by_cases h20 : 20 < zs.length
  · exact sets6_many v zs X w hz h20
  · by_cases ho : OrdI zs
    · obtain ⟨o, rfl, hoo, h8⟩ := ordI_nat ho
      by_cases hX : X &&& ~~~(allB o.length) = 0
      · exact sets6_good v o X w hz hoo h8 hX
      · exact sets6_bad v o X w hz hoo h8 hX
    · exact sets6_no v zs X w hz h20 ho
set_option maxRecDepth 100000 in
theorem bddSets_lifted (os : Os) (started : os.Started) (H : Type) (enc : TypeId × Value → H) :
    ReturnsInHanded {} Try.checked os 3 .any (Rows.bddSetsSpec.pre6 enc Try.prog Try.f3 Rows.bddSetsRow.domain false) (Rows.bddSetsSpec.post enc Try.prog Try.f3 false true false false) := by
  refine returnsInHanded_of_change (C := Try.checked) Try.own started (by kernel_rfl) Try.func3
    (ChangeSpec.witness6 (enc := enc) (C := Try.checked) false ⟨#[], #[.slice none 0 0, .agg #[.int .u64 0, .int .u64 0, .int .u64 0, .int .u64 0]], []⟩ 8 (by kernel_rfl) (by kernel_rfl) (by kernel_rfl) (by kernel_rfl)) ?_
  intro W base args ds gs before hval0 hW hcnd _
  have hval : ∀ (j : Nat) t v, Try.f3.params[j]? = some t → args[j]? = some v → Value.okWide Try.prog W .any base t v := hval0
  have hW' := hW
  obtain ⟨p, q, hA0, hV, rfl, hfz, hnd⟩ := hW
  have hA : DataW.TrodAll enc Try.prog W 0 (fun _ => true) true Try.f3.params.toList args.toList ds p := hA0
  rw [Try.params3] at hA hval
  obtain ⟨v0, vs0, d0, ds0, p0, q0, hargs, rfl, rfl, h0, r0⟩ := trodAll_cons hA
  obtain ⟨v1, vs1, d1, ds1, p1, q1, rfl, rfl, rfl, h1, r1⟩ := trodAll_cons r0
  obtain ⟨rfl, rfl, rfl⟩ := trodAll_nil r1
  obtain rfl : args = #[v0, v1] := by cases args; simp_all
  obtain ⟨rfl, rfl⟩ := trodVars_none hV
  have k0 := h0
  have lt0 : ∀ x ∈ p0, x.block < W.heap.size := by obtain ⟨m, hm⟩ := k0; exact DataW.trod_lt m _ _ _ hm
  have k1 := h1
  have lt1 : ∀ x ∈ p1, x.block < W.heap.size := by obtain ⟨m, hm⟩ := k1; exact DataW.trod_lt m _ _ _ hm
  obtain ⟨ks0, hK0⟩ := open_intl (slice_cells Try.underlying22 (hval 0 22 v0 rfl rfl)) h0
  obtain ⟨S1, rfl⟩ := open_set (hval 1 25 v1 rfl rfl) h1
  clear hA0 hval0
  refine (bddSets_any v0 ks0 S1 W hK0).mono fun e W' ⟨he, bel⟩ => ?_
  subst he
  exact ⟨_, rfl, _, _, _, [], _, [], hW', trodAll_mk1 (shut_bool Try.underlying4 _), (trodAll_cons_mk (Below.trod Try.laidOut (by kernel_rfl) (of_decide_eq_true (by kernel_rfl)) k0 bel lt0) (trodAll_cons_mk (Below.trod Try.laidOut (by kernel_rfl) (of_decide_eq_true (by kernel_rfl)) k1 bel lt1) trodAll_mk0)), rfl, bel.frame _, fun h => by cases h⟩

theorem bddSets_holds : Rows.BddSetsSaid :=
  OpenClaim.holds_of_wide 3 Try.f3 rfl rfl rfl rfl rfl rfl rfl ⟨rfl, rfl, rfl, rfl, rfl⟩ rfl rfl rfl rfl rfl (by kernel_rfl) Try.func3 (by kernel_rfl)
    (of_decide_eq_true (by kernel_rfl)) (by unfold Func.isWrapper; first | (rw [if_pos (by decide +kernel)]; kernel_rfl) | (rw [if_neg (by decide +kernel)]; exact ⟨rfl, rfl⟩))
    (fun os started H enc _ => bddSets_lifted os started H enc)
end Go.Proofs.Ytbffcnnfkfjpgaa
