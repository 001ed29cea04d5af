/- Whatever order, sets and input: what is done with ids says what is done with sets, or the error is told: the statement BddDoes holds, with no condition. -/
import Derived.Test.YtbffcnnfkfjpgaaDoe06
import Derived.Test.YtbffcnnfkfjpgaaDoe06b
import Derived.Test.YtbffcnnfkfjpgaaOpen
import Derived.Test.YtbffcnnfkfjpgaaOpenI
namespace Go.Proofs.Ytbffcnnfkfjpgaa
open Go.ChangeShapes Go.WideShapes Go.ChangeAt Go.RowKit Go.Joins

theorem bddDoes_any (v : Value) (zs : List Int) (X Y Z : BitVec 256) (m : Int) (w : World) (hz : IntsAt w w.heap.size v zs) :
    Calls Try.prog 4 #[v, sv X, sv Y, sv Z, .int .i64 m] w fun e w' => e = .returned (.bool true) ∧ Below w.heap.size w w' := by
  by_cases h20 : 20 < zs.length
  · exact does6_many v zs X Y Z m w hz h20
  · by_cases ho : OrdI zs
    · obtain ⟨o, rfl, hoo, h8⟩ := ordI_nat ho
      by_cases hX : X &&& ~~~(allB o.length) = 0
      · by_cases hY : Y &&& ~~~(allB o.length) = 0
        · by_cases hZ : Z &&& ~~~(allB o.length) = 0
          · by_cases hm : m < 0 ∨ (o.length : Int) ≤ m
            · exact does6_out v o X Y Z m w hz hoo h8 hX hY hZ hm
            · obtain ⟨n, rfl⟩ : ∃ n : Nat, m = n := ⟨m.toNat, by omega⟩
              exact does6_in v o X Y Z n w hz hoo h8 hX hY hZ (by omega)
          · exact does6_bad_yyn v o X Y Z m w hz hoo h8 hX hY hZ
        · by_cases hZ : Z &&& ~~~(allB o.length) = 0
          · exact does6_bad_yny v o X Y Z m w hz hoo h8 hX hY hZ
          · exact does6_bad_ynn v o X Y Z m w hz hoo h8 hX hY hZ
      · by_cases hY : Y &&& ~~~(allB o.length) = 0
        · by_cases hZ : Z &&& ~~~(allB o.length) = 0
          · exact does6_bad_nyy v o X Y Z m w hz hoo h8 hX hY hZ
          · exact does6_bad_nyn v o X Y Z m w hz hoo h8 hX hY hZ
        · by_cases hZ : Z &&& ~~~(allB o.length) = 0
          · exact does6_bad_nny v o X Y Z m w hz hoo h8 hX hY hZ
          · exact does6_bad_nnn v o X Y Z m w hz hoo h8 hX hY hZ
    · exact does6_no v zs X Y Z m w hz h20 ho
set_option maxRecDepth 100000 in
theorem bddDoes_lifted (os : Os) (started : os.Started) (H : Type) (enc : TypeId × Value → H) :
    ReturnsInHanded {} Try.checked os 4 .any (Rows.bddDoesSpec.pre6 enc Try.prog Try.f4 Rows.bddDoesRow.domain false) (Rows.bddDoesSpec.post enc Try.prog Try.f4 false true false false) := by
  refine returnsInHanded_of_change (C := Try.checked) Try.own started (by kernel_rfl) Try.func4
    (ChangeSpec.witness6 (enc := enc) (C := Try.checked) false ⟨#[], #[.slice none 0 0, .agg #[.int .u64 0, .int .u64 0, .int .u64 0, .int .u64 0], .agg #[.int .u64 0, .int .u64 0, .int .u64 0, .int .u64 0], .agg #[.int .u64 0, .int .u64 0, .int .u64 0, .int .u64 0], .int .i64 0], []⟩ 8 (by kernel_rfl) (by kernel_rfl) (by kernel_rfl) (by kernel_rfl)) ?_
  intro W base args ds gs before hval0 hW hcnd _
  have hval : ∀ (j : Nat) t v, Try.f4.params[j]? = some t → args[j]? = some v → Value.okWide Try.prog W .any base t v := hval0
  have hW' := hW
  obtain ⟨p, q, hA0, hV, rfl, hfz, hnd⟩ := hW
  have hA : DataW.TrodAll enc Try.prog W 0 (fun _ => true) true Try.f4.params.toList args.toList ds p := hA0
  rw [Try.params4] at hA hval
  obtain ⟨v0, vs0, d0, ds0, p0, q0, hargs, rfl, rfl, h0, r0⟩ := trodAll_cons hA
  obtain ⟨v1, vs1, d1, ds1, p1, q1, rfl, rfl, rfl, h1, r1⟩ := trodAll_cons r0
  obtain ⟨v2, vs2, d2, ds2, p2, q2, rfl, rfl, rfl, h2, r2⟩ := trodAll_cons r1
  obtain ⟨v3, vs3, d3, ds3, p3, q3, rfl, rfl, rfl, h3, r3⟩ := trodAll_cons r2
  obtain ⟨v4, vs4, d4, ds4, p4, q4, rfl, rfl, rfl, h4, r4⟩ := trodAll_cons r3
  obtain ⟨rfl, rfl, rfl⟩ := trodAll_nil r4
  obtain rfl : args = #[v0, v1, v2, v3, v4] := by cases args; simp_all
  obtain ⟨rfl, rfl⟩ := trodVars_none hV
  have k0 := h0
  have lt0 : ∀ x ∈ p0, x.block < W.heap.size := by obtain ⟨m, hm⟩ := k0; exact DataW.trod_lt m _ _ _ hm
  have k1 := h1
  have lt1 : ∀ x ∈ p1, x.block < W.heap.size := by obtain ⟨m, hm⟩ := k1; exact DataW.trod_lt m _ _ _ hm
  have k2 := h2
  have lt2 : ∀ x ∈ p2, x.block < W.heap.size := by obtain ⟨m, hm⟩ := k2; exact DataW.trod_lt m _ _ _ hm
  have k3 := h3
  have lt3 : ∀ x ∈ p3, x.block < W.heap.size := by obtain ⟨m, hm⟩ := k3; exact DataW.trod_lt m _ _ _ hm
  have k4 := h4
  have lt4 : ∀ x ∈ p4, x.block < W.heap.size := by obtain ⟨m, hm⟩ := k4; exact DataW.trod_lt m _ _ _ hm
  obtain ⟨ks0, hK0⟩ := open_intl (slice_cells Try.underlying22 (hval 0 22 v0 rfl rfl)) h0
  obtain ⟨S1, rfl⟩ := open_set (hval 1 25 v1 rfl rfl) h1
  obtain ⟨S2, rfl⟩ := open_set (hval 2 25 v2 rfl rfl) h2
  obtain ⟨S3, rfl⟩ := open_set (hval 3 25 v3 rfl rfl) h3
  obtain ⟨n4, rfl, _, _, w4⟩ := open_int Try.underlying3 (hval 4 3 v4 rfl rfl) h4
  clear hA0 hval0
  refine (bddDoes_any v0 ks0 S1 S2 S3 n4 W hK0).mono fun e W' ⟨he, bel⟩ => ?_
  subst he
  exact ⟨_, rfl, _, _, _, [], _, [], hW', trodAll_mk1 (shut_bool Try.underlying4 _), (trodAll_cons_mk (Below.trod Try.laidOut (by kernel_rfl) (of_decide_eq_true (by kernel_rfl)) k0 bel lt0) (trodAll_cons_mk (Below.trod Try.laidOut (by kernel_rfl) (of_decide_eq_true (by kernel_rfl)) k1 bel lt1) (trodAll_cons_mk (Below.trod Try.laidOut (by kernel_rfl) (of_decide_eq_true (by kernel_rfl)) k2 bel lt2) (trodAll_cons_mk (Below.trod Try.laidOut (by kernel_rfl) (of_decide_eq_true (by kernel_rfl)) k3 bel lt3) (trodAll_cons_mk (Below.trod Try.laidOut (by kernel_rfl) (of_decide_eq_true (by kernel_rfl)) k4 bel lt4) trodAll_mk0))))), rfl, bel.frame _, fun h => by cases h⟩

theorem bddDoes_holds : Rows.BddDoesSaid :=
  OpenClaim.holds_of_wide 4 Try.f4 rfl rfl rfl rfl rfl rfl rfl ⟨rfl, rfl, rfl, rfl, rfl⟩ rfl rfl rfl rfl rfl (by kernel_rfl) Try.func4 (by kernel_rfl)
    (of_decide_eq_true (by kernel_rfl)) (by unfold Func.isWrapper; first | (rw [if_pos (by decide +kernel)]; kernel_rfl) | (rw [if_neg (by decide +kernel)]; exact ⟨rfl, rfl⟩))
    (fun os started H enc _ => bddDoes_lifted os started H enc)
end Go.Proofs.Ytbffcnnfkfjpgaa
