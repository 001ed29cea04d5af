/- Whatever sets, whatever order and whatever number of rounds: what comes of sifting is what the document says, or the error is told: the statement OrderSifts holds, with no condition. -/
import Derived.Test.YtfamdckaljniiaaLaw07b
import Derived.Test.YtfamdckaljniiaaOpen
import Derived.Test.YtfamdckaljniiaaOpenS
namespace Go.Proofs.Ytfamdckaljniiaa
open Go.ChangeShapes Go.WideShapes Go.ChangeAt Go.RowKit Go.Joins

theorem orderSifts_any (V v : Value) (Ss : List (BitVec 256)) (zs : List Int) (r : Int) (w : World) (hS : SetsAt w w.heap.size V Ss) (hz : IntsAt w w.heap.size v zs) :
    Calls Try.prog 5 #[V, v, .int .i64 r] w fun e w' => e = .returned (.bool true) ∧ Below w.heap.size w w' := by
  cases hg : (decide (20 < Ss.length) || decide (20 < zs.length))
  · by_cases h5 : 5 < zs.length
    · cases hm : mayO Ss zs
      · exact sifts7_no5 w V v r Ss zs hS hz hg h5 hm
      · exact sifts7_long w V v r Ss zs hS hz hg h5 hm
    · cases hm : mayO Ss zs
      · exact sifts7_no w V v r Ss zs hS hz hg h5 hm
      · by_cases h0 : r < 0
        · exact sifts7_low w V v r Ss zs hS hz hg h5 hm h0
        · by_cases h4 : 4 < r
          · exact sifts7_high w V v r Ss zs hS hz hg h5 hm h4
          · exact sifts7_mid w V v r Ss zs hS hz hg h5 hm ⟨by omega, by omega⟩
  · exact sifts7_great w V v r Ss zs hS hz hg
set_option maxRecDepth 100000 in
theorem orderSifts_lifted (os : Os) (started : os.Started) (H : Type) (enc : TypeId × Value → H) :
    ReturnsInHanded {} Try.checked os 5 .any (Rows.orderSiftsSpec.pre6 enc Try.prog Try.f5 Rows.orderSiftsRow.domain false) (Rows.orderSiftsSpec.post enc Try.prog Try.f5 false true false false) := by
  refine returnsInHanded_of_change (C := Try.checked) Try.own started (by kernel_rfl) Try.func5
    (ChangeSpec.witness6 (enc := enc) (C := Try.checked) false ⟨#[], #[.slice none 0 0, .slice none 0 0, .int .i64 0], []⟩ 8 (by kernel_rfl) (by kernel_rfl) (by kernel_rfl) (by kernel_rfl)) ?_
  intro W base args ds gs before hval0 hW hcnd _
  have hval : ∀ (j : Nat) t v, Try.f5.params[j]? = some t → args[j]? = some v → Value.okWide Try.prog W .any base t v := hval0
  have hW' := hW
  obtain ⟨p, q, hA0, hV, rfl, hfz, hnd⟩ := hW
  have hA : DataW.TrodAll enc Try.prog W 0 (fun _ => true) true Try.f5.params.toList args.toList ds p := hA0
  rw [Try.params5] at hA hval
  obtain ⟨v0, vs0, d0, ds0, p0, q0, hargs, rfl, rfl, h0, r0⟩ := trodAll_cons hA
  obtain ⟨v1, vs1, d1, ds1, p1, q1, rfl, rfl, rfl, h1, r1⟩ := trodAll_cons r0
  obtain ⟨v2, vs2, d2, ds2, p2, q2, rfl, rfl, rfl, h2, r2⟩ := trodAll_cons r1
  obtain ⟨rfl, rfl, rfl⟩ := trodAll_nil r2
  obtain rfl : args = #[v0, v1, v2] := by cases args; simp_all
  obtain ⟨rfl, rfl⟩ := trodVars_none hV
  have k0 := h0
  have lt0 : ∀ x ∈ p0, x.block < W.heap.size := by obtain ⟨m, hm⟩ := k0; exact DataW.trod_lt m _ _ _ hm
  have k1 := h1
  have lt1 : ∀ x ∈ p1, x.block < W.heap.size := by obtain ⟨m, hm⟩ := k1; exact DataW.trod_lt m _ _ _ hm
  have k2 := h2
  have lt2 : ∀ x ∈ p2, x.block < W.heap.size := by obtain ⟨m, hm⟩ := k2; exact DataW.trod_lt m _ _ _ hm
  obtain ⟨Ss0, hS0⟩ := open_sets (slice_cells Try.underlying22 (hval 0 22 v0 rfl rfl)) h0
  obtain ⟨ks1, hK1⟩ := open_intl (slice_cells Try.underlying23 (hval 1 23 v1 rfl rfl)) h1
  obtain ⟨n2, rfl, _, _, w2⟩ := open_int Try.underlying3 (hval 2 3 v2 rfl rfl) h2
  clear hA0 hval0
  refine (orderSifts_any v0 v1 Ss0 ks1 n2 W hS0 hK1).mono fun e W' ⟨he, bel⟩ => ?_
  subst he
  exact ⟨_, rfl, _, _, _, [], _, [], hW', trodAll_mk1 (shut_bool Try.underlying4 _), (trodAll_cons_mk (Below.trod Try.laidOut (by kernel_rfl) (of_decide_eq_true (by kernel_rfl)) k0 bel lt0) (trodAll_cons_mk (Below.trod Try.laidOut (by kernel_rfl) (of_decide_eq_true (by kernel_rfl)) k1 bel lt1) (trodAll_cons_mk (Below.trod Try.laidOut (by kernel_rfl) (of_decide_eq_true (by kernel_rfl)) k2 bel lt2) trodAll_mk0))), rfl, bel.frame _, fun h => by cases h⟩

theorem orderSifts_holds : Rows.OrderSiftsSaid :=
  OpenClaim.holds_of_wide 5 Try.f5 rfl rfl rfl rfl rfl rfl rfl ⟨rfl, rfl, rfl, rfl, rfl⟩ rfl rfl rfl rfl rfl (by kernel_rfl) Try.func5 (by kernel_rfl)
    (of_decide_eq_true (by kernel_rfl)) (by unfold Func.isWrapper; first | (rw [if_pos (by decide +kernel)]; kernel_rfl) | (rw [if_neg (by decide +kernel)]; exact ⟨rfl, rfl⟩))
    (fun os started H enc _ => orderSifts_lifted os started H enc)
end Go.Proofs.Ytfamdckaljniiaa
