/- Whatever members: all items of both, of each member of each, is what the document says: the statement ZddJoins holds, with no condition. -/
import Derived.Test.YtkkdfpmjmommcaaZk08
import Derived.Test.YtkkdfpmjmommcaaOpen
import Derived.Test.YtkkdfpmjmommcaaOpenI
namespace Go.Proofs.Ytkkdfpmjmommcaa
open Go.ChangeShapes Go.WideShapes Go.ChangeAt Go.RowKit Go.Joins

theorem zddJoins_any (v u : Value) (zs ys : List Int) (w : World) (hz : IntsAt w w.heap.size v zs) (hy : IntsAt w w.heap.size u ys) :
    Calls Try.prog 6 #[v, u] w fun e w' => e = .returned (.bool true) ∧ Below w.heap.size w w' := by
  by_cases hg : 6 < zs.length ∨ 6 < ys.length
  · exact joins8_great w v u zs ys hz hy hg
  · have h1 : zs.length ≤ 6 := by omega
    have h2 : ys.length ≤ 6 := by omega
    cases hp : zs.all memB
    · exact joins8_no w v u zs ys _ _ hz hy h1 h2 hp rfl (by simp)
    · cases hq : ys.all memB
      · exact joins8_no w v u zs ys _ _ hz hy h1 h2 hp hq (by simp)
      · obtain ⟨e1, hlt⟩ := nats_good hp
        obtain ⟨e2, hlt2⟩ := nats_good hq
        have l1 := natsOf_len zs
        have l2 := natsOf_len ys
        rw [e1] at hz
        rw [e2] at hy
        exact joins8_yes w v u (natsOf zs) (natsOf ys) hz hy (by omega) (by omega) hlt hlt2
set_option maxRecDepth 100000 in
theorem zddJoins_lifted (os : Os) (started : os.Started) (H : Type) (enc : TypeId × Value → H) :
    ReturnsInHanded {} Try.checked os 6 .any (Rows.zddJoinsSpec.pre6 enc Try.prog Try.f6 Rows.zddJoinsRow.domain false) (Rows.zddJoinsSpec.post enc Try.prog Try.f6 false true false false) := by
  refine returnsInHanded_of_change (C := Try.checked) Try.own started (by kernel_rfl) Try.func6
    (ChangeSpec.witness6 (enc := enc) (C := Try.checked) false ⟨#[], #[.slice none 0 0, .slice none 0 0], []⟩ 8 (by kernel_rfl) (by kernel_rfl) (by kernel_rfl) (by kernel_rfl)) ?_
  intro W base args ds gs before hval0 hW hcnd _
  have hval : ∀ (j : Nat) t v, Try.f6.params[j]? = some t → args[j]? = some v → Value.okWide Try.prog W .any base t v := hval0
  have hW' := hW
  obtain ⟨p, q, hA0, hV, rfl, hfz, hnd⟩ := hW
  have hA : DataW.TrodAll enc Try.prog W 0 (fun _ => true) true Try.f6.params.toList args.toList ds p := hA0
  rw [Try.params6] at hA hval
  obtain ⟨v0, vs0, d0, ds0, p0, q0, hargs, rfl, rfl, h0, r0⟩ := trodAll_cons hA
  obtain ⟨v1, vs1, d1, ds1, p1, q1, rfl, rfl, rfl, h1, r1⟩ := trodAll_cons r0
  obtain ⟨rfl, rfl, rfl⟩ := trodAll_nil r1
  obtain rfl : args = #[v0, v1] := by cases args; simp_all
  obtain ⟨rfl, rfl⟩ := trodVars_none hV
  have k0 := h0
  have lt0 : ∀ x ∈ p0, x.block < W.heap.size := by obtain ⟨m, hm⟩ := k0; exact DataW.trod_lt m _ _ _ hm
  have k1 := h1
  have lt1 : ∀ x ∈ p1, x.block < W.heap.size := by obtain ⟨m, hm⟩ := k1; exact DataW.trod_lt m _ _ _ hm
  obtain ⟨ks0, hK0⟩ := open_intl (slice_cells Try.underlying22 (hval 0 22 v0 rfl rfl)) h0
  obtain ⟨ks1, hK1⟩ := open_intl (slice_cells Try.underlying22 (hval 1 22 v1 rfl rfl)) h1
  clear hA0 hval0
  refine (zddJoins_any v0 v1 ks0 ks1 W hK0 hK1).mono fun e W' ⟨he, bel⟩ => ?_
  subst he
  exact ⟨_, rfl, _, _, _, [], _, [], hW', trodAll_mk1 (shut_bool Try.underlying4 _), (trodAll_cons_mk (Below.trod Try.laidOut (by kernel_rfl) (of_decide_eq_true (by kernel_rfl)) k0 bel lt0) (trodAll_cons_mk (Below.trod Try.laidOut (by kernel_rfl) (of_decide_eq_true (by kernel_rfl)) k1 bel lt1) trodAll_mk0)), rfl, bel.frame _, fun h => by cases h⟩

theorem zddJoins_holds : Rows.ZddJoinsSaid :=
  OpenClaim.holds_of_wide 6 Try.f6 rfl rfl rfl rfl rfl rfl rfl ⟨rfl, rfl, rfl, rfl, rfl⟩ rfl rfl rfl rfl rfl (by kernel_rfl) Try.func6 (by kernel_rfl)
    (of_decide_eq_true (by kernel_rfl)) (by unfold Func.isWrapper; first | (rw [if_pos (by decide +kernel)]; kernel_rfl) | (rw [if_neg (by decide +kernel)]; exact ⟨rfl, rfl⟩))
    (fun os started H enc _ => zddJoins_lifted os started H enc)
end Go.Proofs.Ytkkdfpmjmommcaa
