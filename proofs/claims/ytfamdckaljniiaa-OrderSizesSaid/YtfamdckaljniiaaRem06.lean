/- What is remembered: a map keyed by three ids, each entry of which says what the three say. -/
import Derived.Test.YtfamdckaljniiaaFit06
namespace Go.Proofs.Ytfamdckaljniiaa
open Go.RowKit Go.Joins
open Go.Maps (Keyed)

/-- What Ite says. -/
def iteF (S : St) (f g h : Int) (c : Nat → Bool) : Bool := if says S c f then says S c g else says S c h
/-- An entry that is right. -/
structure GoodI (S : St) (f g h r : Int) : Prop where
  f0 : 0 ≤ lvl S f
  g0 : 0 ≤ lvl S g
  h0 : 0 ≤ lvl S h
  r0 : 0 ≤ lvl S r
  low : ∀ l : Int, l ≤ lvl S f → l ≤ lvl S g → l ≤ lvl S h → l ≤ lvl S r
  says : ∀ c, Go.Proofs.Ytfamdckaljniiaa.says S c r = iteF S f g h c
theorem iteF_ext {S T : St} (hV : VSt S) (hx : Ext S T) {f g h : Int} (f0 : 0 ≤ lvl S f) (g0 : 0 ≤ lvl S g) (h0 : 0 ≤ lvl S h) (c : Nat → Bool) : iteF T f g h c = iteF S f g h c := by
  unfold iteF
  rw [hx.says hV c f0, hx.says hV c g0, hx.says hV c h0]
theorem GoodI.ext {S T : St} (hV : VSt S) (hx : Ext S T) {f g h r : Int} (k : GoodI S f g h r) : GoodI T f g h r := by
  obtain ⟨f0, g0, h0, r0, low, sy⟩ := k
  have e1 := hx.lvl f0
  have e2 := hx.lvl g0
  have e3 := hx.lvl h0
  have e4 := hx.lvl r0
  refine ⟨by omega, by omega, by omega, by omega, fun l a b c => ?_, fun c => ?_⟩
  · rw [e4]; exact low l (by omega) (by omega) (by omega)
  · rw [hx.says hV c r0, sy c, iteF_ext hV hx f0 g0 h0]
theorem wf_id {S : St} (hl : S.length ≤ 20000) {id : Int} (h : 0 ≤ lvl S id) : (Lit.int .i64 id).wf = true := by
  rcases lvl_kind h with he | ⟨j, m, rfl, hm, _⟩
  · rcases he with rfl | rfl <;> decide
  · have := (List.getElem?_eq_some_iff.1 hm).1
    exact WalkArith.wf_i64 (by omega)
theorem wf_three {S : St} (hl : S.length ≤ 20000) {f g h : Int} (f0 : 0 ≤ lvl S f) (g0 : 0 ≤ lvl S g) (h0 : 0 ≤ lvl S h) : wfN (f, g, h) := ⟨wf_id hl f0, wf_id hl g0, wf_id hl h0⟩
theorem kl_inj3 {a b : Nd} (ha : wfN a) (hb : wfN b) (h : klN a = klN b) : a = b := kl_inj ha hb h
def Rem (D : DataW Unit) (S : St) : Prop := ∀ n : Nd, wfN n → Maps.has D (klN n) = true → ∃ r, D.atKey (klN n) (.lit (.int .i64 0)) = .lit (.int .i64 r) ∧ GoodI S n.1 n.2.1 n.2.2 r
theorem Kep.turned {M : Nat → Prop} {w w' : World} {mm : Nat} (h : w.mapTurned w' mm) (hM : M mm) : Kep M w w' := by
  have hb := fun k (hk : k ≠ mm) => turned_block h hk
  have hg := h.grown
  obtain ⟨es, clock, es', clock', hm, -⟩ := h
  refine ⟨hg.os, hg.tape, hg.output, hg.size, fun k C T z hk _ _ => ?_, fun k e1 c1 hk hn => ?_⟩
  · exact (hb k (fun e => by subst e; rw [hm] at hk; injection hk with hk; cases hk)).trans hk
  · exact (hb k (fun e => hn (by rw [e]; exact hM))).trans hk
end Go.Proofs.Ytfamdckaljniiaa
