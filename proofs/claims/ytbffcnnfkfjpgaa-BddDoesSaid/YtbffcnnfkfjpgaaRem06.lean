/- What is remembered: a map keyed by three ids, each entry of which says what the three say. -/
import Derived.Test.YtbffcnnfkfjpgaaFit06
namespace Go.Proofs.Ytbffcnnfkfjpgaa
open Go.RowKit Go.Joins
open Go.Maps (Keyed)

/-- What Ite says. -/
def iteF (S : St) (f g h : Int) (c : Nat → Bool) : Bool := if says S c f then says S c g else says S c h
/-- An entry that is right. -/
structure GoodI (S : St) (f g h r : Int) : Prop where
  f0 : 0 ≤ lvl S f
  g0 : 0 ≤ lvl S g
  h0 : 0 ≤ lvl S h
  r0 : 0 ≤ lvl S r
  low : ∀ l : Int, l ≤ lvl S f → l ≤ lvl S g → l ≤ lvl S h → l ≤ lvl S r
  says : ∀ c, Go.Proofs.Ytbffcnnfkfjpgaa.says S c r = iteF S f g h c
theorem iteF_ext {S T : St} (hV : VSt S) (hx : Ext S T) {f g h : Int} (f0 : 0 ≤ lvl S f) (g0 : 0 ≤ lvl S g) (h0 : 0 ≤ lvl S h) (c : Nat → Bool) : iteF T f g h c = iteF S f g h c := by
  unfold iteF
  rw [hx.says hV c f0, hx.says hV c g0, hx.says hV c h0]
theorem GoodI.ext {S T : St} (hV : VSt S) (hx : Ext S T) {f g h r : Int} (k : GoodI S f g h r) : GoodI T f g h r := by
  obtain ⟨f0, g0, h0, r0, low, sy⟩ := k
  have e1 := hx.lvl f0
  have e2 := hx.lvl g0
  have e3 := hx.lvl h0
  have e4 := hx.lvl r0
  refine ⟨by omega, by omega, by omega, by omega, fun l a b c => ?_, fun c => ?_⟩
  · rw [e4]; exact low l (by omega) (by omega) (by omega)
  · rw [hx.says hV c r0, sy c, iteF_ext hV hx f0 g0 h0]
theorem wf_id {S : St} (hl : S.length ≤ 20000) {id : Int} (h : 0 ≤ lvl S id) : (Lit.int .i64 id).wf = true := by
  rcases lvl_kind h with he | ⟨j, m, rfl, hm, _⟩
  · rcases he with rfl | rfl <;> decide
  · have := (List.getElem?_eq_some_iff.1 hm).1
    exact WalkArith.wf_i64 (by omega)
theorem wf_three {S : St} (hl : S.length ≤ 20000) {f g h : Int} (f0 : 0 ≤ lvl S f) (g0 : 0 ≤ lvl S g) (h0 : 0 ≤ lvl S h) : wfN (f, g, h) := ⟨wf_id hl f0, wf_id hl g0, wf_id hl h0⟩
theorem Try.keyThree : Try.prog.keyType 92 = true := by kernel_rfl
theorem Try.cellsThree : Try.prog.cellsOf 92 = 3 := by kernel_rfl
theorem key_three {n : Nd} (h : wfN n) : keyOf Try.prog 92 (ndV n) = some (klN n) := by
  obtain ⟨h0, h1, h2⟩ := h
  have hm : ∃ m, Try.prog.types.size = m + 1 := ⟨Try.prog.types.size - 1, by have : 0 < Try.prog.types.size := of_decide_eq_true (by kernel_rfl); omega⟩
  obtain ⟨m, hm⟩ := hm
  unfold keyOf ndV
  simp only [Try.underlying92]
  rw [if_pos (by simp [Try.keyThree, Value.formed, Try.underlying92, Try.cellsThree]), hm]
  unfold Program.keyLits
  simp [Try.underlying92, Try.cellsThree, Value.cells, Program.keyLits, Try.underlying3, Try.cellsInt1, klN]
  refine ⟨[[.int .i64 n.1], [.int .i64 n.2.1], [.int .i64 n.2.2]], ?_, rfl⟩
  rw [show List.range 3 = [0, 1, 2] from rfl]
  simp [h0, h1, h2]
theorem Try.threeKeyed : Keyed Try.prog 92 := Keyed.of_law (deep_law_laid Try.laidOut (m := 3) (by omega) (of_decide_eq_true (by kernel_rfl)) (by kernel_rfl) (by kernel_rfl))
theorem isKey_three {n : Nd} (h : wfN n) : WideAt.IsKeyLit (klN n) := Try.threeKeyed.key (key_three h)
theorem kl_inj3 {a b : Nd} (ha : wfN a) (hb : wfN b) (h : klN a = klN b) : a = b := kl_inj ha hb h
def Rem (D : DataW Unit) (S : St) : Prop := ∀ n : Nd, wfN n → Maps.has D (klN n) = true → ∃ r, D.atKey (klN n) (.lit (.int .i64 0)) = .lit (.int .i64 r) ∧ GoodI S n.1 n.2.1 n.2.2 r
def RemIs (w : World) (mm : Nat) (S : St) (C : Nat) : Prop := ∃ D n, w.ownsMap Try.prog 92 (plainElem Try.prog 3) mm n D ∧ n ≤ C ∧ Rem D S
theorem RemIs.made (w : World) (S : St) : RemIs (w.alloc (.map #[] 0)) w.heap.size S 0 :=
  ⟨.map [], 0, World.ownsMap_made w _ _ _, Nat.le_refl _, fun n _ h => by simp [Maps.has] at h⟩
theorem RemIs.obj {w : World} {mm : Nat} {S : St} {C : Nat} (h : RemIs w mm S C) : ∃ es clock, w.heap[mm]? = some (.map es clock) := by
  obtain ⟨D, n, ⟨es, clock, hm, _⟩, _⟩ := h; exact ⟨es, clock, hm⟩
theorem RemIs.lt {w : World} {mm : Nat} {S : St} {C : Nat} (h : RemIs w mm S C) : mm < w.heap.size := by
  obtain ⟨es, clock, hm⟩ := h.obj; exact size_of_block hm
theorem RemIs.keep {w w' : World} {mm : Nat} {S : St} {C : Nat} (h : RemIs w mm S C) (hb : w'.heap[mm]? = w.heap[mm]?) : RemIs w' mm S C := by
  obtain ⟨D, n, ⟨es, clock, hm, r⟩, ht⟩ := h
  exact ⟨D, n, ⟨es, clock, hb.trans hm, r⟩, ht⟩
theorem RemIs.below {w w' : World} {mm : Nat} {S : St} {C : Nat} (h : RemIs w mm S C) (hb : Below w.heap.size w w') : RemIs w' mm S C := h.keep (hb.block _ h.lt)
theorem RemIs.kep {M : Nat → Prop} {w w' : World} {mm : Nat} {S : St} {C : Nat} (h : RemIs w mm S C) (k : Kep M w w') (hM : ¬ M mm) : RemIs w' mm S C := by
  obtain ⟨es, clock, hm⟩ := h.obj
  exact h.keep ((k.maps mm es clock hm hM).trans hm.symm)
theorem RemIs.ext {w : World} {mm : Nat} {S T : St} {C : Nat} (h : RemIs w mm S C) (hV : VSt S) (hx : Ext S T) : RemIs w mm T C := by
  obtain ⟨D, n, ho, hn, hr⟩ := h
  exact ⟨D, n, ho, hn, fun x hx' hh => by obtain ⟨r, h1, h2⟩ := hr x hx' hh; exact ⟨r, h1, h2.ext hV hx⟩⟩
theorem RemIs.more {w : World} {mm : Nat} {S : St} {C C' : Nat} (h : RemIs w mm S C) (hC : C ≤ C') : RemIs w mm S C' := by
  obtain ⟨D, n, ho, hn, hr⟩ := h
  exact ⟨D, n, ho, Nat.le_trans hn hC, hr⟩
set_option maxRecDepth 100000 in
/-- What is asked of it. -/
theorem RemIs.look {w : World} {mm : Nat} {S : St} {C : Nat} (h : RemIs w mm S C) {n : Nd} (hn : wfN n) :
    ∃ (c : Int) (b : Bool), (∀ x : After w, (Instr.lookup 89 (.map (some mm)) (ndV n) true).run Try.prog x.1 = .ok (.tuple #[.int .i64 c, .bool b]) x.1) ∧ (b = true → GoodI S n.1 n.2.1 n.2.2 c) := by
  obtain ⟨D, k, ho, hk, hr⟩ := h
  have hmm := ho.lt
  obtain ⟨es, clock, hm, rest⟩ := ho
  have key : ∀ x : After w, ∃ c : Int, (Instr.lookup 89 (.map (some mm)) (ndV n) true).run Try.prog x.1 = .ok (.tuple #[.int .i64 c, .bool (Maps.has D (klN n))]) x.1 ∧ D.atKey (klN n) (.lit (.int .i64 0)) = .lit (.int .i64 c) := fun x => by
    have ho' : x.1.ownsMap Try.prog 92 (plainElem Try.prog 3) mm k D := ⟨es, clock, (x.2.block _ (size_of_block hm)).trans hm, rest⟩
    obtain ⟨v, ps, hrun, hv⟩ := ho'.look_ok Try.threeKeyed Try.underlying89 (zeroInt x.1) (plainElem_int Try.underlying3 (by decide)) (key_three hn)
    obtain ⟨c, rfl, hc, _⟩ := plainElem_int_inv Try.underlying3 hv
    simp only [Prod.mk.injEq] at hc
    exact ⟨c, hrun, hc.1⟩
  obtain ⟨c, -, hc⟩ := key (After.here w)
  refine ⟨c, Maps.has D (klN n), fun x => ?_, fun hb => ?_⟩
  · obtain ⟨c', h1, h2⟩ := key x
    rw [hc] at h2
    injection h2 with h2
    injection h2 with _ h2
    rw [h2]; exact h1
  · obtain ⟨r, h1, h2⟩ := hr n hn hb
    rw [hc] at h1
    injection h1 with h1
    injection h1 with _ h1
    rw [h1]; exact h2
set_option maxRecDepth 100000 in
theorem RemIs.store {w : World} {mm : Nat} {S : St} {C : Nat} (h : RemIs w mm S C) (hC : C ≤ 1000000) {n : Nd} {r : Int} (hn : wfN n) (hr : (Lit.int .i64 r).wf = true) (hg : GoodI S n.1 n.2.1 n.2.2 r) :
    ∃ w', (Instr.mapUpdate 89 (.map (some mm)) (ndV n) (.int .i64 r)).run Try.prog w = .ok () w' ∧ RemIs w' mm S (C + 1) ∧ w.mapTurned w' mm := by
  obtain ⟨D, k, ho, hk, hrem⟩ := h
  obtain ⟨w', hrun, hown, hturn⟩ := ho.store Try.threeKeyed Try.underlying89 (by unfold maxLen; omega) (key_three hn) (plainElem_int Try.underlying3 hr)
  have hT := ho.tidy Try.threeKeyed
  refine ⟨w', hrun, ⟨_, _, hown, by omega, fun m hm hh => ?_⟩, hturn⟩
  by_cases e : m = n
  · subst e
    exact ⟨r, Maps.atKey_put_same hT.isMap (isKey_three hm) _ _, hg⟩
  · have hne : klN m ≠ klN n := fun x => e (kl_inj hm hn x)
    rw [Maps.has_put_other hne] at hh
    obtain ⟨r', h1, h2⟩ := hrem m hm hh
    exact ⟨r', by rw [Maps.atKey_put_other hne]; exact h1, h2⟩
/-- 'm[k] = v' at the operation, for this map. -/
theorem wpList_store_rem (w : World) {ops : Array Oper} {rest : List Oper} {o : Oper} {a : Act} {Q : Exit → Act → World → Prop}
    (hg : o.guard = none) (m x v : Operand) (hop : o.op = Op.mapUpdate 89 m x v) (mm : Nat) (S : St) (C : Nat) (n : Nd) (r : Int) (hm : a.eval m = .map (some mm)) (hx : a.eval x = ndV n) (hv : a.eval v = .int .i64 r)
    (h : RemIs w mm S C) (hC : C ≤ 1000000) (hn : wfN n) (hr : (Lit.int .i64 r).wf = true) (hgd : GoodI S n.1 n.2.1 n.2.2 r)
    (hK : ∀ w', RemIs w' mm S (C + 1) → w.mapTurned w' mm → wpList Try.prog ops Q rest (a.put o.dst undef) w') : wpList Try.prog ops Q (o :: rest) a w := by
  refine wpList_plain hg fun K' hK' => ?_
  obtain ⟨w', hrun, r1, r2⟩ := h.store hC hn hr hgd
  unfold Oper.wp
  simp [execOp, hop, hm, hx, hv, hrun, Result.andThen]
  exact hK' _ _ (hK w' r1 r2)
theorem Kep.turned {M : Nat → Prop} {w w' : World} {mm : Nat} (h : w.mapTurned w' mm) (hM : M mm) : Kep M w w' := by
  have hb := fun k (hk : k ≠ mm) => turned_block h hk
  have hg := h.grown
  obtain ⟨es, clock, es', clock', hm, -⟩ := h
  refine ⟨hg.os, hg.tape, hg.output, hg.size, fun k C T z hk _ _ => ?_, fun k e1 c1 hk hn => ?_⟩
  · exact (hb k (fun e => by subst e; rw [hm] at hk; injection hk with hk; cases hk)).trans hk
  · exact (hb k (fun e => hn (by rw [e]; exact hM))).trans hk
end Go.Proofs.Ytbffcnnfkfjpgaa
