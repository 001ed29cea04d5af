/- A region that draws its order and ends in stores that wait for all the rest: ahead of these a load may be taken first where nobody ahead of the stores writes its cell; the stores themselves may write it. -/
import Derived.Test.YtnddepijbbchiaaTail
import Derived.Deep.RegionHeld3
namespace Go.Proofs.Ytnddepijbbchiaa
open Go.RowKit Go.Joins

section
variable {P : Program} {ops : Array Oper} {md : Region.Mode} {S : World → Prop} {Q : Exit → Act → World → Prop}
/-- k of the first n operations, in whatever order they come up, S behind each; then L. -/
def HeadH (P : Program) (md : Region.Mode) (ops : Array Oper) (Q : Exit → Act → World → Prop) (S : World → Prop) (n : Nat) (L : Array Bool → Act → World → Prop) : Nat → Array Bool → Act → World → Prop
  | 0 => L
  | k + 1 => fun done a w => HeadInv md ops n done → Region.ready md ops done ≠ [] ∧ ∀ j, j ∈ Region.ready md ops done → j < n ∧ wpOp P ops Q j (fun a' w' => S w' ∧ HeadH P md ops Q S n L k (done.setIfInBounds j true) a' w') a w
theorem HeadH.any {n m : Nat} {L : Array Bool → Act → World → Prop} (hL : ∀ done a w, L done a w → wpAny P md ops Q m done a w) (k : Nat) :
    ∀ (done : Array Bool) (a : Act) (w : World), HeadInv md ops n done → HeadH P md ops Q S n L k done a w → wpAny P md ops Q (k + m) done a w := by
  induction k with
  | zero => intro done a w _ h; simpa using hL done a w h
  | succ k ih =>
    intro done a w inv h
    obtain ⟨hne, hall⟩ := h inv
    have e : k + 1 + m = (k + m) + 1 := by omega
    rw [e]
    refine ⟨fun hn => (hne hn).elim, fun j hj => ?_⟩
    exact wpOp_mono (fun a' w' h' => ih _ a' w' (inv.set hj (hall j hj).1) h'.2) (hall j hj).2
theorem HeadH.first {n j : Nat} {o : Oper} {v : Value} {L : Array Bool → Act → World → Prop} (ho : ops[j]? = some o) (hns : Region.noSelect ops = true)
    (hsink : Region.sinkB md ops n = true) (hchain : Region.chainB md ops n = true) (hn : n < ops.size) (hj : j < n)
    (hQ : ∀ c a w, Q (.panic c) (a.put o.dst v) w → Q (.panic c) a w)
    (hL : ∀ done a w, L done a w → ∀ t, t ∈ Region.ready md ops done → n ≤ t) (k : Nat) :
    ∀ (done : Array Bool) (a : Act) (w : World), FreeAt md ops done j o → j ∈ Region.ready md ops done → YieldsIf P ops S o v a → S w →
      HeadH P md ops Q S n L k (done.setIfInBounds j true) (a.put o.dst v) w → HeadH P md ops Q S n L (k + 1) done a w := by
  have sel := Region.noSelect_spec hns
  induction k with
  | zero =>
    intro done a w _ hr hy hS H inv
    have hun := (mem_ready.1 hr).1
    refine ⟨List.ne_nil_of_mem hr, fun t ht => ?_⟩
    have htn : t < n := Nat.lt_of_not_le fun h => tail_waits hsink hchain hn inv (n - j) j rfl hj hun t h ht
    by_cases e : t = j
    · rw [e]; exact ⟨hj, hy.wpOp ho hS ⟨hS, H⟩⟩
    · have := hL _ _ _ H t (ready_mono ht e)
      omega
  | succ k ih =>
    intro done a w hf hr hy hS H inv
    have hun := (mem_ready.1 hr).1
    have H' := H (inv.set hr hj)
    refine ⟨List.ne_nil_of_mem hr, fun t ht => ?_⟩
    have htn : t < n := Nat.lt_of_not_le fun h => tail_waits hsink hchain hn inv (n - j) j rfl hj hun t h ht
    by_cases e : t = j
    · rw [e]; exact ⟨hj, hy.wpOp ho hS ⟨hS, H⟩⟩
    obtain ⟨htu, ot, hot, hwaits⟩ := mem_ready.1 ht
    have nowait : ∀ x, x ∈ ot.after → Region.binds md x = true → x.on ≠ j := by
      intro x hx hb he
      have h1 := hwaits x hx hb
      rw [he, getD_both hun] at h1
      exact Bool.noConfusion h1
    have h2 := wpOp_putIf hot (hf t ot hot e htu nowait) (fun cs b => sel j o cs b ho) (fun cs b => sel t ot cs b hot) hQ hy ((H'.2 t (ready_mono ht e)).2)
    refine ⟨htn, wpOp_mono ?_ h2⟩
    rintro a' w' ⟨hy', hS', h3⟩
    refine ⟨hS', ih (done.setIfInBounds t true) a' w' (hf.later htu) (ready_mono hr (Ne.symm e)) hy' hS' ?_⟩
    rw [Array.setIfInBounds_comm _ _ e]; exact h3
end
/-- The stores, in the order of the text. -/
def TailL (P : Program) (l : List Oper) (Q : Exit → Act → World → Prop) (n : Nat) : Array Bool → Act → World → Prop :=
  fun done a w => Region.seqB .any l.toArray (l.drop n).length n done = true ∧ wpList P l.toArray Q (l.drop n) a w
def tailOk (l : List Oper) (n : Nat) : Bool := Region.noSelect l.toArray && decide (n < l.length) && Region.sinkB .any l.toArray n && Region.chainB .any l.toArray n
section
variable {P : Program} {l : List Oper} {n : Nat} {S : World → Prop} {Q : Exit → Act → World → Prop}
theorem HeadH.take {i k : Nat} {o : Oper} {v : Value} {done : Array Bool} {a : Act} {w : World} (hF : tailOk l n = true) (ho : l.toArray[i]? = some o) (hi : decide (i < n) = true)
    (hf : Region.free .any l.toArray done i = true) (hr : (Region.ready .any l.toArray done).contains i = true)
    (hQ : ∀ c a w, Q (.panic c) (a.put o.dst v) w → Q (.panic c) a w) (hy : YieldsIf P l.toArray S o v a) (hS : S w)
    (h : HeadH P .any l.toArray Q S n (TailL P l Q n) k (done.setIfInBounds i true) (a.put o.dst v) w) : HeadH P .any l.toArray Q S n (TailL P l Q n) (k + 1) done a w := by
  simp only [tailOk, Bool.and_eq_true, decide_eq_true_eq] at hF
  obtain ⟨⟨⟨hns, hn⟩, hsink⟩, hchain⟩ := hF
  exact HeadH.first ho hns hsink hchain (by simpa using hn) (of_decide_eq_true hi) hQ (fun _ _ _ hL => seqB_ready hL.1) k done a w (Region.free_spec ho hf) (by simpa using hr) hy hS h
theorem HeadH.one {i k : Nat} {o : Oper} {done : Array Bool} {a : Act} {w : World} (hr : Region.ready .any l.toArray done = [i]) (hi : decide (i < n) = true) (ho : l.toArray[i]? = some o)
    (h : ∀ K' : Act → World → Prop, Shut (∀ a w, S w → (S w → HeadH P .any l.toArray Q S n (TailL P l Q n) k (done.setIfInBounds i true) a w) → K' a w) → if Region.wanted o (yielded l.toArray a.tmps) = true then Oper.wp P o a w K' Q else K' (a.put o.dst undef) w) :
    HeadH P .any l.toArray Q S n (TailL P l Q n) (k + 1) done a w := by
  intro _
  rw [hr]
  refine ⟨by simp, fun j hj => ?_⟩
  have e : j = i := by simpa using hj
  subst e
  exact ⟨of_decide_eq_true hi, wpOp_step ho (fun K' hK => h K' (fun a w hS hW => hK a w ⟨hS, hW hS⟩))⟩
theorem wp_region_held_tail {id : Nat} {a : Act} {w : World} (n : Nat) (S : World → Prop) (hm : P.follows .mixedOrders = true) (hF : tailOk l n = true) (hS : S w.drew)
    (h : tailOk l n = true → S w.drew → HeadH P .any l.toArray Q S n (TailL P l Q n) n (Array.replicate l.toArray.size false) a w.drew) : (Code.region id l.toArray true).wp P Q a w := by
  have hF' := hF
  simp only [tailOk, Bool.and_eq_true, decide_eq_true_eq] at hF'
  obtain ⟨⟨⟨hns, hn⟩, hsink⟩, hchain⟩ := hF'
  have hg : (l.drop n).length = l.toArray.size - n := by simp
  have start : HeadInv .any l.toArray n (Array.replicate l.toArray.size false) :=
    ⟨by simp, fun t _ _ ht => Bool.noConfusion ((getD_replicate_false _ t).symm.trans ht), fun t _ ht => getD_in (by simpa using ht) (getD_replicate_false _ t)⟩
  have H2 := HeadH.any (P := P) (Q := Q) (S := S) (n := n) (m := l.toArray.size - n) (fun done a' w' hL => by
    have := wpAny_of_seq (P := P) (ops := l.toArray) (md := .any) (Q' := Q) (l.drop n) n done a' w' (fun t => by simp) hL.1 hL.2
    rwa [hg] at this) n _ a w.drew start (h hF hS)
  have hnl : n < l.length := hn
  rw [show n + (l.toArray.size - n) = l.toArray.size by simp; omega] at H2
  exact wp_region_any hm H2
end
end Go.Proofs.Ytnddepijbbchiaa
