/- The contracts of package reduce. A region that draws its order and ends in stores that wait for all the rest: ahead of these a load may be taken first where nobody ahead of the stores writes its cell; the stores themselves may write it. The document's own Right of layer 4, for every spec. The document's own May of layer 13. What the statements of layer 13 say of cover.Make, as contracts; CoverMakes over them. CoverMakes, where a covering may be made; CoverMakes. The document's examples of layer 13, over what package cover answers. -/
import Derived.Test.YtjjpobpcpgcbaaaGJxRdm14
import Derived.Test.YtjjpobpcpgcbaaaGJxLaw14d
import Derived.Test.YtjjpobpcpgcbaaaGJ27
import Derived.Test.YtjjpobpcpgcbaaaGJ03
import Derived.Test.YtjjpobpcpgcbaaaGJ11
import Derived.Test.YtjjpobpcpgcbaaaGJ10
import Derived.Test.YtjjpobpcpgcbaaaGJ25
import Derived.Test.YtjjpobpcpgcbaaaGJ12
import Derived.Deep.RegionHeld3
namespace Go.Proofs.Ytjjpobpcpgcbaaa
open Go.RowKit Go.Joins

set_option maxHeartbeats 8000000 in
set_option maxRecDepth 100000 in
theorem reduce_bad14 (n : Int) (V : Value) (ls : List (List Int)) (w : World) (hz : MatAt w w.heap.size V ls) (hr : rightM n ls = false) :
    Calls Try.prog 17 #[mtv n V] w fun e w' => ∃ A c A' c', e = .returned (.tuple #[.slice A 0 c, mtv 0 (.slice A' 0 c'), .int .i64 1]) ∧ Below w.heap.size w w' := by
  have hB0 := two_below14 w (mtb n V) (.cells #[.int .i64 0, .slice none 0 0] 24 (0, 0))
  have ht := two_made14 w (mtb n V) (.cells #[.int .i64 0, .slice none 0 0] 24 (0, 0))
  have HR := cright13 n V ls _ ((hz.below hB0).more hB0.size)
  rw [hr] at HR
  obtain ⟨A, cp, rfl, hl, -⟩ := hz
  unfold mtv at *
  unfold mtb at hB0 ht HR
  go_enter Try.func17, Try.ntmps17
  go_wp2_with fail
  go_step3
  go_wp2_with fail
  generalize (w.alloc _).alloc _ = w0 at *
  refine HR.mono ?_
  rintro e w1 ⟨rfl, hb1⟩
  have hrr := keep_blk hb1 ht.2
  have hB1 := hB0.trans (hb1.mono hB0.size)
  have hr3 := put2 (x0 := .int .i64 0) (x1 := .slice none 0 0) hrr
  obtain ⟨r0, r1, rf⟩ := now2 hrr rfl
  obtain ⟨q0, q1, -⟩ := now2 hr3 rfl
  have hBz := below2 (x0 := .int .i64 0) (x1 := .slice none 0 0) (by omega : w.heap.size ≤ w.heap.size + 1) hB1
  clear HR hb1 ht hB0 hrr hr3 hB1
  go_wp2
  try rw [Exit.noGoto_ret]
  refine bodyPost_ret (v := .tuple #[.slice none 0 0, .agg #[.int .i64 0, .slice none 0 0], .int .i64 1]) (by simp [results, Try.results17, go_sem, q0, q1]) rfl ?_
  exact ⟨_, _, _, _, rfl, hBz⟩
theorem gr14_small {n : Int} {ls : List (List Int)} (h : gr14 n ls = false) : ls.length ≤ 4000 ∧ ∀ r, r ∈ ls → r.length ≤ 4000 := by
  obtain ⟨h1, h2, -⟩ := gr14_no h
  refine ⟨by omega, fun r hr => ?_⟩
  unfold greatM at h1
  rw [Bool.or_eq_false_iff, List.any_eq_false] at h1
  have := h1.1 r hr
  simp at this
  omega
theorem credgood14 : ReduceGood := fun n L ls w hL hc hg hr => by
  obtain ⟨h0, -, -⟩ := right_iff.1 hr
  obtain ⟨N, rfl⟩ : ∃ N : Nat, n = N := ⟨n.toNat, by omega⟩
  exact reduce_good14 N L ls w hL hc (gr14_small hg).1 hr
theorem credbad14 : ReduceBad := fun n L ls w hL _ _ hr => reduce_bad14 n L ls w hL hr
theorem ctakegood14 : TakeGood := fun n L ls w hL hc hg hr => by
  refine (take_good14 n L ls w hL hc (gr14_small hg).1 (gr14_small hg).2 hr).mono ?_
  rintro e w' ⟨u, h1, h2, -, h4⟩
  exact ⟨u, h1, h2, h4⟩
theorem ctakebad14 : TakeBad := fun n L ls w hL _ hg hr => by
  refine (take_bad14 n L ls w hL (gr14_small hg).1 (gr14_small hg).2 hr).mono ?_
  rintro e w' ⟨u, h1, h2, -, h4⟩
  exact ⟨n, u, h1, h2, h4⟩
theorem crowsgood14 : RowsGood := fun n L ls w hL hc hg hr => by
  obtain ⟨h0, -, -⟩ := right_iff.1 hr
  obtain ⟨N, rfl⟩ : ∃ N : Nat, n = N := ⟨n.toNat, by omega⟩
  refine (rows_good14 N L ls w hL (gr14_small hg).1 (gr14_small hg).2 hr).mono ?_
  rintro e w' ⟨u, h1, h2, -, h4⟩
  exact ⟨u, h1, h2, h4⟩
theorem crowsbad14 : RowsBad := fun n L ls w hL _ hg hr => by
  refine (rows_bad14 n L ls w hL (gr14_small hg).1 (gr14_small hg).2 hr).mono ?_
  rintro e w' ⟨u, h1, h2, -, h4⟩
  exact ⟨n, u, h1, h2, h4⟩
theorem ccolsgood14 : ColsGood := fun n L ls w hL hc hg hr => by
  refine (cols_good14 n L ls w hL hc (gr14_small hg).1 (gr14_small hg).2 hr).mono ?_
  rintro e w' ⟨u, h1, h2, -, h4⟩
  exact ⟨u, h1, h2, h4⟩
theorem ccolsbad14 : ColsBad := fun n L ls w hL _ hg hr => by
  refine (cols_bad14 n L ls w hL (gr14_small hg).1 (gr14_small hg).2 hr).mono ?_
  rintro e w' ⟨u, h1, h2, -, h4⟩
  exact ⟨n, u, h1, h2, h4⟩
end Go.Proofs.Ytjjpobpcpgcbaaa
namespace Go.Proofs.Ytjjpobpcpgcbaaa
open Go.RowKit Go.Joins

section
variable {P : Program} {ops : Array Oper} {md : Region.Mode} {S : World → Prop} {Q : Exit → Act → World → Prop}
/-- k of the first n operations, in whatever order they come up, S behind each; then L. -/
def HeadH (P : Program) (md : Region.Mode) (ops : Array Oper) (Q : Exit → Act → World → Prop) (S : World → Prop) (n : Nat) (L : Array Bool → Act → World → Prop) : Nat → Array Bool → Act → World → Prop
  | 0 => L
  | k + 1 => fun done a w => HeadInv md ops n done → Region.ready md ops done ≠ [] ∧ ∀ j, j ∈ Region.ready md ops done → j < n ∧ wpOp P ops Q j (fun a' w' => S w' ∧ HeadH P md ops Q S n L k (done.setIfInBounds j true) a' w') a w
theorem HeadH.any {n m : Nat} {L : Array Bool → Act → World → Prop} (hL : ∀ done a w, L done a w → wpAny P md ops Q m done a w) (k : Nat) :
    ∀ (done : Array Bool) (a : Act) (w : World), HeadInv md ops n done → HeadH P md ops Q S n L k done a w → wpAny P md ops Q (k + m) done a w := by
  induction k with
  | zero => intro done a w _ h; simpa using hL done a w h
  | succ k ih =>
    intro done a w inv h
    obtain ⟨hne, hall⟩ := h inv
    have e : k + 1 + m = (k + m) + 1 := by omega
    rw [e]
    refine ⟨fun hn => (hne hn).elim, fun j hj => ?_⟩
    exact wpOp_mono (fun a' w' h' => ih _ a' w' (inv.set hj (hall j hj).1) h'.2) (hall j hj).2
theorem HeadH.first {n j : Nat} {o : Oper} {v : Value} {L : Array Bool → Act → World → Prop} (ho : ops[j]? = some o) (hns : Region.noSelect ops = true)
    (hsink : Region.sinkB md ops n = true) (hchain : Region.chainB md ops n = true) (hn : n < ops.size) (hj : j < n)
    (hQ : ∀ c a w, Q (.panic c) (a.put o.dst v) w → Q (.panic c) a w)
    (hL : ∀ done a w, L done a w → ∀ t, t ∈ Region.ready md ops done → n ≤ t) (k : Nat) :
    ∀ (done : Array Bool) (a : Act) (w : World), FreeAt md ops done j o → j ∈ Region.ready md ops done → YieldsIf P ops S o v a → S w →
      HeadH P md ops Q S n L k (done.setIfInBounds j true) (a.put o.dst v) w → HeadH P md ops Q S n L (k + 1) done a w := by
  have sel := Region.noSelect_spec hns
  induction k with
  | zero =>
    intro done a w _ hr hy hS H inv
    have hun := (mem_ready.1 hr).1
    refine ⟨List.ne_nil_of_mem hr, fun t ht => ?_⟩
    have htn : t < n := Nat.lt_of_not_le fun h => tail_waits hsink hchain hn inv (n - j) j rfl hj hun t h ht
    by_cases e : t = j
    · rw [e]; exact ⟨hj, hy.wpOp ho hS ⟨hS, H⟩⟩
    · have := hL _ _ _ H t (ready_mono ht e)
      omega
  | succ k ih =>
    intro done a w hf hr hy hS H inv
    have hun := (mem_ready.1 hr).1
    have H' := H (inv.set hr hj)
    refine ⟨List.ne_nil_of_mem hr, fun t ht => ?_⟩
    have htn : t < n := Nat.lt_of_not_le fun h => tail_waits hsink hchain hn inv (n - j) j rfl hj hun t h ht
    by_cases e : t = j
    · rw [e]; exact ⟨hj, hy.wpOp ho hS ⟨hS, H⟩⟩
    obtain ⟨htu, ot, hot, hwaits⟩ := mem_ready.1 ht
    have nowait : ∀ x, x ∈ ot.after → Region.binds md x = true → x.on ≠ j := by
      intro x hx hb he
      have h1 := hwaits x hx hb
      rw [he, getD_both hun] at h1
      exact Bool.noConfusion h1
    have h2 := wpOp_putIf hot (hf t ot hot e htu nowait) (fun cs b => sel j o cs b ho) (fun cs b => sel t ot cs b hot) hQ hy ((H'.2 t (ready_mono ht e)).2)
    refine ⟨htn, wpOp_mono ?_ h2⟩
    rintro a' w' ⟨hy', hS', h3⟩
    refine ⟨hS', ih (done.setIfInBounds t true) a' w' (hf.later htu) (ready_mono hr (Ne.symm e)) hy' hS' ?_⟩
    rw [Array.setIfInBounds_comm _ _ e]; exact h3
end
/-- The stores, in the order of the text. -/
def TailL (P : Program) (l : List Oper) (Q : Exit → Act → World → Prop) (n : Nat) : Array Bool → Act → World → Prop :=
  fun done a w => Region.seqB .any l.toArray (l.drop n).length n done = true ∧ wpList P l.toArray Q (l.drop n) a w
def tailOk (l : List Oper) (n : Nat) : Bool := Region.noSelect l.toArray && decide (n < l.length) && Region.sinkB .any l.toArray n && Region.chainB .any l.toArray n
section
variable {P : Program} {l : List Oper} {n : Nat} {S : World → Prop} {Q : Exit → Act → World → Prop}
theorem HeadH.take {i k : Nat} {o : Oper} {v : Value} {done : Array Bool} {a : Act} {w : World} (hF : tailOk l n = true) (ho : l.toArray[i]? = some o) (hi : decide (i < n) = true)
    (hf : Region.free .any l.toArray done i = true) (hr : (Region.ready .any l.toArray done).contains i = true)
    (hQ : ∀ c a w, Q (.panic c) (a.put o.dst v) w → Q (.panic c) a w) (hy : YieldsIf P l.toArray S o v a) (hS : S w)
    (h : HeadH P .any l.toArray Q S n (TailL P l Q n) k (done.setIfInBounds i true) (a.put o.dst v) w) : HeadH P .any l.toArray Q S n (TailL P l Q n) (k + 1) done a w := by
  simp only [tailOk, Bool.and_eq_true, decide_eq_true_eq] at hF
  obtain ⟨⟨⟨hns, hn⟩, hsink⟩, hchain⟩ := hF
  exact HeadH.first ho hns hsink hchain (by simpa using hn) (of_decide_eq_true hi) hQ (fun _ _ _ hL => seqB_ready hL.1) k done a w (Region.free_spec ho hf) (by simpa using hr) hy hS h
theorem HeadH.one {i k : Nat} {o : Oper} {done : Array Bool} {a : Act} {w : World} (hr : Region.ready .any l.toArray done = [i]) (hi : decide (i < n) = true) (ho : l.toArray[i]? = some o)
    (h : ∀ K' : Act → World → Prop, Shut (∀ a w, S w → (S w → HeadH P .any l.toArray Q S n (TailL P l Q n) k (done.setIfInBounds i true) a w) → K' a w) → if Region.wanted o (yielded l.toArray a.tmps) = true then Oper.wp P o a w K' Q else K' (a.put o.dst undef) w) :
    HeadH P .any l.toArray Q S n (TailL P l Q n) (k + 1) done a w := by
  intro _
  rw [hr]
  refine ⟨by simp, fun j hj => ?_⟩
  have e : j = i := by simpa using hj
  subst e
  exact ⟨of_decide_eq_true hi, wpOp_step ho (fun K' hK => h K' (fun a w hS hW => hK a w ⟨hS, hW hS⟩))⟩
theorem wp_region_held_tail {id : Nat} {a : Act} {w : World} (n : Nat) (S : World → Prop) (hm : P.follows .mixedOrders = true) (hF : tailOk l n = true) (hS : S w.drew)
    (h : tailOk l n = true → S w.drew → HeadH P .any l.toArray Q S n (TailL P l Q n) n (Array.replicate l.toArray.size false) a w.drew) : (Code.region id l.toArray true).wp P Q a w := by
  have hF' := hF
  simp only [tailOk, Bool.and_eq_true, decide_eq_true_eq] at hF'
  obtain ⟨⟨⟨hns, hn⟩, hsink⟩, hchain⟩ := hF'
  have hg : (l.drop n).length = l.toArray.size - n := by simp
  have start : HeadInv .any l.toArray n (Array.replicate l.toArray.size false) :=
    ⟨by simp, fun t _ _ ht => Bool.noConfusion ((getD_replicate_false _ t).symm.trans ht), fun t _ ht => getD_in (by simpa using ht) (getD_replicate_false _ t)⟩
  have H2 := HeadH.any (P := P) (Q := Q) (S := S) (n := n) (m := l.toArray.size - n) (fun done a' w' hL => by
    have := wpAny_of_seq (P := P) (ops := l.toArray) (md := .any) (Q' := Q) (l.drop n) n done a' w' (fun t => by simp) hL.1 hL.2
    rwa [hg] at this) n _ a w.drew start (h hF hS)
  have hnl : n < l.length := hn
  rw [show n + (l.toArray.size - n) = l.toArray.size by simp; omega] at H2
  exact wp_region_any hm H2
end
end Go.Proofs.Ytjjpobpcpgcbaaa
namespace Go.Proofs.Ytjjpobpcpgcbaaa
open Go.RowKit Go.Joins

theorem HeadH.takeL {P : Program} {l : List Oper} {n : Nat} {S : World → Prop} {Q : Exit → Act → World → Prop} {i k : Nat} {o : Oper} {v : Value} {done : Array Bool} {a : Act} {w : World} (hF : tailOk l n = true) (ho : l[i]? = some o) (hi : decide (i < n) = true)
    (hf : Region.free .any l.toArray done i = true) (hr : (Region.ready .any l.toArray done).contains i = true)
    (hQ : ∀ c a w, Q (.panic c) (a.put o.dst v) w → Q (.panic c) a w) (hy : YieldsIf P l.toArray S o v a) (hS : S w)
    (h : HeadH P .any l.toArray Q S n (TailL P l Q n) k (done.setIfInBounds i true) (a.put o.dst v) w) : HeadH P .any l.toArray Q S n (TailL P l Q n) (k + 1) done a w :=
  HeadH.take hF (by simpa using ho) hi hf hr hQ hy hS h
theorem HeadH.oneL {P : Program} {l : List Oper} {n : Nat} {S : World → Prop} {Q : Exit → Act → World → Prop} {i k : Nat} {o : Oper} {done : Array Bool} {a : Act} {w : World} (hr : Region.ready .any l.toArray done = [i]) (hi : decide (i < n) = true) (ho : l[i]? = some o)
    (h : ∀ K' : Act → World → Prop, Shut (∀ a w, S w → (S w → HeadH P .any l.toArray Q S n (TailL P l Q n) k (done.setIfInBounds i true) a w) → K' a w) → if Region.wanted o (yielded l.toArray a.tmps) = true then Oper.wp P o a w K' Q else K' (a.put o.dst undef) w) :
    HeadH P .any l.toArray Q S n (TailL P l Q n) (k + 1) done a w :=
  HeadH.one hr hi (by simpa using ho) h
end Go.Proofs.Ytjjpobpcpgcbaaa
namespace Go.Proofs.Ytjjpobpcpgcbaaa
open Go.RowKit Go.Joins

/-- The error that is told, when a covering may not be made. -/
def mayE (s : Sp) (rs : List Rw) : Nat := if spB s && rs.all (fun x => rightB x.m x.v s.i) then (if 4000 < rs.length then 3 else 0) else 1
theorem mayE_spec {s : Sp} {rs : List Rw} (h : spB s = false) : mayE s rs = 1 := by unfold mayE; rw [h]; rfl
theorem mayE_row {s : Sp} {rs : List Rw} {k : Nat} {x : Rw} (hx : rs[k]? = some x) (h : rightB x.m x.v s.i = false) : mayE s rs = 1 := by
  unfold mayE
  have : rs.all (fun x => rightB x.m x.v s.i) = false := by
    rw [List.all_eq_false]
    exact ⟨x, List.mem_of_getElem? hx, by simp [h]⟩
  rw [this, Bool.and_false]
  rfl
theorem mayE_ok {s : Sp} {rs : List Rw} (h : spB s = true) (hr : ∀ (k : Nat) (x : Rw), rs[k]? = some x → rightB x.m x.v s.i = true) : mayE s rs = if 4000 < rs.length then 3 else 0 := by
  unfold mayE
  have : rs.all (fun x => rightB x.m x.v s.i) = true := by
    rw [List.all_eq_true]
    intro x hx
    obtain ⟨k, hk, rfl⟩ := List.mem_iff_getElem.1 hx
    exact hr k _ (List.getElem?_eq_getElem hk)
  rw [h, this]
  rfl
end Go.Proofs.Ytjjpobpcpgcbaaa
namespace Go.Proofs.Ytjjpobpcpgcbaaa
open Go.RowKit Go.Joins

def great13 (on may : List (BitVec 256)) (rs : List Rw) : Bool := decide (20 < on.length) || decide (20 < may.length) || decide (60 < rs.length)
end Go.Proofs.Ytjjpobpcpgcbaaa
namespace Go.Proofs.Ytjjpobpcpgcbaaa
open Go.RowKit Go.Joins

theorem takeL13 {P : Program} {l : List Oper} {n : Nat} {S : World → Prop} {Q : Exit → Act → World → Prop} {i k : Nat} {o : Oper} {v : Value} {done : Array Bool} {a : Act} {w : World} (hF : tailOk l n = true) (ho : l[i]? = some o) (hi : decide (i < n) = true)
    (hf : Region.free .any l.toArray done i = true) (hr : (Region.ready .any l.toArray done).contains i = true)
    (hQ : ∀ c a w, Q (.panic c) (a.put o.dst v) w → Q (.panic c) a w) (hy : YieldsIf P l.toArray S o v a) (hS : S w)
    (h : HeadH P .any l.toArray Q S n (TailL P l Q n) k (done.setIfInBounds i true) (a.put o.dst v) w) : HeadH P .any l.toArray Q S n (TailL P l Q n) (k + 1) done a w :=
  HeadH.take hF (by simpa using ho) hi hf hr hQ hy hS h
theorem oneL13 {P : Program} {l : List Oper} {n : Nat} {S : World → Prop} {Q : Exit → Act → World → Prop} {i k : Nat} {o : Oper} {done : Array Bool} {a : Act} {w : World} (hr : Region.ready .any l.toArray done = [i]) (hi : decide (i < n) = true) (ho : l[i]? = some o)
    (h : ∀ K' : Act → World → Prop, Shut (∀ a w, S w → (S w → HeadH P .any l.toArray Q S n (TailL P l Q n) k (done.setIfInBounds i true) a w) → K' a w) → if Region.wanted o (yielded l.toArray a.tmps) = true then Oper.wp P o a w K' Q else K' (a.put o.dst undef) w) :
    HeadH P .any l.toArray Q S n (TailL P l Q n) (k + 1) done a w :=
  HeadH.one hr hi (by simpa using ho) h
def on8 (s : Sp) : Prop := s.on.length ≤ 8
theorem mayE_zero {s : Sp} {rs : List Rw} (h : mayE s rs = 0) : on8 s ∧ rs.length ≤ 4000 := by
  unfold mayE at h
  split at h
  · rename_i h1
    rw [Bool.and_eq_true] at h1
    have h2 := h1.1
    unfold spB at h2
    rw [Bool.and_eq_true] at h2
    have h3 := (headS_iff s).1 h2.1
    split at h
    · omega
    · exact ⟨by unfold on8; omega, by omega⟩
  · omega
end Go.Proofs.Ytjjpobpcpgcbaaa
namespace Go.Proofs.Ytjjpobpcpgcbaaa
open Go.RowKit Go.Joins

theorem lit_rows2 {w : World} {b : Nat} {x y : Rw} {T : TypeId} (h : w.heap[b]? = some (.cells #[bvv x.m, bvv x.v, bvv x.o, bvv y.m, bvv y.v, bvv y.o] T (0, 0))) : RwsAt w w.heap.size (.slice (some ⟨b, 0, none⟩) 2 2) [x, y] := by
  refine ⟨_, 2, rfl, (show (2 : Nat) ≤ 9223372036854775807 by decide), fun _ => ⟨b, 0, rfl, size_of_block h, fun j X hX => ?_⟩⟩
  match j, hX with
  | 0, hX =>
    injection hX with hX
    subst hX
    exact ⟨by rw [cell_of_block h]; rfl, by rw [cell_of_block h]; rfl, by rw [cell_of_block h]; rfl⟩
  | 1, hX =>
    injection hX with hX
    subst hX
    exact ⟨by rw [cell_of_block h]; rfl, by rw [cell_of_block h]; rfl, by rw [cell_of_block h]; rfl⟩
theorem lit_int1 {w : World} {b : Nat} {x : Int} {T : TypeId} (h : w.heap[b]? = some (.cells #[.int .i64 x] T (0, 0))) : IntsAt w w.heap.size (.slice (some ⟨b, 0, none⟩) 1 1) [x] := by
  refine ⟨_, 1, rfl, (show (1 : Nat) ≤ 9223372036854775807 by decide), fun _ => ⟨b, 0, rfl, size_of_block h, fun j y hy => ?_⟩⟩
  match j, hy with
  | 0, hy =>
    injection hy with hy
    subst hy
    rw [cell_of_block h]; rfl
theorem lit_int2 {w : World} {b : Nat} {x z : Int} {T : TypeId} (h : w.heap[b]? = some (.cells #[.int .i64 x, .int .i64 z] T (0, 0))) : IntsAt w w.heap.size (.slice (some ⟨b, 0, none⟩) 2 2) [x, z] := by
  refine ⟨_, 2, rfl, (show (2 : Nat) ≤ 9223372036854775807 by decide), fun _ => ⟨b, 0, rfl, size_of_block h, fun j y hy => ?_⟩⟩
  match j, hy with
  | 0, hy =>
    injection hy with hy
    subst hy
    rw [cell_of_block h]; rfl
  | 1, hy =>
    injection hy with hy
    subst hy
    rw [cell_of_block h]; rfl
theorem lit_mat2 {w : World} {b : Nat} {u v : Value} {l m : List Int} {T : TypeId} (h : w.heap[b]? = some (.cells #[u, v] T (0, 0))) (hu : IntsAt w w.heap.size u l) (hv : IntsAt w w.heap.size v m) : MatAt w w.heap.size (.slice (some ⟨b, 0, none⟩) 2 2) [l, m] := by
  refine ⟨_, 2, rfl, (show (2 : Nat) ≤ 9223372036854775807 by decide), fun _ => ⟨b, 0, rfl, size_of_block h, fun j y hy => ?_⟩⟩
  match j, hy with
  | 0, hy =>
    injection hy with hy
    subst hy
    exact ⟨u, by rw [cell_of_block h]; rfl, hu⟩
  | 1, hy =>
    injection hy with hy
    subst hy
    exact ⟨v, by rw [cell_of_block h]; rfl, hv⟩
def rsX13 : List Rw := [⟨1, 1, 1⟩, ⟨0, 0, 1⟩]
theorem x13_may : mayE ⟨1, [3], [3]⟩ rsX13 = 0 := by decide +kernel
theorem x13_got : gotL [3] rsX13 1 0 = [[1], [0, 1]] := by decide +kernel
theorem x13_K {K : List (List Int)} (hp : K.Pairwise (fun a b => aheadL a b = true)) (hm : ∀ x, x ∈ K ↔ x ∈ gotL [3] rsX13 1 0) : K = [[1], [0, 1]] := by
  refine ahead_ext hp (by simp [aheadL]) fun x => ?_
  rw [hm, x13_got]
end Go.Proofs.Ytjjpobpcpgcbaaa
