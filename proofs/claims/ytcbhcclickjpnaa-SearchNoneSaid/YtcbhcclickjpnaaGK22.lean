/- A choice in memory; called of the package search. A region that draws its order and ends in stores that wait for all the rest: ahead of these a load may be taken first where nobody ahead of the stores writes its cell; the stores themselves may write it. -/
import Derived.Test.YtcbhcclickjpnaaGK21
import Derived.Test.YtcbhcclickjpnaaGK01
import Derived.Deep.RegionHeld3
namespace Go.Proofs.Ytcbhcclickjpnaa
open Go.RowKit Go.Joins

def chv (tv nv : Value) (n : Nat) (rv : Value) : Value := .agg #[tv, nv, .int .i64 n, rv]
def chb (tv nv : Value) (n : Nat) (rv : Value) : Obj := .cells #[tv, nv, .int .i64 n, rv] 55 (0, 0)
theorem mat2_15 {w : World} {b : Nat} {v1 v2 : Value} {l1 l2 : List Int} (h : w.heap[b]? = some (.cells #[v1, v2] 30 (0, 0))) (h1 : IntsAt w w.heap.size v1 l1) (h2 : IntsAt w w.heap.size v2 l2) : MatAt w w.heap.size (.slice (some ⟨b, 0, none⟩) 2 2) [l1, l2] := by
  refine ⟨_, _, rfl, by simp, fun _ => ⟨b, 0, rfl, size_of_block h, fun j l hj => ?_⟩⟩
  match j, hj with
  | 0, hj =>
    injection hj with hj
    subst hj
    exact ⟨v1, by rw [cell_of_block h]; rfl, h1⟩
  | 1, hj =>
    injection hj with hj
    subst hj
    exact ⟨v2, by rw [cell_of_block h]; rfl, h2⟩
theorem tot2_15 {a b : List Int} {N : Nat} (h : a.length + b.length ≤ N) : ∀ k, totK [a, b] k ≤ N := fun k => by
  rw [← flat_len14]
  have h1 : (([a, b].take k).flatten).length ≤ ([a, b].flatten).length := by
    have : ([a, b].take k).flatten ++ ([a, b].drop k).flatten = [a, b].flatten := by
      rw [← List.flatten_append, List.take_append_drop]
    rw [← this, List.length_append]
    omega
  have h2 : ([a, b].flatten).length = a.length + b.length := by simp
  omega
set_option maxHeartbeats 2000000 in
set_option maxRecDepth 100000 in
theorem called15_any (tv nv rv cv : Value) (n : Nat) (t nm cols : List Int) (w : World) (ht : IntsAt w w.heap.size tv t) (hn : IntsAt w w.heap.size nv nm) (hc : IntsAt w w.heap.size cv cols) (hr : ∀ x, x ∈ cols → 0 ≤ x ∧ x < nm.length) (ht4 : t.length ≤ 8000) (hc4 : cols.length ≤ 4000) (hrv : ∃ A m c, rv = .slice A m c) :
    Calls Try.prog 46 #[chv tv nv n rv, cv] w fun e w' => ∃ v, e = .returned v ∧ w'.ownsRow w.heap.size 3 1 v (t ++ atL nm cols).length (intI (t ++ atL nm cols)) ∧ Below w.heap.size w w' := by
  have hB0 := below_alloc1 w (chb tv nv n rv)
  have hbu : (w.alloc (chb tv nv n rv)).heap[w.heap.size]? = some (chb tv nv n rv) := heap_alloc_new _ _
  have HA := fun X (h : Below (w.alloc (chb tv nv n rv)).heap.size (w.alloc (chb tv nv n rv)) X) => at15_any nv cv nm cols X ((hn.below (hB0.trans (h.mono hB0.size))).more (hB0.trans (h.mono hB0.size)).size) ((hc.below (hB0.trans (h.mono hB0.size))).more (hB0.trans (h.mono hB0.size)).size) hr hc4
  have HT := fun X (h : Below (w.alloc (chb tv nv n rv)).heap.size (w.alloc (chb tv nv n rv)) X) => (ht.below (hB0.trans (h.mono hB0.size))).more (hB0.trans (h.mono hB0.size)).size
  have HCC := fun (X : World) (b : Nat) (v2 : Value) (hX : X.heap[b]? = some (.cells #[tv, v2] 30 (0, 0))) (h : Below (w.alloc (chb tv nv n rv)).heap.size (w.alloc (chb tv nv n rv)) X) (hi : IntsAt X X.heap.size v2 (atL nm cols)) => concatI14_any _ [t, atL nm cols] X (mat2_15 hX (HT X h) hi) (tot2_15 (by rw [atL_len]; omega))
  have hfl : ([t, atL nm cols] : List (List Int)).flatten = t ++ atL nm cols := by simp
  rw [hfl] at HCC
  obtain ⟨At, ct, rfl, -, -⟩ := ht
  obtain ⟨An, cn, rfl, -, -⟩ := hn
  obtain ⟨Ac, cc, rfl, -, -⟩ := hc
  obtain ⟨Ar, mr, cr, rfl⟩ := hrv
  generalize hRr : t ++ atL nm cols = RR at *
  unfold chv
  unfold chb at *
  obtain ⟨a0, a1, a2, a3, -⟩ := box4 hbu rfl
  clear hr ht4 hc4 hbu hfl hRr HT
  go_enter Try.func46, Try.ntmps46
  go_wp2
  generalize w.alloc _ = W1 at *
  refine wp_region_held_drew (S := fun W_ => Below W1.heap.size W1 W_) rfl (Below.refl _ W1).drew (fun hHeld => ?_)
  obtain ⟨X0, hX0⟩ : ∃ X0, X0 = W1.drew := ⟨_, rfl⟩
  rw [← hX0] at hHeld ⊢
  clear hX0
  refine wpAnyH_take (i := 0) (oi := _) (v := ?_) rfl (by kernel_rfl) (by kernel_rfl) (by kernel_rfl) (fun _ _ _ h => h) (Or.inl ⟨by rfl, ?_⟩) (by assumption) ?_
  rotate_left 1
  · intro w_ hSw
    go_simp
    try with_reducible rfl
  try simp only [Act.put, List.setIfInBounds_toArray]
  refine wpAnyH_take (i := 1) (oi := _) (v := ?_) rfl (by kernel_rfl) (by kernel_rfl) (by kernel_rfl) (fun _ _ _ h => h) (Or.inl ⟨by rfl, ?_⟩) (by assumption) ?_
  rotate_left 1
  · intro w_ hSw
    have q_a0 := a0 ⟨w_, hSw⟩
    have q_a1 := a1 ⟨w_, hSw⟩
    have q_a2 := a2 ⟨w_, hSw⟩
    have q_a3 := a3 ⟨w_, hSw⟩
    dsimp only at q_a0 q_a1 q_a2 q_a3
    go_simp
    try with_reducible rfl
  try simp only [Act.put]
  refine wpAnyH_take (i := 2) (oi := _) (v := ?_) rfl (by kernel_rfl) (by kernel_rfl) (by kernel_rfl) (fun _ _ _ h => h) (Or.inl ⟨by rfl, ?_⟩) (by assumption) ?_
  rotate_left 1
  · intro w_ hSw
    go_simp
    try with_reducible rfl
  try simp only [Act.put]
  refine wpAnyH_take (i := 3) (oi := _) (v := ?_) rfl (by kernel_rfl) (by kernel_rfl) (by kernel_rfl) (fun _ _ _ h => h) (Or.inl ⟨by rfl, ?_⟩) (by assumption) ?_
  rotate_left 1
  · intro w_ hSw
    have q_a0 := a0 ⟨w_, hSw⟩
    have q_a1 := a1 ⟨w_, hSw⟩
    have q_a2 := a2 ⟨w_, hSw⟩
    have q_a3 := a3 ⟨w_, hSw⟩
    dsimp only at q_a0 q_a1 q_a2 q_a3
    go_simp
    try with_reducible rfl
  try simp only [Act.put]
  refine wpAnyH_take (i := 4) (oi := _) (v := ?_) rfl (by kernel_rfl) (by kernel_rfl) (by kernel_rfl) (fun _ _ _ h => h) (Or.inl ⟨by rfl, ?_⟩) (by assumption) ?_
  rotate_left 1
  · intro w_ hSw
    go_simp
    try with_reducible rfl
  try simp only [Act.put]
  refine wpAnyH_ready (rs := [5]) (by kernel_rfl) (by simp) ?_
  refine AllReadyH.cons (o := _) rfl (fun _ hK => ?_) AllReadyH.nil
  go_simp
  refine (HA X0 hHeld).mono ?_
  rintro e X1 ⟨v2, rfl, hown, hbr⟩
  obtain ⟨A2, c2, rfl⟩ := own_form hown
  try go_simp
  refine hK.out _ _ (hHeld.trans (hbr.mono hHeld.size)) (fun hHeld => ?_)
  clear hbr
  clear hK
  try simp only [Act.put, List.setIfInBounds_toArray, List.set_cons_zero, List.set_cons_succ]
  refine wpAnyH_ready (rs := [6]) (by kernel_rfl) (by simp) ?_
  refine AllReadyH.cons (o := _) rfl (fun _ hK => ?_) AllReadyH.nil
  go_simp
  have ns := heap_alloc_new X1 (.cells #[.slice At t.length ct, .slice A2 (atL nm cols).length c2] 30 (0, 0))
  have hal := hHeld.alloc hHeld.size (.cells #[.slice At t.length ct, .slice A2 (atL nm cols).length c2] 30 (0, 0))
  have ls := hHeld.size
  have e_hown_s : (Value.slice A2 (atL nm cols).length c2).ownBlock ≠ some X1.heap.size := fun e => by have h1 := (hown.lt _ e).2; omega
  replace hown := hown.alloc (.cells #[.slice At t.length ct, .slice A2 (atL nm cols).length c2] 30 (0, 0))
  generalize X1.heap.size = bs at *
  generalize X1.alloc (.cells #[.slice At t.length ct, .slice A2 (atL nm cols).length c2] 30 (0, 0)) = X2 at *
  refine hK.out _ _ hal (fun hHeld => ?_)
  clear hal
  clear hK
  try simp only [Act.put, List.setIfInBounds_toArray, List.set_cons_zero, List.set_cons_succ]
  refine wpAnyH_ready (rs := [7]) (by kernel_rfl) (by simp) ?_
  refine AllReadyH.cons (o := _) rfl (fun _ hK => ?_) AllReadyH.nil
  go_simp
  refine (HCC X2 _ _ ns hHeld ((own_intI hown))).mono ?_
  rintro e X3 ⟨v3, rfl, hown3, hbr⟩
  have ns_ := ns
  replace ns := keep_blk hbr ns
  replace hown := owns_below hown hbr
  have hl3 := hHeld.size
  obtain ⟨A3, c3, rfl⟩ := own_form hown3
  have e_hown3_s : (Value.slice A3 RR.length c3).ownBlock ≠ some bs := fun e => by have h1 := (hown3.lt _ e).1; have h2 := size_of_block ns_; omega
  clear ns_
  try go_simp
  refine hK.out _ _ (hHeld.trans (hbr.mono hHeld.size)) (fun hHeld => ?_)
  clear hbr
  clear hK
  try simp only [Act.put, List.setIfInBounds_toArray, List.set_cons_zero, List.set_cons_succ]
  refine wpAnyH_ready (rs := [8]) (by kernel_rfl) (by simp) ?_
  refine AllReadyH.cons (o := _) rfl (fun _ hK => ?_) AllReadyH.nil
  go_simp
  refine hK.out _ _ hHeld (fun hHeld => ?_)
  clear hK
  try simp only [Act.put, List.setIfInBounds_toArray, List.set_cons_zero, List.set_cons_succ]
  refine wpAnyH_done (by kernel_rfl) ?_ _
  go_wp2_with fail
  go_ret
  exact ⟨_, rfl, own_more hown3 (by have := hB0.size; omega), hB0.trans (hHeld.mono hB0.size)⟩
end Go.Proofs.Ytcbhcclickjpnaa
namespace Go.Proofs.Ytcbhcclickjpnaa
open Go.RowKit Go.Joins

section
variable {P : Program} {ops : Array Oper} {md : Region.Mode} {S : World → Prop} {Q : Exit → Act → World → Prop}
/-- k of the first n operations, in whatever order they come up, S behind each; then L. -/
def HeadH (P : Program) (md : Region.Mode) (ops : Array Oper) (Q : Exit → Act → World → Prop) (S : World → Prop) (n : Nat) (L : Array Bool → Act → World → Prop) : Nat → Array Bool → Act → World → Prop
  | 0 => L
  | k + 1 => fun done a w => HeadInv md ops n done → Region.ready md ops done ≠ [] ∧ ∀ j, j ∈ Region.ready md ops done → j < n ∧ wpOp P ops Q j (fun a' w' => S w' ∧ HeadH P md ops Q S n L k (done.setIfInBounds j true) a' w') a w
theorem HeadH.any {n m : Nat} {L : Array Bool → Act → World → Prop} (hL : ∀ done a w, L done a w → wpAny P md ops Q m done a w) (k : Nat) :
    ∀ (done : Array Bool) (a : Act) (w : World), HeadInv md ops n done → HeadH P md ops Q S n L k done a w → wpAny P md ops Q (k + m) done a w := by
  induction k with
  | zero => intro done a w _ h; simpa using hL done a w h
  | succ k ih =>
    intro done a w inv h
    obtain ⟨hne, hall⟩ := h inv
    have e : k + 1 + m = (k + m) + 1 := by omega
    rw [e]
    refine ⟨fun hn => (hne hn).elim, fun j hj => ?_⟩
    exact wpOp_mono (fun a' w' h' => ih _ a' w' (inv.set hj (hall j hj).1) h'.2) (hall j hj).2
theorem HeadH.first {n j : Nat} {o : Oper} {v : Value} {L : Array Bool → Act → World → Prop} (ho : ops[j]? = some o) (hns : Region.noSelect ops = true)
    (hsink : Region.sinkB md ops n = true) (hchain : Region.chainB md ops n = true) (hn : n < ops.size) (hj : j < n)
    (hQ : ∀ c a w, Q (.panic c) (a.put o.dst v) w → Q (.panic c) a w)
    (hL : ∀ done a w, L done a w → ∀ t, t ∈ Region.ready md ops done → n ≤ t) (k : Nat) :
    ∀ (done : Array Bool) (a : Act) (w : World), FreeAt md ops done j o → j ∈ Region.ready md ops done → YieldsIf P ops S o v a → S w →
      HeadH P md ops Q S n L k (done.setIfInBounds j true) (a.put o.dst v) w → HeadH P md ops Q S n L (k + 1) done a w := by
  have sel := Region.noSelect_spec hns
  induction k with
  | zero =>
    intro done a w _ hr hy hS H inv
    have hun := (mem_ready.1 hr).1
    refine ⟨List.ne_nil_of_mem hr, fun t ht => ?_⟩
    have htn : t < n := Nat.lt_of_not_le fun h => tail_waits hsink hchain hn inv (n - j) j rfl hj hun t h ht
    by_cases e : t = j
    · rw [e]; exact ⟨hj, hy.wpOp ho hS ⟨hS, H⟩⟩
    · have := hL _ _ _ H t (ready_mono ht e)
      omega
  | succ k ih =>
    intro done a w hf hr hy hS H inv
    have hun := (mem_ready.1 hr).1
    have H' := H (inv.set hr hj)
    refine ⟨List.ne_nil_of_mem hr, fun t ht => ?_⟩
    have htn : t < n := Nat.lt_of_not_le fun h => tail_waits hsink hchain hn inv (n - j) j rfl hj hun t h ht
    by_cases e : t = j
    · rw [e]; exact ⟨hj, hy.wpOp ho hS ⟨hS, H⟩⟩
    obtain ⟨htu, ot, hot, hwaits⟩ := mem_ready.1 ht
    have nowait : ∀ x, x ∈ ot.after → Region.binds md x = true → x.on ≠ j := by
      intro x hx hb he
      have h1 := hwaits x hx hb
      rw [he, getD_both hun] at h1
      exact Bool.noConfusion h1
    have h2 := wpOp_putIf hot (hf t ot hot e htu nowait) (fun cs b => sel j o cs b ho) (fun cs b => sel t ot cs b hot) hQ hy ((H'.2 t (ready_mono ht e)).2)
    refine ⟨htn, wpOp_mono ?_ h2⟩
    rintro a' w' ⟨hy', hS', h3⟩
    refine ⟨hS', ih (done.setIfInBounds t true) a' w' (hf.later htu) (ready_mono hr (Ne.symm e)) hy' hS' ?_⟩
    rw [Array.setIfInBounds_comm _ _ e]; exact h3
end
/-- The stores, in the order of the text. -/
def TailL (P : Program) (l : List Oper) (Q : Exit → Act → World → Prop) (n : Nat) : Array Bool → Act → World → Prop :=
  fun done a w => Region.seqB .any l.toArray (l.drop n).length n done = true ∧ wpList P l.toArray Q (l.drop n) a w
def tailOk (l : List Oper) (n : Nat) : Bool := Region.noSelect l.toArray && decide (n < l.length) && Region.sinkB .any l.toArray n && Region.chainB .any l.toArray n
section
variable {P : Program} {l : List Oper} {n : Nat} {S : World → Prop} {Q : Exit → Act → World → Prop}
theorem HeadH.take {i k : Nat} {o : Oper} {v : Value} {done : Array Bool} {a : Act} {w : World} (hF : tailOk l n = true) (ho : l.toArray[i]? = some o) (hi : decide (i < n) = true)
    (hf : Region.free .any l.toArray done i = true) (hr : (Region.ready .any l.toArray done).contains i = true)
    (hQ : ∀ c a w, Q (.panic c) (a.put o.dst v) w → Q (.panic c) a w) (hy : YieldsIf P l.toArray S o v a) (hS : S w)
    (h : HeadH P .any l.toArray Q S n (TailL P l Q n) k (done.setIfInBounds i true) (a.put o.dst v) w) : HeadH P .any l.toArray Q S n (TailL P l Q n) (k + 1) done a w := by
  simp only [tailOk, Bool.and_eq_true, decide_eq_true_eq] at hF
  obtain ⟨⟨⟨hns, hn⟩, hsink⟩, hchain⟩ := hF
  exact HeadH.first ho hns hsink hchain (by simpa using hn) (of_decide_eq_true hi) hQ (fun _ _ _ hL => seqB_ready hL.1) k done a w (Region.free_spec ho hf) (by simpa using hr) hy hS h
theorem HeadH.one {i k : Nat} {o : Oper} {done : Array Bool} {a : Act} {w : World} (hr : Region.ready .any l.toArray done = [i]) (hi : decide (i < n) = true) (ho : l.toArray[i]? = some o)
    (h : ∀ K' : Act → World → Prop, Shut (∀ a w, S w → (S w → HeadH P .any l.toArray Q S n (TailL P l Q n) k (done.setIfInBounds i true) a w) → K' a w) → if Region.wanted o (yielded l.toArray a.tmps) = true then Oper.wp P o a w K' Q else K' (a.put o.dst undef) w) :
    HeadH P .any l.toArray Q S n (TailL P l Q n) (k + 1) done a w := by
  intro _
  rw [hr]
  refine ⟨by simp, fun j hj => ?_⟩
  have e : j = i := by simpa using hj
  subst e
  exact ⟨of_decide_eq_true hi, wpOp_step ho (fun K' hK => h K' (fun a w hS hW => hK a w ⟨hS, hW hS⟩))⟩
theorem wp_region_held_tail {id : Nat} {a : Act} {w : World} (n : Nat) (S : World → Prop) (hm : P.follows .mixedOrders = true) (hF : tailOk l n = true) (hS : S w.drew)
    (h : tailOk l n = true → S w.drew → HeadH P .any l.toArray Q S n (TailL P l Q n) n (Array.replicate l.toArray.size false) a w.drew) : (Code.region id l.toArray true).wp P Q a w := by
  have hF' := hF
  simp only [tailOk, Bool.and_eq_true, decide_eq_true_eq] at hF'
  obtain ⟨⟨⟨hns, hn⟩, hsink⟩, hchain⟩ := hF'
  have hg : (l.drop n).length = l.toArray.size - n := by simp
  have start : HeadInv .any l.toArray n (Array.replicate l.toArray.size false) :=
    ⟨by simp, fun t _ _ ht => Bool.noConfusion ((getD_replicate_false _ t).symm.trans ht), fun t _ ht => getD_in (by simpa using ht) (getD_replicate_false _ t)⟩
  have H2 := HeadH.any (P := P) (Q := Q) (S := S) (n := n) (m := l.toArray.size - n) (fun done a' w' hL => by
    have := wpAny_of_seq (P := P) (ops := l.toArray) (md := .any) (Q' := Q) (l.drop n) n done a' w' (fun t => by simp) hL.1 hL.2
    rwa [hg] at this) n _ a w.drew start (h hF hS)
  have hnl : n < l.length := hn
  rw [show n + (l.toArray.size - n) = l.toArray.size by simp; omega] at H2
  exact wp_region_any hm H2
end
end Go.Proofs.Ytcbhcclickjpnaa
