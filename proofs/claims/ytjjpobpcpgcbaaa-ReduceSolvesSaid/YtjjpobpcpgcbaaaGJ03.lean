/- A region that draws its order: ahead of its last operations, which stand in the order of the text, all read, or call what makes memory of its own but hands back one value. One walk in the order of the text serves every order: the head in any world that has grown from the one ahead of it, the end in each of these. A slice that reads as numbers. -/
import Derived.Test.YtjjpobpcpgcbaaaGJ02
import Derived.StillTail
namespace Go.Proofs.Ytjjpobpcpgcbaaa
open Go.RowKit Go.Joins

section
variable {P : Program} {ops : Array Oper} {md : Region.Mode} {C : World → Prop}
/-- k of the first n operations, in whatever order they come up; then L. -/
def HeadQ (P : Program) (md : Region.Mode) (ops : Array Oper) (C : World → Prop) (n : Nat) (L : Array Bool → Act → Prop) : Nat → Array Bool → Act → Prop
  | 0 => L
  | k + 1 => fun done a => Region.ready md ops done ≠ [] ∧ ∀ j, j ∈ Region.ready md ops done → j < n ∧ qOp P ops C j (HeadQ P md ops C n L k (done.setIfInBounds j true)) a

theorem HeadQ.any {n m : Nat} {L : Array Bool → Act → Prop} {Q : Exit → Act → World → Prop} (hL : ∀ done a w, C w → L done a → wpAny P md ops Q m done a w) (k : Nat) :
    ∀ (done : Array Bool) (a : Act) (w : World), C w → HeadQ P md ops C n L k done a → wpAny P md ops Q (k + m) done a w := by
  induction k with
  | zero => intro done a w hw h; simpa using hL done a w hw h
  | succ k ih =>
    rintro done a w hw ⟨hne, hall⟩
    have e : k + 1 + m = (k + m) + 1 := by omega
    rw [e]
    refine ⟨fun hn => (hne hn).elim, fun j hj => ?_⟩
    exact wpOp_of_qOp hw (ih _) (hall j hj).2

/-- What has not come up yet, and does not wait for operation j, has nothing to do with it. -/
def FreeAt (md : Region.Mode) (ops : Array Oper) (done : Array Bool) (j : Nat) (o : Oper) : Prop :=
  ∀ t ot, ops[t]? = some ot → t ≠ j → done.getD t true = false → (∀ x ∈ ot.after, Region.binds md x = true → x.on ≠ j) → o.apart ops ot = true
theorem FreeAt.later {done : Array Bool} {j t : Nat} {o : Oper} (h : FreeAt md ops done j o) (ht : done.getD t true = false) : FreeAt md ops (done.setIfInBounds t true) j o := by
  intro u ou hu hne hun hno
  refine h u ou hu hne ?_ hno
  by_cases e : t = u
  · rw [← e]; exact ht
  · rwa [getD_set_ne true e] at hun
theorem HeadQ.take {n j : Nat} {o : Oper} {v : Value} {L : Array Bool → Act → Prop} (ho : ops[j]? = some o) (hns : Region.noSelect ops = true)
    (hsink : Region.sinkB md ops n = true) (hchain : Region.chainB md ops n = true) (hn : n < ops.size) (hj : j < n)
    (hL : ∀ done a, L done a → ∀ t, t ∈ Region.ready md ops done → n ≤ t) (k : Nat) :
    ∀ (done : Array Bool) (a : Act), HeadInv md ops n done → FreeAt md ops done j o → j ∈ Region.ready md ops done → YieldsIn P ops C o v a →
      HeadQ P md ops C n L k (done.setIfInBounds j true) (a.put o.dst v) → HeadQ P md ops C n L (k + 1) done a := by
  have sel := Region.noSelect_spec hns
  induction k with
  | zero =>
    intro done a inv _ hr hy H
    have hun := (mem_ready.1 hr).1
    refine ⟨List.ne_nil_of_mem hr, fun t ht => ?_⟩
    have htn : t < n := Nat.lt_of_not_le fun h => tail_waits hsink hchain hn inv (n - j) j rfl hj hun t h ht
    by_cases e : t = j
    · rw [e]; exact ⟨hj, hy.qOp ho H⟩
    · have := hL _ _ H t (ready_mono ht e)
      omega
  | succ k ih =>
    intro done a inv hf hr hy H
    have hun := (mem_ready.1 hr).1
    refine ⟨List.ne_nil_of_mem hr, fun t ht => ?_⟩
    have htn : t < n := Nat.lt_of_not_le fun h => tail_waits hsink hchain hn inv (n - j) j rfl hj hun t h ht
    by_cases e : t = j
    · rw [e]; exact ⟨hj, hy.qOp ho H⟩
    obtain ⟨htu, ot, hot, hwaits⟩ := mem_ready.1 ht
    have nowait : ∀ x, x ∈ ot.after → Region.binds md x = true → x.on ≠ j := by
      intro x hx hb he
      have h1 := hwaits x hx hb
      rw [he, getD_both hun] at h1
      exact Bool.noConfusion h1
    have h2 := qOp_put hot (hf t ot hot e htu nowait) (fun cs b => sel j o cs b ho) (fun cs b => sel t ot cs b hot) hy ((H.2 t (ready_mono ht e)).2)
    refine ⟨htn, qOp_mono ?_ h2⟩
    rintro a' ⟨hy', h3⟩
    refine ih (done.setIfInBounds t true) a' (inv.set ht htn) (hf.later htu) (ready_mono hr (Ne.symm e)) hy' ?_
    · rw [Array.setIfInBounds_comm _ _ e]; exact h3
/-- The head in the order of the text. -/
theorem HeadQ.walk {n g : Nat} {R : Act → Prop} (hns : Region.noSelect ops = true) (hsink : Region.sinkB md ops n = true) (hchain : Region.chainB md ops n = true) (hn : n < ops.size) (l : List Oper) :
    ∀ (j : Nat) (done : Array Bool) (a : Act), (∀ t, t < l.length → l[t]? = ops[j + t]?) → j + l.length = n → HeadInv md ops n done → Region.lexHead md ops g l.length j done = true →
      wpQuiet P ops C R l a → HeadQ P md ops C n (fun done' a' => Region.seqB md ops g n done' = true ∧ R a') l.length done a := by
  induction l with
  | nil =>
    intro j done a _ hj _ hB h
    have e : j = n := by simpa using hj
    subst e
    exact ⟨by simpa [Region.lexHead] using hB, h⟩
  | cons o l ih =>
    intro j done a hl hj inv hB h
    have ho : ops[j]? = some o := by have := hl 0 (by simp); simpa using this.symm
    simp only [List.length_cons] at hj
    simp only [List.length_cons, Region.lexHead, Bool.and_eq_true, List.contains_iff_mem] at hB
    have hq : qOp P ops C j (wpQuiet P ops C R l) a := by unfold qOp; rw [ho]; exact h
    obtain ⟨v, hy, hK⟩ := yieldsIn_of_qOp ho hq
    have hjn : j < n := by omega
    refine HeadQ.take ho hns hsink hchain hn hjn (fun _ _ hL => seqB_ready hL.1) l.length done a inv (Region.free_spec ho hB.1.2) hB.1.1 hy ?_
    refine ih (j + 1) _ _ (fun t ht => ?_) (by omega) (inv.set hB.1.1 hjn) hB.2 hK
    have := hl (t + 1) (by simp; omega)
    rw [show j + (t + 1) = j + 1 + t by omega] at this
    simpa using this
theorem wp_region_tail {id : Nat} {Q : Exit → Act → World → Prop} {a : Act} {w : World} {l : List Oper} (n : Nat) (hm : P.follows .mixedOrders = true) (hB : Region.lexTailB .any l.toArray n = true) (hC : C w.drew)
    (h : wpQuiet P l.toArray C (fun a' => ∀ w', C w' → wpList P l.toArray Q (l.drop n) a' w') (l.take n) a) : (Code.region id l.toArray true).wp P Q a w := by
  simp only [Region.lexTailB, Bool.and_eq_true, decide_eq_true_eq] at hB
  obtain ⟨⟨⟨⟨hns, hn⟩, hsink⟩, hchain⟩, hlex⟩ := hB
  have hn' : n < l.length := by simpa using hn
  have htl : (l.take n).length = n := by rw [List.length_take]; omega
  have hg : (l.drop n).length = l.toArray.size - n := by simp
  have start : HeadInv .any l.toArray n (Array.replicate l.toArray.size false) :=
    ⟨by simp, fun t _ _ ht => Bool.noConfusion ((getD_replicate_false _ t).symm.trans ht), fun t _ ht => getD_in (by simpa using ht) (getD_replicate_false _ t)⟩
  have H := HeadQ.walk (P := P) (C := C) (R := fun a' => ∀ w', C w' → wpList P l.toArray Q (l.drop n) a' w') hns hsink hchain hn (l.take n) 0 (Array.replicate l.toArray.size false) a
    (fun t ht => by rw [htl] at ht; simp [ht]) (by rw [htl]; omega) start (by rw [htl]; exact hlex) h
  have H2 := HeadQ.any (Q := Q) (m := l.toArray.size - n) (fun done a' w' hw' hL => by
    have := wpAny_of_seq (P := P) (ops := l.toArray) (md := .any) (Q' := Q) (l.drop n) n done a' w' (fun t => by simp) (by rw [hg]; exact hL.1) (hL.2 w' hw')
    rwa [hg] at this) _ _ a w.drew hC H
  rw [htl, show n + (l.toArray.size - n) = l.toArray.size by omega] at H2
  exact wp_region_any hm H2
end
theorem wp_region_after_tail {P : Program} {id : Nat} {Q : Exit → Act → World → Prop} {a : Act} {w : World} {l : List Oper} (n : Nat) (hm : P.follows .mixedOrders = true) (hB : Region.lexTailB .any l.toArray n = true)
    (h : wpQuiet P l.toArray (fun W => ∃ x : After w, W = x.1) (fun a' => ∀ x : After w, wpList P l.toArray Q (l.drop n) a' x.1) (l.take n) a) : (Code.region id l.toArray true).wp P Q a w := by
  refine wp_region_tail (C := fun W => ∃ x : After w, W = x.1) n hm hB ⟨⟨_, (Below.refl _ _).drew⟩, rfl⟩ ?_
  have e : (fun a' : Act => ∀ w', (∃ x : After w, w' = x.1) → wpList P l.toArray Q (l.drop n) a' w') = fun a' => ∀ x : After w, wpList P l.toArray Q (l.drop n) a' x.1 := by
    funext a'
    exact propext ⟨fun H x => H _ ⟨x, rfl⟩, fun H w' ⟨x, hx⟩ => by rw [hx]; exact H x⟩
  rw [e]
  exact h
theorem After.frozen {w : World} (x : After w) {b o : Nat} {u : Bool} (hb : b < w.heap.size) (h : w.frozen? ⟨b, o, none⟩ = u) : x.1.frozen? ⟨b, o, none⟩ = u := by
  rw [x.2.frozen (p := ⟨b, o, none⟩) hb]; exact h
/-- A box of two cells, in every world that has grown from here. -/
theorem box2 {w : World} {b : Nat} {T : TypeId} {C : Array Value} {x0 x1 : Value} (h : w.heap[b]? = some (.cells C T (0, 0))) (hC : C = #[x0, x1]) :
    (∀ x : After w, x.1.cell? ⟨b, 0, none⟩ = some x0) ∧ (∀ x : After w, x.1.cell? ⟨b, 1, none⟩ = some x1) ∧ (∀ (x : After w) (j : Nat), x.1.frozen? ⟨b, j, none⟩ = false) := by
  subst hC
  have hz := size_of_block h
  exact ⟨fun x => After.cell x (by rw [cell_of_block h]; rfl), fun x => After.cell x (by rw [cell_of_block h]; rfl), fun x j => After.frozen x hz (unfrozen_of_block h j)⟩
theorem box4 {w : World} {b : Nat} {T : TypeId} {C : Array Value} {x0 x1 x2 x3 : Value} (h : w.heap[b]? = some (.cells C T (0, 0))) (hC : C = #[x0, x1, x2, x3]) :
    (∀ x : After w, x.1.cell? ⟨b, 0, none⟩ = some x0) ∧ (∀ x : After w, x.1.cell? ⟨b, 1, none⟩ = some x1) ∧ (∀ x : After w, x.1.cell? ⟨b, 2, none⟩ = some x2) ∧ (∀ x : After w, x.1.cell? ⟨b, 3, none⟩ = some x3) ∧
    (∀ (x : After w) (j : Nat), x.1.frozen? ⟨b, j, none⟩ = false) := by
  subst hC
  have hz := size_of_block h
  exact ⟨fun x => After.cell x (by rw [cell_of_block h]; rfl), fun x => After.cell x (by rw [cell_of_block h]; rfl), fun x => After.cell x (by rw [cell_of_block h]; rfl), fun x => After.cell x (by rw [cell_of_block h]; rfl), fun x j => After.frozen x hz (unfrozen_of_block h j)⟩
theorem keep_blk {w w1 : World} {b : Nat} {o : Obj} (hb : Below w.heap.size w w1) (h : w.heap[b]? = some o) : w1.heap[b]? = some o := by
  rw [hb.block _ (size_of_block h)]; exact h
/-- The same, here and now. -/
theorem now2 {w : World} {b : Nat} {T : TypeId} {C : Array Value} {x0 x1 : Value} (h : w.heap[b]? = some (.cells C T (0, 0))) (hC : C = #[x0, x1]) :
    w.cell? ⟨b, 0, none⟩ = some x0 ∧ w.cell? ⟨b, 1, none⟩ = some x1 ∧ (∀ j : Nat, w.frozen? ⟨b, j, none⟩ = false) := by
  subst hC
  exact ⟨by rw [cell_of_block h]; rfl, by rw [cell_of_block h]; rfl, unfrozen_of_block h⟩
theorem now4 {w : World} {b : Nat} {T : TypeId} {C : Array Value} {x0 x1 x2 x3 : Value} (h : w.heap[b]? = some (.cells C T (0, 0))) (hC : C = #[x0, x1, x2, x3]) :
    w.cell? ⟨b, 0, none⟩ = some x0 ∧ w.cell? ⟨b, 1, none⟩ = some x1 ∧ w.cell? ⟨b, 2, none⟩ = some x2 ∧ w.cell? ⟨b, 3, none⟩ = some x3 ∧ (∀ j : Nat, w.frozen? ⟨b, j, none⟩ = false) := by
  subst hC
  exact ⟨by rw [cell_of_block h]; rfl, by rw [cell_of_block h]; rfl, by rw [cell_of_block h]; rfl, by rw [cell_of_block h]; rfl, unfrozen_of_block h⟩
theorem keep_set {w : World} {a : Addr} {b : Nat} {o : Obj} {u : Value} (hne : b ≠ a.block) (h : w.heap[b]? = some o) : (w.setCell a u).heap[b]? = some o := by
  rw [Below.heap_setCell _ _ _ _ hne]; exact h
theorem keep_set4 {w : World} {c b : Nat} {o : Obj} {x0 x1 x2 x3 : Value} (hne : b ≠ c) (h : w.heap[b]? = some o) :
    ((((w.setCell ⟨c, 0, none⟩ x0).setCell ⟨c, 1, none⟩ x1).setCell ⟨c, 2, none⟩ x2).setCell ⟨c, 3, none⟩ x3).heap[b]? = some o :=
  keep_set hne (keep_set hne (keep_set hne (keep_set hne h)))
theorem put4 {w : World} {b : Nat} {T : TypeId} {x0 x1 x2 x3 y0 y1 y2 y3 : Value} (h : w.heap[b]? = some (.cells #[y0, y1, y2, y3] T (0, 0))) :
    ((((w.setCell ⟨b, 0, none⟩ x0).setCell ⟨b, 1, none⟩ x1).setCell ⟨b, 2, none⟩ x2).setCell ⟨b, 3, none⟩ x3).heap[b]? = some (.cells #[x0, x1, x2, x3] T (0, 0)) := by
  rw [block_setCell (block_setCell (block_setCell (block_setCell h x0) x1) x2) x3]
  rfl
theorem below4 {w a : World} {B b : Nat} {x0 x1 x2 x3 : Value} (hb : B ≤ b) (h : Below B a w) :
    Below B a ((((w.setCell ⟨b, 0, none⟩ x0).setCell ⟨b, 1, none⟩ x1).setCell ⟨b, 2, none⟩ x2).setCell ⟨b, 3, none⟩ x3) :=
  (((h.setCell hb _).setCell hb _).setCell hb _).setCell hb _
theorem keep_set2 {w : World} {c b : Nat} {o : Obj} {x0 x1 : Value} (hne : b ≠ c) (h : w.heap[b]? = some o) : ((w.setCell ⟨c, 0, none⟩ x0).setCell ⟨c, 1, none⟩ x1).heap[b]? = some o :=
  keep_set hne (keep_set hne h)
theorem put2 {w : World} {b : Nat} {T : TypeId} {x0 x1 y0 y1 : Value} (h : w.heap[b]? = some (.cells #[y0, y1] T (0, 0))) :
    ((w.setCell ⟨b, 0, none⟩ x0).setCell ⟨b, 1, none⟩ x1).heap[b]? = some (.cells #[x0, x1] T (0, 0)) := by
  rw [block_setCell (block_setCell h x0) x1]
  rfl
theorem below2 {w a : World} {B b : Nat} {x0 x1 : Value} (hb : B ≤ b) (h : Below B a w) : Below B a ((w.setCell ⟨b, 0, none⟩ x0).setCell ⟨b, 1, none⟩ x1) :=
  (h.setCell hb _).setCell hb _
/-- A box of two cells, behind whatever is laid next. -/
theorem al2 {w : World} {b : Nat} {T : TypeId} {C : Array Value} {x0 x1 : Value} (h : w.heap[b]? = some (.cells C T (0, 0))) (hC : C = #[x0, x1]) :
    (∀ o, (w.alloc o).cell? ⟨b, 0, none⟩ = some x0) ∧ (∀ o, (w.alloc o).cell? ⟨b, 1, none⟩ = some x1) ∧ (∀ o (j : Nat), (w.alloc o).frozen? ⟨b, j, none⟩ = false) :=
  ⟨fun _ => (now2 ((Below.heap_alloc _ _ _ (size_of_block h)).trans h) hC).1, fun _ => (now2 ((Below.heap_alloc _ _ _ (size_of_block h)).trans h) hC).2.1, fun _ => (now2 ((Below.heap_alloc _ _ _ (size_of_block h)).trans h) hC).2.2⟩
theorem al4 {w : World} {b : Nat} {T : TypeId} {C : Array Value} {x0 x1 x2 x3 : Value} (h : w.heap[b]? = some (.cells C T (0, 0))) (hC : C = #[x0, x1, x2, x3]) :
    (∀ o, (w.alloc o).cell? ⟨b, 0, none⟩ = some x0) ∧ (∀ o, (w.alloc o).cell? ⟨b, 1, none⟩ = some x1) ∧ (∀ o, (w.alloc o).cell? ⟨b, 2, none⟩ = some x2) ∧ (∀ o, (w.alloc o).cell? ⟨b, 3, none⟩ = some x3) :=
  ⟨fun _ => (now4 ((Below.heap_alloc _ _ _ (size_of_block h)).trans h) hC).1, fun _ => (now4 ((Below.heap_alloc _ _ _ (size_of_block h)).trans h) hC).2.1,
    fun _ => (now4 ((Below.heap_alloc _ _ _ (size_of_block h)).trans h) hC).2.2.1, fun _ => (now4 ((Below.heap_alloc _ _ _ (size_of_block h)).trans h) hC).2.2.2.1⟩
theorem keep_alloc {w : World} {b : Nat} {o x : Obj} (h : w.heap[b]? = some o) : (w.alloc x).heap[b]? = some o :=
  (Below.heap_alloc _ _ _ (size_of_block h)).trans h
theorem After.same {w : World} {b : Nat} {o : Obj} (x : After w) (h : w.heap[b]? = some o) : x.1.heap[b]? = some o := by
  rw [x.2.block _ (size_of_block h)]; exact h
theorem heap_alloc3_a (w : World) (o1 o2 o3 : Obj) : (((w.alloc o1).alloc o2).alloc o3).heap[w.heap.size]? = some o1 := by
  rw [Below.heap_alloc _ _ _ (by simp; omega), heap_alloc2_old]
theorem heap_alloc3_b (w : World) (o1 o2 o3 : Obj) : (((w.alloc o1).alloc o2).alloc o3).heap[w.heap.size + 1]? = some o2 := by
  rw [Below.heap_alloc _ _ _ (by simp), heap_alloc2_new]
theorem heap_alloc3_c (w : World) (o1 o2 o3 : Obj) : (((w.alloc o1).alloc o2).alloc o3).heap[w.heap.size + 2]? = some o3 := by
  have e : w.heap.size + 2 = ((w.alloc o1).alloc o2).heap.size := by simp
  rw [e, heap_alloc_new]
/-- A box of three cells, here and now. -/
theorem now3 {w : World} {b : Nat} {T : TypeId} {C : Array Value} {x0 x1 x2 : Value} (h : w.heap[b]? = some (.cells C T (0, 0))) (hC : C = #[x0, x1, x2]) :
    w.cell? ⟨b, 0, none⟩ = some x0 ∧ w.cell? ⟨b, 1, none⟩ = some x1 ∧ w.cell? ⟨b, 2, none⟩ = some x2 ∧ (∀ j : Nat, w.frozen? ⟨b, j, none⟩ = false) := by
  subst hC
  exact ⟨by rw [cell_of_block h]; rfl, by rw [cell_of_block h]; rfl, by rw [cell_of_block h]; rfl, unfrozen_of_block h⟩
/-- A box of three cells, in every world that has grown from here. -/
theorem box3 {w : World} {b : Nat} {T : TypeId} {C : Array Value} {x0 x1 x2 : Value} (h : w.heap[b]? = some (.cells C T (0, 0))) (hC : C = #[x0, x1, x2]) :
    (∀ x : After w, x.1.cell? ⟨b, 0, none⟩ = some x0) ∧ (∀ x : After w, x.1.cell? ⟨b, 1, none⟩ = some x1) ∧ (∀ x : After w, x.1.cell? ⟨b, 2, none⟩ = some x2) ∧ (∀ (x : After w) (j : Nat), x.1.frozen? ⟨b, j, none⟩ = false) := by
  subst hC
  have hz := size_of_block h
  exact ⟨fun x => After.cell x (by rw [cell_of_block h]; rfl), fun x => After.cell x (by rw [cell_of_block h]; rfl), fun x => After.cell x (by rw [cell_of_block h]; rfl), fun x j => After.frozen x hz (unfrozen_of_block h j)⟩
theorem getD_of {α : Type} {l : List α} {j : Nat} {x d : α} (h : l[j]? = some x) : l.getD j d = x := by
  rw [List.getD_eq_getElem?_getD, h]; rfl
theorem own_keep {w w' : World} {base size n : Nat} {e : TypeId} {v : Value} {xs : List Value} (h : w.ownsRow base e size v n xs) (hk : ∀ g, v.ownBlock = some g → base ≤ g → g < w.heap.size → w'.heap[g]? = w.heap[g]?) : w'.ownsRow base e size v n xs := by
  refine ⟨h.1, ?_⟩
  rcases h.2 with hn | ⟨g, cap, cur, rfl, hb, hgg, rest⟩
  · exact .inl hn
  · exact .inr ⟨g, cap, cur, rfl, hb, (hk g rfl (h.lt g rfl).1 (size_of_block hgg)).trans hgg, rest⟩
theorem own_form {w : World} {base size n : Nat} {e : TypeId} {v : Value} {xs : List Value} (h : w.ownsRow base e size v n xs) : ∃ A c, v = .slice A n c := by
  rcases h.2 with ⟨hv, h0⟩ | ⟨g, cap, cur, hv, _⟩
  · exact ⟨none, 0, by rw [hv, h0]⟩
  · exact ⟨_, _, hv⟩
theorem own_more {w : World} {base base' size n : Nat} {e : TypeId} {v : Value} {xs : List Value} (h : w.ownsRow base e size v n xs) (hb : base' ≤ base) : w.ownsRow base' e size v n xs := by
  refine ⟨h.1, ?_⟩
  rcases h.2 with hn | ⟨g, cap, cur, rfl, hg, rest⟩
  · exact .inl hn
  · exact .inr ⟨g, cap, cur, rfl, by omega, rest⟩
theorem own_ne {w : World} {base size n b : Nat} {e t : TypeId} {v : Value} {xs : List Value} {cs : Array Value} {fz : Nat × Nat} (h : w.ownsRow base e size v n xs) (hb : w.heap[b]? = some (.cells cs t fz)) (hne : e ≠ t) : v.ownBlock ≠ some b := by
  rcases h.2 with ⟨rfl, _⟩ | ⟨g, cap, cur, rfl, _, hg, _⟩
  · simp [Value.ownBlock]
  · intro he
    have : g = b := by simpa [Value.ownBlock] using he
    subst this
    rw [hg] at hb
    injection hb with hb
    injection hb with _ ht _
    exact hne ht
theorem own_set {w : World} {base size n b : Nat} {e : TypeId} {v : Value} {xs : List Value} (h : w.ownsRow base e size v n xs) (hne : v.ownBlock ≠ some b) (j : Nat) (u : Value) : (w.setCell ⟨b, j, none⟩ u).ownsRow base e size v n xs :=
  own_keep h (fun g hg _ _ => Below.heap_setCell _ _ _ _ (fun e => hne (by rw [hg]; exact congrArg some e)))
theorem grown_of_below {w w1 : World} (h : Below w.heap.size w w1) : w.grownBy w1 none := ⟨h.os, h.tape, h.output, h.size, fun k hk _ => h.block k hk⟩
/-- What the call owns stays owned while a callee makes what it likes beside. -/
theorem owns_below {w w1 : World} {base size n : Nat} {e : TypeId} {v : Value} {xs : List Value} (h : w.ownsRow base e size v n xs) (hb : Below w.heap.size w w1) : w1.ownsRow base e size v n xs := by
  refine h.kept (grown_of_below hb) ?_
  rcases hv : v.ownBlock with _ | k
  · exact .inl rfl
  · exact .inr (by simp)
end Go.Proofs.Ytjjpobpcpgcbaaa
namespace Go.Proofs.Ytjjpobpcpgcbaaa
open Go.RowKit Go.Joins

/-- The slice v reads as the numbers o; what it reads lies below block B. -/
def IntsAt (w : World) (B : Nat) (v : Value) (o : List Int) : Prop :=
  ∃ A c, v = .slice A o.length c ∧ o.length ≤ 9223372036854775807 ∧
    (0 < o.length → ∃ b off, A = some ⟨b, off, none⟩ ∧ b < B ∧ ∀ j x, o[j]? = some x → w.cell? ⟨b, off + j, none⟩ = some (.int .i64 x))
theorem IntsAt.below {w w' : World} {B : Nat} {v : Value} {o : List Int} (h : IntsAt w B v o) (hb : Below B w w') : IntsAt w' B v o := by
  obtain ⟨A, c, e, hl, h⟩ := h
  refine ⟨A, c, e, hl, fun h0 => ?_⟩
  obtain ⟨b, off, eA, hB, hc⟩ := h h0
  exact ⟨b, off, eA, hB, fun j x hx => (hb.cell (p := ⟨b, off + j, none⟩) hB).trans (hc j x hx)⟩
theorem IntsAt.more {w : World} {B B' : Nat} {v : Value} {o : List Int} (h : IntsAt w B v o) (hB : B ≤ B') : IntsAt w B' v o := by
  obtain ⟨A, c, e, hl, h⟩ := h
  refine ⟨A, c, e, hl, fun h0 => ?_⟩
  obtain ⟨b, off, eA, hb, hc⟩ := h h0
  exact ⟨b, off, eA, by omega, hc⟩
end Go.Proofs.Ytjjpobpcpgcbaaa
