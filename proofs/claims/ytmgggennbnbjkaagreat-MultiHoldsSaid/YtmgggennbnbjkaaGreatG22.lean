/- A region that draws its order, one of whose operations calls what may do anything: all ahead of it read, or call what makes memory of its own but hands back one value, and it waits for them; all behind it wait for it, and are quiet in the world that it leaves. The order of cubes: cmp.Compare and cmp.Or, package prime's compare. -/
import Derived.Test.YtmgggennbnbjkaaGreatG04
import Derived.Test.YtmgggennbnbjkaaGreatG21
import Derived.Test.YtmgggennbnbjkaaGreatG17
import Derived.Deep.RegionHeld3
namespace Go.Proofs.YtmgggennbnbjkaaGreat
open Go.RowKit Go.Joins

section
variable {P : Program} {ops : Array Oper} {md : Region.Mode} {C : World → Prop}
/-- Each operation behind n waits for n, or for one behind it that does. -/
def chain2B (md : Region.Mode) (ops : Array Oper) (n : Nat) : Bool :=
  (List.range ops.size).all fun t => decide (t ≤ n) || (List.range t).any fun s => decide (n ≤ s) && Region.waitsFor md ops t s
theorem mid_waits {n : Nat} {listed : Array Bool} (hs : Region.sinkB md ops n = true) (hc : chain2B md ops n = true) (hn : n < ops.size) (inv : HeadInv md ops n listed) :
    ∀ (d i : Nat), n - i = d → i < n → listed.getD i true = false → ∀ t, n ≤ t → t ∉ Region.ready md ops listed := by
  intro d
  induction d using Nat.strongRecOn with
  | _ d ih =>
    intro i hd hi hun t ht hr
    obtain ⟨_, ot, hot, hall⟩ := mem_ready.1 hr
    have htlt : t < ops.size := (Array.getElem?_eq_some_iff.1 hot).1
    by_cases htn : t = n
    · subst htn
      have h1 := List.all_eq_true.1 hs i (List.mem_range.2 hi)
      obtain ⟨j, hj, hj2⟩ := List.any_eq_true.1 h1
      simp only [Bool.and_eq_true, decide_eq_true_eq] at hj2
      obtain ⟨oj, hoj, e, he, hb, hon⟩ := Region.waitsFor_spec hj2.2
      have hjle : j ≤ t := by have := List.mem_range.1 hj; omega
      by_cases hjt : j = t
      · subst hjt
        have : oj = ot := Option.some.inj (hoj.symm.trans hot)
        subst this
        have h2 := hall e he hb
        rw [hon, getD_both hun] at h2
        cases h2
      · cases hl : listed.getD j false with
        | true =>
          have h2 := inv.closed j oj hoj hl e he hb
          rw [hon, getD_both hun] at h2
          cases h2
        | false =>
          have hjs : j < listed.size := by rw [inv.size]; omega
          exact ih (t - j) (by omega) j rfl (by omega) (getD_in hjs hl) t (Nat.le_refl _) hr
    · have h1 := List.all_eq_true.1 hc t (List.mem_range.2 htlt)
      simp only [Bool.or_eq_true, decide_eq_true_eq] at h1
      rcases h1 with h1 | h1
      · omega
      · obtain ⟨s, hs1, hs2⟩ := List.any_eq_true.1 h1
        simp only [Bool.and_eq_true, decide_eq_true_eq] at hs2
        have hst := List.mem_range.1 hs1
        obtain ⟨o', ho', e, he, hb, hon⟩ := Region.waitsFor_spec hs2.2
        have : o' = ot := Option.some.inj (ho'.symm.trans hot)
        subst this
        have h2 := hall e he hb
        rw [hon, getD_both (inv.tail s hs2.1 (by omega))] at h2
        cases h2
theorem HeadQ.take2 {n j : Nat} {o : Oper} {v : Value} {L : Array Bool → Act → Prop} (ho : ops[j]? = some o) (hns : Region.noSelect ops = true)
    (hsink : Region.sinkB md ops n = true) (hchain : chain2B md ops n = true) (hn : n < ops.size) (hj : j < n)
    (hL : ∀ done a, L done a → ∀ t, t ∈ Region.ready md ops done → n ≤ t) (k : Nat) :
    ∀ (done : Array Bool) (a : Act), HeadInv md ops n done → FreeAt md ops done j o → j ∈ Region.ready md ops done → YieldsIn P ops C o v a →
      HeadQ P md ops C n L k (done.setIfInBounds j true) (a.put o.dst v) → HeadQ P md ops C n L (k + 1) done a := by
  have sel := Region.noSelect_spec hns
  induction k with
  | zero =>
    intro done a inv _ hr hy H
    have hun := (mem_ready.1 hr).1
    refine ⟨List.ne_nil_of_mem hr, fun t ht => ?_⟩
    have htn : t < n := Nat.lt_of_not_le fun h => mid_waits hsink hchain hn inv (n - j) j rfl hj hun t h ht
    by_cases e : t = j
    · rw [e]; exact ⟨hj, hy.qOp ho H⟩
    · have := hL _ _ H t (ready_mono ht e)
      omega
  | succ k ih =>
    intro done a inv hf hr hy H
    have hun := (mem_ready.1 hr).1
    refine ⟨List.ne_nil_of_mem hr, fun t ht => ?_⟩
    have htn : t < n := Nat.lt_of_not_le fun h => mid_waits hsink hchain hn inv (n - j) j rfl hj hun t h ht
    by_cases e : t = j
    · rw [e]; exact ⟨hj, hy.qOp ho H⟩
    obtain ⟨htu, ot, hot, hwaits⟩ := mem_ready.1 ht
    have nowait : ∀ x, x ∈ ot.after → Region.binds md x = true → x.on ≠ j := by
      intro x hx hb he
      have h1 := hwaits x hx hb
      rw [he, getD_both hun] at h1
      exact Bool.noConfusion h1
    have h2 := qOp_put hot (hf t ot hot e htu nowait) (fun cs b => sel j o cs b ho) (fun cs b => sel t ot cs b hot) hy ((H.2 t (ready_mono ht e)).2)
    refine ⟨htn, qOp_mono ?_ h2⟩
    rintro a' ⟨hy', h3⟩
    refine ih (done.setIfInBounds t true) a' (inv.set ht htn) (hf.later htu) (ready_mono hr (Ne.symm e)) hy' ?_
    · rw [Array.setIfInBounds_comm _ _ e]; exact h3
/-- The head in the order of the text; then operation n alone; then the rest in the order of the text. -/
def lexTo (md : Region.Mode) (ops : Array Oper) : Nat → Nat → Array Bool → Bool
  | 0, k, listed => decide (Region.ready md ops listed = [k]) && Region.lexFrom md ops (ops.size - (k + 1)) (k + 1) (listed.setIfInBounds k true)
  | f + 1, k, listed => (Region.ready md ops listed).contains k && Region.free md ops listed k && lexTo md ops f (k + 1) (listed.setIfInBounds k true)
def midB (md : Region.Mode) (ops : Array Oper) (n : Nat) : Bool :=
  Region.noSelect ops && decide (n < ops.size) && Region.sinkB md ops n && chain2B md ops n && lexTo md ops n 0 (Array.replicate ops.size false)
/-- What is known behind the head: what has come up, and that the rest goes through. -/
def AtMid (md : Region.Mode) (ops : Array Oper) (n : Nat) (done : Array Bool) : Prop := Region.ready md ops done = [n] ∧ Region.lexFrom md ops (ops.size - (n + 1)) (n + 1) (done.setIfInBounds n true) = true
theorem HeadQ.walk2 {n : Nat} {R : Act → Prop} (hns : Region.noSelect ops = true) (hsink : Region.sinkB md ops n = true) (hchain : chain2B md ops n = true) (hn : n < ops.size) (l : List Oper) :
    ∀ (j : Nat) (done : Array Bool) (a : Act), (∀ t, t < l.length → l[t]? = ops[j + t]?) → j + l.length = n → HeadInv md ops n done → lexTo md ops l.length j done = true →
      wpQuiet P ops C R l a → HeadQ P md ops C n (fun done' a' => AtMid md ops n done' ∧ R a') l.length done a := by
  induction l with
  | nil =>
    intro j done a _ hj _ hB h
    have e : j = n := by simpa using hj
    subst e
    simp only [List.length_nil, lexTo, Bool.and_eq_true, decide_eq_true_eq] at hB
    exact ⟨hB, h⟩
  | cons o l ih =>
    intro j done a hl hj inv hB h
    have ho : ops[j]? = some o := by have := hl 0 (by simp); simpa using this.symm
    simp only [List.length_cons] at hj
    simp only [List.length_cons, lexTo, Bool.and_eq_true, List.contains_iff_mem] at hB
    have hq : qOp P ops C j (wpQuiet P ops C R l) a := by unfold qOp; rw [ho]; exact h
    obtain ⟨v, hy, hK⟩ := yieldsIn_of_qOp ho hq
    have hjn : j < n := by omega
    refine HeadQ.take2 ho hns hsink hchain hn hjn (fun _ _ hL t ht => ?_) l.length done a inv (Region.free_spec ho hB.1.2) hB.1.1 hy ?_
    · rw [hL.1.1] at ht
      have : t = n := by simpa using ht
      omega
    refine ih (j + 1) _ _ (fun t ht => ?_) (by omega) (inv.set hB.1.1 hjn) hB.2 hK
    have := hl (t + 1) (by simp; omega)
    rw [show j + (t + 1) = j + 1 + t by omega] at this
    simpa using this
/-- ONE WALK IN THE ORDER OF THE TEXT, the call in the midst of it carried out wherever the head has led. -/
theorem wp_region_mid {id : Nat} {Q : Exit → Act → World → Prop} {a : Act} {w : World} {l : List Oper} (n : Nat) (o : Oper) (ho : l[n]? = some o) (hg : o.guard = none) (hm : P.follows .mixedOrders = true) (hB : midB .any l.toArray n = true) (hC : C w.drew)
    (h : wpQuiet P l.toArray C (fun a' => ∀ w', C w' → ∀ K : Act → World → Prop, Shut (∀ a w, wpQuiet P l.toArray (fun W => W = w) (fun a3 => Q .normal a3 w) (l.drop (n + 1)) a → K a w) → o.wp P a' w' K Q) (l.take n) a) : (Code.region id l.toArray true).wp P Q a w := by
  simp only [midB, Bool.and_eq_true, decide_eq_true_eq] at hB
  obtain ⟨⟨⟨⟨hns, hn⟩, hsink⟩, hchain⟩, hlex⟩ := hB
  have hn' : n < l.length := by simpa using hn
  have htl : (l.take n).length = n := by rw [List.length_take]; omega
  have hoA : l.toArray[n]? = some o := by simpa using ho
  have start : HeadInv .any l.toArray n (Array.replicate l.toArray.size false) :=
    ⟨by simp, fun t _ _ ht => Bool.noConfusion ((getD_replicate_false _ t).symm.trans ht), fun t _ ht => getD_in (by simpa using ht) (getD_replicate_false _ t)⟩
  have H := HeadQ.walk2 (P := P) (C := C) hns hsink hchain hn (l.take n) 0 (Array.replicate l.toArray.size false) a
    (fun t ht => by rw [htl] at ht; simp [ht]) (by rw [htl]; omega) start (by rw [htl]; exact hlex) h
  have H2 := HeadQ.any (Q := Q) (m := (l.drop (n + 1)).length + 1) (fun done a' w' hw' hL => by
    obtain ⟨⟨hr, hlf⟩, hR⟩ := hL
    refine ⟨fun h0 => (by rw [hr] at h0; cases h0), fun i hi => ?_⟩
    have e : i = n := by rw [hr] at hi; simpa using hi
    subst e
    unfold wpOp
    simp only [hoA]
    rw [if_pos (by simp [Region.wanted, hg])]
    refine .inl (hR w' hw' _ (fun a2 w2 h2 => ?_))
    refine wpAny_of_quiet (C := fun W => W = w2) (Q := fun a3 => Q .normal a3 w2) (fun a3 w3 h3 hq => by rw [h3]; exact hq) _ _ _ _ rfl ?_
    refine wpAnyQ_lex (C := fun W => W = w2) (md := .any) hns (l.drop (i + 1)) (i + 1) _ a2 (fun j => by simp) ?_ h2
    have e : (l.drop (i + 1)).length = l.toArray.size - (i + 1) := by simp
    rw [e]; exact hlf) _ _ a w.drew hC H
  rw [htl, show n + ((l.drop (n + 1)).length + 1) = l.toArray.size by simp; omega] at H2
  exact wp_region_any hm H2
end
theorem wp_region_mid_after {P : Program} {id : Nat} {Q : Exit → Act → World → Prop} {a : Act} {w : World} {l : List Oper} (n : Nat) (o : Oper) (ho : l[n]? = some o) (hg : o.guard = none) (hm : P.follows .mixedOrders = true) (hB : midB .any l.toArray n = true)
    (h : wpQuiet P l.toArray (fun W => ∃ x : After w, W = x.1) (fun a' => ∀ x : After w, ∀ K : Act → World → Prop, Shut (∀ a w, wpQuiet P l.toArray (fun W => W = w) (fun a3 => Q .normal a3 w) (l.drop (n + 1)) a → K a w) → o.wp P a' x.1 K Q) (l.take n) a) : (Code.region id l.toArray true).wp P Q a w := by
  refine wp_region_mid (C := fun W => ∃ x : After w, W = x.1) n o ho hg hm hB ⟨⟨_, (Below.refl _ _).drew⟩, rfl⟩ ?_
  have e : (fun a' : Act => ∀ w', (∃ x : After w, w' = x.1) → ∀ K : Act → World → Prop, Shut (∀ a w, wpQuiet P l.toArray (fun W => W = w) (fun a3 => Q .normal a3 w) (l.drop (n + 1)) a → K a w) → o.wp P a' w' K Q) = fun a' => ∀ x : After w, ∀ K : Act → World → Prop, Shut (∀ a w, wpQuiet P l.toArray (fun W => W = w) (fun a3 => Q .normal a3 w) (l.drop (n + 1)) a → K a w) → o.wp P a' x.1 K Q := by
    funext a'
    exact propext ⟨fun H x => H _ ⟨x, rfl⟩, fun H w' ⟨x, hx⟩ => by rw [hx]; exact H x⟩
  rw [e]
  exact h
end Go.Proofs.YtmgggennbnbjkaaGreat
namespace Go.Proofs.YtmgggennbnbjkaaGreat
open Go.RowKit Go.Joins

def cmpI (a b : Nat) : Int := if a < b then -1 else if b < a then 1 else 0
theorem compare8_any (a b : BitVec 8) (w : World) : Calls Tryz.prog 47 #[.int .u8 a.toNat, .int .u8 b.toNat] w fun e w' => e = .returned (.int .i64 (cmpI a.toNat b.toNat)) ∧ w' = w := by
  by_cases h1 : a.toNat < b.toNat
  · have e : cmpI a.toNat b.toNat = -1 := by unfold cmpI; rw [if_pos h1]
    rw [e]
    have d1 : decide ((a.toNat : Int) < b.toNat) = true := decide_eq_true (by omega)
    have d2 : decide (a.toNat < b.toNat) = true := decide_eq_true h1
    clear e
    go_enter Tryz.func47, Tryz.ntmps47
    go_wp2
    go_ret
    exact ⟨rfl, rfl⟩
  · have d1 : decide ((a.toNat : Int) < b.toNat) = false := decide_eq_false (by omega)
    have d2 : decide (a.toNat < b.toNat) = false := decide_eq_false h1
    by_cases h2 : b.toNat < a.toNat
    · have e : cmpI a.toNat b.toNat = 1 := by unfold cmpI; rw [if_neg h1, if_pos h2]
      rw [e]
      have d3 : decide ((b.toNat : Int) < a.toNat) = true := decide_eq_true (by omega)
      have d4 : decide (b.toNat < a.toNat) = true := decide_eq_true h2
      clear e
      go_enter Tryz.func47, Tryz.ntmps47
      go_wp2
      go_ret
      exact ⟨rfl, rfl⟩
    · have e : cmpI a.toNat b.toNat = 0 := by unfold cmpI; rw [if_neg h1, if_neg h2]
      rw [e]
      have d3 : decide ((b.toNat : Int) < a.toNat) = false := decide_eq_false (by omega)
      have d4 : decide (b.toNat < a.toNat) = false := decide_eq_false h2
      clear e
      go_enter Tryz.func47, Tryz.ntmps47
      go_wp2
      go_ret
      exact ⟨rfl, rfl⟩
/-- Of two numbers the first that is not 0. -/
theorem or2_any (x y : Int) (g c : Nat) (w : World) (h0 : w.cell? ⟨g, 0, none⟩ = some (.int .i64 x)) (h1 : w.cell? ⟨g, 1, none⟩ = some (.int .i64 y)) :
    Calls Tryz.prog 61 #[.slice (some ⟨g, 0, none⟩) 2 c] w fun e w' => e = .returned (.int .i64 (if x = 0 then y else x)) ∧ w' = w := by
  go_enter Tryz.func61, Tryz.ntmps61
  go_wp2
  go_loopw [8] (fun t wr => ∃ k : Nat, k ≤ 2 ∧ t = .int .i64 k ∧ wr = w ∧ Hid (1 ≤ k → x = 0) ∧ Hid (2 ≤ k → y = 0)) (fun t _ => 2 - (intOf t).toNat)
  case atStart => exact ⟨0, by omega, rfl, rfl, Lib.hid (by omega), Lib.hid (by omega)⟩
  case round =>
    obtain ⟨k, hk, rfl, rfl, hx, hy⟩ := hrel
    rcases (by omega : k = 0 ∨ k = 1 ∨ k = 2) with rfl | rfl | rfl
    · cases hd : ((x : Int) != 0)
      · have e : x = 0 := by simpa using hd
        clear hx hy
        go_wp2
        go_roundw
        case rel => exact ⟨1, by omega, by simp, by simp, Lib.hid fun _ => e, Lib.hid (by omega)⟩
        case measure => simp [intOf]
      · have e : ¬ x = 0 := by simpa using hd
        have e2 : Hid ((if x = 0 then y else x) = x) := Lib.hid (if_neg e)
        generalize (if x = 0 then y else x) = r at *
        clear hx hy
        go_wp2
        go_ret
        exact ⟨rfl, rfl⟩
    · have e := hx.out (by omega)
      subst e
      cases hd : ((y : Int) != 0)
      · have e : y = 0 := by simpa using hd
        clear hx hy
        go_wp2
        go_roundw
        case rel => exact ⟨2, by omega, by simp, by simp, Lib.hid (by simp), Lib.hid fun _ => e⟩
        case measure => simp [intOf]
      · clear hx hy
        go_wp2
        go_ret
        exact ⟨rfl, rfl⟩
    · have e := hx.out (by omega)
      have e' := hy.out (by omega)
      subst e
      subst e'
      clear hx hy
      go_wp2
      go_ret
      exact ⟨rfl, rfl⟩
theorem cmp_key (m v m' v' : BitVec 8) : (if cmpI m.toNat m'.toNat = 0 then cmpI v.toNat v'.toNat else cmpI m.toNat m'.toNat) = cmpI (keyC m v) (keyC m' v') := by
  unfold cmpI keyC
  have := v.isLt
  have := v'.isLt
  split <;> split <;> (try split) <;> (try split) <;> (try split) <;> (try split) <;> omega
theorem pcompare_any (m v m' v' : BitVec 8) (w : World) : Calls Tryz.prog 39 #[cv m v, cv m' v'] w fun e w' => e = .returned (.int .i64 (cmpI (keyC m v) (keyC m' v'))) ∧ Below w.heap.size w w' := by
  have HM := fun w => compare8_any m m' w
  have HV := fun w => compare8_any v v' w
  have HO := fun g c w h0 h1 => or2_any (cmpI m.toNat m'.toNat) (cmpI v.toNat v'.toNat) g c w h0 h1
  rw [cmp_key] at HO
  generalize cmpI (keyC m v) (keyC m' v') = r at *
  generalize cmpI m.toNat m'.toNat = r1 at *
  generalize cmpI v.toNat v'.toNat = r2 at *
  have hx : ((w.alloc (cb m v)).alloc (cb m' v')).heap[w.heap.size]? = some (cb m v) := by rw [heap_alloc2_old]
  have hy : ((w.alloc (cb m v)).alloc (cb m' v')).heap[w.heap.size + 1]? = some (cb m' v') := by rw [heap_alloc2_new]
  have hb := below_alloc2 w (cb m v) (cb m' v')
  unfold cv cb bvv at *
  go_enter Tryz.func39, Tryz.ntmps39
  go_upto_region 1 with (fail)
  generalize (w.alloc _).alloc _ = W at *
  obtain ⟨x0, x1, -⟩ := box2 hx rfl
  obtain ⟨y0, y1, -⟩ := box2 hy rfl
  refine wp_region_mid_after 10 _ rfl rfl (by kernel_rfl) (by kernel_rfl) ?_
  simp only [List.take_succ_cons, List.take_zero, List.drop_succ_cons, List.drop_zero]
  repeat (first | go_big_quiet_step (first | (go_at_call_of 47 (Value.int .u8 m.toNat); exact Calls.after_of ((HM _).mono fun e w' ⟨h, h'⟩ => ⟨h, by rw [h']; exact Below.refl _ _⟩)) | (go_at_call_of 47 (Value.int .u8 v.toNat); exact Calls.after_of ((HV _).mono fun e w' ⟨h, h'⟩ => ⟨h, by rw [h']; exact Below.refl _ _⟩))))
  refine wpQuiet_nil ?_
  intro z K hK
  go_simp
  refine hK.out _ _ ?_
  clear hK x0 x1 y0 y1 hx hy HM HV
  have hz := heap_alloc_new z.1 (.cells #[.int .i64 r1, .int .i64 r2] 3)
  have hbz := (hb.trans (z.2.mono hb.size)).alloc (hb.trans (z.2.mono hb.size)).size (.cells #[.int .i64 r1, .int .i64 r2] 3)
  generalize hW2 : z.1.alloc _ = w2 at *
  generalize z.1.heap.size = zb at *
  clear hW2 z hb
  obtain ⟨z0, z1, -⟩ := now2 hz rfl
  have HO1 := HO zb 2 w2 z0 z1
  clear HO
  repeat (first | go_big_quiet_step ((exact HO1 _)))
  refine wpQuiet_nil ?_
  go_wp2
  go_ret
  exact ⟨rfl, hbz⟩
end Go.Proofs.YtmgggennbnbjkaaGreat
