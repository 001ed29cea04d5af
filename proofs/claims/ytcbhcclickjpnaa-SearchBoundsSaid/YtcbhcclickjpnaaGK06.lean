/- hasAll and fewest of the package reduce. A region that draws its order, one of whose operations calls what may do anything: all ahead of it read, or call what makes memory of its own but hands back one value, and it waits for them; all behind it wait for it, and are quiet in the world that it leaves. Regions that draw their order, inside a fence that lets all in, also in a round of a range over a function: one walk in the order of the text; in its midst one operation that may do anything (a call of yield). -/
import Derived.Test.YtcbhcclickjpnaaGK04
import Derived.Test.YtcbhcclickjpnaaGK01
import Derived.Deep.RegionHeld3
import Derived.OrdersIn
import Derived.RangeFuncBox
import Derived.RangeFuncLeaves
import Derived.OwnWalkIn
import Derived.TacticsInMore
import Derived.LoopNIn
import Derived.LoopIn
namespace Go.Proofs.Ytcbhcclickjpnaa
open Go.RowKit Go.Joins

theorem sub_len14 : ∀ {b a : List Int}, a.Pairwise (· < ·) → b.Pairwise (· < ·) → (∀ x, x ∈ a → x ∈ b) → a.length ≤ b.length
  | [], a, _, _, h => by
    cases a with
    | nil => exact Nat.le_refl _
    | cons x a => exact absurd (h x (List.mem_cons_self ..)) List.not_mem_nil
  | y :: b, [], _, _, _ => Nat.zero_le _
  | y :: b, x :: a, ha, hb, h => by
    rw [List.pairwise_cons] at ha hb
    by_cases e : x = y
    · subst e
      have := sub_len14 ha.2 hb.2 fun z hz => by
        rcases List.mem_cons.1 (h z (List.mem_cons_of_mem _ hz)) with e | h1
        · have := ha.1 z hz
          omega
        · exact h1
      simpa using this
    · have hx : x ∈ b := (List.mem_cons.1 (h x (List.mem_cons_self ..))).resolve_left e
      have hyx := hb.1 x hx
      have := sub_len14 (a := x :: a) (by rw [List.pairwise_cons]; exact ha) hb.2 fun z hz => by
        rcases List.mem_cons.1 (h z hz) with e | h1
        · subst e
          rcases List.mem_cons.1 hz with e2 | h2
          · omega
          · have := ha.1 _ h2
            omega
        · exact h1
      exact Nat.le_succ_of_le this
theorem sub_iff14 {a b : List Int} : subR a b = true ↔ ∀ x, x ∈ a → x ∈ b := by
  unfold subR
  rw [List.all_eq_true]
  exact forall_congr' fun x => forall_congr' fun _ => decide_eq_true_iff
/-- What stands between the rows when k of the short row are found and a of the long one are passed over. -/
structure HasI (xs ys : List Int) (a k : Nat) : Prop where
  ha : a ≤ xs.length
  got : ∀ j y, j < k → ys[j]? = some y → y ∈ xs
  past : ∀ q x, q < a → xs[q]? = some x → ∀ j y, k ≤ j → ys[j]? = some y → x < y
theorem HasI.zero (xs ys : List Int) : HasI xs ys 0 0 := ⟨Nat.zero_le _, fun _ _ h => absurd h (Nat.not_lt_zero _), fun _ _ h => absurd h (Nat.not_lt_zero _)⟩
theorem rise_get14 {l : List Int} (h : l.Pairwise (· < ·)) {i j : Nat} {x y : Int} (hi : l[i]? = some x) (hj : l[j]? = some y) (hij : i < j) : x < y := by
  obtain ⟨h1, rfl⟩ := List.getElem?_eq_some_iff.1 hi
  obtain ⟨h2, rfl⟩ := List.getElem?_eq_some_iff.1 hj
  exact List.pairwise_iff_getElem.1 h i j h1 h2 hij
theorem HasI.step {xs ys : List Int} {a k : Nat} {x y : Int} (h : HasI xs ys a k) (ry : ys.Pairwise (· < ·)) (hx : xs[a]? = some x) (hy : ys[k]? = some y) (hlt : x < y) : HasI xs ys (a + 1) k := by
  refine ⟨(List.getElem?_eq_some_iff.1 hx).1, h.got, fun q z hq hz j u hj hu => ?_⟩
  by_cases e : q = a
  · subst e
    rw [hx] at hz
    injection hz with hz
    subst hz
    by_cases e2 : k = j
    · subst e2
      rw [hy] at hu
      injection hu with hu
      omega
    · have := rise_get14 ry hy hu (by omega)
      omega
  · exact h.past q z (by omega) hz j u hj hu
theorem HasI.found {xs ys : List Int} {a k : Nat} {y : Int} (h : HasI xs ys a k) (hx : xs[a]? = some y) (hy : ys[k]? = some y) : HasI xs ys a (k + 1) := by
  refine ⟨h.ha, fun j z hj hz => ?_, fun q x hq hx j u hj hu => h.past q x hq hx j u (by omega) hu⟩
  by_cases e : j = k
  · subst e
    rw [hy] at hz
    injection hz with hz
    subst hz
    exact List.mem_of_getElem? hx
  · exact h.got j z (by omega) hz
theorem HasI.no {xs ys : List Int} {a k : Nat} {y : Int} (h : HasI xs ys a k) (rx : xs.Pairwise (· < ·)) (hy : ys[k]? = some y) (ht : ∀ x, xs[a]? = some x → y < x) : subR ys xs = false := by
  rw [Bool.eq_false_iff]
  intro hs
  obtain ⟨q, hq⟩ := List.mem_iff_getElem?.1 (sub_iff14.1 hs y (List.mem_of_getElem? hy))
  rcases Nat.lt_trichotomy q a with h1 | h1 | h1
  · have := h.past q y h1 hq k y (Nat.le_refl _) hy
    omega
  · subst h1
    have := ht y hq
    omega
  · have hlt := (List.getElem?_eq_some_iff.1 hq).1
    have := ht _ (List.getElem?_eq_getElem (show a < xs.length by omega))
    have := rise_get14 rx (List.getElem?_eq_getElem (show a < xs.length by omega)) hq h1
    omega
set_option maxHeartbeats 2000000 in
set_option maxRecDepth 100000 in
theorem hasall14_any (v u : Value) (xs ys : List Int) (w : World) (hx : IntsAt w w.heap.size v xs) (hy : IntsAt w w.heap.size u ys) (rx : xs.Pairwise (· < ·)) (ry : ys.Pairwise (· < ·)) :
    Calls Try.prog 106 #[v, u] w fun e w' => e = .returned (.bool (subR ys xs)) ∧ Below w.heap.size w w' := by
  obtain ⟨A, c, rfl, hlx, hcx⟩ := hx
  obtain ⟨A2, c2, rfl, hly, hcy⟩ := hy
  have hless : Hid (xs.length < ys.length → subR ys xs = false) := Lib.hid (fun h => by
    rw [Bool.eq_false_iff]
    intro hs
    have := sub_len14 ry rx (sub_iff14.1 hs)
    omega)
  have hyes : Hid (∀ a, HasI xs ys a ys.length → subR ys xs = true) := Lib.hid (fun a h => sub_iff14.2 fun y hy => by
    obtain ⟨j, hj⟩ := List.mem_iff_getElem?.1 hy
    exact h.got j y (List.getElem?_eq_some_iff.1 hj).1 hj)
  have hno : Hid (∀ (a k : Nat) (y : Int), HasI xs ys a k → ys[k]? = some y → (∀ x, xs[a]? = some x → y < x) → subR ys xs = false) := Lib.hid (fun a k y h hy ht => h.no rx hy ht)
  have hst : Hid (∀ (a k : Nat) (x y : Int), HasI xs ys a k → xs[a]? = some x → ys[k]? = some y → x < y → HasI xs ys (a + 1) k) := Lib.hid (fun a k x y h h1 h2 h3 => h.step ry h1 h2 h3)
  clear rx ry
  generalize subR ys xs = R at *
  go_enter Try.func106, Try.ntmps106
  by_cases hl : xs.length < ys.length
  · have hd : decide ((xs.length : Int) < (ys.length : Int)) = true := decide_eq_true (by omega)
    have hr := Lib.hid (hless.out hl)
    have hl2 : (xs.length : Int) < (ys.length : Int) := by omega
    clear hl hcx hcy
    go_wp2
    go_ret
    exact ⟨by rw [hr.out]; rfl, Below.refl _ _⟩
  have hd : decide ((xs.length : Int) < (ys.length : Int)) = false := decide_eq_false (by omega)
  have hl2 : ¬ (xs.length : Int) < (ys.length : Int) := by omega
  clear hl hless
  go_wp2
  clear hd hl2
  go_loopw [5, 7, 15] (fun a _ t wr => ∃ i k : Nat, a = .int .i64 i ∧ k ≤ ys.length ∧ t = .int .i64 k ∧ i ≤ xs.length ∧ Hid (HasI xs ys i k) ∧ w = wr) (fun _ _ t _ => ys.length - (intOf t).toNat)
  case atStart => exact ⟨0, 0, rfl, by omega, rfl, by omega, Lib.hid (HasI.zero _ _), rfl⟩
  case round =>
    obtain ⟨i, k, rfl, hk, rfl, hi, hI, rfl⟩ := hrel
    by_cases hlt : k < ys.length
    · obtain ⟨b, off, rfl, hB, hc⟩ := hcy (by omega)
      obtain ⟨y, hy⟩ : ∃ y, ys[k]? = some y := ⟨_, List.getElem?_eq_getElem hlt⟩
      have c0 := hc k y hy
      have hyH := Lib.hid hy
      clear hc hy hcy
      go_wp2
      go_loopw [5] (fun a wr => ∃ i : Nat, a = .int .i64 i ∧ i ≤ xs.length ∧ Hid (HasI xs ys i k) ∧ w = wr) (fun a _ => xs.length - (intOf a).toNat)
      case atStart => exact ⟨i, rfl, hi, hI, rfl⟩
      case round =>
        clear hI hi
        obtain ⟨i, rfl, hi, hI, rfl⟩ := hrel
        by_cases hlt2 : i < xs.length
        · obtain ⟨b2, off2, rfl, hB2, hc2⟩ := hcx (by omega)
          obtain ⟨x, hx⟩ : ∃ x, xs[i]? = some x := ⟨_, List.getElem?_eq_getElem hlt2⟩
          have d0 := hc2 i x hx
          have hxH := Lib.hid hx
          clear hc2 hx hcx
          have g0 : decide ((i : Int) < (xs.length : Int)) = true := decide_eq_true (by omega)
          by_cases h1 : x < y
          · have g1 : decide (x < y) = true := decide_eq_true h1
            have hI2 := Lib.hid (hst.out i k x y hI.out hxH.out hyH.out h1)
            clear hI hxH h1 hst hno hyes
            go_wp2
            go_roundw
            case rel => exact ⟨i + 1, by go_num, by omega, hI2, by first | rfl | trivial⟩
            case measure => simp [intOf]; omega
          · have g1 : decide (x < y) = false := decide_eq_false h1
            by_cases h2 : x = y
            · subst h2
              have g2 : (x != x) = false := by simp
              have g3 : ((i : Int) == (xs.length : Int)) = false := by rw [beq_eq_false_iff_ne]; omega
              have hI2 : Hid (HasI xs ys i (k + 1)) := Lib.hid (hI.out.found hxH.out hyH.out)
              clear hI hxH h1 hst hno hyes
              go_wp2
              go_roundw
              case rel => exact ⟨i, k + 1, rfl, by omega, by go_num, hi, hI2, by first | rfl | trivial⟩
              case measure => simp [intOf]; omega
            · have g2 : (x != y) = true := by rw [bne_iff_ne]; exact h2
              have g3 : ((i : Int) == (xs.length : Int)) = false := by rw [beq_eq_false_iff_ne]; omega
              have hr := Lib.hid (hno.out i k y hI.out hyH.out fun z hz => by rw [hxH.out] at hz; injection hz with hz; omega)
              clear hI hxH h1 h2 hst hno hyes
              go_wp2
              go_ret
              exact ⟨by rw [hr.out]; rfl, Below.refl _ _⟩
        · have e : i = xs.length := by omega
          have g0 : decide ((i : Int) < (xs.length : Int)) = false := decide_eq_false (by omega)
          have g3 : ((i : Int) == (xs.length : Int)) = true := by rw [beq_iff_eq]; omega
          have hr := Lib.hid (hno.out i k y hI.out hyH.out fun z hz => by
            have := (List.getElem?_eq_some_iff.1 hz).1
            omega)
          clear hI hst hno hyes e hcx
          go_wp2
          go_ret
          exact ⟨by rw [hr.out]; rfl, Below.refl _ _⟩
    · have e : k = ys.length := by omega
      have hkd : decide ((k : Int) < (ys.length : Int)) = false := decide_eq_false (by omega)
      have hr := Lib.hid (hyes.out i (by rw [← e]; exact hI.out))
      clear e hI hst hno hyes hcx hcy
      go_wp2
      go_ret
      exact ⟨by rw [hr.out]; rfl, Below.refl _ _⟩
end Go.Proofs.Ytcbhcclickjpnaa
namespace Go.Proofs.Ytcbhcclickjpnaa
open Go.RowKit Go.Joins

section
variable {P : Program} {ops : Array Oper} {md : Region.Mode} {C : World → Prop}
/-- Each operation behind n waits for n, or for one behind it that does. -/
def chain2B (md : Region.Mode) (ops : Array Oper) (n : Nat) : Bool :=
  (List.range ops.size).all fun t => decide (t ≤ n) || (List.range t).any fun s => decide (n ≤ s) && Region.waitsFor md ops t s
theorem mid_waits {n : Nat} {listed : Array Bool} (hs : Region.sinkB md ops n = true) (hc : chain2B md ops n = true) (hn : n < ops.size) (inv : HeadInv md ops n listed) :
    ∀ (d i : Nat), n - i = d → i < n → listed.getD i true = false → ∀ t, n ≤ t → t ∉ Region.ready md ops listed := by
  intro d
  induction d using Nat.strongRecOn with
  | _ d ih =>
    intro i hd hi hun t ht hr
    obtain ⟨_, ot, hot, hall⟩ := mem_ready.1 hr
    have htlt : t < ops.size := (Array.getElem?_eq_some_iff.1 hot).1
    by_cases htn : t = n
    · subst htn
      have h1 := List.all_eq_true.1 hs i (List.mem_range.2 hi)
      obtain ⟨j, hj, hj2⟩ := List.any_eq_true.1 h1
      simp only [Bool.and_eq_true, decide_eq_true_eq] at hj2
      obtain ⟨oj, hoj, e, he, hb, hon⟩ := Region.waitsFor_spec hj2.2
      have hjle : j ≤ t := by have := List.mem_range.1 hj; omega
      by_cases hjt : j = t
      · subst hjt
        have : oj = ot := Option.some.inj (hoj.symm.trans hot)
        subst this
        have h2 := hall e he hb
        rw [hon, getD_both hun] at h2
        cases h2
      · cases hl : listed.getD j false with
        | true =>
          have h2 := inv.closed j oj hoj hl e he hb
          rw [hon, getD_both hun] at h2
          cases h2
        | false =>
          have hjs : j < listed.size := by rw [inv.size]; omega
          exact ih (t - j) (by omega) j rfl (by omega) (getD_in hjs hl) t (Nat.le_refl _) hr
    · have h1 := List.all_eq_true.1 hc t (List.mem_range.2 htlt)
      simp only [Bool.or_eq_true, decide_eq_true_eq] at h1
      rcases h1 with h1 | h1
      · omega
      · obtain ⟨s, hs1, hs2⟩ := List.any_eq_true.1 h1
        simp only [Bool.and_eq_true, decide_eq_true_eq] at hs2
        have hst := List.mem_range.1 hs1
        obtain ⟨o', ho', e, he, hb, hon⟩ := Region.waitsFor_spec hs2.2
        have : o' = ot := Option.some.inj (ho'.symm.trans hot)
        subst this
        have h2 := hall e he hb
        rw [hon, getD_both (inv.tail s hs2.1 (by omega))] at h2
        cases h2
theorem HeadQ.take2 {n j : Nat} {o : Oper} {v : Value} {L : Array Bool → Act → Prop} (ho : ops[j]? = some o) (hns : Region.noSelect ops = true)
    (hsink : Region.sinkB md ops n = true) (hchain : chain2B md ops n = true) (hn : n < ops.size) (hj : j < n)
    (hL : ∀ done a, L done a → ∀ t, t ∈ Region.ready md ops done → n ≤ t) (k : Nat) :
    ∀ (done : Array Bool) (a : Act), HeadInv md ops n done → FreeAt md ops done j o → j ∈ Region.ready md ops done → YieldsIn P ops C o v a →
      HeadQ P md ops C n L k (done.setIfInBounds j true) (a.put o.dst v) → HeadQ P md ops C n L (k + 1) done a := by
  have sel := Region.noSelect_spec hns
  induction k with
  | zero =>
    intro done a inv _ hr hy H
    have hun := (mem_ready.1 hr).1
    refine ⟨List.ne_nil_of_mem hr, fun t ht => ?_⟩
    have htn : t < n := Nat.lt_of_not_le fun h => mid_waits hsink hchain hn inv (n - j) j rfl hj hun t h ht
    by_cases e : t = j
    · rw [e]; exact ⟨hj, hy.qOp ho H⟩
    · have := hL _ _ H t (ready_mono ht e)
      omega
  | succ k ih =>
    intro done a inv hf hr hy H
    have hun := (mem_ready.1 hr).1
    refine ⟨List.ne_nil_of_mem hr, fun t ht => ?_⟩
    have htn : t < n := Nat.lt_of_not_le fun h => mid_waits hsink hchain hn inv (n - j) j rfl hj hun t h ht
    by_cases e : t = j
    · rw [e]; exact ⟨hj, hy.qOp ho H⟩
    obtain ⟨htu, ot, hot, hwaits⟩ := mem_ready.1 ht
    have nowait : ∀ x, x ∈ ot.after → Region.binds md x = true → x.on ≠ j := by
      intro x hx hb he
      have h1 := hwaits x hx hb
      rw [he, getD_both hun] at h1
      exact Bool.noConfusion h1
    have h2 := qOp_put hot (hf t ot hot e htu nowait) (fun cs b => sel j o cs b ho) (fun cs b => sel t ot cs b hot) hy ((H.2 t (ready_mono ht e)).2)
    refine ⟨htn, qOp_mono ?_ h2⟩
    rintro a' ⟨hy', h3⟩
    refine ih (done.setIfInBounds t true) a' (inv.set ht htn) (hf.later htu) (ready_mono hr (Ne.symm e)) hy' ?_
    · rw [Array.setIfInBounds_comm _ _ e]; exact h3
/-- The head in the order of the text; then operation n alone; then the rest in the order of the text. -/
def lexTo (md : Region.Mode) (ops : Array Oper) : Nat → Nat → Array Bool → Bool
  | 0, k, listed => decide (Region.ready md ops listed = [k]) && Region.lexFrom md ops (ops.size - (k + 1)) (k + 1) (listed.setIfInBounds k true)
  | f + 1, k, listed => (Region.ready md ops listed).contains k && Region.free md ops listed k && lexTo md ops f (k + 1) (listed.setIfInBounds k true)
def midB (md : Region.Mode) (ops : Array Oper) (n : Nat) : Bool :=
  Region.noSelect ops && decide (n < ops.size) && Region.sinkB md ops n && chain2B md ops n && lexTo md ops n 0 (Array.replicate ops.size false)
/-- What is known behind the head: what has come up, and that the rest goes through. -/
def AtMid (md : Region.Mode) (ops : Array Oper) (n : Nat) (done : Array Bool) : Prop := Region.ready md ops done = [n] ∧ Region.lexFrom md ops (ops.size - (n + 1)) (n + 1) (done.setIfInBounds n true) = true
theorem HeadQ.walk2 {n : Nat} {R : Act → Prop} (hns : Region.noSelect ops = true) (hsink : Region.sinkB md ops n = true) (hchain : chain2B md ops n = true) (hn : n < ops.size) (l : List Oper) :
    ∀ (j : Nat) (done : Array Bool) (a : Act), (∀ t, t < l.length → l[t]? = ops[j + t]?) → j + l.length = n → HeadInv md ops n done → lexTo md ops l.length j done = true →
      wpQuiet P ops C R l a → HeadQ P md ops C n (fun done' a' => AtMid md ops n done' ∧ R a') l.length done a := by
  induction l with
  | nil =>
    intro j done a _ hj _ hB h
    have e : j = n := by simpa using hj
    subst e
    simp only [List.length_nil, lexTo, Bool.and_eq_true, decide_eq_true_eq] at hB
    exact ⟨hB, h⟩
  | cons o l ih =>
    intro j done a hl hj inv hB h
    have ho : ops[j]? = some o := by have := hl 0 (by simp); simpa using this.symm
    simp only [List.length_cons] at hj
    simp only [List.length_cons, lexTo, Bool.and_eq_true, List.contains_iff_mem] at hB
    have hq : qOp P ops C j (wpQuiet P ops C R l) a := by unfold qOp; rw [ho]; exact h
    obtain ⟨v, hy, hK⟩ := yieldsIn_of_qOp ho hq
    have hjn : j < n := by omega
    refine HeadQ.take2 ho hns hsink hchain hn hjn (fun _ _ hL t ht => ?_) l.length done a inv (Region.free_spec ho hB.1.2) hB.1.1 hy ?_
    · rw [hL.1.1] at ht
      have : t = n := by simpa using ht
      omega
    refine ih (j + 1) _ _ (fun t ht => ?_) (by omega) (inv.set hB.1.1 hjn) hB.2 hK
    have := hl (t + 1) (by simp; omega)
    rw [show j + (t + 1) = j + 1 + t by omega] at this
    simpa using this
end
end Go.Proofs.Ytcbhcclickjpnaa
namespace Go.Proofs.Ytcbhcclickjpnaa
open Go.RowKit Go.Joins

section
variable {F : Fence} {m : Nat} {P : Program} {ops : Array Oper} {md : Region.Mode} {C : World → Prop}
/-- A fence that lets all in. -/
structure Lets (F : Fence) (m : Nat) (P : Program) : Prop where
  fn : ∀ f, F.fn f
  call : ∀ {f : FuncId} {args : Array Value} {w : World} {R : Ending → World → Prop}, Calls P f args w R → (F.depth.isSome = true → 1 ≤ m) ∧ CallsIn F (m - 1) P f args w R
theorem lets_wide (m : Nat) : Lets Fence.wide m P := ⟨fun _ => trivial, fun h => ⟨fun hd => (by cases hd), callsIn_wide.2 h⟩⟩
theorem lets_round (l m : Nat) : Lets (Fence.wide.inRound l) m P := ⟨fun _ => trivial, fun {f args w R} h => ⟨fun hd => (by cases hd), (callsIn_wide (n := m - 1) (P := P) (f := f) (args := args) (w := w) (R := R)).2 h⟩⟩
def noDefer (ops : Array Oper) : Bool := ops.toList.all fun o => match o.op with
  | .defer _ => false
  | _ => true
theorem noDefer_spec (h : noDefer ops = true) {i : Nat} {o : Oper} (ho : ops[i]? = some o) : ∀ c, o.op ≠ .defer c := by
  intro c hc
  unfold noDefer at h
  rw [List.all_eq_true] at h
  have h1 := h o (by have := Array.mem_of_getElem? ho; exact Array.mem_def.1 this)
  rw [hc] at h1
  cases h1
theorem opIn_of_quiet {o : Oper} {a : Act} {K : Act → Prop} {K' : Act → World → Prop} {Q' : Exit → Act → World → Prop} {w : World} (hF : Lets F m P) (hnd : ∀ c, o.op ≠ .defer c) (hw : C w) (h : ∀ a w', C w' → K a → K' a w') (hh : o.quiet P a C K) : o.wpIn F m P a w K' Q' := by
  obtain ⟨v, h1, h2⟩ := hh
  have h3 := h1 w hw
  unfold Oper.quietAt at h3
  refine ⟨fun f _ => hF.fn f, ?_⟩
  rw [Oper.semAt_eq _ _ _ hnd]
  generalize (execOp a.eval o).run P w = r at *
  cases r with
  | ok n w' =>
    cases n <;> simp only [Oper.quietUpon] at h3 <;> simp only [Oper.uponIn]
    case value u =>
      obtain ⟨e1, e2⟩ := h3
      rw [e1, e2]
      exact h _ _ hw h2
    case skip =>
      obtain ⟨e1, e2⟩ := h3
      rw [e1, ← e2]
      exact h _ _ hw h2
    case enter f args =>
      obtain ⟨e1, hc⟩ := h3
      rw [e1]
      exact hF.call (hc.mono fun e w'' ⟨he, hw''⟩ => by subst he; exact h _ _ hw'' h2)
  | halt x w' => simp only [Oper.quietUpon] at h3
theorem opIn_of_qOp {i : Nat} {a : Act} {K : Act → Prop} {K' : Act → World → Prop} {Q' : Exit → Act → World → Prop} {w : World} (hF : Lets F m P) (hnd : noDefer ops = true) (hC : C w) (h : ∀ a w', C w' → K a → K' a w') (hh : qOp P ops C i K a) : wpOpIn F m P ops Q' i K' a w := by
  unfold qOp at hh
  unfold wpOpIn
  split
  · rename_i ho; simp only [ho] at hh; exact h _ _ hC hh
  · rename_i o ho
    simp only [ho] at hh
    split
    · rename_i hw; simp only [hw, if_true] at hh; exact opIn_of_quiet hF (noDefer_spec hnd ho) hC h hh
    · rename_i hw; simp only [hw] at hh; exact ⟨fun f _ => hF.fn f, h _ _ hC hh⟩
theorem anyIn_of_quiet {Q : Act → Prop} {Q' : Exit → Act → World → Prop} (hF : Lets F m P) (hnd : noDefer ops = true) (hQ : ∀ a w, C w → Q a → Q' .normal a w) : ∀ (fuel : Nat) (listed : Array Bool) (a : Act) (w : World), C w →
    wpAnyQ P md ops C Q fuel listed a → wpAnyIn F m P md ops Q' fuel listed a w
  | 0, _, _, _, hw, h => ⟨h.1, hQ _ _ hw h.2⟩
  | fuel + 1, _, _, _, hw, h => ⟨fun h0 => hQ _ _ hw (h.1 h0), fun i hi => opIn_of_qOp hF hnd hw (fun a' w' hw' => anyIn_of_quiet hF hnd hQ fuel _ a' w' hw') (h.2 i hi)⟩
theorem HeadQ.anyIn {n k0 : Nat} {L : Array Bool → Act → Prop} {Q : Exit → Act → World → Prop} (hF : Lets F m P) (hnd : noDefer ops = true) (hL : ∀ done a w, C w → L done a → wpAnyIn F m P md ops Q k0 done a w) (k : Nat) :
    ∀ (done : Array Bool) (a : Act) (w : World), C w → HeadQ P md ops C n L k done a → wpAnyIn F m P md ops Q (k + k0) done a w := by
  induction k with
  | zero => intro done a w hw h; simpa using hL done a w hw h
  | succ k ih =>
    rintro done a w hw ⟨hne, hall⟩
    have e : k + 1 + k0 = (k + k0) + 1 := by omega
    rw [e]
    refine ⟨fun hn => (hne hn).elim, fun j hj => ?_⟩
    exact opIn_of_qOp hF hnd hw (ih _) (hall j hj).2
/-- ONE WALK IN THE ORDER OF THE TEXT, all quiet. -/
theorem wpIn_region_after {id : Nat} {Q : Exit → Act → World → Prop} {a : Act} {w : World} {l : List Oper} (hF : Lets F m P) (hm : P.follows .mixedOrders = true) (hB : Region.lexB .any l.toArray = true) (hnd : noDefer l.toArray = true)
    (h : wpQuiet P l.toArray (fun W => ∃ x : After w, W = x.1) (fun a' => ∀ x : After w, Q .normal a' x.1) l a) : (Code.region id l.toArray true).wpIn F m P Q a w := by
  simp only [Region.lexB, Bool.and_eq_true] at hB
  refine wpIn_region_any hm (anyIn_of_quiet (C := fun W => ∃ x : After w, W = x.1) (Q := fun a' => ∀ x : After w, Q .normal a' x.1) hF hnd (fun _ w' hw' h => by obtain ⟨x, rfl⟩ := hw'; exact h x) _ _ _ _ ⟨⟨_, (Below.refl _ _).drew⟩, rfl⟩ ?_)
  have := wpAnyQ_lex (C := fun W => ∃ x : After w, W = x.1) (md := .any) hB.1 l 0 (Array.replicate l.toArray.size false) a (by simp) (by simpa using hB.2) h
  simpa using this
/-- ONE WALK IN THE ORDER OF THE TEXT, the operation in the midst of it carried out wherever the head has led. -/
theorem wpIn_region_mid {id : Nat} {Q : Exit → Act → World → Prop} {a : Act} {w : World} {l : List Oper} (n : Nat) (o : Oper) (ho : l[n]? = some o) (hF : Lets F m P) (hm : P.follows .mixedOrders = true) (hB : midB .any l.toArray n = true) (hnd : noDefer l.toArray = true)
    (h : wpQuiet P l.toArray (fun W => ∃ x : After w, W = x.1) (fun a' => Region.wanted o (yielded l.toArray a'.tmps) = true ∧ ∀ x : After w, ∀ K : Act → World → Prop, Shut (∀ a w, wpQuiet P l.toArray (fun W => W = w) (fun a3 => Q .normal a3 w) (l.drop (n + 1)) a → K a w) → o.wpIn F m P a' x.1 K Q) (l.take n) a) : (Code.region id l.toArray true).wpIn F m P Q a w := by
  simp only [midB, Bool.and_eq_true, decide_eq_true_eq] at hB
  obtain ⟨⟨⟨⟨hns, hn⟩, hsink⟩, hchain⟩, hlex⟩ := hB
  have hn' : n < l.length := by simpa using hn
  have htl : (l.take n).length = n := by rw [List.length_take]; omega
  have hoA : l.toArray[n]? = some o := by simpa using ho
  have start : HeadInv .any l.toArray n (Array.replicate l.toArray.size false) :=
    ⟨by simp, fun t _ _ ht => Bool.noConfusion ((getD_replicate_false _ t).symm.trans ht), fun t _ ht => getD_in (by simpa using ht) (getD_replicate_false _ t)⟩
  have H := HeadQ.walk2 (P := P) (C := fun W => ∃ x : After w, W = x.1) hns hsink hchain hn (l.take n) 0 (Array.replicate l.toArray.size false) a
    (fun t ht => by rw [htl] at ht; simp [ht]) (by rw [htl]; omega) start (by rw [htl]; exact hlex) h
  have H2 := HeadQ.anyIn (F := F) (m := m) (Q := Q) (k0 := (l.drop (n + 1)).length + 1) hF hnd (fun done a' w' hw' hL => by
    obtain ⟨⟨hr, hlf⟩, hwant, hR⟩ := hL
    obtain ⟨x, rfl⟩ := hw'
    refine ⟨fun h0 => (by rw [hr] at h0; cases h0), fun i hi => ?_⟩
    have e : i = n := by rw [hr] at hi; simpa using hi
    subst e
    unfold wpOpIn
    simp only [hoA]
    rw [if_pos hwant]
    refine hR x _ (fun a2 w2 h2 => ?_)
    refine anyIn_of_quiet (C := fun W => W = w2) (Q := fun a3 => Q .normal a3 w2) hF hnd (fun a3 w3 h3 hq => by rw [h3]; exact hq) _ _ _ _ rfl ?_
    refine wpAnyQ_lex (C := fun W => W = w2) (md := .any) hns (l.drop (i + 1)) (i + 1) _ a2 (fun j => by simp) ?_ h2
    have e : (l.drop (i + 1)).length = l.toArray.size - (i + 1) := by simp
    rw [e]; exact hlf) _ _ a w.drew ⟨⟨_, (Below.refl _ _).drew⟩, rfl⟩ H
  rw [htl, show n + ((l.drop (n + 1)).length + 1) = l.toArray.size by simp; omega] at H2
  exact wpIn_region_any hm H2
end
end Go.Proofs.Ytcbhcclickjpnaa
