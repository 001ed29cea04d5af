/- The document's own Right of layer 4, for every spec. The document's own May of layer 13. What the statements of layer 13 say of cover.Make, as contracts; CoverMakes over them. Covers of the package spec, for every spec and all rows. The document's own May, Right and Covers of layer 4, for every spec and all rows. The document's own Covers of layer 4, for every spec that is right and all rows. Make of the package cover, for every spec and all rows. -/
import Derived.Test.YtdfllifjbabfjaaDoorGD14
import Derived.Test.YtdfllifjbabfjaaDoorGD22
import Derived.Test.YtdfllifjbabfjaaDoorGD12
import Derived.Test.YtdfllifjbabfjaaDoorGD16
import Derived.Test.YtdfllifjbabfjaaDoorGD15
import Derived.Test.YtdfllifjbabfjaaDoorGD19
namespace Go.Proofs.YtdfllifjbabfjaaDoor
open Go.RowKit Go.Joins

theorem HeadH.takeL {P : Program} {l : List Oper} {n : Nat} {S : World → Prop} {Q : Exit → Act → World → Prop} {i k : Nat} {o : Oper} {v : Value} {done : Array Bool} {a : Act} {w : World} (hF : tailOk l n = true) (ho : l[i]? = some o) (hi : decide (i < n) = true)
    (hf : Region.free .any l.toArray done i = true) (hr : (Region.ready .any l.toArray done).contains i = true)
    (hQ : ∀ c a w, Q (.panic c) (a.put o.dst v) w → Q (.panic c) a w) (hy : YieldsIf P l.toArray S o v a) (hS : S w)
    (h : HeadH P .any l.toArray Q S n (TailL P l Q n) k (done.setIfInBounds i true) (a.put o.dst v) w) : HeadH P .any l.toArray Q S n (TailL P l Q n) (k + 1) done a w :=
  HeadH.take hF (by simpa using ho) hi hf hr hQ hy hS h
theorem HeadH.oneL {P : Program} {l : List Oper} {n : Nat} {S : World → Prop} {Q : Exit → Act → World → Prop} {i k : Nat} {o : Oper} {done : Array Bool} {a : Act} {w : World} (hr : Region.ready .any l.toArray done = [i]) (hi : decide (i < n) = true) (ho : l[i]? = some o)
    (h : ∀ K' : Act → World → Prop, Shut (∀ a w, S w → (S w → HeadH P .any l.toArray Q S n (TailL P l Q n) k (done.setIfInBounds i true) a w) → K' a w) → if Region.wanted o (yielded l.toArray a.tmps) = true then Oper.wp P o a w K' Q else K' (a.put o.dst undef) w) :
    HeadH P .any l.toArray Q S n (TailL P l Q n) (k + 1) done a w :=
  HeadH.one hr hi (by simpa using ho) h
end Go.Proofs.YtdfllifjbabfjaaDoor
namespace Go.Proofs.YtdfllifjbabfjaaDoor
open Go.RowKit Go.Joins

/-- The error that is told, when a covering may not be made. -/
def mayE (s : Sp) (rs : List Rw) : Nat := if spB s && rs.all (fun x => rightB x.m x.v s.i) then (if 4000 < rs.length then 3 else 0) else 1
theorem mayE_spec {s : Sp} {rs : List Rw} (h : spB s = false) : mayE s rs = 1 := by unfold mayE; rw [h]; rfl
theorem mayE_row {s : Sp} {rs : List Rw} {k : Nat} {x : Rw} (hx : rs[k]? = some x) (h : rightB x.m x.v s.i = false) : mayE s rs = 1 := by
  unfold mayE
  have : rs.all (fun x => rightB x.m x.v s.i) = false := by
    rw [List.all_eq_false]
    exact ⟨x, List.mem_of_getElem? hx, by simp [h]⟩
  rw [this, Bool.and_false]
  rfl
theorem mayE_ok {s : Sp} {rs : List Rw} (h : spB s = true) (hr : ∀ (k : Nat) (x : Rw), rs[k]? = some x → rightB x.m x.v s.i = true) : mayE s rs = if 4000 < rs.length then 3 else 0 := by
  unfold mayE
  have : rs.all (fun x => rightB x.m x.v s.i) = true := by
    rw [List.all_eq_true]
    intro x hx
    obtain ⟨k, hk, rfl⟩ := List.mem_iff_getElem.1 hx
    exact hr k _ (List.getElem?_eq_getElem hk)
  rw [h, this]
  rfl
end Go.Proofs.YtdfllifjbabfjaaDoor
namespace Go.Proofs.YtdfllifjbabfjaaDoor
open Go.RowKit Go.Joins

def MakeBad : Prop := ∀ (i : Int) (A C L : Value) (on may : List (BitVec 256)) (rs : List Rw) (w : World), SetsAt w w.heap.size A on → SetsAt w w.heap.size C may → RwsAt w w.heap.size L rs → ¬ mayE ⟨i, on, may⟩ rs = 0 →
  Calls Tryd.prog 11 #[spv i A C, L] w fun e w' => ∃ A' c', e = .returned (.tuple #[.agg #[.int .i64 0, .slice A' 0 c'], .int .i64 (mayE ⟨i, on, may⟩ rs : Nat)]) ∧ Below w.heap.size w w'
def MakeGood : Prop := ∀ (i : Int) (A C L : Value) (on may : List (BitVec 256)) (rs : List Rw) (w : World), SetsAt w w.heap.size A on → SetsAt w w.heap.size C may → RwsAt w w.heap.size L rs → mayE ⟨i, on, may⟩ rs = 0 → TabW w →
  Calls Tryd.prog 11 #[spv i A C, L] w fun e w' => ∃ v K, e = .returned (.tuple #[.agg #[.int .i64 rs.length, v], .int .i64 0]) ∧ MatAt w' w'.heap.size v K ∧ K.Pairwise (fun a b => aheadL a b = true) ∧ (∀ x, x ∈ K ↔ x ∈ gotL on rs on.length 0) ∧ Below w.heap.size w w'
def great13 (on may : List (BitVec 256)) (rs : List Rw) : Bool := decide (20 < on.length) || decide (20 < may.length) || decide (60 < rs.length)
end Go.Proofs.YtdfllifjbabfjaaDoor
namespace Go.Proofs.YtdfllifjbabfjaaDoor
open Go.RowKit Go.Joins

theorem coversB_not_may {s : Sp} {rs : List Rw} (h : mayB s rs = false) : coversB s rs = false := by unfold coversB; rw [h]; rfl
theorem coversB_all {s : Sp} {rs : List Rw} (h : mayB s rs = true) (ha : ∀ j, j < s.on.length → coB s rs j = true) : coversB s rs = true := by
  unfold coversB; rw [h, Bool.true_and]; exact range_all.2 ha
theorem coversB_not {s : Sp} {rs : List Rw} {j : Nat} (hj : j < s.on.length) (h : coB s rs j = false) : coversB s rs = false := by
  unfold coversB; rw [range_not hj h, Bool.and_false]
end Go.Proofs.YtdfllifjbabfjaaDoor
namespace Go.Proofs.YtdfllifjbabfjaaDoor
open Go.RowKit Go.Joins

theorem outsB_no {o : BitVec 8} {k q : Nat} (hb : o.getLsbD q = true) (hk : k ≤ q) : outsB o k = false := by
  unfold outsB
  rw [Bool.and_eq_false_iff]
  refine Or.inr (decide_eq_false fun h => ?_)
  rw [(shr_zero o k).1 h q hk] at hb
  simp at hb
def someB (o : BitVec 8) (j : Nat) : Bool := (List.range j).any fun q => o.getLsbD q
theorem someB_iff (o : BitVec 8) (j : Nat) : someB o j = true ↔ ∃ q, q < j ∧ o.getLsbD q = true := by
  unfold someB
  rw [List.any_eq_true]
  constructor
  · rintro ⟨q, h1, h2⟩; exact ⟨q, List.mem_range.1 h1, h2⟩
  · rintro ⟨q, h1, h2⟩; exact ⟨q, List.mem_range.2 h1, h2⟩
theorem someB_skip {o : BitVec 8} {j : Nat} (h : o.getLsbD j = false) : someB o (j + 1) = someB o j := by
  unfold someB
  rw [List.range_succ, List.any_append]
  simp [h]
theorem someB_yes {o : BitVec 8} {j : Nat} (h : o.getLsbD j = true) : someB o (j + 1) = true := (someB_iff o (j + 1)).2 ⟨j, by omega, h⟩
theorem outsB_end {o : BitVec 8} {k : Nat} (h : ∀ q, q < 8 → o.getLsbD q = true → q < k) : outsB o k = someB o 8 := by
  unfold outsB
  have h1 : o.toNat / 2 ^ k = 0 := by
    rw [shr_zero]
    intro q hq
    cases hb : o.getLsbD q
    · rfl
    · by_cases h8 : q < 8
      · have := h q h8 hb; omega
      · rw [BitVec.getLsbD_of_ge _ _ (by omega)] at hb; simp at hb
  rw [decide_eq_true h1, Bool.and_true]
  rw [Bool.eq_iff_iff, decide_eq_true_eq, someB_iff]
  constructor
  · intro hne
    apply Classical.byContradiction
    intro hn
    apply hne
    apply BitVec.eq_of_getLsbD_eq
    intro q hq
    rw [show (0 : BitVec 8).getLsbD q = false by simp]
    cases hb : o.getLsbD q
    · rfl
    · exact absurd ⟨q, hq, hb⟩ hn
  · rintro ⟨q, -, hb⟩ e
    rw [e] at hb
    simp at hb
end Go.Proofs.YtdfllifjbabfjaaDoor
namespace Go.Proofs.YtdfllifjbabfjaaDoor
open Go.RowKit Go.Joins

theorem allB_lowc (n p : Nat) (hn : n ≤ 8) : (allB n).getLsbD p = decide (p < 2 ^ n) := by
  unfold allB
  rw [bvOf_bit]
  by_cases h : p < 2 ^ n
  · have h2 : 2 ^ n ≤ 2 ^ 8 := Nat.pow_le_pow_right (by decide) hn
    simp [h, show p < 256 by omega]
  · simp [h]

theorem mayB_all {s : Sp} {rs : List Rw} (h : ∀ (j : Nat) (x : Rw), rs[j]? = some x → rwB x s.i s.on.length = true) : mayB s rs = true := by
  unfold mayB
  rw [Bool.and_eq_true, List.all_eq_true, List.all_eq_true]
  constructor
  · intro x hx
    obtain ⟨j, hj⟩ := List.mem_iff_getElem?.1 hx
    exact (Bool.and_eq_true_iff.1 (show (outsB x.o _ && rightB x.m x.v s.i) = true from h j x hj)).2
  · intro x hx
    obtain ⟨j, hj⟩ := List.mem_iff_getElem?.1 hx
    exact (Bool.and_eq_true_iff.1 (show (outsB x.o s.on.length && rightB x.m x.v s.i) = true from h j x hj)).1
theorem mayB_not {s : Sp} {rs : List Rw} {j : Nat} {x : Rw} (hx : rs[j]? = some x) (h : rwB x s.i s.on.length = false) : mayB s rs = false := by
  rw [Bool.eq_false_iff]
  intro hm
  unfold mayB at hm
  obtain ⟨h1, h2⟩ := Bool.and_eq_true_iff.1 hm
  have e1 := List.all_eq_true.1 h1 x (List.mem_of_getElem? hx)
  have e2 := List.all_eq_true.1 h2 x (List.mem_of_getElem? hx)
  unfold rwB at h
  rw [e1, e2] at h
  simp at h
theorem co_points {X Y P : BitVec 256} {i : Nat} {f : Nat → Bool} (hX : X &&& ~~~Y = 0) (hY : Y &&& ~~~(allB i) = 0) (hi : i ≤ 8) (hP : ∀ p, P.getLsbD p = (decide (p < 2 ^ i) && f p)) :
    (decide (X &&& ~~~P = 0) && decide (P &&& ~~~Y = 0)) = true ↔ ∀ p, p < 2 ^ i → (X.getLsbD p = true → f p = true) ∧ (f p = true → Y.getLsbD p = true) := by
  have hXY := (less_zero X Y).1 hX
  have hYA := (less_zero Y (allB i)).1 hY
  rw [Bool.and_eq_true, decide_eq_true_eq, decide_eq_true_eq, less_zero, less_zero]
  constructor
  · rintro ⟨h1, h2⟩ p hp
    have p8 := two_pow_8 hi hp
    have a1 := h1 p p8
    have a2 := h2 p p8
    rw [hP, decide_eq_true hp, Bool.true_and] at a1 a2
    constructor
    · intro hx; rw [hx] at a1; simpa using a1
    · intro hf; rw [hf] at a2; simpa using a2
  · intro h
    constructor
    · intro p p8
      rw [hP]
      cases hx : X.getLsbD p
      · rfl
      · have b1 := hXY p p8
        rw [hx] at b1
        have hy : Y.getLsbD p = true := by simpa using b1
        have b2 := hYA p p8
        rw [hy, allB_lowc i p hi] at b2
        have hp : p < 2 ^ i := by simpa using b2
        rw [decide_eq_true hp, (h p hp).1 hx]; rfl
    · intro p p8
      rw [hP]
      by_cases hp : p < 2 ^ i
      · rw [decide_eq_true hp, Bool.true_and]
        cases hf : f p
        · rfl
        · rw [(h p hp).2 hf]; rfl
      · rw [decide_eq_false hp]; rfl
theorem sides_of {i : Nat} {on may : List (BitVec 256)} (hs : spB ⟨i, on, may⟩ = true) {j : Nat} {X Y : BitVec 256} (hX : on[j]? = some X) (hY : may[j]? = some Y) : X &&& ~~~Y = 0 ∧ Y &&& ~~~(allB i) = 0 := by
  have h1 := (Bool.and_eq_true_iff.1 (show (headS ⟨i, on, may⟩ && _) = true from hs)).2
  have hj : j < on.length := (List.getElem?_eq_some_iff.1 hX).1
  have h2 := range_all.1 h1 j hj
  unfold sideB at h2
  simp only [getD_of hX, getD_of hY, Int.toNat_natCast] at h2
  obtain ⟨h3, h4⟩ := Bool.and_eq_true_iff.1 h2
  exact ⟨of_decide_eq_true h3, of_decide_eq_true h4⟩
end Go.Proofs.YtdfllifjbabfjaaDoor
namespace Go.Proofs.YtdfllifjbabfjaaDoor
open Go.RowKit Go.Joins
open Go.Maps (has string_keyed)

theorem crow13_any (x : Rw) (bx : Nat) (i : Int) (A C : Value) (w : World) (h : w.heap[bx]? = some (spb i A C)) :
    Calls Tryd.prog 22 #[rwv x, .pointer (some ⟨bx, 0, none⟩)] w fun e w' => e = .returned (.bool (!rightB x.m x.v i)) ∧ Below w.heap.size w w' := by
  have HR := fun w => right_any x.m x.v i w
  unfold spb at h
  have hk := keep_alloc (x := .cells #[bvv x.m, bvv x.v, bvv x.o] 44 (0, 0)) h
  obtain ⟨u0, u1, u2, -⟩ := now3 hk rfl
  generalize rightB x.m x.v i = q at *
  unfold rwv cv bvv at *
  clear h hk
  go_enter Tryd.func22, Tryd.ntmps22
  go_wp2_with fail
  refine (HR _).mono ?_
  rintro e w1 ⟨rfl, hb1⟩
  go_wp2
  go_ret
  exact ⟨rfl, (below_alloc1 w _).trans (hb1.mono (by simp))⟩
theorem crows13_any (L : Value) (rs : List Rw) (bx : Nat) (i : Int) (A C : Value) (w : World) (hL : RwsAt w w.heap.size L rs) (h : w.heap[bx]? = some (spb i A C)) :
    Calls Tryd.prog 21 #[L, .func (.func 22) #[] #[.pointer (some ⟨bx, 0, none⟩)]] w fun e w' => e = .returned (.bool (!(rs.all fun x => rightB x.m x.v i))) ∧ Below w.heap.size w w' := by
  have e : (!(rs.all fun x => rightB x.m x.v i)) = rs.any fun x => !rightB x.m x.v i := by rw [← not_any13, Bool.not_not]
  rw [e]
  exact containsRows_any 22 #[.pointer (some ⟨bx, 0, none⟩)] (fun x => !rightB x.m x.v i) L rs w (fun _ _ => by kernel_rfl) (fun x w1 hb => crow13_any x bx i A C w1 (keep_blk hb h)) hL
/-- The covering that is told with an error. -/
def mtZ : Obj := .cells #[.int .i64 0, .slice none 0 0] 24 (0, 0)
set_option maxHeartbeats 2000000 in
set_option maxRecDepth 100000 in
theorem cmakebad13 : MakeBad := by
  intro i A C L on may rs w hA hC hL hn
  have hB0 := below_alloc2 w (spb i A C) mtZ
  have hs0 := heap_alloc2_old w (spb i A C) mtZ
  have hm0 := heap_alloc2_new w (spb i A C) mtZ
  have hmf : ∀ (fn : Fn) (first cap : Array Value) (w : World), (Instr.makeFunc fn first cap).run Tryd.prog w = .ok (.func fn first cap) w := fun _ _ _ _ => rfl
  have HR := sright_any i A C on may _ ((hA.below hB0).more hB0.size) ((hC.below hB0).more hB0.size)
  have HC := fun w1 (hb : Below w.heap.size w w1) (hs : w1.heap[w.heap.size]? = some (spb i A C)) => crows13_any L rs w.heap.size i A C w1 ((hL.below hb).more hb.size) hs
  have hE : Hid (mayE ⟨i, on, may⟩ rs = if spB ⟨i, on, may⟩ && rs.all (fun x => rightB x.m x.v i) then (if 4000 < rs.length then 3 else 0) else 1) := Lib.hid rfl
  obtain ⟨A1, c1, rfl, -, -⟩ := hA
  obtain ⟨A2, c2, rfl, -, -⟩ := hC
  obtain ⟨A3, c3, rfl, -, -⟩ := hL
  generalize mayE ⟨i, on, may⟩ rs = E at *
  generalize (rs.all fun x => rightB x.m x.v i) = q at *
  cases hS : spB ⟨i, on, may⟩
  · rw [hS] at HR
    have hE1 : E = 1 := by rw [hE.out, hS]; rfl
    subst hE1
    clear hS hE hn HC
    unfold spv spb mtZ at *
    go_enter Tryd.func11, Tryd.ntmps11
    go_wp2_with fail
    refine HR.mono ?_
    rintro e w1 ⟨rfl, hb1⟩
    have hB1 := hB0.trans (hb1.mono hB0.size)
    have hm1 := keep_blk hb1 hm0
    obtain ⟨m0, m1, mf⟩ := now2 hm1 rfl
    clear HR hb1 hs0 hm0 hB0
    go_wp2
    exact bodyPost_ret (v := .tuple #[.agg #[.int .i64 0, .slice none 0 0], .int .i64 1]) (by simp [results, Tryd.results11, go_sem, m0, m1]) rfl ⟨none, 0, rfl, below2 (by omega) hB1⟩
  · rw [hS] at HR
    cases q
    · have hE1 : E = 1 := by rw [hE.out, hS]; rfl
      subst hE1
      clear hS hE hn
      unfold spv at *
      unfold mtZ at *
      go_enter Tryd.func11, Tryd.ntmps11
      unfold spb at *
      go_wp2_with fail
      refine HR.mono ?_
      rintro e w1 ⟨rfl, hb1⟩
      have hB1 := hB0.trans (hb1.mono hB0.size)
      have hm1 := keep_blk hb1 hm0
      have hC1 := HC w1 hB1 (keep_blk hb1 hs0)
      clear HR hb1 hs0 hm0 hB0 HC
      go_wp2_with fail
      refine hC1.mono ?_
      rintro e w2 ⟨rfl, hb2⟩
      have hB2 := hB1.trans (hb2.mono hB1.size)
      have hm2 := keep_blk hb2 hm1
      obtain ⟨m0, m1, mf⟩ := now2 hm2 rfl
      clear hC1 hb2 hm1 hB1
      go_wp2
      exact bodyPost_ret (v := .tuple #[.agg #[.int .i64 0, .slice none 0 0], .int .i64 1]) (by simp [results, Tryd.results11, go_sem, m0, m1]) rfl ⟨none, 0, rfl, below2 (by omega) hB2⟩
    · have h4 : 4000 < rs.length := by
        by_cases h : 4000 < rs.length
        · exact h
        · exact absurd (by rw [hE.out, hS]; simp [h]) hn
      have hE1 : E = 3 := by rw [hE.out, hS]; simp [h4]
      subst hE1
      have hd : decide ((4000 : Int) < (rs.length : Int)) = true := decide_eq_true (by omega)
      clear hS hE hn h4
      unfold spv at *
      unfold mtZ at *
      go_enter Tryd.func11, Tryd.ntmps11
      unfold spb at *
      go_wp2_with fail
      refine HR.mono ?_
      rintro e w1 ⟨rfl, hb1⟩
      have hB1 := hB0.trans (hb1.mono hB0.size)
      have hm1 := keep_blk hb1 hm0
      have hC1 := HC w1 hB1 (keep_blk hb1 hs0)
      clear HR hb1 hs0 hm0 hB0 HC
      go_wp2_with fail
      refine hC1.mono ?_
      rintro e w2 ⟨rfl, hb2⟩
      have hB2 := hB1.trans (hb2.mono hB1.size)
      have hm2 := keep_blk hb2 hm1
      obtain ⟨m0, m1, mf⟩ := now2 hm2 rfl
      clear hC1 hb2 hm1 hB1
      go_wp2
      exact bodyPost_ret (v := .tuple #[.agg #[.int .i64 0, .slice none 0 0], .int .i64 3]) (by simp [results, Tryd.results11, go_sem, m0, m1]) rfl ⟨none, 0, rfl, below2 (by omega) hB2⟩
end Go.Proofs.YtdfllifjbabfjaaDoor
