/- Rows and specs: what they are in memory, and what is said of them, plain. Prime rows of a spec, plain: what is within, what holds, what is prime; each row within is held by a prime one; the row of all; all primes cover; what a row grows to. The document's own answers of layer 9: Of, Within, without. The document's own without of layer 9. -/
import Derived.Test.YtmgggennbnbjkaaGreatG13
import Derived.Test.YtmgggennbnbjkaaGreatG10
import Derived.Test.YtmgggennbnbjkaaGreatG11
namespace Go.Proofs.YtmgggennbnbjkaaGreat
open Go.RowKit Go.Joins

/-- A row: a cube, and the bits of its outputs. -/
structure Rw where
  m : BitVec 8
  v : BitVec 8
  o : BitVec 8
/-- What is asked for. -/
structure Sp where
  i : Int
  on : List (BitVec 256)
  may : List (BitVec 256)
/-- The slice v reads as the rows rs. -/
def RwsAt (w : World) (B : Nat) (v : Value) (rs : List Rw) : Prop :=
  ∃ A c, v = .slice A rs.length c ∧ rs.length ≤ 9223372036854775807 ∧
    (0 < rs.length → ∃ b off, A = some ⟨b, off, none⟩ ∧ b < B ∧ ∀ j x, rs[j]? = some x → w.cell? ⟨b, off + j * 3, none⟩ = some (bvv x.m) ∧ w.cell? ⟨b, off + j * 3 + 1, none⟩ = some (bvv x.v) ∧
      w.cell? ⟨b, off + j * 3 + 2, none⟩ = some (bvv x.o))
def spv (i : Int) (A C : Value) : Value := .agg #[.int .i64 i, A, C]
def spb (i : Int) (A C : Value) : Obj := .cells #[.int .i64 i, A, C] 24 (0, 0)
def rwv (x : Rw) : Value := .agg #[bvv x.m, bvv x.v, bvv x.o]

theorem RwsAt.below {w w' : World} {B : Nat} {v : Value} {rs : List Rw} (h : RwsAt w B v rs) (hb : Below B w w') : RwsAt w' B v rs := by
  obtain ⟨A, c, e, hl, h⟩ := h
  refine ⟨A, c, e, hl, fun h0 => ?_⟩
  obtain ⟨b, off, eA, hB, hc⟩ := h h0
  refine ⟨b, off, eA, hB, fun j X hx => ?_⟩
  obtain ⟨a0, a1, a2⟩ := hc j X hx
  exact ⟨(hb.cell (p := ⟨b, off + j * 3, none⟩) hB).trans a0, (hb.cell (p := ⟨b, off + j * 3 + 1, none⟩) hB).trans a1, (hb.cell (p := ⟨b, off + j * 3 + 2, none⟩) hB).trans a2⟩
theorem RwsAt.more {w : World} {B B' : Nat} {v : Value} {rs : List Rw} (h : RwsAt w B v rs) (hB : B ≤ B') : RwsAt w B' v rs := by
  obtain ⟨A, c, e, hl, h⟩ := h
  refine ⟨A, c, e, hl, fun h0 => ?_⟩
  obtain ⟨b, off, eA, hb, hc⟩ := h h0
  exact ⟨b, off, eA, by omega, hc⟩

/-! ### Points of rows and of lines -/
/-- Does a row that has the output's bit have the point? -/
def covB (rs : List Rw) (p out : Nat) : Bool := rs.any fun x => x.o.getLsbD out && fits x.m x.v 8 p
def ptsR (rs : List Rw) (n out : Nat) : BitVec 256 := bvOf fun p => decide (p < 2 ^ n) && covB rs p out
/-- Has a line that says x of the output the point? -/
def markB (ls : List Ln) (p out : Nat) (x : Int) : Bool := ls.any fun l => decide (l.o.getD out 9 = x) && fits l.m l.v 8 p
def ptsM (ls : List Ln) (n out : Nat) (x : Int) : BitVec 256 := bvOf fun p => decide (p < 2 ^ n) && markB ls p out x
theorem two_pow_8 {n p : Nat} (hn : n ≤ 8) (hp : p < 2 ^ n) : p < 256 := Nat.lt_of_lt_of_le hp (Nat.le_trans (Nat.pow_le_pow_right (by decide) hn) (by decide : (2 : Nat) ^ 8 ≤ 256))
theorem lowB_bit (g : Nat → Bool) (n p : Nat) (hn : n ≤ 8) : (bvOf fun p => decide (p < 2 ^ n) && g p).getLsbD p = (decide (p < 2 ^ n) && g p) := by
  rw [bvOf_bit]
  by_cases h : p < 2 ^ n
  · simp [h, two_pow_8 hn h]
  · simp [h]
theorem ptsR_bit (rs : List Rw) (n out p : Nat) (hn : n ≤ 8) : (ptsR rs n out).getLsbD p = (decide (p < 2 ^ n) && covB rs p out) := lowB_bit (fun p => covB rs p out) n p hn
theorem ptsM_bit (ls : List Ln) (n out p : Nat) (x : Int) (hn : n ≤ 8) : (ptsM ls n out x).getLsbD p = (decide (p < 2 ^ n) && markB ls p out x) := lowB_bit (fun p => markB ls p out x) n p hn
theorem any_append_one {α : Type} (p : α → Bool) (l : List α) (k : Nat) (x : α) (h : l[k]? = some x) : (l.take (k + 1)).any p = ((l.take k).any p || p x) := by
  have hk : k < l.length := (List.getElem?_eq_some_iff.1 h).1
  have : l[k] = x := (List.getElem?_eq_some_iff.1 h).2
  rw [List.take_succ_eq_append_getElem hk, List.any_append, this]
  simp
theorem low_or (g g' : Nat → Bool) (n : Nat) (hn : n ≤ 8) (S : BitVec 256) (hS : ∀ p, p < 256 → S.getLsbD p = (decide (p < 2 ^ n) && g' p)) :
    (bvOf fun p => decide (p < 2 ^ n) && (g p || g' p)) = (bvOf fun p => decide (p < 2 ^ n) && g p) ||| S := by
  refine bvOf_eq _ _ fun p hp => ?_
  rw [BitVec.getLsbD_or, lowB_bit g n p hn, hS p hp]
  cases decide (p < 2 ^ n) <;> simp
theorem ptsR_skip {rs : List Rw} {k : Nat} {x : Rw} (h : rs[k]? = some x) {out : Nat} (ho : x.o.getLsbD out = false) (n : Nat) : ptsR (rs.take (k + 1)) n out = ptsR (rs.take k) n out := by
  unfold ptsR covB
  congr 1
  funext p
  rw [any_append_one _ rs k x h, ho]
  simp
theorem ptsR_step {rs : List Rw} {k : Nat} {x : Rw} (h : rs[k]? = some x) {out : Nat} (ho : x.o.getLsbD out = true) {n : Nat} (hx : rightB x.m x.v n = true) : ptsR (rs.take (k + 1)) n out = ptsR (rs.take k) n out ||| cpts x.m x.v n n := by
  have hn : n ≤ 8 := by have := (rightB_iff x.m x.v n).1 hx; omega
  rw [← cpts_right hx]
  have hS : ∀ p, p < 256 → (cpts x.m x.v n 8).getLsbD p = (decide (p < 2 ^ n) && fits x.m x.v 8 p) := fun p _ => cpts_bit _ _ _ _ _ hn
  refine Eq.trans ?_ (low_or (fun p => covB (rs.take k) p out) _ n hn _ hS)
  unfold ptsR covB
  congr 1
  funext p
  rw [any_append_one _ rs k x h, ho]
  simp
theorem ptsM_skip {ls : List Ln} {k : Nat} {l : Ln} (h : ls[k]? = some l) {out : Nat} {x : Int} (ho : l.o.getD out 9 ≠ x) (n : Nat) : ptsM (ls.take (k + 1)) n out x = ptsM (ls.take k) n out x := by
  unfold ptsM markB
  congr 1
  funext p
  rw [any_append_one _ ls k l h, decide_eq_false ho]
  simp
theorem ptsM_step {ls : List Ln} {k : Nat} {l : Ln} (h : ls[k]? = some l) {out : Nat} {x : Int} (ho : l.o.getD out 9 = x) {n : Nat} (hx : rightB l.m l.v n = true) : ptsM (ls.take (k + 1)) n out x = ptsM (ls.take k) n out x ||| cpts l.m l.v n n := by
  have hn : n ≤ 8 := by have := (rightB_iff l.m l.v n).1 hx; omega
  rw [← cpts_right hx]
  have hS : ∀ p, p < 256 → (cpts l.m l.v n 8).getLsbD p = (decide (p < 2 ^ n) && fits l.m l.v 8 p) := fun p _ => cpts_bit _ _ _ _ _ hn
  refine Eq.trans ?_ (low_or (fun p => markB (ls.take k) p out x) _ n hn _ hS)
  unfold ptsM markB
  congr 1
  funext p
  rw [any_append_one _ ls k l h, decide_eq_true ho]
  simp
theorem ptsR_zero (rs : List Rw) (n out : Nat) : ptsR (rs.take 0) n out = 0 := by
  refine bvOf_eq _ _ fun p _ => ?_
  simp [covB]
theorem ptsM_zero (ls : List Ln) (n out : Nat) (x : Int) : ptsM (ls.take 0) n out x = 0 := by
  refine bvOf_eq _ _ fun p _ => ?_
  simp [markB]

/-! ### What is right, and what covers -/
def outsB (o : BitVec 8) (k : Nat) : Bool := decide (o ≠ 0) && decide (o.toNat / 2 ^ k = 0)
def rwB (x : Rw) (i : Int) (k : Nat) : Bool := outsB x.o k && rightB x.m x.v i
/-- Of one output: on within may, may within all points. -/
def sideB (s : Sp) (j : Nat) : Bool := decide (s.on.getD j 0 &&& ~~~(s.may.getD j 0) = 0) && decide (s.may.getD j 0 &&& ~~~(allB s.i.toNat) = 0)
def headS (s : Sp) : Bool := decide (0 ≤ s.i) && decide (s.i ≤ 8) && (decide (1 ≤ s.on.length) && decide (s.on.length ≤ 4)) && decide (s.on.length = s.may.length)
def spB (s : Sp) : Bool := headS s && (List.range s.on.length).all (sideB s)
def mayB (s : Sp) (rs : List Rw) : Bool := (rs.all fun x => rightB x.m x.v s.i) && rs.all fun x => outsB x.o s.on.length
/-- Of one output: what is on is covered, what is covered may be on. -/
def coB (s : Sp) (rs : List Rw) (j : Nat) : Bool := decide (s.on.getD j 0 &&& ~~~(ptsR rs s.i.toNat j) = 0) && decide (ptsR rs s.i.toNat j &&& ~~~(s.may.getD j 0) = 0)
def coversB (s : Sp) (rs : List Rw) : Bool := mayB s rs && (List.range s.on.length).all (coB s rs)
theorem headS_iff (s : Sp) : headS s = true ↔ (0 ≤ s.i ∧ s.i ≤ 8) ∧ (1 ≤ s.on.length ∧ s.on.length ≤ 4) ∧ s.on.length = s.may.length := by
  unfold headS; simp [and_assoc]
theorem range_all {n : Nat} {P : Nat → Bool} : (List.range n).all P = true ↔ ∀ j, j < n → P j = true := by
  simp [List.all_eq_true]
theorem range_not {n j : Nat} {P : Nat → Bool} (h : j < n) (hp : P j = false) : (List.range n).all P = false := by
  rw [List.all_eq_false]
  exact ⟨j, by simpa using h, by simp [hp]⟩

/-! ### What a table asks for -/
def mayK (t : Tb) (o : Nat) : BitVec 256 :=
  if t.k = 0 then ptsM t.ls t.i.toNat o 1 else if t.k = 1 then ptsM t.ls t.i.toNat o 1 ||| ptsM t.ls t.i.toNat o 2 else allB t.i.toNat &&& ~~~(ptsM t.ls t.i.toNat o 0)
def bothK (t : Tb) (o : Nat) : Bool := decide (2 ≤ t.k) && decide (ptsM t.ls t.i.toNat o 1 &&& ptsM t.ls t.i.toNat o 0 ≠ 0)
def ofE (t : Tb) : Int := if rightT t = true then (if (List.range t.n.toNat).any (bothK t) = true then 4 else 0) else 1
def ofS (t : Tb) : Sp := ⟨t.i, (List.range t.n.toNat).map fun o => ptsM t.ls t.i.toNat o 1, (List.range t.n.toNat).map (mayK t)⟩
end Go.Proofs.YtmgggennbnbjkaaGreat
namespace Go.Proofs.YtmgggennbnbjkaaGreat
open Go.RowKit

/-- Is a row within a spec? -/
def rowIn (s : Sp) (x : Rw) : Bool := rwB x s.i s.on.length && (List.range s.may.length).all fun j => !x.o.getLsbD j || inB (s.may.getD j 0) s.i x.m x.v
theorem rowIn_iff {s : Sp} {x : Rw} : rowIn s x = true ↔ rwB x s.i s.on.length = true ∧ ∀ j, j < s.may.length → x.o.getLsbD j = true → inB (s.may.getD j 0) s.i x.m x.v = true := by
  unfold rowIn
  rw [Bool.and_eq_true, range_all]
  constructor
  · rintro ⟨h1, h2⟩
    refine ⟨h1, fun j hj hb => ?_⟩
    have := h2 j hj
    rw [hb] at this
    simpa using this
  · rintro ⟨h1, h2⟩
    refine ⟨h1, fun j hj => ?_⟩
    cases hb : x.o.getLsbD j
    · rfl
    · rw [h2 j hj hb]; rfl
/-- Does the first row hold the second? -/
def rhB (a b : Rw) : Bool := decide (b.o &&& ~~~a.o = 0) && holdsB a.m a.v b.m b.v
theorem and_not_zero8 (A S : BitVec 8) : A &&& ~~~S = 0 ↔ ∀ p, A.getLsbD p = true → S.getLsbD p = true := by
  constructor
  · intro h p hp
    have h1 := congrArg (fun x => x.getLsbD p) h
    have hp2 : p < 8 := by
      rcases Nat.lt_or_ge p 8 with k | k
      · exact k
      · rw [BitVec.getLsbD_of_ge A p k] at hp; cases hp
    simp only [BitVec.getLsbD_and, BitVec.getLsbD_not, hp, hp2, decide_true, Bool.true_and] at h1
    simpa using h1
  · intro h
    apply BitVec.eq_of_getLsbD_eq
    intro p hp
    rw [BitVec.getLsbD_and, BitVec.getLsbD_not]
    cases hA : A.getLsbD p
    · simp
    · simp [h p hA]
theorem rhB_iff {a b : Rw} : rhB a b = true ↔ (∀ j, b.o.getLsbD j = true → a.o.getLsbD j = true) ∧ holdsB a.m a.v b.m b.v = true := by
  unfold rhB; rw [Bool.and_eq_true, decide_eq_true_iff, and_not_zero8]
theorem rhB_self (a : Rw) : rhB a a = true := rhB_iff.2 ⟨fun _ h => h, holds_self _ _⟩
theorem rhB_trans {a b c : Rw} (h1 : rhB a b = true) (h2 : rhB b c = true) : rhB a c = true := by
  rw [rhB_iff] at *
  exact ⟨fun j h => h1.1 j (h2.1 j h), holds_step h1.2 h2.2⟩
theorem in_down {S : BitVec 256} {n : Int} {m v m' v' : BitVec 8} (h : inB S n m v = true) (hh : holdsB m v m' v' = true) (hr : rightB m' v' n = true) : inB S n m' v' = true := by
  obtain ⟨h0, h8, -, -⟩ := (rightB_iff m' v' n).1 hr
  obtain ⟨k, rfl⟩ : ∃ k : Nat, n = k := ⟨n.toNat, by omega⟩
  rw [inB_iff] at *
  exact ⟨hr, fun p hp hf => h.2 p hp (fits_holds hh hf)⟩
theorem rowin_down {s : Sp} {x y : Rw} (h : rowIn s y = true) (hh : rhB y x = true) (hr : rwB x s.i s.on.length = true) : rowIn s x = true := by
  rw [rowIn_iff] at *
  obtain ⟨h1, h2⟩ := rhB_iff.1 hh
  have hx : rightB x.m x.v s.i = true := by unfold rwB at hr; rw [Bool.and_eq_true] at hr; exact hr.2
  exact ⟨hr, fun j hj hb => in_down (h.2 j hj (h1 j hb)) h2 hx⟩
def dropR (x : Rw) (i : Nat) : Rw := ⟨drM x.m i, drM x.v i, x.o⟩
def addR (x : Rw) (j : Nat) : Rw := ⟨x.m, x.v, x.o ||| BitVec.twoPow 8 j⟩
theorem addR_bit (x : Rw) (j q : Nat) : (addR x j).o.getLsbD q = (x.o.getLsbD q || (decide (q < 8) && decide (q = j))) := by
  unfold addR
  simp only
  rw [BitVec.getLsbD_or, BitVec.getLsbD_twoPow]
  congr 1
  by_cases h : q < 8
  · by_cases e : q = j
    · subst e; simp [h]
    · have : ¬ j = q := fun h => e h.symm
      simp [e, this]
  · simp [h]
    intro _; omega
theorem rhB_drop (x : Rw) (i : Nat) : rhB (dropR x i) x = true := rhB_iff.2 ⟨fun _ h => h, holds_dr _ _ _⟩
theorem rhB_add (x : Rw) (j : Nat) : rhB (addR x j) x = true := rhB_iff.2 ⟨fun q h => by rw [addR_bit, h]; rfl, holds_self _ _⟩
/-- Is a row prime? No literal can be left out, no output be added. -/
def primR (s : Sp) (x : Rw) : Bool :=
  rowIn s x && (List.range s.i.toNat).all (fun i => !(x.m.getLsbD i && rowIn s (dropR x i))) && (List.range s.on.length).all fun j => !(!x.o.getLsbD j && rowIn s (addR x j))
theorem primR_iff {s : Sp} {x : Rw} : primR s x = true ↔ rowIn s x = true ∧ (∀ i, i < s.i.toNat → x.m.getLsbD i = true → rowIn s (dropR x i) = false) ∧ ∀ j, j < s.on.length → x.o.getLsbD j = false → rowIn s (addR x j) = false := by
  unfold primR
  rw [Bool.and_eq_true, Bool.and_eq_true, range_all, range_all]
  constructor
  · rintro ⟨⟨h1, h2⟩, h3⟩
    refine ⟨h1, fun i hi hb => ?_, fun j hj hb => ?_⟩
    · have := h2 i hi
      rw [hb] at this
      simpa using this
    · have := h3 j hj
      rw [hb] at this
      simpa using this
  · rintro ⟨h1, h2, h3⟩
    refine ⟨⟨h1, fun i hi => ?_⟩, fun j hj => ?_⟩
    · cases hb : x.m.getLsbD i
      · rfl
      · rw [h2 i hi hb]; rfl
    · cases hb : x.o.getLsbD j
      · rw [h3 j hj hb]; rfl
      · rfl
theorem rowin_right {s : Sp} {x : Rw} (h : rowIn s x = true) : rwB x s.i s.on.length = true := (rowIn_iff.1 h).1
theorem rwB_iff {x : Rw} {i : Int} {k : Nat} : rwB x i k = true ↔ x.o ≠ 0 ∧ (∀ q, k ≤ q → x.o.getLsbD q = false) ∧ rightB x.m x.v i = true := by
  unfold rwB outsB
  rw [Bool.and_eq_true, Bool.and_eq_true, decide_eq_true_iff, decide_eq_true_iff, shr_zero, and_assoc]
theorem rwB_drop {x : Rw} {i : Int} {k q : Nat} (h : rwB x i k = true) : rwB (dropR x q) i k = true := by
  rw [rwB_iff] at *
  exact ⟨h.1, h.2.1, right_dr q h.2.2⟩
/-- A prime row is held by none other that is within. -/
theorem prim_max {s : Sp} {x y : Rw} (h : primR s x = true) (hy : rowIn s y = true) (hh : rhB y x = true) : y = x := by
  obtain ⟨h1, h2, h3⟩ := primR_iff.1 h
  obtain ⟨ho, hc⟩ := rhB_iff.1 hh
  rw [holdsB_iff] at hc
  have hxr := rwB_iff.1 (rowin_right h1)
  have hyr := rwB_iff.1 (rowin_right hy)
  obtain ⟨x0, x8, xm, xv⟩ := (rightB_iff _ _ _).1 hxr.2.2
  obtain ⟨y0, y8, ym, yv⟩ := (rightB_iff _ _ _).1 hyr.2.2
  have eo : y.o = x.o := by
    apply BitVec.eq_of_getLsbD_eq
    intro j hj
    cases hb : x.o.getLsbD j
    · cases hq : y.o.getLsbD j
      · rfl
      · exfalso
        have hjk : j < s.on.length := by
          rcases Nat.lt_or_ge j s.on.length with k | k
          · exact k
          · rw [hyr.2.1 j k] at hq; cases hq
        have hin : rowIn s (addR x j) = true := by
          refine rowin_down hy (rhB_iff.2 ⟨fun q hq' => ?_, (holdsB_iff _ _ _ _).2 hc⟩) (rwB_iff.2 ⟨fun e => ?_, fun q hq' => ?_, hxr.2.2⟩)
          · rw [addR_bit, Bool.or_eq_true] at hq'
            rcases hq' with hq' | hq'
            · exact ho q hq'
            · simp at hq'; rw [hq'.2]; exact hq
          · have := congrArg (fun z => z.getLsbD j) e
            rw [addR_bit] at this
            simp [hj] at this
          · rw [addR_bit, hxr.2.1 q hq']
            have : ¬ q = j := by omega
            simp [this]
        rw [h3 j hjk hb] at hin; cases hin
    · exact ho j hb
  have em : y.m = x.m := by
    apply BitVec.eq_of_getLsbD_eq
    intro i hi
    cases hb : y.m.getLsbD i
    · cases hq : x.m.getLsbD i
      · rfl
      · exfalso
        have hin' : i < s.i.toNat := by
          rcases Nat.lt_or_ge i s.i.toNat with k | k
          · exact k
          · rw [xm i k] at hq; cases hq
        have hin : rowIn s (dropR x i) = true := by
          refine rowin_down hy (rhB_iff.2 ⟨ho, (holdsB_iff _ _ _ _).2 fun q hq' => ?_⟩) (rwB_drop (rowin_right h1))
          obtain ⟨a, b⟩ := hc q hq'
          have hne : ¬ q = i := fun e => by subst e; rw [hb] at hq'; cases hq'
          unfold dropR
          simp only
          rw [drM_bit, drM_bit, a, b]
          simp [hne]
        rw [h2 i hin' hq] at hin; cases hin
    · exact (hc i hb).1.symm
  have ev : y.v = x.v := by
    apply BitVec.eq_of_getLsbD_eq
    intro i hi
    cases hb : y.m.getLsbD i
    · rw [← yv, ← xv, BitVec.getLsbD_and, BitVec.getLsbD_and, ← em, hb]; simp
    · exact (hc i hb).2
  cases x; cases y
  simp only at eo em ev
  rw [eo, em, ev]
/-- Each row within is held by a prime one. -/
theorem row_above (s : Sp) (h4 : s.on.length ≤ 8) : ∀ (k : Nat) (x : Rw), x.m.toNat + (255 - x.o.toNat) < k → rowIn s x = true → ∃ y, primR s y = true ∧ rhB y x = true
  | 0, _, h, _ => absurd h (Nat.not_lt_zero _)
  | k + 1, x, hk, h => by
    cases hp : primR s x
    · have hn : ¬ ((∀ i, i < s.i.toNat → x.m.getLsbD i = true → rowIn s (dropR x i) = false) ∧ ∀ j, j < s.on.length → x.o.getLsbD j = false → rowIn s (addR x j) = false) := fun hh => by
        rw [primR_iff.2 ⟨h, hh⟩] at hp; cases hp
      by_cases ha : ∀ i, i < s.i.toNat → x.m.getLsbD i = true → rowIn s (dropR x i) = false
      · have hb : ¬ ∀ j, j < s.on.length → x.o.getLsbD j = false → rowIn s (addR x j) = false := fun q => hn ⟨ha, q⟩
        obtain ⟨j, hj⟩ := Classical.not_forall.1 hb
        have hj1 : j < s.on.length := Classical.byContradiction fun q => hj fun q' => absurd q' q
        have hj2 : x.o.getLsbD j = false := by
          cases hb : x.o.getLsbD j
          · rfl
          · exact absurd (fun _ (q : x.o.getLsbD j = false) => by rw [hb] at q; cases q) hj
        have hj3 : rowIn s (addR x j) = true := by
          cases hb : rowIn s (addR x j)
          · exact absurd (fun _ _ => hb) hj
          · rfl
        have hlt : x.o.toNat < (addR x j).o.toNat := by
          have hle : x.o.toNat ≤ (addR x j).o.toNat := by unfold addR; simp only [BitVec.toNat_or]; exact Nat.left_le_or
          rcases Nat.lt_or_ge x.o.toNat (addR x j).o.toNat with q | q
          · exact q
          · have e : (addR x j).o = x.o := BitVec.eq_of_toNat_eq (by omega)
            have := addR_bit x j j
            rw [e, hj2] at this
            simp at this
            omega
        obtain ⟨y, h1, h2⟩ := row_above s h4 k (addR x j) (by have := (addR x j).o.isLt; show x.m.toNat + _ < k; omega) hj3
        exact ⟨y, h1, rhB_trans h2 (rhB_add x j)⟩
      · obtain ⟨i, hi⟩ := Classical.not_forall.1 ha
        have hi1 : i < s.i.toNat := Classical.byContradiction fun q => hi fun q' => absurd q' q
        have hi2 : x.m.getLsbD i = true := by
          cases hb : x.m.getLsbD i
          · exact absurd (fun _ (q : x.m.getLsbD i = true) => by rw [hb] at q; cases q) hi
          · rfl
        have hi3 : rowIn s (dropR x i) = true := by
          cases hb : rowIn s (dropR x i)
          · exact absurd (fun _ _ => hb) hi
          · rfl
        have := drM_lt hi2
        obtain ⟨y, h1, h2⟩ := row_above s h4 k (dropR x i) (by show (drM x.m i).toNat + (255 - x.o.toNat) < k; omega) hi3
        exact ⟨y, h1, rhB_trans h2 (rhB_drop x i)⟩
    · exact ⟨x, hp, rhB_self x⟩
theorem prim_in {s : Sp} {x : Rw} (h : primR s x = true) : rowIn s x = true := (primR_iff.1 h).1
theorem prim_max_iff {s : Sp} (h4 : s.on.length ≤ 8) {x : Rw} : primR s x = true ↔ rowIn s x = true ∧ ∀ y, rowIn s y = true → rhB y x = true → y = x := by
  constructor
  · intro h
    exact ⟨prim_in h, fun y hy hh => prim_max h hy hh⟩
  · rintro ⟨h1, h2⟩
    obtain ⟨y, hy, hh⟩ := row_above s h4 _ x (Nat.lt_succ_self _) h1
    rw [← h2 y (prim_in hy) hh]
    exact hy
end Go.Proofs.YtmgggennbnbjkaaGreat
namespace Go.Proofs.YtmgggennbnbjkaaGreat
open Go.RowKit Go.Joins

/-- May a set and a number be asked of? -/
def ofB (S : BitVec 256) (n : Int) : Bool := decide (0 ≤ n ∧ n ≤ 8) && decide (S &&& ~~~(allB n.toNat) = 0)
set_option maxHeartbeats 1000000 in
theorem rwithin9_any (m v : BitVec 8) (S : BitVec 256) (n : Int) (w : World) :
    Calls Tryz.prog 27 #[cv m v, sv S, .int .i64 n] w fun e w' => e = .returned (.bool (inB S n m v)) ∧ Below w.heap.size w w' := by
  have HR := fun w => rright_any m v n w
  have hB := below_alloc2 w (cb m v) (.cells (sa S) 41)
  have hb0 := heap_alloc2_old w (cb m v) (.cells (sa S) 41)
  have hb1 := heap_alloc2_new w (cb m v) (.cells (sa S) 41)
  unfold inB
  cases hr : rightB m v n
  · rw [hr] at HR
    rw [Bool.false_and]
    unfold sv cv cb bvv wv at *
    unfold sa wv at hB hb0 hb1
    go_enter Tryz.func27, Tryz.ntmps27
    go_upto_region 1 with (fail)
    generalize (w.alloc _).alloc _ = W at *
    obtain ⟨a0, a1, -⟩ := box2 hb0 rfl
    obtain ⟨s0, s1, s2, s3, -⟩ := box4 hb1 rfl
    refine wp_region_after (by kernel_rfl) (by kernel_rfl) ?_
    repeat (first | go_big_quiet_step ((go_at_call 48; exact Calls.after_of (HR _))))
    refine wpQuiet_nil ?_
    intro x
    go_wp2
    go_ret
    exact ⟨rfl, hB.trans (x.2.mono hB.size)⟩
  · obtain ⟨h0, h8, -, -⟩ := (rightB_iff m v n).1 hr
    obtain ⟨k, rfl⟩ : ∃ k : Nat, n = k := ⟨n.toNat, by omega⟩
    have HP := fun w => rpoints_any m v k (by omega) w
    rw [cpts_right hr] at HP
    have HW := fun w => refwithin_any (cpts m v k k) S w
    rw [hr] at HR
    rw [Bool.true_and, Int.toNat_natCast]
    clear hr h0 h8
    generalize cpts m v k k = P at *
    unfold sv cv cb bvv wv at *
    unfold sa wv at hB hb0 hb1
    go_enter Tryz.func27, Tryz.ntmps27
    go_upto_region 1 with (fail)
    generalize (w.alloc _).alloc _ = W at *
    obtain ⟨a0, a1, -⟩ := box2 hb0 rfl
    obtain ⟨s0, s1, s2, s3, -⟩ := box4 hb1 rfl
    refine wp_region_after (by kernel_rfl) (by kernel_rfl) ?_
    repeat (first | go_big_quiet_step (first | (go_at_call 48; exact Calls.after_of (HR _)) | (go_at_call 50; exact Calls.after_of (HP _)) | (go_at_call 12; exact Calls.after_of (HW _))))
    refine wpQuiet_nil ?_
    intro x
    go_wp2
    go_ret
    exact ⟨rfl, hB.trans (x.2.mono hB.size)⟩
end Go.Proofs.YtmgggennbnbjkaaGreat
namespace Go.Proofs.YtmgggennbnbjkaaGreat
open Go.RowKit Go.Joins

theorem drG_at {w : World} {base g cap i : Nat} {m v : BitVec 8} (h : w.ownsRow base 3 1 (.slice (some ⟨g, 0, none⟩) 8 cap) 8 (litV m v 8)) (hi : i < 8) :
    GAt (drG m v i) 8 (some ⟨g, 0, none⟩) (w.setCell ⟨g, i, none⟩ (.int .i64 2)) := by
  obtain ⟨o0, -⟩ := h.stored i (.int .i64 2)
  intro j hj
  refine ⟨g, rfl, ?_⟩
  rw [o0.cellAt j (by omega)]
  unfold drG
  by_cases e : j = i
  · subst e
    rw [List.getElem?_set_self (by unfold litV; simpa using hi), if_pos rfl]
    rfl
  · rw [List.getElem?_set_ne (fun h => e h.symm), litV_get m v 8 j hj, if_neg e]
end Go.Proofs.YtmgggennbnbjkaaGreat
