/- Prime rows of a spec, plain: what is within, what holds, what is prime; each row within is held by a prime one; the row of all; all primes cover; what a row grows to. For CoverMeans, plain: rows that are chosen cover a spec, just if their places solve the covering. For CoverMore, plain: more columns, all of them, strange ones; and 'append(o, v...)' of numbers. -/
import Derived.Test.YtdfllifjbabfjaaGreatDoorGM33
import Derived.Test.YtdfllifjbabfjaaGreatDoorGM15
import Derived.Test.YtdfllifjbabfjaaGreatDoorGM31
import Derived.Test.YtdfllifjbabfjaaGreatDoorGM29
import Derived.Test.YtdfllifjbabfjaaGreatDoorGM27
namespace Go.Proofs.YtdfllifjbabfjaaGreatDoor
open Go.RowKit

/-- Is a row within a spec? -/
def rowIn (s : Sp) (x : Rw) : Bool := rwB x s.i s.on.length && (List.range s.may.length).all fun j => !x.o.getLsbD j || inB (s.may.getD j 0) s.i x.m x.v
theorem rowIn_iff {s : Sp} {x : Rw} : rowIn s x = true ↔ rwB x s.i s.on.length = true ∧ ∀ j, j < s.may.length → x.o.getLsbD j = true → inB (s.may.getD j 0) s.i x.m x.v = true := by
  unfold rowIn
  rw [Bool.and_eq_true, range_all]
  constructor
  · rintro ⟨h1, h2⟩
    refine ⟨h1, fun j hj hb => ?_⟩
    have := h2 j hj
    rw [hb] at this
    simpa using this
  · rintro ⟨h1, h2⟩
    refine ⟨h1, fun j hj => ?_⟩
    cases hb : x.o.getLsbD j
    · rfl
    · rw [h2 j hj hb]; rfl
/-- Does the first row hold the second? -/
def rhB (a b : Rw) : Bool := decide (b.o &&& ~~~a.o = 0) && holdsB a.m a.v b.m b.v
theorem and_not_zero8 (A S : BitVec 8) : A &&& ~~~S = 0 ↔ ∀ p, A.getLsbD p = true → S.getLsbD p = true := by
  constructor
  · intro h p hp
    have h1 := congrArg (fun x => x.getLsbD p) h
    have hp2 : p < 8 := by
      rcases Nat.lt_or_ge p 8 with k | k
      · exact k
      · rw [BitVec.getLsbD_of_ge A p k] at hp; cases hp
    simp only [BitVec.getLsbD_and, BitVec.getLsbD_not, hp, hp2, decide_true, Bool.true_and] at h1
    simpa using h1
  · intro h
    apply BitVec.eq_of_getLsbD_eq
    intro p hp
    rw [BitVec.getLsbD_and, BitVec.getLsbD_not]
    cases hA : A.getLsbD p
    · simp
    · simp [h p hA]
theorem rhB_iff {a b : Rw} : rhB a b = true ↔ (∀ j, b.o.getLsbD j = true → a.o.getLsbD j = true) ∧ holdsB a.m a.v b.m b.v = true := by
  unfold rhB; rw [Bool.and_eq_true, decide_eq_true_iff, and_not_zero8]
theorem rhB_self (a : Rw) : rhB a a = true := rhB_iff.2 ⟨fun _ h => h, holds_self _ _⟩
theorem rhB_trans {a b c : Rw} (h1 : rhB a b = true) (h2 : rhB b c = true) : rhB a c = true := by
  rw [rhB_iff] at *
  exact ⟨fun j h => h1.1 j (h2.1 j h), holds_step h1.2 h2.2⟩
theorem in_down {S : BitVec 256} {n : Int} {m v m' v' : BitVec 8} (h : inB S n m v = true) (hh : holdsB m v m' v' = true) (hr : rightB m' v' n = true) : inB S n m' v' = true := by
  obtain ⟨h0, h8, -, -⟩ := (rightB_iff m' v' n).1 hr
  obtain ⟨k, rfl⟩ : ∃ k : Nat, n = k := ⟨n.toNat, by omega⟩
  rw [inB_iff] at *
  exact ⟨hr, fun p hp hf => h.2 p hp (fits_holds hh hf)⟩
theorem rowin_down {s : Sp} {x y : Rw} (h : rowIn s y = true) (hh : rhB y x = true) (hr : rwB x s.i s.on.length = true) : rowIn s x = true := by
  rw [rowIn_iff] at *
  obtain ⟨h1, h2⟩ := rhB_iff.1 hh
  have hx : rightB x.m x.v s.i = true := by unfold rwB at hr; rw [Bool.and_eq_true] at hr; exact hr.2
  exact ⟨hr, fun j hj hb => in_down (h.2 j hj (h1 j hb)) h2 hx⟩
def dropR (x : Rw) (i : Nat) : Rw := ⟨drM x.m i, drM x.v i, x.o⟩
def addR (x : Rw) (j : Nat) : Rw := ⟨x.m, x.v, x.o ||| BitVec.twoPow 8 j⟩
theorem addR_bit (x : Rw) (j q : Nat) : (addR x j).o.getLsbD q = (x.o.getLsbD q || (decide (q < 8) && decide (q = j))) := by
  unfold addR
  simp only
  rw [BitVec.getLsbD_or, BitVec.getLsbD_twoPow]
  congr 1
  by_cases h : q < 8
  · by_cases e : q = j
    · subst e; simp [h]
    · have : ¬ j = q := fun h => e h.symm
      simp [e, this]
  · simp [h]
    intro _; omega
theorem rhB_drop (x : Rw) (i : Nat) : rhB (dropR x i) x = true := rhB_iff.2 ⟨fun _ h => h, holds_dr _ _ _⟩
theorem rhB_add (x : Rw) (j : Nat) : rhB (addR x j) x = true := rhB_iff.2 ⟨fun q h => by rw [addR_bit, h]; rfl, holds_self _ _⟩
/-- Is a row prime? No literal can be left out, no output be added. -/
def primR (s : Sp) (x : Rw) : Bool :=
  rowIn s x && (List.range s.i.toNat).all (fun i => !(x.m.getLsbD i && rowIn s (dropR x i))) && (List.range s.on.length).all fun j => !(!x.o.getLsbD j && rowIn s (addR x j))
theorem primR_iff {s : Sp} {x : Rw} : primR s x = true ↔ rowIn s x = true ∧ (∀ i, i < s.i.toNat → x.m.getLsbD i = true → rowIn s (dropR x i) = false) ∧ ∀ j, j < s.on.length → x.o.getLsbD j = false → rowIn s (addR x j) = false := by
  unfold primR
  rw [Bool.and_eq_true, Bool.and_eq_true, range_all, range_all]
  constructor
  · rintro ⟨⟨h1, h2⟩, h3⟩
    refine ⟨h1, fun i hi hb => ?_, fun j hj hb => ?_⟩
    · have := h2 i hi
      rw [hb] at this
      simpa using this
    · have := h3 j hj
      rw [hb] at this
      simpa using this
  · rintro ⟨h1, h2, h3⟩
    refine ⟨⟨h1, fun i hi => ?_⟩, fun j hj => ?_⟩
    · cases hb : x.m.getLsbD i
      · rfl
      · rw [h2 i hi hb]; rfl
    · cases hb : x.o.getLsbD j
      · rw [h3 j hj hb]; rfl
      · rfl
theorem rowin_right {s : Sp} {x : Rw} (h : rowIn s x = true) : rwB x s.i s.on.length = true := (rowIn_iff.1 h).1
theorem rwB_iff {x : Rw} {i : Int} {k : Nat} : rwB x i k = true ↔ x.o ≠ 0 ∧ (∀ q, k ≤ q → x.o.getLsbD q = false) ∧ rightB x.m x.v i = true := by
  unfold rwB outsB
  rw [Bool.and_eq_true, Bool.and_eq_true, decide_eq_true_iff, decide_eq_true_iff, shr_zero, and_assoc]
theorem rwB_drop {x : Rw} {i : Int} {k q : Nat} (h : rwB x i k = true) : rwB (dropR x q) i k = true := by
  rw [rwB_iff] at *
  exact ⟨h.1, h.2.1, right_dr q h.2.2⟩
/-- A prime row is held by none other that is within. -/
theorem prim_max {s : Sp} {x y : Rw} (h : primR s x = true) (hy : rowIn s y = true) (hh : rhB y x = true) : y = x := by
  obtain ⟨h1, h2, h3⟩ := primR_iff.1 h
  obtain ⟨ho, hc⟩ := rhB_iff.1 hh
  rw [holdsB_iff] at hc
  have hxr := rwB_iff.1 (rowin_right h1)
  have hyr := rwB_iff.1 (rowin_right hy)
  obtain ⟨x0, x8, xm, xv⟩ := (rightB_iff _ _ _).1 hxr.2.2
  obtain ⟨y0, y8, ym, yv⟩ := (rightB_iff _ _ _).1 hyr.2.2
  have eo : y.o = x.o := by
    apply BitVec.eq_of_getLsbD_eq
    intro j hj
    cases hb : x.o.getLsbD j
    · cases hq : y.o.getLsbD j
      · rfl
      · exfalso
        have hjk : j < s.on.length := by
          rcases Nat.lt_or_ge j s.on.length with k | k
          · exact k
          · rw [hyr.2.1 j k] at hq; cases hq
        have hin : rowIn s (addR x j) = true := by
          refine rowin_down hy (rhB_iff.2 ⟨fun q hq' => ?_, (holdsB_iff _ _ _ _).2 hc⟩) (rwB_iff.2 ⟨fun e => ?_, fun q hq' => ?_, hxr.2.2⟩)
          · rw [addR_bit, Bool.or_eq_true] at hq'
            rcases hq' with hq' | hq'
            · exact ho q hq'
            · simp at hq'; rw [hq'.2]; exact hq
          · have := congrArg (fun z => z.getLsbD j) e
            rw [addR_bit] at this
            simp [hj] at this
          · rw [addR_bit, hxr.2.1 q hq']
            have : ¬ q = j := by omega
            simp [this]
        rw [h3 j hjk hb] at hin; cases hin
    · exact ho j hb
  have em : y.m = x.m := by
    apply BitVec.eq_of_getLsbD_eq
    intro i hi
    cases hb : y.m.getLsbD i
    · cases hq : x.m.getLsbD i
      · rfl
      · exfalso
        have hin' : i < s.i.toNat := by
          rcases Nat.lt_or_ge i s.i.toNat with k | k
          · exact k
          · rw [xm i k] at hq; cases hq
        have hin : rowIn s (dropR x i) = true := by
          refine rowin_down hy (rhB_iff.2 ⟨ho, (holdsB_iff _ _ _ _).2 fun q hq' => ?_⟩) (rwB_drop (rowin_right h1))
          obtain ⟨a, b⟩ := hc q hq'
          have hne : ¬ q = i := fun e => by subst e; rw [hb] at hq'; cases hq'
          unfold dropR
          simp only
          rw [drM_bit, drM_bit, a, b]
          simp [hne]
        rw [h2 i hin' hq] at hin; cases hin
    · exact (hc i hb).1.symm
  have ev : y.v = x.v := by
    apply BitVec.eq_of_getLsbD_eq
    intro i hi
    cases hb : y.m.getLsbD i
    · rw [← yv, ← xv, BitVec.getLsbD_and, BitVec.getLsbD_and, ← em, hb]; simp
    · exact (hc i hb).2
  cases x; cases y
  simp only at eo em ev
  rw [eo, em, ev]
/-- Each row within is held by a prime one. -/
theorem row_above (s : Sp) (h4 : s.on.length ≤ 8) : ∀ (k : Nat) (x : Rw), x.m.toNat + (255 - x.o.toNat) < k → rowIn s x = true → ∃ y, primR s y = true ∧ rhB y x = true
  | 0, _, h, _ => absurd h (Nat.not_lt_zero _)
  | k + 1, x, hk, h => by
    cases hp : primR s x
    · have hn : ¬ ((∀ i, i < s.i.toNat → x.m.getLsbD i = true → rowIn s (dropR x i) = false) ∧ ∀ j, j < s.on.length → x.o.getLsbD j = false → rowIn s (addR x j) = false) := fun hh => by
        rw [primR_iff.2 ⟨h, hh⟩] at hp; cases hp
      by_cases ha : ∀ i, i < s.i.toNat → x.m.getLsbD i = true → rowIn s (dropR x i) = false
      · have hb : ¬ ∀ j, j < s.on.length → x.o.getLsbD j = false → rowIn s (addR x j) = false := fun q => hn ⟨ha, q⟩
        obtain ⟨j, hj⟩ := Classical.not_forall.1 hb
        have hj1 : j < s.on.length := Classical.byContradiction fun q => hj fun q' => absurd q' q
        have hj2 : x.o.getLsbD j = false := by
          cases hb : x.o.getLsbD j
          · rfl
          · exact absurd (fun _ (q : x.o.getLsbD j = false) => by rw [hb] at q; cases q) hj
        have hj3 : rowIn s (addR x j) = true := by
          cases hb : rowIn s (addR x j)
          · exact absurd (fun _ _ => hb) hj
          · rfl
        have hlt : x.o.toNat < (addR x j).o.toNat := by
          have hle : x.o.toNat ≤ (addR x j).o.toNat := by unfold addR; simp only [BitVec.toNat_or]; exact Nat.left_le_or
          rcases Nat.lt_or_ge x.o.toNat (addR x j).o.toNat with q | q
          · exact q
          · have e : (addR x j).o = x.o := BitVec.eq_of_toNat_eq (by omega)
            have := addR_bit x j j
            rw [e, hj2] at this
            simp at this
            omega
        obtain ⟨y, h1, h2⟩ := row_above s h4 k (addR x j) (by have := (addR x j).o.isLt; show x.m.toNat + _ < k; omega) hj3
        exact ⟨y, h1, rhB_trans h2 (rhB_add x j)⟩
      · obtain ⟨i, hi⟩ := Classical.not_forall.1 ha
        have hi1 : i < s.i.toNat := Classical.byContradiction fun q => hi fun q' => absurd q' q
        have hi2 : x.m.getLsbD i = true := by
          cases hb : x.m.getLsbD i
          · exact absurd (fun _ (q : x.m.getLsbD i = true) => by rw [hb] at q; cases q) hi
          · rfl
        have hi3 : rowIn s (dropR x i) = true := by
          cases hb : rowIn s (dropR x i)
          · exact absurd (fun _ _ => hb) hi
          · rfl
        have := drM_lt hi2
        obtain ⟨y, h1, h2⟩ := row_above s h4 k (dropR x i) (by show (drM x.m i).toNat + (255 - x.o.toNat) < k; omega) hi3
        exact ⟨y, h1, rhB_trans h2 (rhB_drop x i)⟩
    · exact ⟨x, hp, rhB_self x⟩
theorem prim_in {s : Sp} {x : Rw} (h : primR s x = true) : rowIn s x = true := (primR_iff.1 h).1
theorem prim_max_iff {s : Sp} (h4 : s.on.length ≤ 8) {x : Rw} : primR s x = true ↔ rowIn s x = true ∧ ∀ y, rowIn s y = true → rhB y x = true → y = x := by
  constructor
  · intro h
    exact ⟨prim_in h, fun y hy hh => prim_max h hy hh⟩
  · rintro ⟨h1, h2⟩
    obtain ⟨y, hy, hh⟩ := row_above s h4 _ x (Nat.lt_succ_self _) h1
    rw [← h2 y (prim_in hy) hh]
    exact hy
end Go.Proofs.YtdfllifjbabfjaaGreatDoor
namespace Go.Proofs.YtdfllifjbabfjaaGreatDoor
open Go.RowKit Go.Joins

theorem chs_succ (fl : List Bool) (k : Nat) : chsN fl (k + 1) = if fl.getD k false = true then chsN fl k ++ [k] else chsN fl k := by
  unfold chsN
  rw [List.range_succ, List.filter_append, List.filter_cons]
  by_cases h : fl.getD k false = true
  · rw [if_pos h, if_pos h, List.filter_nil]
  · rw [if_neg h, if_neg h, List.filter_nil, List.append_nil]
theorem chs_more {fl : List Bool} {k : Nat} (h : fl.length ≤ k) : ∀ d, chsN fl (k + d) = chsN fl k
  | 0 => rfl
  | d + 1 => by
    have e : fl.getD (k + d) false = false := by simp [List.getD, List.getElem?_eq_none (show fl.length ≤ k + d by omega)]
    rw [← Nat.add_assoc, chs_succ, e]
    exact chs_more h d
theorem chs_end {fl : List Bool} {k n : Nat} (hk : k ≤ n) (h : k = n ∨ fl.length ≤ k) : chsN fl n = chsN fl k := by
  rcases h with h | h
  · rw [h]
  · obtain ⟨d, rfl⟩ : ∃ d, n = k + d := ⟨n - k, by omega⟩
    exact chs_more h d
def chsRk (rs : List Rw) (fl : List Bool) (k : Nat) : List Rw := (chsN fl k).filterMap fun i => rs[i]?
theorem chsR_yes {rs : List Rw} {fl : List Bool} {k : Nat} {x : Rw} (hx : rs[k]? = some x) (h : fl.getD k false = true) : chsRk rs fl (k + 1) = chsRk rs fl k ++ [x] := by
  unfold chsRk
  rw [chs_succ, if_pos h, List.filterMap_append]
  simp [hx]
theorem chsR_no {rs : List Rw} {fl : List Bool} {k : Nat} (h : fl.getD k false = false) : chsRk rs fl (k + 1) = chsRk rs fl k := by
  unfold chsRk
  rw [chs_succ, h]; rfl
theorem chsN_len (fl : List Bool) (k : Nat) : (chsN fl k).length ≤ k := by
  unfold chsN
  have := List.length_filter_le (fun i => fl.getD i false) (List.range k)
  simpa using this
theorem chsR_len (rs : List Rw) (fl : List Bool) (k : Nat) : (chsRk rs fl k).length ≤ k :=
  Nat.le_trans (List.length_filterMap_le _ _) (chsN_len fl k)
theorem chsR_mem {rs : List Rw} {fl : List Bool} {x : Rw} (h : x ∈ chsR rs fl) : ∃ c : Nat, rs[c]? = some x := by
  unfold chsR at h
  obtain ⟨c, -, e⟩ := List.mem_filterMap.1 h
  exact ⟨c, e⟩
theorem means_eq {i : Nat} {on may : List (BitVec 256)} {rs : List Rw} {fl : List Bool} {K : List (List Int)} (hs : spB ⟨i, on, may⟩ = true) (hin : ∀ (k : Nat) (x : Rw), rs[k]? = some x → rowIn ⟨i, on, may⟩ x = true)
    (hK : ∀ x, x ∈ K ↔ x ∈ gotL on rs on.length 0) : coversB ⟨i, on, may⟩ (chsR rs fl) = solvesM K ((chsN fl rs.length).map fun q : Nat => (q : Int)) := by
  have hh := (headS_iff _).1 (Bool.and_eq_true_iff.1 (show (headS ⟨i, on, may⟩ && _) = true from hs)).1
  have hi : i ≤ 8 := by have := hh.1.2; simp only at this; omega
  have hlen : on.length = may.length := hh.2.2
  have hmy : mayB ⟨i, on, may⟩ (chsR rs fl) = true := mayB_all fun j x hx => by
    obtain ⟨c, hc⟩ := chsR_mem (List.mem_of_getElem? hx)
    exact rowin_right (hin c x hc)
  rw [Bool.eq_iff_iff, solves_iff hK]
  constructor
  · intro h j X hX p hp
    have hj := (List.getElem?_eq_some_iff.1 hX).1
    obtain ⟨hp8, hpX⟩ := pts_lt X p hp
    have h2 := range_all.1 (Bool.and_eq_true_iff.1 (show (mayB _ _ && _) = true from h)).2 j hj
    unfold coB at h2
    rw [Bool.and_eq_true, decide_eq_true_iff, decide_eq_true_iff] at h2
    have h3 := (less_zero _ _).1 h2.1 p hp8
    simp only [Int.toNat_natCast] at h3
    rw [getD_of hX, hpX, ptsR_bit _ _ _ _ hi] at h3
    have h4 : covB (chsR rs fl) p j = true := by
      cases hc : covB (chsR rs fl) p j
      · rw [hc] at h3; simp at h3
      · rfl
    exact chosen_cov.1 h4
  · intro h
    refine coversB_all hmy fun j hj => ?_
    simp only at hj
    obtain ⟨X, hX⟩ : ∃ X, on[j]? = some X := ⟨_, List.getElem?_eq_getElem hj⟩
    obtain ⟨Y, hY⟩ : ∃ Y, may[j]? = some Y := ⟨_, List.getElem?_eq_getElem (by omega)⟩
    obtain ⟨hXY, hYA⟩ := sides_of hs hX hY
    unfold coB
    simp only [Int.toNat_natCast]
    rw [getD_of hX, getD_of hY, Bool.and_eq_true, decide_eq_true_iff, decide_eq_true_iff, less_zero, less_zero]
    constructor
    · intro p hp8
      cases hx : X.getLsbD p
      · rfl
      · have b1 := (less_zero X Y).1 hXY p hp8
        rw [hx] at b1
        have hy : Y.getLsbD p = true := by simpa using b1
        have b2 := (less_zero Y (allB i)).1 hYA p hp8
        rw [hy, allB_lowc i p hi] at b2
        have hp : p < 2 ^ i := by simpa using b2
        have hm : p ∈ pts X := by unfold pts; exact List.mem_filter.2 ⟨List.mem_range.2 hp8, hx⟩
        rw [ptsR_bit _ _ _ _ hi, decide_eq_true hp, chosen_cov.2 (h j X hX p hm)]; rfl
    · intro p _
      rw [ptsR_bit _ _ _ _ hi]
      by_cases hp : p < 2 ^ i
      · rw [decide_eq_true hp, Bool.true_and]
        cases hc : covB (chsR rs fl) p j
        · rfl
        · unfold covB at hc
          obtain ⟨x, hx, hf⟩ := List.any_eq_true.1 hc
          rw [Bool.and_eq_true] at hf
          obtain ⟨c, hcx⟩ := chsR_mem hx
          have hb := (rowIn_iff.1 (hin c x hcx)).2 j (by simp only; omega) hf.1
          simp only at hb
          rw [getD_of hY] at hb
          have := ((inB_iff _ _ _ _).1 hb).2 p hp ((fits_iff _ _ _ _).2 fun q hq hm => (fits_iff _ _ _ _).1 hf.2 q (by omega) hm)
          rw [this]; rfl
      · rw [decide_eq_false hp]; rfl
theorem means_may {i : Nat} {on may : List (BitVec 256)} {rs : List Rw} (hs : spB ⟨i, on, may⟩ = true) (hin : ∀ (k : Nat) (x : Rw), rs[k]? = some x → rowIn ⟨i, on, may⟩ x = true) (hl : rs.length ≤ 60) : mayE ⟨i, on, may⟩ rs = 0 := by
  rw [mayE_ok hs fun k x hx => by
    have := rowin_right (hin k x hx)
    unfold rwB at this
    exact (Bool.and_eq_true_iff.1 this).2, if_neg (by omega)]
end Go.Proofs.YtdfllifjbabfjaaGreatDoor
namespace Go.Proofs.YtdfllifjbabfjaaGreatDoor
open Go.RowKit Go.Joins

theorem solves_more {ls : List (List Int)} {a b : List Int} (h : solvesM ls a = true) : solvesM ls (a ++ b) = true := by
  rw [solves_all] at h ⊢
  intro x hx
  obtain ⟨c, h1, h2⟩ := h x hx
  exact ⟨c, h1, List.mem_append_left _ h2⟩
theorem right_cols {n : Int} {ls : List (List Int)} (h : rightM n ls = true) {x : List Int} (hx : x ∈ ls) {c : Int} (hc : c ∈ x) : 0 ≤ c ∧ c < n := by
  unfold rightM at h
  rw [Bool.and_eq_true] at h
  have h2 := List.all_eq_true.1 h.2 x hx
  unfold rightR at h2
  rw [List.all_eq_true] at h2
  obtain ⟨k, hk, rfl⟩ := List.mem_iff_getElem.1 hc
  have h3 := h2 k (List.mem_range.2 hk)
  unfold okR at h3
  rw [Bool.and_eq_true, Bool.and_eq_true, decide_eq_true_iff, decide_eq_true_iff, getD_some (List.getElem?_eq_getElem hk)] at h3
  exact h3.1
theorem solves_every {n : Nat} {ls : List (List Int)} (h : rightM n ls = true) : solvesM ls ((List.range n).map fun c : Nat => (c : Int)) = ls.all fun x => decide (0 < x.length) := by
  rw [Bool.eq_iff_iff, solves_all, List.all_eq_true]
  constructor
  · intro H x hx
    obtain ⟨c, h1, -⟩ := H x hx
    exact decide_eq_true (List.length_pos_of_mem h1)
  · intro H x hx
    have h0 := of_decide_eq_true (H x hx)
    have hm := List.getElem_mem (l := x) h0
    obtain ⟨h1, h2⟩ := right_cols h hx hm
    refine ⟨x[0], hm, List.mem_map.2 ⟨x[0].toNat, List.mem_range.2 (by omega), by omega⟩⟩
theorem solves_strange {n : Int} {ls : List (List Int)} {cols : List Int} (h : rightM n ls = true) : solvesM ls (cols ++ [-1, n]) = solvesM ls cols := by
  rw [Bool.eq_iff_iff, solves_all, solves_all]
  constructor
  · intro H x hx
    obtain ⟨c, h1, h2⟩ := H x hx
    obtain ⟨h3, h4⟩ := right_cols h hx h1
    refine ⟨c, h1, ?_⟩
    rcases List.mem_append.1 h2 with h2 | h2
    · exact h2
    · simp at h2; omega
  · intro H x hx
    obtain ⟨c, h1, h2⟩ := H x hx
    exact ⟨c, h1, List.mem_append_left _ h2⟩
/-- Numbers as a row's values. -/
def intI (l : List Int) : List Value := l.map fun x => Value.int .i64 x
theorem intI_len (l : List Int) : (intI l).length = l.length := by unfold intI; simp
theorem own_intI {w : World} {B n : Nat} {v : Value} {o : List Int} (h : w.ownsRow B 3 1 v n (intI o)) : IntsAt w w.heap.size v o := by
  have hn : o.length = n := by have := h.1; rw [intI_len] at this; omega
  rcases h.2 with ⟨rfl, h0⟩ | ⟨g, cap, cur, rfl, hg, hgg, hnc, hcm, hcs, htake⟩
  · have : o = [] := List.eq_nil_of_length_eq_zero (by omega)
    subst this
    exact ⟨none, 0, rfl, by decide, fun h => absurd h (by decide)⟩
  · have hm : maxLen = 9223372036854775807 := rfl
    refine ⟨some ⟨g, 0, none⟩, cap, by rw [hn], by omega, fun _ => ⟨g, 0, rfl, size_of_block hgg, fun j x hx => ?_⟩⟩
    rw [cell_of_block hgg]
    have h2 : (intI o)[j]? = some (Value.int .i64 x) := by unfold intI; rw [List.getElem?_map, hx]; rfl
    rw [← htake, List.getElem?_take] at h2
    split at h2
    · simpa using h2
    · cases h2
set_option maxRecDepth 100000 in
/-- 'append(o, v...)' for a row of the call's own. -/
theorem append13 {w : World} {B : Nat} {V v : Value} {xs l : List Int} (ty : TypeId) (hown : w.ownsRow B 3 1 V xs.length (intI xs)) (hB : B ≤ w.heap.size) (hz : IntsAt w w.heap.size v l) (h1 : xs.length ≤ 1000) (h2 : l.length ≤ 1000) :
    ∃ v' w', (Builtin.append_ #[45, 45] ty #[V, v]).run Tryz.prog w = .ok v' w' ∧ w'.ownsRow B 3 1 v' (xs ++ l).length (intI (xs ++ l)) ∧ Below B w w' := by
  obtain ⟨i0, hi0, hz0, hz1, hz2⟩ := info_parts Tryz.infoInt
  obtain ⟨A, c, rfl, hl, hc⟩ := hz
  cases A with
  | none =>
    have h0 : l = [] := by
      cases l with
      | nil => rfl
      | cons x r => obtain ⟨b, off, e, _⟩ := hc (by simp); cases e
    subst h0
    refine ⟨V, w, ?_, by rw [List.append_nil]; exact hown, Below.refl _ _⟩
    rcases hown.2 with ⟨rfl, h⟩ | ⟨g, cap, cur, rfl, _, _, hnc, _⟩
    · simp [Builtin.append_, run_underlying Tryz.underlying45, sizeOf, typeInfo, hi0, Builtin.lenOf, Builtin.firstCells]
    · simp [Builtin.append_, run_underlying Tryz.underlying45, sizeOf, typeInfo, hi0, Builtin.lenOf, Builtin.firstCells, hnc, storeCells]
  | some a =>
    obtain ⟨v', w', hrun, ho, hg, -⟩ := run_append_own (P := Tryz.prog) w B 45 ty 3 i0 (.int .i64 0) 1 8 Tryz.underlying45 hi0 hz0 hz1 hz2 rfl (by decide) V xs.length (intI xs) hown a l.length c (intI l) (by rw [intI_len, Nat.mul_one])
      (fun j u hj => by
        unfold intI at hj
        rw [List.getElem?_map] at hj
        cases hx : l[j]? with
        | none => rw [hx] at hj; cases hj
        | some x =>
          rw [hx, Option.map_some] at hj
          have hjl := (List.getElem?_eq_some_iff.1 hx).1
          obtain ⟨b, off, e, hb, hcell⟩ := hc (by omega)
          injection e with e
          subst e
          rw [Addr.add_lit, hcell j x hx]
          exact hj)
      (fun u hu => by unfold intI at hu; obtain ⟨x, _, rfl⟩ := List.mem_map.1 hu; rfl) (by unfold maxLen; omega) (by omega) hB
    refine ⟨v', w', hrun, ?_, (Below.refl B w).grown hg hB (fun k hk => (hown.lt k hk).1)⟩
    rw [List.length_append]
    have e : intI (xs ++ l) = intI xs ++ intI l := by unfold intI; rw [List.map_append]
    rw [e]
    exact ho
theorem own_nil13 (w : World) : (w.alloc (.cells #[] 3 (0, 0))).ownsRow w.heap.size 3 1 (.slice (some ⟨w.heap.size, 0, none⟩) 0 0) ([] : List Int).length (intI []) := World.ownsRow_made w #[] 0 (Nat.le_refl _) (Nat.zero_le _) rfl
/-- 'append(append([]int{}, f...), g...)'. -/
theorem append13_two {w : World} {v u : Value} {l r : List Int} (ty : TypeId) (hz : IntsAt w w.heap.size v l) (hy : IntsAt w w.heap.size u r) (h1 : l.length ≤ 100) (h2 : r.length ≤ 100) :
    ∃ v1 w1 v2 w2, (Builtin.append_ #[45, 45] ty #[.slice (some ⟨w.heap.size, 0, none⟩) 0 0, v]).run Tryz.prog (w.alloc (.cells #[] 3 (0, 0))) = .ok v1 w1 ∧ (Builtin.append_ #[45, 45] ty #[v1, u]).run Tryz.prog w1 = .ok v2 w2 ∧
      IntsAt w2 w2.heap.size v2 (l ++ r) ∧ Below w.heap.size w w2 := by
  have hB := below_alloc1 w (.cells #[] 3 (0, 0))
  obtain ⟨v1, w1, e1, o1, b1⟩ := append13 ty (own_nil13 w) (by simp) ((hz.below hB).more hB.size) (by decide) (by omega)
  have hB1 := hB.trans b1
  obtain ⟨v2, w2, e2, o2, b2⟩ := append13 ty o1 hB1.size ((hy.below hB1).more hB1.size) (by rw [List.nil_append]; omega) (by omega)
  rw [List.nil_append] at o2
  exact ⟨v1, w1, v2, w2, e1, e2, own_intI o2, hB1.trans b2⟩
end Go.Proofs.YtdfllifjbabfjaaGreatDoor
