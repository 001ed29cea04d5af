/- Nodes of graphs in places, plain: what an id stands for, which nodes there may be, what a new one changes, what is come to from some ids, and what is left behind a sweep. A set that comes in reads as 256 bits. -/
import Derived.Test.YtehpccanjlaokaaGreatRows
import Derived.Test.YtehpccanjlaokaaGreatGQ01
import Derived.WalkKit
import Derived.ProofKit
import Derived.OpenShut
import Derived.Lib.SmallJoins
namespace Go.Proofs.YtehpccanjlaokaaGreat

/-- A node: its level, its low and its high. -/
abbrev Nd := Int × Int × Int
/-- The places: that at i has the id i + 2. -/
abbrev St := List (Option Nd)
/-- The node of an id. -/
def ndAt (S : St) (id : Int) : Option Nd := if 2 ≤ id then S.getD (id - 2).toNat none else none
/-- The level of an id; below 0: it is nobody's. -/
def lvl (S : St) (id : Int) : Int := if id = 0 ∨ id = 1 then 24 else match ndAt S id with
  | some n => n.1
  | none => -1
def okN (S : St) (n : Nd) : Bool := decide (0 ≤ n.1) && decide (n.1 < 24) && decide (n.1 < lvl S n.2.1) && decide (n.1 < lvl S n.2.2)
def cnt (S : St) : Nat := S.countP Option.isSome
def freeI (S : St) : Nat := S.findIdx (·.isNone)
def whereN (S : St) (n : Nd) : Option Nat := S.findIdx? (· == some n)
def putS (S : St) (i : Nat) (n : Nd) : St := if i = S.length then S ++ [some n] else S.set i (some n)
/-- What is made: the places, the id, the error. -/
def mkS (room : Nat) (S : St) (n : Nd) : St × Int × Int :=
  if okN S n = false then (S, 0, 1) else match whereN S n with
    | some i => (S, (i : Int) + 2, 0)
    | none => if room ≤ cnt S then (S, 0, 5) else (putS S (freeI S) n, (freeI S : Int) + 2, 0)
def swp (S : St) (f : Nat → Bool) : St := S.mapIdx fun i o => if f i then o else none
structure VSt (S : St) : Prop where
  ok : ∀ (i : Nat) (n : Nd), S[i]? = some (some n) → okN S n = true
  one : ∀ (i j : Nat) (n : Nd), S[i]? = some (some n) → S[j]? = some (some n) → i = j
/-- What is come to from the ids K. -/
inductive Rch (S : St) (K : List Int) : Nat → Prop
  | here {i : Nat} {n : Nd} (h : S[i]? = some (some n)) (hk : ((i : Int) + 2) ∈ K) : Rch S K i
  | lo {i j : Nat} {n m : Nd} (r : Rch S K i) (h : S[i]? = some (some n)) (e : n.2.1 = (j : Int) + 2) (hm : S[j]? = some (some m)) : Rch S K j
  | hi {i j : Nat} {n m : Nd} (r : Rch S K i) (h : S[i]? = some (some n)) (e : n.2.2 = (j : Int) + 2) (hm : S[j]? = some (some m)) : Rch S K j

theorem okN_iff (S : St) (n : Nd) : okN S n = true ↔ 0 ≤ n.1 ∧ n.1 < 24 ∧ n.1 < lvl S n.2.1 ∧ n.1 < lvl S n.2.2 := by
  unfold okN; simp [and_assoc]
theorem ndAt_some {S : St} {id : Int} {n : Nd} : ndAt S id = some n ↔ 2 ≤ id ∧ S[(id - 2).toNat]? = some (some n) := by
  unfold ndAt
  split
  · rename_i h
    rw [List.getD_eq_getElem?_getD]
    cases hx : S[(id - 2).toNat]? with
    | none => simp
    | some o => simp [h]
  · rename_i h; simp [h]
theorem ndAt_id {S : St} {i : Nat} {n : Nd} (h : S[i]? = some (some n)) : ndAt S ((i : Int) + 2) = some n := by
  rw [ndAt_some]
  exact ⟨by omega, by rw [show (((i : Int) + 2 - 2).toNat) = i by omega]; exact h⟩
theorem ndAt_not {S : St} {id : Int} (h : id < 2 ∨ (S.length : Int) + 2 ≤ id) : ndAt S id = none := by
  cases hx : ndAt S id with
  | none => rfl
  | some n =>
    obtain ⟨h2, hn⟩ := ndAt_some.1 hx
    have := (List.getElem?_eq_some_iff.1 hn).1
    omega
theorem ndAt_out {S : St} {i : Nat} {o : Option Nd} (h : S[i]? = some o) : ndAt S ((i : Int) + 2) = o := by
  unfold ndAt
  rw [if_pos (by omega), show (((i : Int) + 2 - 2).toNat) = i by omega, List.getD_eq_getElem?_getD, h]; rfl
theorem lvl_node {S : St} {id : Int} {n : Nd} (h : ndAt S id = some n) : lvl S id = n.1 := by
  obtain ⟨h2, _⟩ := ndAt_some.1 h
  unfold lvl
  rw [if_neg (by omega), h]
theorem lvl_end {S : St} {id : Int} (h : id = 0 ∨ id = 1) : lvl S id = 24 := by unfold lvl; rw [if_pos h]
theorem lvl_not {S : St} {id : Int} (h : ¬ (id = 0 ∨ id = 1)) (hn : ndAt S id = none) : lvl S id = -1 := by unfold lvl; rw [if_neg h, hn]
/-- An id with a level is an end's or a node's. -/
theorem lvl_kind {S : St} {id : Int} (h : 0 ≤ lvl S id) : (id = 0 ∨ id = 1) ∨ ∃ (j : Nat) (m : Nd), id = (j : Int) + 2 ∧ S[j]? = some (some m) ∧ lvl S id = m.1 := by
  by_cases he : id = 0 ∨ id = 1
  · exact .inl he
  · cases hx : ndAt S id with
    | none => rw [lvl_not he hx] at h; omega
    | some m =>
      obtain ⟨h2, hm⟩ := ndAt_some.1 hx
      exact .inr ⟨(id - 2).toNat, m, by omega, hm, lvl_node hx⟩

/-! ### One more node -/
theorem putS_get {S : St} {i : Nat} {n : Nd} (hi : i ≤ S.length) : (putS S i n)[i]? = some (some n) := by
  unfold putS
  split
  · rename_i h; subst h; simp
  · rw [List.getElem?_set_self (by omega)]
theorem putS_other {S : St} {i j : Nat} {n : Nd} (hne : j ≠ i) (hi : i ≤ S.length) : (putS S i n)[j]? = S[j]? := by
  unfold putS
  split
  · rename_i h
    subst h
    rw [List.getElem?_append]
    split
    · rfl
    · rw [List.getElem?_eq_none (by simp; omega), List.getElem?_eq_none (by omega)]
  · rw [List.getElem?_set_ne (Ne.symm hne)]
theorem freeI_le (S : St) : freeI S ≤ S.length := List.findIdx_le_length
theorem freeI_none {S : St} (h : freeI S < S.length) : S[freeI S]? = some none := by
  have h2 := List.findIdx_getElem (p := fun o : Option Nd => o.isNone) (xs := S) (w := h)
  rw [List.getElem?_eq_getElem h]
  cases hx : S[freeI S] with
  | none => rfl
  | some n => unfold freeI at hx; rw [hx] at h2; simp at h2
theorem freeI_before {S : St} {j : Nat} (h : j < freeI S) : ∃ n, S[j]? = some (some n) := by
  have hl := freeI_le S
  have h2 := List.not_of_lt_findIdx (p := fun o : Option Nd => o.isNone) (xs := S) h
  rw [List.getElem?_eq_getElem (by omega)]
  cases hx : S[j]'(by omega) with
  | none => rw [hx] at h2; simp at h2
  | some n => exact ⟨n, rfl⟩
/-- The first place that is none. -/
theorem freeI_eq {S : St} {i : Nat} (hi : i ≤ S.length) (hb : ∀ j, j < i → ∃ n, S[j]? = some (some n)) (h : ∀ n, S[i]? ≠ some (some n)) : freeI S = i := by
  rcases Nat.lt_trichotomy (freeI S) i with hlt | he | hgt
  · obtain ⟨n, hn⟩ := hb _ hlt
    rw [freeI_none (by omega)] at hn
    cases hn
  · exact he
  · obtain ⟨n, hn⟩ := freeI_before hgt
    exact absurd hn (h n)
theorem cnt_le (S : St) : cnt S ≤ S.length := List.countP_le_length
theorem cnt_full {S : St} (h : freeI S = S.length) : cnt S = S.length := by
  unfold cnt
  rw [List.countP_eq_length]
  intro o ho
  obtain ⟨j, hj, rfl⟩ := List.mem_iff_getElem.1 ho
  obtain ⟨n, hn⟩ := freeI_before (S := S) (j := j) (by omega)
  rw [List.getElem?_eq_getElem hj] at hn
  injection hn with hn
  rw [hn]; rfl
theorem cnt_set : ∀ {S : St} {i : Nat} {n : Nd}, S[i]? = some none → cnt (S.set i (some n)) = cnt S + 1
  | [], i, n, h => by simp at h
  | o :: S, 0, n, h => by
    simp at h
    subst h
    simp [cnt]
  | o :: S, i + 1, n, h => by
    have := cnt_set (S := S) (i := i) (n := n) (by simpa using h)
    unfold cnt at *
    simp only [List.set_cons_succ, List.countP_cons]
    omega
theorem cnt_unset : ∀ {S : St} {i : Nat} {n : Nd}, S[i]? = some (some n) → cnt (S.set i none) + 1 = cnt S
  | [], i, n, h => by simp at h
  | o :: S, 0, n, h => by
    simp at h
    subst h
    simp [cnt]
  | o :: S, i + 1, n, h => by
    have := cnt_unset (S := S) (i := i) (n := n) (by simpa using h)
    unfold cnt at *
    simp only [List.set_cons_succ, List.countP_cons]
    omega
theorem cnt_put {S : St} {i : Nat} {n : Nd} (hi : i ≤ S.length) (hf : ∀ m, S[i]? ≠ some (some m)) : cnt (putS S i n) = cnt S + 1 := by
  unfold putS
  split
  · simp [cnt, List.countP_append]
  · refine cnt_set ?_
    have hl : i < S.length := by omega
    rw [List.getElem?_eq_getElem hl]
    cases hx : S[i] with
    | none => rfl
    | some m => exact absurd (by rw [List.getElem?_eq_getElem hl, hx]) (hf m)
theorem length_put {S : St} {i : Nat} {n : Nd} : (putS S i n).length = if i = S.length then S.length + 1 else S.length := by
  unfold putS
  split <;> simp
theorem free_not {S : St} (m : Nd) : S[freeI S]? ≠ some (some m) := by
  intro h
  have hl := (List.getElem?_eq_some_iff.1 h).1
  rw [freeI_none hl] at h
  cases h
theorem length_put_le {S : St} {n : Nd} {room : Nat} (hr : S.length ≤ room) (hc : cnt S < room) : (putS S (freeI S) n).length ≤ room := by
  rw [length_put]
  split
  · rename_i h
    have := cnt_full h
    omega
  · exact hr
/-- Where something was, it still is. -/
theorem lvl_put {S : St} {i : Nat} {n : Nd} {id : Int} (hi : i ≤ S.length) (hf : ∀ m, S[i]? ≠ some (some m)) (h : 0 ≤ lvl S id) : lvl (putS S i n) id = lvl S id := by
  rcases lvl_kind h with he | ⟨j, m, rfl, hm, hl⟩
  · rw [lvl_end he, lvl_end he]
  · have hne : j ≠ i := fun e => hf m (e ▸ hm)
    rw [lvl_node (ndAt_id hm), lvl_node (ndAt_id ((putS_other hne hi).trans hm))]
theorem okN_put {S : St} {i : Nat} {n m : Nd} (hi : i ≤ S.length) (hf : ∀ m, S[i]? ≠ some (some m)) (h : okN S m = true) : okN (putS S i n) m = true := by
  rw [okN_iff] at *
  obtain ⟨h0, h1, h2, h3⟩ := h
  rw [lvl_put hi hf (by omega), lvl_put hi hf (by omega)]
  exact ⟨h0, h1, h2, h3⟩
theorem whereN_some {S : St} {n : Nd} {i : Nat} (h : whereN S n = some i) : S[i]? = some (some n) := by
  unfold whereN at h
  obtain ⟨hl, hp, _⟩ := List.findIdx?_eq_some_iff_getElem.1 h
  rw [List.getElem?_eq_getElem hl]
  exact congrArg some (eq_of_beq hp)
theorem whereN_none {S : St} {n : Nd} (h : whereN S n = none) (i : Nat) : S[i]? ≠ some (some n) := by
  intro hi
  unfold whereN at h
  rw [List.findIdx?_eq_none_iff] at h
  have := h _ (List.mem_of_getElem? hi)
  simp at this
theorem whereN_eq {S : St} (hV : VSt S) {n : Nd} {i : Nat} (h : S[i]? = some (some n)) : whereN S n = some i := by
  cases hx : whereN S n with
  | none => exact absurd h (whereN_none hx i)
  | some j => rw [hV.one j i n (whereN_some hx) h]
theorem VSt.put {S : St} {i : Nat} {n : Nd} (hV : VSt S) (hi : i ≤ S.length) (hf : ∀ m, S[i]? ≠ some (some m)) (hn : okN S n = true) (hw : whereN S n = none) : VSt (putS S i n) := by
  constructor
  · intro j m hj
    by_cases e : j = i
    · subst e
      rw [putS_get hi] at hj
      injection hj with hj; injection hj with hj; subst hj
      exact okN_put hi hf hn
    · rw [putS_other e hi] at hj
      exact okN_put hi hf (hV.ok j m hj)
  · intro j k m hj hk
    by_cases e : j = i
    · by_cases e2 : k = i
      · omega
      · subst e
        rw [putS_get hi] at hj
        injection hj with hj; injection hj with hj; subst hj
        rw [putS_other e2 hi] at hk
        exact absurd hk (whereN_none hw k)
    · by_cases e2 : k = i
      · subst e2
        rw [putS_get hi] at hk
        injection hk with hk; injection hk with hk; subst hk
        rw [putS_other e hi] at hj
        exact absurd hj (whereN_none hw j)
      · rw [putS_other e hi] at hj
        rw [putS_other e2 hi] at hk
        exact hV.one j k m hj hk
theorem VSt.nil : VSt [] := ⟨fun i n h => by simp at h, fun i j n h => by simp at h⟩
theorem VSt.made {S : St} (hV : VSt S) (room : Nat) (n : Nd) : VSt (mkS room S n).1 := by
  unfold mkS
  split
  · exact hV
  · rename_i h1
    split
    · exact hV
    · rename_i h2
      split
      · exact hV
      · exact hV.put (freeI_le S) free_not (by simpa using h1) h2
/-! ### What is come to -/
theorem Rch.node {S : St} {K : List Int} {i : Nat} (h : Rch S K i) : ∃ n, S[i]? = some (some n) := by
  cases h with
  | here h _ => exact ⟨_, h⟩
  | lo _ _ _ hm => exact ⟨_, hm⟩
  | hi _ _ _ hm => exact ⟨_, hm⟩
theorem Rch.lt {S : St} {K : List Int} {i : Nat} (h : Rch S K i) : i < S.length := by
  obtain ⟨n, hn⟩ := h.node
  exact (List.getElem?_eq_some_iff.1 hn).1
theorem Rch.more {S : St} {K K' : List Int} {i : Nat} (h : Rch S K i) (hk : ∀ x ∈ K, x ∈ K') : Rch S K' i := by
  induction h with
  | here h hx => exact .here h (hk _ hx)
  | lo _ h e hm ih => exact .lo ih h e hm
  | hi _ h e hm ih => exact .hi ih h e hm
theorem Rch.append {S : St} {A B : List Int} {i : Nat} : Rch S (A ++ B) i ↔ Rch S A i ∨ Rch S B i := by
  constructor
  · intro h
    induction h with
    | here h hx =>
      rcases List.mem_append.1 hx with hx | hx
      · exact .inl (.here h hx)
      · exact .inr (.here h hx)
    | lo _ h e hm ih => exact ih.imp (.lo · h e hm) (.lo · h e hm)
    | hi _ h e hm ih => exact ih.imp (.hi · h e hm) (.hi · h e hm)
  · rintro (h | h)
    · exact h.more (by simp; intro x hx; exact .inl hx)
    · exact h.more (by simp; intro x hx; exact .inr hx)
theorem Rch.none {S : St} {i : Nat} : ¬ Rch S [] i := by
  intro h
  induction h with
  | here _ hx => simp at hx
  | lo _ _ _ _ ih => exact ih
  | hi _ _ _ _ ih => exact ih
/-- What is no node leads nowhere. -/
theorem Rch.nobody {S : St} {id : Int} (h : ndAt S id = Option.none) {i : Nat} : ¬ Rch S [id] i := by
  intro hr
  induction hr with
  | here h1 hx =>
    have : id = _ := (List.mem_singleton.1 hx).symm
    subst this
    rw [ndAt_id h1] at h; cases h
  | lo _ _ _ _ ih => exact ih
  | hi _ _ _ _ ih => exact ih
/-- Above level l, what is seen is seen with all that it leads to. -/
def Clo (S : St) (f : Nat → Bool) (l : Int) : Prop :=
  ∀ (i : Nat) (n : Nd), f i = true → S[i]? = some (some n) → l < n.1 → ∀ (j : Nat) (m : Nd), n.2.1 = (j : Int) + 2 ∨ n.2.2 = (j : Int) + 2 → S[j]? = some (some m) → f j = true
theorem kid_level {S : St} (hV : VSt S) {i j : Nat} {n m : Nd} (h : S[i]? = some (some n)) (e : n.2.1 = (j : Int) + 2 ∨ n.2.2 = (j : Int) + 2) (hm : S[j]? = some (some m)) : n.1 < m.1 := by
  obtain ⟨_, _, h2, h3⟩ := (okN_iff _ _).1 (hV.ok i n h)
  rcases e with e | e
  · rw [e, lvl_node (ndAt_id hm)] at h2; exact h2
  · rw [e, lvl_node (ndAt_id hm)] at h3; exact h3
theorem Clo.seen {S : St} (hV : VSt S) {f : Nat → Bool} {l : Int} (hc : Clo S f l) {i : Nat} {n : Nd} (hi : f i = true) (h : S[i]? = some (some n)) (hl : l < n.1) {j : Nat} (hr : Rch S [(i : Int) + 2] j) : f j = true ∧ ∀ m, S[j]? = some (some m) → l < m.1 := by
  induction hr with
  | @here k m hk hx =>
    have : k = i := by have := List.mem_singleton.1 hx; omega
    subst this
    exact ⟨hi, fun m' hm' => by rw [h] at hm'; injection hm' with e; injection e with e; rw [← e]; exact hl⟩
  | @lo k j n' m hr h1 e hm ih =>
    have hk := ih.2 _ h1
    exact ⟨hc k n' ih.1 h1 hk j m (.inl e) hm, fun m' hm' => by have := kid_level hV h1 (.inl e) hm'; omega⟩
  | @hi k j n' m hr h1 e hm ih =>
    have hk := ih.2 _ h1
    exact ⟨hc k n' ih.1 h1 hk j m (.inr e) hm, fun m' hm' => by have := kid_level hV h1 (.inr e) hm'; omega⟩
/-- Behind a node: what its low leads to, and its high. -/
theorem Rch.split {S : St} {i : Nat} {n : Nd} (h : S[i]? = some (some n)) {j : Nat} : Rch S [(i : Int) + 2] j ↔ j = i ∨ Rch S [n.2.1] j ∨ Rch S [n.2.2] j := by
  constructor
  · intro hr
    induction hr with
    | @here k m hk hx => exact .inl (by have := List.mem_singleton.1 hx; omega)
    | @lo k j n' m hr h1 e hm ih =>
      rcases ih with rfl | ih | ih
      · rw [h] at h1; injection h1 with e1; injection e1 with e1; subst e1
        exact .inr (.inl (.here hm (by rw [e]; simp)))
      · exact .inr (.inl (.lo ih h1 e hm))
      · exact .inr (.inr (.lo ih h1 e hm))
    | @hi k j n' m hr h1 e hm ih =>
      rcases ih with rfl | ih | ih
      · rw [h] at h1; injection h1 with e1; injection e1 with e1; subst e1
        exact .inr (.inr (.here hm (by rw [e]; simp)))
      · exact .inr (.inl (.hi ih h1 e hm))
      · exact .inr (.inr (.hi ih h1 e hm))
  · have h0 : Rch S [(i : Int) + 2] i := .here h (by simp)
    rintro (rfl | hr | hr)
    · exact h0
    · induction hr with
      | here hk hx => exact .lo h0 h (List.mem_singleton.1 hx).symm hk
      | lo _ h1 e hm ih => exact .lo ih h1 e hm
      | hi _ h1 e hm ih => exact .hi ih h1 e hm
    · induction hr with
      | here hk hx => exact .hi h0 h (List.mem_singleton.1 hx).symm hk
      | lo _ h1 e hm ih => exact .lo ih h1 e hm
      | hi _ h1 e hm ih => exact .hi ih h1 e hm
theorem Clo.of_rch {S : St} {f : Nat → Bool} {K : List Int} (hf : ∀ i, i < S.length → (f i = true ↔ Rch S K i)) (l : Int) : Clo S f l := by
  intro i n hi h _ j m e hm
  have h1 := (hf i (List.getElem?_eq_some_iff.1 h).1).1 hi
  refine (hf j (List.getElem?_eq_some_iff.1 hm).1).2 ?_
  rcases e with e | e
  · exact .lo h1 h e hm
  · exact .hi h1 h e hm
/-- One more is seen: above its own level all is as it was. -/
theorem Clo.one {S : St} {f g : Nat → Bool} {l : Int} (hc : Clo S f l) {i : Nat} {n : Nd} (h : S[i]? = some (some n)) (hl : l < n.1) (hg : ∀ j, g j = (f j || decide (j = i))) : Clo S g n.1 := by
  intro k m hk hm hlt j m' e hm'
  rw [hg] at hk ⊢
  by_cases e2 : k = i
  · subst e2
    rw [h] at hm; injection hm with e3; injection e3 with e3; subst e3
    omega
  · have hfk : f k = true := by simpa [e2] using hk
    rw [hc k m hfk hm (by omega) j m' e hm', Bool.true_or]
theorem Clo.two {S : St} {f g : Nat → Bool} {l : Int} (hc : Clo S f l) {id : Int} (hg : ∀ j, j < S.length → (g j = true ↔ f j = true ∨ Rch S [id] j)) : Clo S g l := by
  intro k m hk hm hlt j m' e hm'
  have hj := (List.getElem?_eq_some_iff.1 hm').1
  rw [hg j hj]
  rcases (hg k (List.getElem?_eq_some_iff.1 hm).1).1 hk with h | h
  · exact .inl (hc k m h hm hlt j m' e hm')
  · rcases e with e | e
    · exact .inr (.lo h hm e hm')
    · exact .inr (.hi h hm e hm')
/-- Seen already: nothing is to do. -/
theorem mark_seen {S : St} (hV : VSt S) {f : Nat → Bool} {l : Int} (hc : Clo S f l) {i : Nat} {n : Nd} (hi : f i = true) (h : S[i]? = some (some n)) (hl : l < n.1) (j : Nat) : f j = true ↔ f j = true ∨ Rch S [(i : Int) + 2] j :=
  ⟨.inl, fun o => o.elim id fun hr => (hc.seen hV hi h hl hr).1⟩
theorem mark_all {S : St} {f g1 g2 g3 : Nat → Bool} {i : Nat} {n : Nd} (h : S[i]? = some (some n)) (h1 : ∀ j, g1 j = (f j || decide (j = i)))
    (h2 : ∀ j, j < S.length → (g2 j = true ↔ g1 j = true ∨ Rch S [n.2.1] j)) (h3 : ∀ j, j < S.length → (g3 j = true ↔ g2 j = true ∨ Rch S [n.2.2] j)) (j : Nat) (hj : j < S.length) : g3 j = true ↔ f j = true ∨ Rch S [(i : Int) + 2] j := by
  rw [h3 j hj, h2 j hj, h1 j, Rch.split h]
  simp only [Bool.or_eq_true, decide_eq_true_eq]
  constructor
  · rintro (((h | h) | h) | h)
    · exact .inl h
    · exact .inr (.inl h)
    · exact .inr (.inr (.inl h))
    · exact .inr (.inr (.inr h))
  · rintro (h | h | h | h)
    · exact .inl (.inl (.inl h))
    · exact .inl (.inl (.inr h))
    · exact .inl (.inr h)
    · exact .inr h

theorem swp_length (S : St) (f : Nat → Bool) : (swp S f).length = S.length := by unfold swp; simp
theorem swp_some {S : St} {f : Nat → Bool} {i : Nat} {n : Nd} : (swp S f)[i]? = some (some n) ↔ S[i]? = some (some n) ∧ f i = true := by
  unfold swp
  rw [List.getElem?_mapIdx]
  cases hx : S[i]? with
  | none => simp
  | some o => cases hf : f i <;> simp
theorem lvl_swp {S : St} {f : Nat → Bool} {id : Int} (h : 0 ≤ lvl S id) (hf : ∀ j : Nat, id = (j : Int) + 2 → f j = true) : lvl (swp S f) id = lvl S id := by
  rcases lvl_kind h with he | ⟨j, m, rfl, hm, hl⟩
  · rw [lvl_end he, lvl_end he]
  · rw [lvl_node (ndAt_id hm), lvl_node (ndAt_id (swp_some.2 ⟨hm, hf j rfl⟩))]
theorem VSt.swp {S : St} {f : Nat → Bool} (hV : VSt S) (hc : Clo S f (-1)) : VSt (swp S f) := by
  refine ⟨fun i n hi => ?_, fun i j n hi hj => hV.one i j n (swp_some.1 hi).1 (swp_some.1 hj).1⟩
  obtain ⟨h, hfi⟩ := swp_some.1 hi
  have hk := hV.ok i n h
  rw [okN_iff] at hk ⊢
  obtain ⟨h0, h1, h2, h3⟩ := hk
  rw [lvl_swp (by omega) (fun j e => ?_), lvl_swp (by omega) (fun j e => ?_)]
  · exact ⟨h0, h1, h2, h3⟩
  · rcases lvl_kind (S := S) (id := n.2.2) (by omega) with he | ⟨j', m, e', hm, _⟩
    · omega
    · have : j' = j := by omega
      subst this
      exact hc i n hfi h (by omega) j' m (.inr e) hm
  · rcases lvl_kind (S := S) (id := n.2.1) (by omega) with he | ⟨j', m, e', hm, _⟩
    · omega
    · have : j' = j := by omega
      subst this
      exact hc i n hfi h (by omega) j' m (.inl e) hm
theorem VSt.swept {S : St} {f : Nat → Bool} {K : List Int} (hV : VSt S) (hf : ∀ i, i < S.length → (f i = true ↔ Rch S K i)) : VSt (Go.Proofs.YtehpccanjlaokaaGreat.swp S f) := hV.swp (Clo.of_rch hf _)
end Go.Proofs.YtehpccanjlaokaaGreat
namespace Go.Proofs.YtehpccanjlaokaaGreat
open Go.ChangeShapes Go.WideShapes Go.ChangeAt Go.RowKit Go.Joins

theorem Tryz.own : ownKnob Tryz.prog.godebug = none := by kernel_rfl
theorem Tryz.laidOut : laidOutB Tryz.prog = true := by kernel_rfl
theorem Tryz.cellsWord : Tryz.prog.cellsOf 49 = 1 := by kernel_rfl

set_option maxRecDepth 100000 in
theorem word_of {H : Type} {enc : TypeId × Value → H} {w : World} {base m : Nat} {sp : Nat → Bool} {held : Bool} {c : Value} {y : DataW H × List MemPlace}
    (h : DataW.trod enc Tryz.prog w base sp held m 49 [c] = some y) : ∃ x : BitVec 64, c = wv x := by
  obtain ⟨a, e0, _, wa⟩ := DataW.trod_int Tryz.underlying49 h
  simp at e0
  subst e0
  have hb : 0 ≤ a ∧ a ≤ 18446744073709551615 := by
    simp [Lit.wf, IntKind.min, IntKind.max, IntKind.signed, IntKind.bits] at wa
    omega
  obtain ⟨n, rfl⟩ := Int.eq_ofNat_of_zero_le hb.1
  refine ⟨BitVec.ofNat 64 n, ?_⟩
  unfold wv
  rw [BitVec.toNat_ofNat, Nat.mod_eq_of_lt (by omega)]

end Go.Proofs.YtehpccanjlaokaaGreat
