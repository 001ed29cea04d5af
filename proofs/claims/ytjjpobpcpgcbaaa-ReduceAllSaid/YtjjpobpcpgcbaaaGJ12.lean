/- Coverings, plain: what solves one; rows that are chosen by flags. Coverings made smaller, plain: the three reductions as the document says them; nothing is lost. -/
import Derived.Test.YtjjpobpcpgcbaaaGJ11
namespace Go.Proofs.Ytjjpobpcpgcbaaa
open Go.RowKit Go.Joins

theorem solves_all {ls : List (List Int)} {cols : List Int} : solvesM ls cols = true ↔ ∀ x, x ∈ ls → ∃ c, c ∈ x ∧ c ∈ cols := by
  unfold solvesM hitR
  simp only [List.all_eq_true, List.any_eq_true, decide_eq_true_iff]
  exact ⟨fun h x hx => by
    obtain ⟨a, ha, b, hb, e⟩ := h x hx
    exact ⟨a, ha, e ▸ hb⟩, fun h x hx => by
    obtain ⟨c, h1, h2⟩ := h x hx
    exact ⟨c, h1, c, h2, rfl⟩⟩
theorem mem_colsR {rs : List Rw} {o p : Nat} {c : Int} : c ∈ colsR rs o p ↔ ∃ k : Nat, c = k ∧ hitC rs o p k = true := by
  unfold colsR colsN
  rw [List.mem_map]
  constructor
  · rintro ⟨k, hk, rfl⟩
    rw [List.mem_filter] at hk
    exact ⟨k, rfl, hk.2⟩
  · rintro ⟨k, rfl, hk⟩
    refine ⟨k, ?_, rfl⟩
    rw [List.mem_filter, List.mem_range]
    refine ⟨?_, hk⟩
    unfold hitC at hk
    split at hk
    · rename_i x hx; exact (List.getElem?_eq_some_iff.1 hx).1
    · cases hk
theorem mem_got {on : List (BitVec 256)} {rs : List Rw} {x : List Int} : x ∈ gotL on rs on.length 0 ↔ ∃ (j : Nat) (X : BitVec 256) (p : Nat), on[j]? = some X ∧ p ∈ pts X ∧ x = colsR rs j p := by
  unfold gotL
  rw [List.take_zero, List.map_nil, List.append_nil, List.mem_flatMap]
  constructor
  · rintro ⟨j, hj, hx⟩
    rw [List.mem_range] at hj
    obtain ⟨p, hp, rfl⟩ := List.mem_map.1 hx
    refine ⟨j, on[j], p, List.getElem?_eq_getElem hj, ?_, rfl⟩
    simpa [List.getD, hj] using hp
  · rintro ⟨j, X, p, hX, hp, rfl⟩
    refine ⟨j, List.mem_range.2 (List.getElem?_eq_some_iff.1 hX).1, ?_⟩
    rw [show on.getD j 0 = X by simp [List.getD, hX]]
    exact List.mem_map.2 ⟨p, hp, rfl⟩
theorem solves_iff {on : List (BitVec 256)} {rs : List Rw} {K : List (List Int)} {cols : List Int} (hK : ∀ x, x ∈ K ↔ x ∈ gotL on rs on.length 0) :
    solvesM K cols = true ↔ ∀ (j : Nat) (X : BitVec 256), on[j]? = some X → ∀ p, p ∈ pts X → ∃ c : Nat, hitC rs j p c = true ∧ (c : Int) ∈ cols := by
  rw [solves_all]
  constructor
  · intro h j X hX p hp
    obtain ⟨c, h1, h2⟩ := h _ ((hK _).2 (mem_got.2 ⟨j, X, p, hX, hp, rfl⟩))
    obtain ⟨k, rfl, hk⟩ := mem_colsR.1 h1
    exact ⟨k, hk, h2⟩
  · intro h x hx
    obtain ⟨j, X, p, hX, hp, rfl⟩ := mem_got.1 ((hK x).1 hx)
    obtain ⟨k, hk, hc⟩ := h j X hX p hp
    exact ⟨k, mem_colsR.2 ⟨k, rfl, hk⟩, hc⟩
/-- A covering that is made is right. -/
theorem made_right {on : List (BitVec 256)} {rs : List Rw} {K : List (List Int)} (hK : ∀ x, x ∈ K ↔ x ∈ gotL on rs on.length 0) (hl : rs.length ≤ 4000) : rightM rs.length K = true := by
  refine right_ok (by omega) (by omega) fun i l hl2 k hk => ?_
  obtain ⟨j, X, p, hX, hp, rfl⟩ := mem_got.1 ((hK l).1 (List.mem_of_getElem? hl2))
  have hn : (colsN rs j p rs.length).Pairwise (· < ·) := List.Pairwise.filter _ List.pairwise_lt_range
  have hlen : (colsR rs j p).length = (colsN rs j p rs.length).length := by unfold colsR; rw [List.length_map]
  have hget : ∀ q, q < (colsR rs j p).length → ∃ c : Nat, (colsR rs j p).getD q 0 = c ∧ (colsN rs j p rs.length)[q]? = some c ∧ c < rs.length := by
    intro q hq
    obtain ⟨c, hc⟩ : ∃ c, (colsN rs j p rs.length)[q]? = some c := ⟨_, List.getElem?_eq_getElem (by omega)⟩
    refine ⟨c, ?_, hc, ?_⟩
    · unfold colsR
      simp [List.getD, hc]
    · have := List.mem_of_getElem? hc
      unfold colsN at this
      exact List.mem_range.1 (List.mem_filter.1 this).1
  obtain ⟨c, e1, e2, e3⟩ := hget k hk
  unfold okR
  rw [e1, decide_eq_true (by omega), decide_eq_true (by omega)]
  cases k with
  | zero => simp
  | succ m =>
    obtain ⟨d, f1, f2, f3⟩ := hget m (by omega)
    rw [Nat.add_sub_cancel, f1]
    obtain ⟨h1, h2⟩ := List.getElem?_eq_some_iff.1 e2
    obtain ⟨h3, h4⟩ := List.getElem?_eq_some_iff.1 f2
    have := List.pairwise_iff_getElem.1 hn m (m + 1) h3 h1 (by omega)
    rw [h2, h4] at this
    rw [decide_eq_true (show (d : Int) < (c : Int) by omega)]
    simp
/-- The places that flags choose. -/
def chsN (fl : List Bool) (k : Nat) : List Nat := (List.range k).filter fun i => fl.getD i false
def chsR (rs : List Rw) (fl : List Bool) : List Rw := (chsN fl rs.length).filterMap fun i => rs[i]?
theorem chosen_cov {rs : List Rw} {fl : List Bool} {p j : Nat} : covB (chsR rs fl) p j = true ↔ ∃ c : Nat, hitC rs j p c = true ∧ (c : Int) ∈ (chsN fl rs.length).map fun i : Nat => (i : Int) := by
  unfold covB chsR
  rw [List.any_eq_true]
  constructor
  · rintro ⟨x, hx, h⟩
    obtain ⟨c, hc, e⟩ := List.mem_filterMap.1 hx
    exact ⟨c, by unfold hitC; rw [e]; exact h, List.mem_map.2 ⟨c, hc, rfl⟩⟩
  · rintro ⟨c, hc, hm⟩
    obtain ⟨c', hc', e⟩ := List.mem_map.1 hm
    have : c' = c := by omega
    subst this
    unfold hitC at hc
    split at hc
    · rename_i x hx
      exact ⟨x, List.mem_filterMap.2 ⟨c', hc', hx⟩, hc⟩
    · cases hc
end Go.Proofs.Ytjjpobpcpgcbaaa
namespace Go.Proofs.Ytjjpobpcpgcbaaa
open Go.RowKit Go.Joins

/-- Columns, told by flags, solve rows. -/
def SolT (ls : List (List Int)) (T : Int → Bool) : Prop := ∀ r, r ∈ ls → ∃ c, c ∈ r ∧ T c = true
/-- How many columns below n. -/
def crdT (n : Nat) (T : Int → Bool) : Nat := (List.range n).countP fun c : Nat => T (c : Int)
/-- The column that is taken. -/
def tkC (ls : List (List Int)) : Option Int := (ls.find? fun r => decide (r.length = 1)).map fun r => r.getD 0 0
def tkR (ls : List (List Int)) (c : Int) : List (List Int) := ls.filter fun r => !decide (c ∈ r)
def subR (a b : List Int) : Bool := a.all fun x => decide (x ∈ b)
/-- May row i be left out? -/
def rowGo (ls : List (List Int)) (i : Nat) : Bool := (List.range ls.length).any fun k =>
  (subR (ls.getD k []) (ls.getD i []) && !subR (ls.getD i []) (ls.getD k [])) || (decide (k < i) && subR (ls.getD k []) (ls.getD i []) && subR (ls.getD i []) (ls.getD k []))
def rwI (ls : List (List Int)) : Option Nat := (List.range ls.length).find? (rowGo ls)
/-- The rows that have a column. -/
def whr (ls : List (List Int)) (c : Int) : List Int := ((List.range ls.length).filter fun i => decide (c ∈ ls.getD i [])).map fun i : Nat => (i : Int)
/-- May column c be left out? -/
def lssC (ls : List (List Int)) (n c : Nat) : Bool := decide (0 < (whr ls c).length) && (List.range n).any fun d =>
  decide (d ≠ c) && subR (whr ls c) (whr ls d) && (decide ((whr ls c).length < (whr ls d).length) || decide (d < c))
def clI (ls : List (List Int)) (n : Nat) : Option Nat := (List.range n).find? (lssC ls n)
def clR (ls : List (List Int)) (c : Int) : List (List Int) := ls.map fun r => r.filter fun x => !decide (x = c)
/-- To reduce: columns that are taken, by flags, and the rows that are left. -/
def redP (n : Nat) : Nat → (Int → Bool) → List (List Int) → (Int → Bool) × List (List Int)
  | 0, t, ls => (t, ls)
  | f + 1, t, ls => match tkC ls with
    | some c => redP n f (fun x => t x || decide (x = c)) (tkR ls c)
    | none => match rwI ls with
      | some i => redP n f t (ls.eraseIdx i)
      | none => match clI ls n with
        | some c => redP n f t (clR ls c)
        | none => (t, ls)
theorem tkC_some {ls : List (List Int)} {c : Int} (h : tkC ls = some c) : [c] ∈ ls := by
  unfold tkC at h
  obtain ⟨r, hr, e⟩ := Option.map_eq_some_iff.1 h
  have h1 := List.find?_some hr
  have h2 := List.mem_of_find?_eq_some hr
  have h1 := of_decide_eq_true h1
  match r, h1 with
  | [x], _ =>
    have : x = c := e
    subst this
    exact h2
theorem rwI_some {ls : List (List Int)} {i : Nat} (h : rwI ls = some i) : i < ls.length ∧ ∃ k, k < ls.length ∧ k ≠ i ∧ ∀ x, x ∈ ls.getD k [] → x ∈ ls.getD i [] := by
  unfold rwI at h
  have h1 := List.find?_some h
  have h2 := List.mem_range.1 (List.mem_of_find?_eq_some h)
  refine ⟨h2, ?_⟩
  unfold rowGo at h1
  obtain ⟨k, hk, hg⟩ := List.any_eq_true.1 h1
  have hk := List.mem_range.1 hk
  have sub : ∀ a b : List Int, subR a b = true → ∀ x, x ∈ a → x ∈ b := fun a b h x hx => of_decide_eq_true (List.all_eq_true.1 h x hx)
  rw [Bool.or_eq_true, Bool.and_eq_true, Bool.and_eq_true, Bool.and_eq_true] at hg
  rcases hg with ⟨g1, g2⟩ | ⟨⟨g1, g2⟩, -⟩
  · refine ⟨k, hk, fun e => ?_, sub _ _ g1⟩
    subst e
    rw [g1] at g2; cases g2
  · have := of_decide_eq_true g1
    exact ⟨k, hk, by omega, sub _ _ g2⟩
theorem mem_whr {ls : List (List Int)} {c : Int} {i : Nat} : (i : Int) ∈ whr ls c ↔ i < ls.length ∧ c ∈ ls.getD i [] := by
  unfold whr
  rw [List.mem_map]
  constructor
  · rintro ⟨j, hj, e⟩
    have : j = i := by omega
    subst this
    obtain ⟨h1, h2⟩ := List.mem_filter.1 hj
    exact ⟨List.mem_range.1 h1, of_decide_eq_true h2⟩
  · rintro ⟨h1, h2⟩
    exact ⟨i, List.mem_filter.2 ⟨List.mem_range.2 h1, decide_eq_true h2⟩, rfl⟩
theorem clI_some {ls : List (List Int)} {n c : Nat} (h : clI ls n = some c) : c < n ∧ (∃ r, r ∈ ls ∧ (c : Int) ∈ r) ∧ ∃ d : Nat, d < n ∧ d ≠ c ∧ ∀ r, r ∈ ls → (c : Int) ∈ r → (d : Int) ∈ r := by
  unfold clI at h
  have h1 := List.find?_some h
  have h2 := List.mem_range.1 (List.mem_of_find?_eq_some h)
  refine ⟨h2, ?_⟩
  unfold lssC at h1
  rw [Bool.and_eq_true, decide_eq_true_iff] at h1
  obtain ⟨h0, h1⟩ := h1
  constructor
  · obtain ⟨x, hx⟩ := List.exists_mem_of_length_pos h0
    have hx' := hx
    unfold whr at hx
    obtain ⟨i, -, rfl⟩ := List.mem_map.1 hx
    obtain ⟨hi, hc⟩ := mem_whr.1 hx'
    refine ⟨ls.getD i [], ?_, hc⟩
    rw [List.getD_eq_getElem?_getD, List.getElem?_eq_getElem hi]
    exact List.getElem_mem hi
  · obtain ⟨d, hd, hg⟩ := List.any_eq_true.1 h1
    rw [Bool.and_eq_true, Bool.and_eq_true, decide_eq_true_iff] at hg
    refine ⟨d, List.mem_range.1 hd, hg.1.1, fun r hr hc => ?_⟩
    obtain ⟨i, hi, rfl⟩ := List.mem_iff_getElem.1 hr
    have e : ls.getD i [] = ls[i] := by rw [List.getD_eq_getElem?_getD, List.getElem?_eq_getElem hi]; rfl
    have h3 := of_decide_eq_true (List.all_eq_true.1 hg.1.2 _ (mem_whr.2 ⟨hi, by rw [e]; exact hc⟩))
    have h4 := (mem_whr.1 h3).2
    rwa [e] at h4
/- NOTHING IS LOST. -/
/-- What stands between the rows at the start, the columns that were taken, and the rows that are left. -/
structure RedI (n : Nat) (l0 : List (List Int)) (t : Int → Bool) (ls : List (List Int)) : Prop where
  down : ∀ T, SolT l0 T → ∃ T', SolT ls T' ∧ crdT n T' + crdT n t ≤ crdT n T
  up : ∀ T, SolT ls T → SolT l0 fun x => t x || T x
  off : ∀ r, r ∈ ls → ∀ c, c ∈ r → t c = false
  low : ∀ r, r ∈ ls → ∀ c, c ∈ r → 0 ≤ c ∧ c < n
theorem crd_le {n : Nat} {T U : Int → Bool} (h : ∀ c : Nat, c < n → T c = true → U c = true) : crdT n T ≤ crdT n U := by
  unfold crdT
  refine List.countP_mono_left fun c hc h1 => h c (List.mem_range.1 hc) h1
theorem crd_zero (n : Nat) : crdT n (fun _ => false) = 0 := by
  unfold crdT
  rw [List.countP_eq_zero]
  simp
theorem crd_succ (n : Nat) (T : Int → Bool) : crdT (n + 1) T = crdT n T + if T (n : Int) = true then 1 else 0 := by
  unfold crdT
  rw [List.range_succ, List.countP_append, List.countP_singleton]
/-- One column more. -/
theorem crd_with {T : Int → Bool} {c : Nat} : ∀ n, crdT n (fun x => T x || decide (x = (c : Int))) ≤ crdT n T + if c < n then 1 else 0
  | 0 => by simp [crdT]
  | n + 1 => by
    have ih := crd_with (T := T) (c := c) n
    rw [crd_succ, crd_succ]
    by_cases e : (n : Int) = c
    · have e' : n = c := by omega
      subst e'
      rw [if_neg (Nat.lt_irrefl _)] at ih
      rw [if_pos (Nat.lt_succ_self _)]
      split <;> split <;> omega
    · simp only [decide_eq_false e, Bool.or_false]
      by_cases h : c < n
      · rw [if_pos h] at ih
        rw [if_pos (show c < n + 1 by omega)]
        omega
      · rw [if_neg h] at ih
        rw [if_neg (show ¬ c < n + 1 by omega)]
        omega
/-- One column less. -/
theorem crd_less {T : Int → Bool} {c : Nat} (hc : T (c : Int) = true) : ∀ n, crdT n (fun x => T x && !decide (x = (c : Int))) + (if c < n then 1 else 0) = crdT n T
  | 0 => by simp [crdT]
  | n + 1 => by
    have ih := crd_less hc n
    rw [crd_succ, crd_succ]
    by_cases e : (n : Int) = c
    · have e' : n = c := by omega
      subst e'
      have e3 : (T (n : Int) && !decide ((n : Int) = (n : Int))) = false := by simp
      rw [if_neg (Nat.lt_irrefl _)] at ih
      rw [if_pos (Nat.lt_succ_self _), if_pos hc, if_neg (by rw [e3]; decide)]
      omega
    · have e3 : (T (n : Int) && !decide ((n : Int) = (c : Int))) = T (n : Int) := by rw [decide_eq_false e]; simp
      rw [e3]
      by_cases h : c < n
      · rw [if_pos h] at ih
        rw [if_pos (show c < n + 1 by omega)]
        omega
      · rw [if_neg h] at ih
        rw [if_neg (show ¬ c < n + 1 by omega)]
        omega
theorem red_start {n : Nat} {ls : List (List Int)} (h : ∀ r, r ∈ ls → ∀ c, c ∈ r → 0 ≤ c ∧ c < n) : RedI n ls (fun _ => false) ls where
  down := fun T hT => ⟨T, hT, by rw [crd_zero]; exact Nat.le_refl _⟩
  up := fun T hT r hr => by
    obtain ⟨c, h1, h2⟩ := hT r hr
    exact ⟨c, h1, by show (false || T c) = true; rw [h2]; rfl⟩
  off := fun _ _ _ _ => rfl
  low := h
theorem red_take {n : Nat} {l0 ls : List (List Int)} {t : Int → Bool} {c : Int} (h : RedI n l0 t ls) (hc : [c] ∈ ls) : RedI n l0 (fun x => t x || decide (x = c)) (tkR ls c) := by
  obtain ⟨c0, cn⟩ := h.low _ hc c (List.mem_singleton.2 rfl)
  obtain ⟨k, rfl⟩ := Int.eq_ofNat_of_zero_le c0
  have mem : ∀ r, r ∈ tkR ls k → r ∈ ls ∧ (k : Int) ∉ r := fun r hr => by
    obtain ⟨h1, h2⟩ := List.mem_filter.1 hr
    exact ⟨h1, by simpa using h2⟩
  refine ⟨fun T hT => ?_, fun T hT r hr => ?_, fun r hr x hx => ?_, fun r hr => h.low r (mem r hr).1⟩
  · obtain ⟨T', h1, h2⟩ := h.down T hT
    have hk : T' (k : Int) = true := by
      obtain ⟨x, hx, hT'⟩ := h1 _ hc
      rw [List.mem_singleton.1 hx] at hT'
      exact hT'
    refine ⟨fun x => T' x && !decide (x = (k : Int)), fun r hr => ?_, ?_⟩
    · obtain ⟨m1, m2⟩ := mem r hr
      obtain ⟨x, hx, hT'⟩ := h1 r m1
      refine ⟨x, hx, ?_⟩
      have : x ≠ (k : Int) := fun e => m2 (e ▸ hx)
      show (T' x && !decide (x = (k : Int))) = true
      rw [hT', decide_eq_false this]; rfl
    · have e1 := crd_less hk n
      have e2 := crd_with (T := t) (c := k) n
      rw [if_pos (by omega)] at e1 e2
      omega
  · have h1 : SolT ls (fun x => T x || decide (x = (k : Int))) := fun r hr => by
      by_cases hk : (k : Int) ∈ r
      · exact ⟨k, hk, by show (T k || decide ((k : Int) = k)) = true; simp⟩
      · obtain ⟨c, e1, e2⟩ := hT r (List.mem_filter.2 ⟨hr, by simpa using hk⟩)
        exact ⟨c, e1, by show (T c || decide (c = (k : Int))) = true; rw [e2]; rfl⟩
    obtain ⟨c, e1, e2⟩ := h.up _ h1 r hr
    refine ⟨c, e1, ?_⟩
    have e2 : (t c || (T c || decide (c = (k : Int)))) = true := e2
    show ((t c || decide (c = (k : Int))) || T c) = true
    rw [Bool.or_assoc, Bool.or_comm (decide _) (T c)]
    exact e2
  · obtain ⟨m1, m2⟩ := mem r hr
    show (t x || decide (x = (k : Int))) = false
    rw [h.off r m1 x hx, decide_eq_false (show ¬ x = (k : Int) from fun e => m2 (e ▸ hx))]; rfl
theorem red_row {n : Nat} {l0 ls : List (List Int)} {t : Int → Bool} {i k : Nat} (h : RedI n l0 t ls) (hi : i < ls.length) (hk : k < ls.length) (hne : k ≠ i) (hs : ∀ x, x ∈ ls.getD k [] → x ∈ ls.getD i []) : RedI n l0 t (ls.eraseIdx i) := by
  have gk : ls.getD k [] = ls[k] := by rw [List.getD_eq_getElem?_getD, List.getElem?_eq_getElem hk]; rfl
  have gi : ls.getD i [] = ls[i] := by rw [List.getD_eq_getElem?_getD, List.getElem?_eq_getElem hi]; rfl
  have mem : ∀ r, r ∈ ls.eraseIdx i → r ∈ ls := fun r hr => List.mem_of_mem_eraseIdx hr
  refine ⟨fun T hT => ?_, fun T hT => h.up T fun r hr => ?_, fun r hr => h.off r (mem r hr), fun r hr => h.low r (mem r hr)⟩
  · obtain ⟨T', h1, h2⟩ := h.down T hT
    exact ⟨T', fun r hr => h1 r (mem r hr), h2⟩
  · obtain ⟨j, hj, rfl⟩ := List.mem_iff_getElem.1 hr
    by_cases e : j = i
    · subst e
      have hkm : ls[k] ∈ ls.eraseIdx j := List.mem_eraseIdx_iff_getElem.2 ⟨k, hk, hne, rfl⟩
      obtain ⟨c, h1, h2⟩ := hT _ hkm
      exact ⟨c, by rw [← gi]; exact hs c (by rw [gk]; exact h1), h2⟩
    · exact hT _ (List.mem_eraseIdx_iff_getElem.2 ⟨j, hj, e, rfl⟩)
theorem red_col {n : Nat} {l0 ls : List (List Int)} {t : Int → Bool} {c d : Nat} (h : RedI n l0 t ls) (hc : c < n) (hne : d ≠ c) (hs : ∀ r, r ∈ ls → (c : Int) ∈ r → (d : Int) ∈ r) : RedI n l0 t (clR ls c) := by
  have mem : ∀ r, r ∈ clR ls c → ∃ r0, r0 ∈ ls ∧ ∀ x, x ∈ r ↔ x ∈ r0 ∧ x ≠ (c : Int) := fun r hr => by
    obtain ⟨r0, h0, rfl⟩ := List.mem_map.1 hr
    exact ⟨r0, h0, fun x => by rw [List.mem_filter]; simp⟩
  refine ⟨fun T hT => ?_, fun T hT => h.up T fun r hr => ?_, fun r hr x hx => ?_, fun r hr x hx => ?_⟩
  · obtain ⟨T', h1, h2⟩ := h.down T hT
    by_cases hTc : T' (c : Int) = true
    · refine ⟨fun x => (T' x && !decide (x = (c : Int))) || decide (x = (d : Int)), fun r hr => ?_, ?_⟩
      · obtain ⟨r0, m0, m1⟩ := mem r hr
        obtain ⟨x, hx, e⟩ := h1 r0 m0
        by_cases ex : x = (c : Int)
        · have hd := hs r0 m0 (ex ▸ hx)
          refine ⟨d, (m1 d).2 ⟨hd, by omega⟩, ?_⟩
          show ((T' d && !decide ((d : Int) = c)) || decide ((d : Int) = d)) = true
          simp
        · refine ⟨x, (m1 x).2 ⟨hx, ex⟩, ?_⟩
          show ((T' x && !decide (x = (c : Int))) || decide (x = (d : Int))) = true
          rw [e, decide_eq_false ex]; rfl
      · have e1 := crd_less hTc n
        have e2 := crd_with (T := fun x => T' x && !decide (x = (c : Int))) (c := d) n
        rw [if_pos hc] at e1
        split at e2 <;> omega
    · refine ⟨T', fun r hr => ?_, h2⟩
      obtain ⟨r0, m0, m1⟩ := mem r hr
      obtain ⟨x, hx, e⟩ := h1 r0 m0
      exact ⟨x, (m1 x).2 ⟨hx, fun ex => hTc (ex ▸ e)⟩, e⟩
  · obtain ⟨x, hx, e⟩ := hT _ (List.mem_map.2 ⟨r, hr, rfl⟩)
    exact ⟨x, (List.mem_filter.1 hx).1, e⟩
  · obtain ⟨r0, m0, m1⟩ := mem r hr
    exact h.off r0 m0 x ((m1 x).1 hx).1
  · obtain ⟨r0, m0, m1⟩ := mem r hr
    exact h.low r0 m0 x ((m1 x).1 hx).1
theorem red_inv {n : Nat} {l0 : List (List Int)} : ∀ (f : Nat) (t : Int → Bool) (ls : List (List Int)), RedI n l0 t ls → RedI n l0 (redP n f t ls).1 (redP n f t ls).2
  | 0, _, _, h => h
  | f + 1, t, ls, h => by
    unfold redP
    cases hc : tkC ls with
    | some c => exact red_inv f _ _ (red_take h (tkC_some hc))
    | none =>
      cases hr : rwI ls with
      | some i =>
        obtain ⟨hi, k, hk, hne, hs⟩ := rwI_some hr
        exact red_inv f _ _ (red_row h hi hk hne hs)
      | none =>
        cases hl : clI ls n with
        | some c =>
          obtain ⟨hc', -, d, hd, hne, hs⟩ := clI_some hl
          exact red_inv f _ _ (red_col h hc' hne hs)
        | none => exact h
/-- How much there is to be left out. -/
def masR : List (List Int) → Nat
  | [] => 0
  | r :: ls => r.length + 1 + masR ls
theorem mas_filter (p : List Int → Bool) : ∀ ls : List (List Int), masR (ls.filter p) ≤ masR ls
  | [] => Nat.le_refl _
  | r :: ls => by
    have := mas_filter p ls
    rw [List.filter_cons]
    split
    · show r.length + 1 + _ ≤ r.length + 1 + _; omega
    · show _ ≤ r.length + 1 + _; omega
theorem mas_filter_lt (p : List Int → Bool) : ∀ {ls : List (List Int)} {r : List Int}, r ∈ ls → p r = false → masR (ls.filter p) < masR ls
  | [], _, h, _ => absurd h List.not_mem_nil
  | x :: ls, r, h, hp => by
    have h0 := mas_filter p ls
    rw [List.filter_cons]
    rcases List.mem_cons.1 h with rfl | h
    · rw [if_neg (by rw [hp]; decide)]
      show _ < r.length + 1 + _; omega
    · have h1 := mas_filter_lt p h hp
      split
      · show x.length + 1 + _ < x.length + 1 + _; omega
      · show _ < x.length + 1 + _; omega
theorem mas_erase : ∀ {ls : List (List Int)} {i : Nat}, i < ls.length → masR (ls.eraseIdx i) < masR ls
  | [], _, h => absurd h (Nat.not_lt_zero _)
  | r :: ls, 0, _ => by show masR ls < r.length + 1 + masR ls; omega
  | r :: ls, i + 1, h => by
    have := mas_erase (ls := ls) (i := i) (by simpa using h)
    show r.length + 1 + masR (ls.eraseIdx i) < r.length + 1 + masR ls
    omega
theorem mas_col_le (c : Int) : ∀ ls : List (List Int), masR (clR ls c) ≤ masR ls
  | [] => Nat.le_refl _
  | r :: ls => by
    have h0 := mas_col_le c ls
    have h1 := List.length_filter_le (fun x => !decide (x = c)) r
    show (r.filter fun x => !decide (x = c)).length + 1 + masR (clR ls c) ≤ r.length + 1 + masR ls
    omega
theorem mas_col (c : Int) : ∀ {ls : List (List Int)} {r : List Int}, r ∈ ls → c ∈ r → masR (clR ls c) < masR ls
  | [], _, h, _ => absurd h List.not_mem_nil
  | x :: ls, r, h, hc => by
    have h0 := mas_col_le c ls
    have h1 := List.length_filter_le (fun y => !decide (y = c)) x
    show (x.filter fun y => !decide (y = c)).length + 1 + masR (clR ls c) < x.length + 1 + masR ls
    rcases List.mem_cons.1 h with rfl | h
    · have h2 : (r.filter fun y => !decide (y = c)).length < r.length := List.length_filter_lt_length_iff_exists.2 ⟨c, hc, by simp⟩
      omega
    · have := mas_col c h hc
      omega
/-- With enough steps nothing more can be done. -/
theorem red_done {n : Nat} : ∀ (f : Nat) (t : Int → Bool) (ls : List (List Int)), masR ls < f → tkC (redP n f t ls).2 = none ∧ rwI (redP n f t ls).2 = none ∧ clI (redP n f t ls).2 n = none
  | 0, _, _, h => absurd h (Nat.not_lt_zero _)
  | f + 1, t, ls, h => by
    unfold redP
    cases hc : tkC ls with
    | some c =>
      have := mas_filter_lt (fun r => !decide (c ∈ r)) (tkC_some hc) (by simp)
      exact red_done f _ _ (by show masR (tkR ls c) < f; unfold tkR; omega)
    | none =>
      cases hr : rwI ls with
      | some i =>
        have := mas_erase (rwI_some hr).1
        exact red_done f _ _ (by omega)
      | none =>
        cases hl : clI ls n with
        | some c =>
          obtain ⟨-, ⟨r, m1, m2⟩, -⟩ := clI_some hl
          have := mas_col _ m1 m2
          exact red_done f _ _ (by omega)
        | none => exact ⟨hc, hr, hl⟩
theorem red_stay {n : Nat} {t : Int → Bool} {ls : List (List Int)} (h1 : tkC ls = none) (h2 : rwI ls = none) (h3 : clI ls n = none) : ∀ f, redP n f t ls = (t, ls)
  | 0 => rfl
  | f + 1 => by unfold redP; rw [h1, h2, h3]
end Go.Proofs.Ytjjpobpcpgcbaaa
