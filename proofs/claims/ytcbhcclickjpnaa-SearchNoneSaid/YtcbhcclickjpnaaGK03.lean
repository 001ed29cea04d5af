/- Which tables are right, by the program: between, the lines' closures, ContainsFunc over numbers and over lines, rightLine, Right. Rows of the package spec: value, cubesRight, outsRight, for every list of rows. Right of the package spec, for every spec. The document's own answers of layer 4: Bit, Covered, Marked, size, Same. The document's own Rows of layer 13. Coverings, plain: what solves one; rows that are chosen by flags. Coverings made smaller, plain: the three reductions as the document says them; nothing is lost. The fewest columns that solve a covering, plain: each choice is tried; what is lost by reducing: nothing. For CoverMore, plain: more columns, all of them, strange ones; and 'append(o, v...)' of numbers. -/
import Derived.Test.YtcbhcclickjpnaaGK02
namespace Go.Proofs.Ytcbhcclickjpnaa
open Go.RowKit Go.Joins

def firstI {α : Type} (p : α → Bool) (l : List α) : Int := match l.findIdx? p with | some k => k | none => -1
theorem firstI_at {α : Type} {p : α → Bool} {l : List α} {k : Nat} {x : α} (h : l[k]? = some x) (hn : (l.take k).any p = false) (hp : p x = true) : firstI p l = k := by
  unfold firstI
  have hk : k < l.length := (List.getElem?_eq_some_iff.1 h).1
  have : l.findIdx? p = some k := by
    rw [List.findIdx?_eq_some_iff_getElem]
    refine ⟨hk, by rw [(List.getElem?_eq_some_iff.1 h).2]; exact hp, fun j hj => ?_⟩
    rw [List.any_eq_false] at hn
    have := hn (l[j]) (List.mem_iff_getElem.2 ⟨j, by simp; omega, by simp⟩)
    simpa using this
  rw [this]
theorem firstI_none {α : Type} {p : α → Bool} {l : List α} (h : l.any p = false) : firstI p l = -1 := by
  unfold firstI
  have : l.findIdx? p = none := by
    rw [List.findIdx?_eq_none_iff]
    intro x hx
    rw [List.any_eq_false] at h
    simpa using h x hx
  rw [this]
theorem firstI_ge {α : Type} (p : α → Bool) (l : List α) : decide (0 ≤ firstI p l) = l.any p := by
  cases h : l.any p
  · rw [firstI_none h]; rfl
  · unfold firstI
    cases hf : l.findIdx? p with
    | none =>
      rw [List.findIdx?_eq_none_iff] at hf
      rw [List.any_eq_true] at h
      obtain ⟨x, hx, hp⟩ := h
      rw [hf x hx] at hp
      cases hp
    | some k => simp
theorem any_take_succ {α : Type} {p : α → Bool} {l : List α} {k : Nat} {x : α} (h : l[k]? = some x) (hn : (l.take k).any p = false) (hp : p x = false) : (l.take (k + 1)).any p = false := by
  have hk : k < l.length := (List.getElem?_eq_some_iff.1 h).1
  rw [List.take_succ_eq_append_getElem hk, List.any_append, hn]
  have : l[k] = x := (List.getElem?_eq_some_iff.1 h).2
  simp [this, hp]
end Go.Proofs.Ytcbhcclickjpnaa
namespace Go.Proofs.Ytcbhcclickjpnaa
open Go.RowKit Go.Joins

end Go.Proofs.Ytcbhcclickjpnaa
namespace Go.Proofs.Ytcbhcclickjpnaa
open Go.RowKit Go.Joins

end Go.Proofs.Ytcbhcclickjpnaa
namespace Go.Proofs.Ytcbhcclickjpnaa
open Go.RowKit Go.Joins

end Go.Proofs.Ytcbhcclickjpnaa
namespace Go.Proofs.Ytcbhcclickjpnaa
open Go.RowKit Go.Joins

/-! ### Sorting by choosing, plain -/
def lenV : Value → Nat
  | .slice _ n _ => n
  | _ => 0
end Go.Proofs.Ytcbhcclickjpnaa
namespace Go.Proofs.Ytcbhcclickjpnaa
open Go.RowKit Go.Joins

theorem solves_all {ls : List (List Int)} {cols : List Int} : solvesM ls cols = true ↔ ∀ x, x ∈ ls → ∃ c, c ∈ x ∧ c ∈ cols := by
  unfold solvesM hitR
  simp only [List.all_eq_true, List.any_eq_true, decide_eq_true_iff]
  exact ⟨fun h x hx => by
    obtain ⟨a, ha, b, hb, e⟩ := h x hx
    exact ⟨a, ha, e ▸ hb⟩, fun h x hx => by
    obtain ⟨c, h1, h2⟩ := h x hx
    exact ⟨c, h1, c, h2, rfl⟩⟩
end Go.Proofs.Ytcbhcclickjpnaa
namespace Go.Proofs.Ytcbhcclickjpnaa
open Go.RowKit Go.Joins

/-- Columns, told by flags, solve rows. -/
def SolT (ls : List (List Int)) (T : Int → Bool) : Prop := ∀ r, r ∈ ls → ∃ c, c ∈ r ∧ T c = true
/-- How many columns below n. -/
def crdT (n : Nat) (T : Int → Bool) : Nat := (List.range n).countP fun c : Nat => T (c : Int)
/-- The column that is taken. -/
def tkC (ls : List (List Int)) : Option Int := (ls.find? fun r => decide (r.length = 1)).map fun r => r.getD 0 0
def tkR (ls : List (List Int)) (c : Int) : List (List Int) := ls.filter fun r => !decide (c ∈ r)
def subR (a b : List Int) : Bool := a.all fun x => decide (x ∈ b)
/-- May row i be left out? -/
def rowGo (ls : List (List Int)) (i : Nat) : Bool := (List.range ls.length).any fun k =>
  (subR (ls.getD k []) (ls.getD i []) && !subR (ls.getD i []) (ls.getD k [])) || (decide (k < i) && subR (ls.getD k []) (ls.getD i []) && subR (ls.getD i []) (ls.getD k []))
def rwI (ls : List (List Int)) : Option Nat := (List.range ls.length).find? (rowGo ls)
/-- The rows that have a column. -/
def whr (ls : List (List Int)) (c : Int) : List Int := ((List.range ls.length).filter fun i => decide (c ∈ ls.getD i [])).map fun i : Nat => (i : Int)
/-- May column c be left out? -/
def lssC (ls : List (List Int)) (n c : Nat) : Bool := decide (0 < (whr ls c).length) && (List.range n).any fun d =>
  decide (d ≠ c) && subR (whr ls c) (whr ls d) && (decide ((whr ls c).length < (whr ls d).length) || decide (d < c))
def clI (ls : List (List Int)) (n : Nat) : Option Nat := (List.range n).find? (lssC ls n)
def clR (ls : List (List Int)) (c : Int) : List (List Int) := ls.map fun r => r.filter fun x => !decide (x = c)
/-- To reduce: columns that are taken, by flags, and the rows that are left. -/
def redP (n : Nat) : Nat → (Int → Bool) → List (List Int) → (Int → Bool) × List (List Int)
  | 0, t, ls => (t, ls)
  | f + 1, t, ls => match tkC ls with
    | some c => redP n f (fun x => t x || decide (x = c)) (tkR ls c)
    | none => match rwI ls with
      | some i => redP n f t (ls.eraseIdx i)
      | none => match clI ls n with
        | some c => redP n f t (clR ls c)
        | none => (t, ls)
theorem tkC_some {ls : List (List Int)} {c : Int} (h : tkC ls = some c) : [c] ∈ ls := by
  unfold tkC at h
  obtain ⟨r, hr, e⟩ := Option.map_eq_some_iff.1 h
  have h1 := List.find?_some hr
  have h2 := List.mem_of_find?_eq_some hr
  have h1 := of_decide_eq_true h1
  match r, h1 with
  | [x], _ =>
    have : x = c := e
    subst this
    exact h2
theorem rwI_some {ls : List (List Int)} {i : Nat} (h : rwI ls = some i) : i < ls.length ∧ ∃ k, k < ls.length ∧ k ≠ i ∧ ∀ x, x ∈ ls.getD k [] → x ∈ ls.getD i [] := by
  unfold rwI at h
  have h1 := List.find?_some h
  have h2 := List.mem_range.1 (List.mem_of_find?_eq_some h)
  refine ⟨h2, ?_⟩
  unfold rowGo at h1
  obtain ⟨k, hk, hg⟩ := List.any_eq_true.1 h1
  have hk := List.mem_range.1 hk
  have sub : ∀ a b : List Int, subR a b = true → ∀ x, x ∈ a → x ∈ b := fun a b h x hx => of_decide_eq_true (List.all_eq_true.1 h x hx)
  rw [Bool.or_eq_true, Bool.and_eq_true, Bool.and_eq_true, Bool.and_eq_true] at hg
  rcases hg with ⟨g1, g2⟩ | ⟨⟨g1, g2⟩, -⟩
  · refine ⟨k, hk, fun e => ?_, sub _ _ g1⟩
    subst e
    rw [g1] at g2; cases g2
  · have := of_decide_eq_true g1
    exact ⟨k, hk, by omega, sub _ _ g2⟩
theorem mem_whr {ls : List (List Int)} {c : Int} {i : Nat} : (i : Int) ∈ whr ls c ↔ i < ls.length ∧ c ∈ ls.getD i [] := by
  unfold whr
  rw [List.mem_map]
  constructor
  · rintro ⟨j, hj, e⟩
    have : j = i := by omega
    subst this
    obtain ⟨h1, h2⟩ := List.mem_filter.1 hj
    exact ⟨List.mem_range.1 h1, of_decide_eq_true h2⟩
  · rintro ⟨h1, h2⟩
    exact ⟨i, List.mem_filter.2 ⟨List.mem_range.2 h1, decide_eq_true h2⟩, rfl⟩
theorem clI_some {ls : List (List Int)} {n c : Nat} (h : clI ls n = some c) : c < n ∧ (∃ r, r ∈ ls ∧ (c : Int) ∈ r) ∧ ∃ d : Nat, d < n ∧ d ≠ c ∧ ∀ r, r ∈ ls → (c : Int) ∈ r → (d : Int) ∈ r := by
  unfold clI at h
  have h1 := List.find?_some h
  have h2 := List.mem_range.1 (List.mem_of_find?_eq_some h)
  refine ⟨h2, ?_⟩
  unfold lssC at h1
  rw [Bool.and_eq_true, decide_eq_true_iff] at h1
  obtain ⟨h0, h1⟩ := h1
  constructor
  · obtain ⟨x, hx⟩ := List.exists_mem_of_length_pos h0
    have hx' := hx
    unfold whr at hx
    obtain ⟨i, -, rfl⟩ := List.mem_map.1 hx
    obtain ⟨hi, hc⟩ := mem_whr.1 hx'
    refine ⟨ls.getD i [], ?_, hc⟩
    rw [List.getD_eq_getElem?_getD, List.getElem?_eq_getElem hi]
    exact List.getElem_mem hi
  · obtain ⟨d, hd, hg⟩ := List.any_eq_true.1 h1
    rw [Bool.and_eq_true, Bool.and_eq_true, decide_eq_true_iff] at hg
    refine ⟨d, List.mem_range.1 hd, hg.1.1, fun r hr hc => ?_⟩
    obtain ⟨i, hi, rfl⟩ := List.mem_iff_getElem.1 hr
    have e : ls.getD i [] = ls[i] := by rw [List.getD_eq_getElem?_getD, List.getElem?_eq_getElem hi]; rfl
    have h3 := of_decide_eq_true (List.all_eq_true.1 hg.1.2 _ (mem_whr.2 ⟨hi, by rw [e]; exact hc⟩))
    have h4 := (mem_whr.1 h3).2
    rwa [e] at h4
/- NOTHING IS LOST. -/
/-- What stands between the rows at the start, the columns that were taken, and the rows that are left. -/
structure RedI (n : Nat) (l0 : List (List Int)) (t : Int → Bool) (ls : List (List Int)) : Prop where
  down : ∀ T, SolT l0 T → ∃ T', SolT ls T' ∧ crdT n T' + crdT n t ≤ crdT n T
  up : ∀ T, SolT ls T → SolT l0 fun x => t x || T x
  off : ∀ r, r ∈ ls → ∀ c, c ∈ r → t c = false
  low : ∀ r, r ∈ ls → ∀ c, c ∈ r → 0 ≤ c ∧ c < n
theorem crd_le {n : Nat} {T U : Int → Bool} (h : ∀ c : Nat, c < n → T c = true → U c = true) : crdT n T ≤ crdT n U := by
  unfold crdT
  refine List.countP_mono_left fun c hc h1 => h c (List.mem_range.1 hc) h1
theorem crd_zero (n : Nat) : crdT n (fun _ => false) = 0 := by
  unfold crdT
  rw [List.countP_eq_zero]
  simp
theorem crd_succ (n : Nat) (T : Int → Bool) : crdT (n + 1) T = crdT n T + if T (n : Int) = true then 1 else 0 := by
  unfold crdT
  rw [List.range_succ, List.countP_append, List.countP_singleton]
/-- One column more. -/
theorem crd_with {T : Int → Bool} {c : Nat} : ∀ n, crdT n (fun x => T x || decide (x = (c : Int))) ≤ crdT n T + if c < n then 1 else 0
  | 0 => by simp [crdT]
  | n + 1 => by
    have ih := crd_with (T := T) (c := c) n
    rw [crd_succ, crd_succ]
    by_cases e : (n : Int) = c
    · have e' : n = c := by omega
      subst e'
      rw [if_neg (Nat.lt_irrefl _)] at ih
      rw [if_pos (Nat.lt_succ_self _)]
      split <;> split <;> omega
    · simp only [decide_eq_false e, Bool.or_false]
      by_cases h : c < n
      · rw [if_pos h] at ih
        rw [if_pos (show c < n + 1 by omega)]
        omega
      · rw [if_neg h] at ih
        rw [if_neg (show ¬ c < n + 1 by omega)]
        omega
/-- One column less. -/
theorem crd_less {T : Int → Bool} {c : Nat} (hc : T (c : Int) = true) : ∀ n, crdT n (fun x => T x && !decide (x = (c : Int))) + (if c < n then 1 else 0) = crdT n T
  | 0 => by simp [crdT]
  | n + 1 => by
    have ih := crd_less hc n
    rw [crd_succ, crd_succ]
    by_cases e : (n : Int) = c
    · have e' : n = c := by omega
      subst e'
      have e3 : (T (n : Int) && !decide ((n : Int) = (n : Int))) = false := by simp
      rw [if_neg (Nat.lt_irrefl _)] at ih
      rw [if_pos (Nat.lt_succ_self _), if_pos hc, if_neg (by rw [e3]; decide)]
      omega
    · have e3 : (T (n : Int) && !decide ((n : Int) = (c : Int))) = T (n : Int) := by rw [decide_eq_false e]; simp
      rw [e3]
      by_cases h : c < n
      · rw [if_pos h] at ih
        rw [if_pos (show c < n + 1 by omega)]
        omega
      · rw [if_neg h] at ih
        rw [if_neg (show ¬ c < n + 1 by omega)]
        omega
theorem red_start {n : Nat} {ls : List (List Int)} (h : ∀ r, r ∈ ls → ∀ c, c ∈ r → 0 ≤ c ∧ c < n) : RedI n ls (fun _ => false) ls where
  down := fun T hT => ⟨T, hT, by rw [crd_zero]; exact Nat.le_refl _⟩
  up := fun T hT r hr => by
    obtain ⟨c, h1, h2⟩ := hT r hr
    exact ⟨c, h1, by show (false || T c) = true; rw [h2]; rfl⟩
  off := fun _ _ _ _ => rfl
  low := h
theorem red_take {n : Nat} {l0 ls : List (List Int)} {t : Int → Bool} {c : Int} (h : RedI n l0 t ls) (hc : [c] ∈ ls) : RedI n l0 (fun x => t x || decide (x = c)) (tkR ls c) := by
  obtain ⟨c0, cn⟩ := h.low _ hc c (List.mem_singleton.2 rfl)
  obtain ⟨k, rfl⟩ := Int.eq_ofNat_of_zero_le c0
  have mem : ∀ r, r ∈ tkR ls k → r ∈ ls ∧ (k : Int) ∉ r := fun r hr => by
    obtain ⟨h1, h2⟩ := List.mem_filter.1 hr
    exact ⟨h1, by simpa using h2⟩
  refine ⟨fun T hT => ?_, fun T hT r hr => ?_, fun r hr x hx => ?_, fun r hr => h.low r (mem r hr).1⟩
  · obtain ⟨T', h1, h2⟩ := h.down T hT
    have hk : T' (k : Int) = true := by
      obtain ⟨x, hx, hT'⟩ := h1 _ hc
      rw [List.mem_singleton.1 hx] at hT'
      exact hT'
    refine ⟨fun x => T' x && !decide (x = (k : Int)), fun r hr => ?_, ?_⟩
    · obtain ⟨m1, m2⟩ := mem r hr
      obtain ⟨x, hx, hT'⟩ := h1 r m1
      refine ⟨x, hx, ?_⟩
      have : x ≠ (k : Int) := fun e => m2 (e ▸ hx)
      show (T' x && !decide (x = (k : Int))) = true
      rw [hT', decide_eq_false this]; rfl
    · have e1 := crd_less hk n
      have e2 := crd_with (T := t) (c := k) n
      rw [if_pos (by omega)] at e1 e2
      omega
  · have h1 : SolT ls (fun x => T x || decide (x = (k : Int))) := fun r hr => by
      by_cases hk : (k : Int) ∈ r
      · exact ⟨k, hk, by show (T k || decide ((k : Int) = k)) = true; simp⟩
      · obtain ⟨c, e1, e2⟩ := hT r (List.mem_filter.2 ⟨hr, by simpa using hk⟩)
        exact ⟨c, e1, by show (T c || decide (c = (k : Int))) = true; rw [e2]; rfl⟩
    obtain ⟨c, e1, e2⟩ := h.up _ h1 r hr
    refine ⟨c, e1, ?_⟩
    have e2 : (t c || (T c || decide (c = (k : Int)))) = true := e2
    show ((t c || decide (c = (k : Int))) || T c) = true
    rw [Bool.or_assoc, Bool.or_comm (decide _) (T c)]
    exact e2
  · obtain ⟨m1, m2⟩ := mem r hr
    show (t x || decide (x = (k : Int))) = false
    rw [h.off r m1 x hx, decide_eq_false (show ¬ x = (k : Int) from fun e => m2 (e ▸ hx))]; rfl
theorem red_row {n : Nat} {l0 ls : List (List Int)} {t : Int → Bool} {i k : Nat} (h : RedI n l0 t ls) (hi : i < ls.length) (hk : k < ls.length) (hne : k ≠ i) (hs : ∀ x, x ∈ ls.getD k [] → x ∈ ls.getD i []) : RedI n l0 t (ls.eraseIdx i) := by
  have gk : ls.getD k [] = ls[k] := by rw [List.getD_eq_getElem?_getD, List.getElem?_eq_getElem hk]; rfl
  have gi : ls.getD i [] = ls[i] := by rw [List.getD_eq_getElem?_getD, List.getElem?_eq_getElem hi]; rfl
  have mem : ∀ r, r ∈ ls.eraseIdx i → r ∈ ls := fun r hr => List.mem_of_mem_eraseIdx hr
  refine ⟨fun T hT => ?_, fun T hT => h.up T fun r hr => ?_, fun r hr => h.off r (mem r hr), fun r hr => h.low r (mem r hr)⟩
  · obtain ⟨T', h1, h2⟩ := h.down T hT
    exact ⟨T', fun r hr => h1 r (mem r hr), h2⟩
  · obtain ⟨j, hj, rfl⟩ := List.mem_iff_getElem.1 hr
    by_cases e : j = i
    · subst e
      have hkm : ls[k] ∈ ls.eraseIdx j := List.mem_eraseIdx_iff_getElem.2 ⟨k, hk, hne, rfl⟩
      obtain ⟨c, h1, h2⟩ := hT _ hkm
      exact ⟨c, by rw [← gi]; exact hs c (by rw [gk]; exact h1), h2⟩
    · exact hT _ (List.mem_eraseIdx_iff_getElem.2 ⟨j, hj, e, rfl⟩)
theorem red_col {n : Nat} {l0 ls : List (List Int)} {t : Int → Bool} {c d : Nat} (h : RedI n l0 t ls) (hc : c < n) (hne : d ≠ c) (hs : ∀ r, r ∈ ls → (c : Int) ∈ r → (d : Int) ∈ r) : RedI n l0 t (clR ls c) := by
  have mem : ∀ r, r ∈ clR ls c → ∃ r0, r0 ∈ ls ∧ ∀ x, x ∈ r ↔ x ∈ r0 ∧ x ≠ (c : Int) := fun r hr => by
    obtain ⟨r0, h0, rfl⟩ := List.mem_map.1 hr
    exact ⟨r0, h0, fun x => by rw [List.mem_filter]; simp⟩
  refine ⟨fun T hT => ?_, fun T hT => h.up T fun r hr => ?_, fun r hr x hx => ?_, fun r hr x hx => ?_⟩
  · obtain ⟨T', h1, h2⟩ := h.down T hT
    by_cases hTc : T' (c : Int) = true
    · refine ⟨fun x => (T' x && !decide (x = (c : Int))) || decide (x = (d : Int)), fun r hr => ?_, ?_⟩
      · obtain ⟨r0, m0, m1⟩ := mem r hr
        obtain ⟨x, hx, e⟩ := h1 r0 m0
        by_cases ex : x = (c : Int)
        · have hd := hs r0 m0 (ex ▸ hx)
          refine ⟨d, (m1 d).2 ⟨hd, by omega⟩, ?_⟩
          show ((T' d && !decide ((d : Int) = c)) || decide ((d : Int) = d)) = true
          simp
        · refine ⟨x, (m1 x).2 ⟨hx, ex⟩, ?_⟩
          show ((T' x && !decide (x = (c : Int))) || decide (x = (d : Int))) = true
          rw [e, decide_eq_false ex]; rfl
      · have e1 := crd_less hTc n
        have e2 := crd_with (T := fun x => T' x && !decide (x = (c : Int))) (c := d) n
        rw [if_pos hc] at e1
        split at e2 <;> omega
    · refine ⟨T', fun r hr => ?_, h2⟩
      obtain ⟨r0, m0, m1⟩ := mem r hr
      obtain ⟨x, hx, e⟩ := h1 r0 m0
      exact ⟨x, (m1 x).2 ⟨hx, fun ex => hTc (ex ▸ e)⟩, e⟩
  · obtain ⟨x, hx, e⟩ := hT _ (List.mem_map.2 ⟨r, hr, rfl⟩)
    exact ⟨x, (List.mem_filter.1 hx).1, e⟩
  · obtain ⟨r0, m0, m1⟩ := mem r hr
    exact h.off r0 m0 x ((m1 x).1 hx).1
  · obtain ⟨r0, m0, m1⟩ := mem r hr
    exact h.low r0 m0 x ((m1 x).1 hx).1
theorem red_inv {n : Nat} {l0 : List (List Int)} : ∀ (f : Nat) (t : Int → Bool) (ls : List (List Int)), RedI n l0 t ls → RedI n l0 (redP n f t ls).1 (redP n f t ls).2
  | 0, _, _, h => h
  | f + 1, t, ls, h => by
    unfold redP
    cases hc : tkC ls with
    | some c => exact red_inv f _ _ (red_take h (tkC_some hc))
    | none =>
      cases hr : rwI ls with
      | some i =>
        obtain ⟨hi, k, hk, hne, hs⟩ := rwI_some hr
        exact red_inv f _ _ (red_row h hi hk hne hs)
      | none =>
        cases hl : clI ls n with
        | some c =>
          obtain ⟨hc', -, d, hd, hne, hs⟩ := clI_some hl
          exact red_inv f _ _ (red_col h hc' hne hs)
        | none => exact h
/-- How much there is to be left out. -/
def masR : List (List Int) → Nat
  | [] => 0
  | r :: ls => r.length + 1 + masR ls
theorem mas_filter (p : List Int → Bool) : ∀ ls : List (List Int), masR (ls.filter p) ≤ masR ls
  | [] => Nat.le_refl _
  | r :: ls => by
    have := mas_filter p ls
    rw [List.filter_cons]
    split
    · show r.length + 1 + _ ≤ r.length + 1 + _; omega
    · show _ ≤ r.length + 1 + _; omega
theorem mas_filter_lt (p : List Int → Bool) : ∀ {ls : List (List Int)} {r : List Int}, r ∈ ls → p r = false → masR (ls.filter p) < masR ls
  | [], _, h, _ => absurd h List.not_mem_nil
  | x :: ls, r, h, hp => by
    have h0 := mas_filter p ls
    rw [List.filter_cons]
    rcases List.mem_cons.1 h with rfl | h
    · rw [if_neg (by rw [hp]; decide)]
      show _ < r.length + 1 + _; omega
    · have h1 := mas_filter_lt p h hp
      split
      · show x.length + 1 + _ < x.length + 1 + _; omega
      · show _ < x.length + 1 + _; omega
theorem mas_erase : ∀ {ls : List (List Int)} {i : Nat}, i < ls.length → masR (ls.eraseIdx i) < masR ls
  | [], _, h => absurd h (Nat.not_lt_zero _)
  | r :: ls, 0, _ => by show masR ls < r.length + 1 + masR ls; omega
  | r :: ls, i + 1, h => by
    have := mas_erase (ls := ls) (i := i) (by simpa using h)
    show r.length + 1 + masR (ls.eraseIdx i) < r.length + 1 + masR ls
    omega
theorem mas_col_le (c : Int) : ∀ ls : List (List Int), masR (clR ls c) ≤ masR ls
  | [] => Nat.le_refl _
  | r :: ls => by
    have h0 := mas_col_le c ls
    have h1 := List.length_filter_le (fun x => !decide (x = c)) r
    show (r.filter fun x => !decide (x = c)).length + 1 + masR (clR ls c) ≤ r.length + 1 + masR ls
    omega
theorem mas_col (c : Int) : ∀ {ls : List (List Int)} {r : List Int}, r ∈ ls → c ∈ r → masR (clR ls c) < masR ls
  | [], _, h, _ => absurd h List.not_mem_nil
  | x :: ls, r, h, hc => by
    have h0 := mas_col_le c ls
    have h1 := List.length_filter_le (fun y => !decide (y = c)) x
    show (x.filter fun y => !decide (y = c)).length + 1 + masR (clR ls c) < x.length + 1 + masR ls
    rcases List.mem_cons.1 h with rfl | h
    · have h2 : (r.filter fun y => !decide (y = c)).length < r.length := List.length_filter_lt_length_iff_exists.2 ⟨c, hc, by simp⟩
      omega
    · have := mas_col c h hc
      omega
/-- With enough steps nothing more can be done. -/
theorem red_done {n : Nat} : ∀ (f : Nat) (t : Int → Bool) (ls : List (List Int)), masR ls < f → tkC (redP n f t ls).2 = none ∧ rwI (redP n f t ls).2 = none ∧ clI (redP n f t ls).2 n = none
  | 0, _, _, h => absurd h (Nat.not_lt_zero _)
  | f + 1, t, ls, h => by
    unfold redP
    cases hc : tkC ls with
    | some c =>
      have := mas_filter_lt (fun r => !decide (c ∈ r)) (tkC_some hc) (by simp)
      exact red_done f _ _ (by show masR (tkR ls c) < f; unfold tkR; omega)
    | none =>
      cases hr : rwI ls with
      | some i =>
        have := mas_erase (rwI_some hr).1
        exact red_done f _ _ (by omega)
      | none =>
        cases hl : clI ls n with
        | some c =>
          obtain ⟨-, ⟨r, m1, m2⟩, -⟩ := clI_some hl
          have := mas_col _ m1 m2
          exact red_done f _ _ (by omega)
        | none => exact ⟨hc, hr, hl⟩
theorem red_stay {n : Nat} {t : Int → Bool} {ls : List (List Int)} (h1 : tkC ls = none) (h2 : rwI ls = none) (h3 : clI ls n = none) : ∀ f, redP n f t ls = (t, ls)
  | 0 => rfl
  | f + 1 => by unfold redP; rw [h1, h2, h3]
end Go.Proofs.Ytcbhcclickjpnaa
namespace Go.Proofs.Ytcbhcclickjpnaa
open Go.RowKit Go.Joins

/-- The columns of a choice. -/
def chL (n ch : Nat) : List Int := ((List.range n).filter fun c => ch.testBit c).map fun c : Nat => (c : Int)
def bestK (n : Nat) (ls : List (List Int)) : Nat → Int
  | 0 => -1
  | k + 1 => if ((decide (bestK n ls k < 0) || decide (((chL n k).length : Int) < bestK n ls k)) && solvesM ls (chL n k)) = true then ((chL n k).length : Int) else bestK n ls k
def bestM (n : Nat) (ls : List (List Int)) : Int := bestK n ls (2 ^ n)
theorem best_spec (n : Nat) (ls : List (List Int)) : ∀ k, (bestK n ls k = -1 ∧ ∀ ch, ch < k → solvesM ls (chL n ch) = false) ∨
    (∃ ch, ch < k ∧ solvesM ls (chL n ch) = true ∧ bestK n ls k = ((chL n ch).length : Int) ∧ ∀ ch', ch' < k → solvesM ls (chL n ch') = true → bestK n ls k ≤ ((chL n ch').length : Int))
  | 0 => .inl ⟨rfl, fun ch h => absurd h (Nat.not_lt_zero _)⟩
  | k + 1 => by
    have hk : bestK n ls (k + 1) = if ((decide (bestK n ls k < 0) || decide (((chL n k).length : Int) < bestK n ls k)) && solvesM ls (chL n k)) = true then ((chL n k).length : Int) else bestK n ls k := rfl
    rcases best_spec n ls k with ⟨h1, h2⟩ | ⟨ch, h1, h2, h3, h4⟩
    · rw [h1] at hk
      cases hs : solvesM ls (chL n k)
      · rw [hs, Bool.and_false, if_neg (by decide)] at hk
        refine .inl ⟨hk, fun ch hc => ?_⟩
        by_cases e : ch = k
        · rw [e]; exact hs
        · exact h2 ch (by omega)
      · rw [hs, Bool.and_true, decide_eq_true (show (-1 : Int) < 0 by decide), Bool.true_or, if_pos rfl] at hk
        refine .inr ⟨k, by omega, hs, hk, fun ch hc h => ?_⟩
        by_cases e : ch = k
        · rw [e, hk]; exact Int.le_refl _
        · rw [h2 ch (by omega)] at h; cases h
    · cases hs : solvesM ls (chL n k)
      · rw [hs, Bool.and_false, if_neg (by decide)] at hk
        refine .inr ⟨ch, by omega, h2, by rw [hk, h3], fun ch' hc h => ?_⟩
        by_cases e : ch' = k
        · rw [e, hs] at h; cases h
        · rw [hk]; exact h4 ch' (by omega) h
      · have hneg : decide (bestK n ls k < 0) = false := decide_eq_false (by rw [h3]; omega)
        rw [hs, Bool.and_true, hneg, Bool.false_or] at hk
        by_cases hl : ((chL n k).length : Int) < bestK n ls k
        · rw [decide_eq_true hl, if_pos rfl] at hk
          refine .inr ⟨k, by omega, hs, hk, fun ch' hc h => ?_⟩
          by_cases e : ch' = k
          · rw [e, hk]; exact Int.le_refl _
          · have := h4 ch' (by omega) h
            rw [hk]; omega
        · rw [decide_eq_false hl, if_neg (by decide)] at hk
          refine .inr ⟨ch, by omega, h2, by rw [hk, h3], fun ch' hc h => ?_⟩
          by_cases e : ch' = k
          · rw [hk, e]; omega
          · rw [hk]; exact h4 ch' (by omega) h
/-- The choice of columns told by flags. -/
def numT (T : Int → Bool) : Nat → Nat
  | 0 => 0
  | n + 1 => if T (n : Int) = true then 2 ^ n + numT T n else numT T n
theorem num_lt (T : Int → Bool) : ∀ n, numT T n < 2 ^ n
  | 0 => Nat.one_pos
  | n + 1 => by
    have := num_lt T n
    have e : 2 ^ (n + 1) = 2 ^ n + 2 ^ n := by rw [Nat.pow_succ]; omega
    show (if T (n : Int) = true then 2 ^ n + numT T n else numT T n) < _
    split <;> omega
theorem num_bit (T : Int → Bool) : ∀ (n c : Nat), c < n → (numT T n).testBit c = T (c : Int)
  | 0, c, h => absurd h (Nat.not_lt_zero _)
  | n + 1, c, h => by
    have hl := num_lt T n
    show (if T (n : Int) = true then 2 ^ n + numT T n else numT T n).testBit c = _
    by_cases e : c = n
    · subst e
      have h0 : (numT T c).testBit c = false := Nat.testBit_lt_two_pow hl
      split
      · rename_i ht
        rw [Nat.testBit_two_pow_add_eq, h0, ht]; rfl
      · rename_i ht
        rw [h0]
        simpa using ht
    · have ih := num_bit T n c (by omega)
      split
      · rw [Nat.testBit_two_pow_add_gt (by omega), ih]
      · exact ih
theorem mem_chL {n ch : Nat} {x : Int} : x ∈ chL n ch ↔ ∃ c : Nat, x = c ∧ c < n ∧ ch.testBit c = true := by
  unfold chL
  rw [List.mem_map]
  constructor
  · rintro ⟨c, hc, rfl⟩
    obtain ⟨h1, h2⟩ := List.mem_filter.1 hc
    exact ⟨c, rfl, List.mem_range.1 h1, h2⟩
  · rintro ⟨c, rfl, h1, h2⟩
    exact ⟨c, List.mem_filter.2 ⟨List.mem_range.2 h1, h2⟩, rfl⟩
theorem chL_len (n ch : Nat) : (chL n ch).length = crdT n fun x => ch.testBit x.toNat := by
  unfold chL crdT
  rw [List.length_map, ← List.countP_eq_length_filter]
  refine List.countP_congr fun c _ => ?_
  show _ ↔ ch.testBit (c : Int).toNat = true
  rw [Int.toNat_natCast]
theorem chL_num (n : Nat) (T : Int → Bool) : (chL n (numT T n)).length = crdT n T := by
  rw [chL_len]
  unfold crdT
  refine List.countP_congr fun c hc => ?_
  show (numT T n).testBit (c : Int).toNat = true ↔ _
  rw [Int.toNat_natCast, num_bit T n c (List.mem_range.1 hc)]
theorem sol_num {n : Nat} {ls : List (List Int)} (hl : ∀ r, r ∈ ls → ∀ c, c ∈ r → 0 ≤ c ∧ c < n) {T : Int → Bool} (h : SolT ls T) : solvesM ls (chL n (numT T n)) = true := by
  rw [solves_all]
  intro r hr
  obtain ⟨c, h1, h2⟩ := h r hr
  obtain ⟨h3, h4⟩ := hl r hr c h1
  refine ⟨c, h1, mem_chL.2 ⟨c.toNat, by omega, by omega, ?_⟩⟩
  rw [num_bit T n _ (by omega), show ((c.toNat : Nat) : Int) = c by omega]
  exact h2
theorem sol_ch {n ch : Nat} {ls : List (List Int)} (h : solvesM ls (chL n ch) = true) : SolT ls fun x => ch.testBit x.toNat := by
  rw [solves_all] at h
  intro r hr
  obtain ⟨c, h1, h2⟩ := h r hr
  obtain ⟨k, rfl, -, h3⟩ := mem_chL.1 h2
  exact ⟨k, h1, by show ch.testBit (k : Int).toNat = true; rw [Int.toNat_natCast]; exact h3⟩
end Go.Proofs.Ytcbhcclickjpnaa
namespace Go.Proofs.Ytcbhcclickjpnaa
open Go.RowKit Go.Joins

/-- Numbers as a row's values. -/
def intI (l : List Int) : List Value := l.map fun x => Value.int .i64 x
theorem intI_len (l : List Int) : (intI l).length = l.length := by unfold intI; simp
theorem own_intI {w : World} {B n : Nat} {v : Value} {o : List Int} (h : w.ownsRow B 3 1 v n (intI o)) : IntsAt w w.heap.size v o := by
  have hn : o.length = n := by have := h.1; rw [intI_len] at this; omega
  rcases h.2 with ⟨rfl, h0⟩ | ⟨g, cap, cur, rfl, hg, hgg, hnc, hcm, hcs, htake⟩
  · have : o = [] := List.eq_nil_of_length_eq_zero (by omega)
    subst this
    exact ⟨none, 0, rfl, by decide, fun h => absurd h (by decide)⟩
  · have hm : maxLen = 9223372036854775807 := rfl
    refine ⟨some ⟨g, 0, none⟩, cap, by rw [hn], by omega, fun _ => ⟨g, 0, rfl, size_of_block hgg, fun j x hx => ?_⟩⟩
    rw [cell_of_block hgg]
    have h2 : (intI o)[j]? = some (Value.int .i64 x) := by unfold intI; rw [List.getElem?_map, hx]; rfl
    rw [← htake, List.getElem?_take] at h2
    split at h2
    · simpa using h2
    · cases h2
set_option maxRecDepth 100000 in
/-- 'append(o, v...)' for a row of the call's own. -/
theorem append13 {w : World} {B : Nat} {V v : Value} {xs l : List Int} (ty : TypeId) (hown : w.ownsRow B 3 1 V xs.length (intI xs)) (hB : B ≤ w.heap.size) (hz : IntsAt w w.heap.size v l) (h1 : xs.length ≤ 100000) (h2 : l.length ≤ 100000) :
    ∃ v' w', (Builtin.append_ #[30, 30] ty #[V, v]).run Try.prog w = .ok v' w' ∧ w'.ownsRow B 3 1 v' (xs ++ l).length (intI (xs ++ l)) ∧ Below B w w' := by
  obtain ⟨i0, hi0, hz0, hz1, hz2⟩ := info_parts Try.infoInt
  obtain ⟨A, c, rfl, hl, hc⟩ := hz
  cases A with
  | none =>
    have h0 : l = [] := by
      cases l with
      | nil => rfl
      | cons x r => obtain ⟨b, off, e, _⟩ := hc (by simp); cases e
    subst h0
    refine ⟨V, w, ?_, by rw [List.append_nil]; exact hown, Below.refl _ _⟩
    rcases hown.2 with ⟨rfl, h⟩ | ⟨g, cap, cur, rfl, _, _, hnc, _⟩
    · simp [Builtin.append_, run_underlying Try.underlying30, sizeOf, typeInfo, hi0, Builtin.lenOf, Builtin.firstCells]
    · simp [Builtin.append_, run_underlying Try.underlying30, sizeOf, typeInfo, hi0, Builtin.lenOf, Builtin.firstCells, hnc, storeCells]
  | some a =>
    obtain ⟨v', w', hrun, ho, hg, -⟩ := run_append_own (P := Try.prog) w B 30 ty 3 i0 (.int .i64 0) 1 8 Try.underlying30 hi0 hz0 hz1 hz2 rfl (by decide) V xs.length (intI xs) hown a l.length c (intI l) (by rw [intI_len, Nat.mul_one])
      (fun j u hj => by
        unfold intI at hj
        rw [List.getElem?_map] at hj
        cases hx : l[j]? with
        | none => rw [hx] at hj; cases hj
        | some x =>
          rw [hx, Option.map_some] at hj
          have hjl := (List.getElem?_eq_some_iff.1 hx).1
          obtain ⟨b, off, e, hb, hcell⟩ := hc (by omega)
          injection e with e
          subst e
          rw [Addr.add_lit, hcell j x hx]
          exact hj)
      (fun u hu => by unfold intI at hu; obtain ⟨x, _, rfl⟩ := List.mem_map.1 hu; rfl) (by unfold maxLen; omega) (by omega) hB
    refine ⟨v', w', hrun, ?_, (Below.refl B w).grown hg hB (fun k hk => (hown.lt k hk).1)⟩
    rw [List.length_append]
    have e : intI (xs ++ l) = intI xs ++ intI l := by unfold intI; rw [List.map_append]
    rw [e]
    exact ho
theorem own_nil13 (w : World) : (w.alloc (.cells #[] 3 (0, 0))).ownsRow w.heap.size 3 1 (.slice (some ⟨w.heap.size, 0, none⟩) 0 0) ([] : List Int).length (intI []) := World.ownsRow_made w #[] 0 (Nat.le_refl _) (Nat.zero_le _) rfl
end Go.Proofs.Ytcbhcclickjpnaa
