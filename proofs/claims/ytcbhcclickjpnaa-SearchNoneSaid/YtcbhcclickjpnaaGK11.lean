/- The document's own Reduce of layer 14. Which rows may be left out, plain: all at once is one behind the other. holders of the package reduce: an iterator that reads cells between two rounds. -/
import Derived.Test.YtcbhcclickjpnaaGK10
import Derived.Test.YtcbhcclickjpnaaGK07
namespace Go.Proofs.Ytcbhcclickjpnaa
open Go.RowKit Go.Joins

theorem red_t {n f : Nat} {t : Int → Bool} {ls : List (List Int)} {c : Int} (h : tkC ls = some c) : redP n (f + 1) t ls = redP n f (fun x => t x || decide (x = c)) (tkR ls c) := by
  conv => lhs; unfold redP
  rw [h]
theorem red_r {n f : Nat} {t : Int → Bool} {ls : List (List Int)} {i : Nat} (h : tkC ls = none) (h2 : rwI ls = some i) : redP n (f + 1) t ls = redP n f t (ls.eraseIdx i) := by
  conv => lhs; unfold redP
  rw [h, h2]
theorem red_c {n f : Nat} {t : Int → Bool} {ls : List (List Int)} {c : Nat} (h : tkC ls = none) (h2 : rwI ls = none) (h3 : clI ls n = some c) : redP n (f + 1) t ls = redP n f t (clR ls c) := by
  conv => lhs; unfold redP
  rw [h, h2, h3]
end Go.Proofs.Ytcbhcclickjpnaa
namespace Go.Proofs.Ytcbhcclickjpnaa
open Go.RowKit Go.Joins

theorem sub_sublist14 : ∀ {b a : List Int}, a.Pairwise (· < ·) → b.Pairwise (· < ·) → (∀ x, x ∈ a → x ∈ b) → a.Sublist b
  | [], a, _, _, h => by
    cases a with
    | nil => exact List.Sublist.slnil
    | cons x a => exact absurd (h x (List.mem_cons_self ..)) List.not_mem_nil
  | y :: b, [], _, _, _ => List.nil_sublist _
  | y :: b, x :: a, ha, hb, h => by
    rw [List.pairwise_cons] at ha hb
    by_cases e : x = y
    · subst e
      refine List.Sublist.cons_cons x (sub_sublist14 ha.2 hb.2 fun z hz => ?_)
      rcases List.mem_cons.1 (h z (List.mem_cons_of_mem _ hz)) with e | h1
      · have := ha.1 z hz
        omega
      · exact h1
    · have hx : x ∈ b := (List.mem_cons.1 (h x (List.mem_cons_self ..))).resolve_left e
      have hyx := hb.1 x hx
      refine List.Sublist.cons y (sub_sublist14 (a := x :: a) (by rw [List.pairwise_cons]; exact ha) hb.2 fun z hz => ?_)
      rcases List.mem_cons.1 (h z hz) with e | h1
      · subst e
        rcases List.mem_cons.1 hz with e2 | h2
        · omega
        · have := ha.1 _ h2
          omega
      · exact h1
theorem sub_eq14 {a b : List Int} (ha : a.Pairwise (· < ·)) (hb : b.Pairwise (· < ·)) (h : subR a b = true) (hl : b.length ≤ a.length) : a = b :=
  (sub_sublist14 ha hb (sub_iff14.1 h)).eq_of_length_le hl
theorem sub_trans14 {a b c : List Int} (h1 : subR a b = true) (h2 : subR b c = true) : subR a c = true :=
  sub_iff14.2 fun x hx => sub_iff14.1 h2 x (sub_iff14.1 h1 x hx)
theorem sub_refl14 (a : List Int) : subR a a = true := sub_iff14.2 fun _ h => h
/-- Row k makes row i spare. -/
def domR (ls : List (List Int)) (k i : Nat) : Prop := i ≠ k ∧ subR (ls.getD k []) (ls.getD i []) = true ∧ ((ls.getD k []).length < (ls.getD i []).length ∨ k < i)
def RiseM (ls : List (List Int)) : Prop := ∀ k, (ls.getD k []).Pairwise (· < ·)
theorem rise_m14 {ls : List (List Int)} (h : ∀ r, r ∈ ls → r.Pairwise (· < ·)) : RiseM ls := fun k => by
  rw [List.getD_eq_getElem?_getD]
  cases hk : ls[k]? with
  | none => exact List.Pairwise.nil
  | some r => exact h r (List.mem_of_getElem? hk)
theorem dom_iff14 {ls : List (List Int)} (h : RiseM ls) {k i : Nat} : domR ls k i ↔ ((subR (ls.getD k []) (ls.getD i []) = true ∧ subR (ls.getD i []) (ls.getD k []) = false) ∨ (k < i ∧ subR (ls.getD k []) (ls.getD i []) = true ∧ subR (ls.getD i []) (ls.getD k []) = true)) := by
  unfold domR
  constructor
  · rintro ⟨h1, h2, h3⟩
    by_cases h4 : (ls.getD i []).length ≤ (ls.getD k []).length
    · have e := sub_eq14 (h k) (h i) h2 h4
      refine .inr ⟨by omega, h2, ?_⟩
      rw [e]; exact sub_refl14 _
    · refine .inl ⟨h2, ?_⟩
      rw [Bool.eq_false_iff]
      intro h5
      have := sub_len14 (h i) (h k) (sub_iff14.1 h5)
      omega
  · rintro (⟨h1, h2⟩ | ⟨h1, h2, h3⟩)
    · refine ⟨fun e => ?_, h1, ?_⟩
      · subst e
        rw [h1] at h2; cases h2
      · refine .inl ?_
        have h4 := sub_len14 (h k) (h i) (sub_iff14.1 h1)
        rcases Nat.lt_or_ge (ls.getD k []).length (ls.getD i []).length with h5 | h5
        · exact h5
        · have e := sub_eq14 (h k) (h i) h1 h5
          rw [← e, sub_refl14] at h2
          cases h2
    · exact ⟨by omega, h2, .inr h1⟩
theorem dom_trans14 {ls : List (List Int)} (h : RiseM ls) {a b c : Nat} (h1 : domR ls a b) (h2 : domR ls b c) : domR ls a c := by
  have l1 := sub_len14 (h a) (h b) (sub_iff14.1 h1.2.1)
  have l2 := sub_len14 (h b) (h c) (sub_iff14.1 h2.2.1)
  have hs := sub_trans14 h1.2.1 h2.2.1
  refine ⟨fun e => ?_, hs, ?_⟩
  · subst e
    have e2 := sub_eq14 (h c) (h b) h1.2.1 l2
    have d1 := h1.2.2
    have d2 := h2.2.2
    rw [e2] at d1 d2
    omega
  · have d1 := h1.2.2
    have d2 := h2.2.2
    omega
theorem go_iff14 {ls : List (List Int)} (h : RiseM ls) {i : Nat} : rowGo ls i = true ↔ ∃ k, k < ls.length ∧ domR ls k i := by
  unfold rowGo
  rw [List.any_eq_true]
  constructor
  · rintro ⟨k, hk, hg⟩
    refine ⟨k, List.mem_range.1 hk, (dom_iff14 h).2 ?_⟩
    rw [Bool.or_eq_true, Bool.and_eq_true, Bool.and_eq_true, Bool.and_eq_true, decide_eq_true_iff, Bool.not_eq_true'] at hg
    rcases hg with ⟨g1, g2⟩ | ⟨⟨g1, g2⟩, g3⟩
    · exact .inl ⟨g1, g2⟩
    · exact .inr ⟨g1, g2, g3⟩
  · rintro ⟨k, hk, hd⟩
    refine ⟨k, List.mem_range.2 hk, ?_⟩
    rw [Bool.or_eq_true, Bool.and_eq_true, Bool.and_eq_true, Bool.and_eq_true, decide_eq_true_iff, Bool.not_eq_true']
    rcases (dom_iff14 h).1 hd with ⟨g1, g2⟩ | ⟨g1, g2, g3⟩
    · exact .inl ⟨g1, g2⟩
    · exact .inr ⟨⟨g1, g2⟩, g3⟩
/-- What makes a row spare can be one that is not spare itself. -/
theorem go_least14 {ls : List (List Int)} (h : RiseM ls) : ∀ (m i : Nat), (ls.getD i []).length * (ls.length + 1) + i = m → i < ls.length → rowGo ls i = true → ∃ k, k < ls.length ∧ rowGo ls k = false ∧ domR ls k i := by
  intro m
  induction m using Nat.strongRecOn with
  | _ m ih =>
    intro i hm hi hg
    obtain ⟨k, hk, hd⟩ := (go_iff14 h).1 hg
    cases hgk : rowGo ls k with
    | false => exact ⟨k, hk, hgk, hd⟩
    | true =>
      have hl := sub_len14 (h k) (h i) (sub_iff14.1 hd.2.1)
      have hlt : (ls.getD k []).length * (ls.length + 1) + k < m := by
        rw [← hm]
        rcases Nat.lt_or_ge (ls.getD k []).length (ls.getD i []).length with h5 | h5
        · have := Nat.mul_le_mul_right (ls.length + 1) (show (ls.getD k []).length + 1 ≤ (ls.getD i []).length from h5)
          rw [Nat.add_mul, Nat.one_mul] at this
          omega
        · have e : (ls.getD k []).length = (ls.getD i []).length := by omega
          rw [e]
          have := hd.2.2
          omega
      obtain ⟨k2, h1, h2, h3⟩ := ih _ hlt k rfl hk hgk
      exact ⟨k2, h1, h2, dom_trans14 h h3 hd⟩
/-- The rows that a flag keeps. -/
def keepL : (Nat → Bool) → List (List Int) → List (List Int)
  | _, [] => []
  | f, r :: ls => if f 0 = true then r :: keepL (fun k => f (k + 1)) ls else keepL (fun k => f (k + 1)) ls
theorem keepL_append (f : Nat → Bool) : ∀ (ls ms : List (List Int)), keepL f (ls ++ ms) = keepL f ls ++ keepL (fun k => f (k + ls.length)) ms
  | [], ms => rfl
  | r :: ls, ms => by
    have ih := keepL_append (fun k => f (k + 1)) ls ms
    have e : (fun k => f (k + ls.length + 1)) = fun k => f (k + (r :: ls).length) := rfl
    show (if f 0 = true then r :: keepL _ (ls ++ ms) else keepL _ (ls ++ ms)) = (if f 0 = true then r :: keepL _ ls else keepL _ ls) ++ _
    rw [ih]
    split
    · rfl
    · rfl
theorem keepL_take {f : Nat → Bool} {ls : List (List Int)} {k : Nat} {r : List Int} (h : ls[k]? = some r) : keepL f (ls.take (k + 1)) = if f k = true then keepL f (ls.take k) ++ [r] else keepL f (ls.take k) := by
  have hk : k < ls.length := (List.getElem?_eq_some_iff.1 h).1
  have e : (ls.take k).length = k := by rw [List.length_take]; omega
  rw [List.take_add_one, h, keepL_append, e]
  show _ ++ (if f (0 + k) = true then [r] else []) = _
  rw [Nat.zero_add]
  split
  · rfl
  · rw [List.append_nil]
theorem keepL_len (f : Nat → Bool) : ∀ ls : List (List Int), (keepL f ls).length ≤ ls.length
  | [] => Nat.le_refl _
  | r :: ls => by
    have := keepL_len (fun k => f (k + 1)) ls
    unfold keepL
    split
    · show _ + 1 ≤ _ + 1; omega
    · show _ ≤ _ + 1; omega
theorem keepL_sub (f : Nat → Bool) : ∀ (ls : List (List Int)) {r : List Int}, r ∈ keepL f ls → r ∈ ls
  | [], _, h => h
  | x :: ls, r, h => by
    unfold keepL at h
    split at h
    · rcases List.mem_cons.1 h with e | h
      · exact e ▸ List.mem_cons_self ..
      · exact List.mem_cons_of_mem _ (keepL_sub _ ls h)
    · exact List.mem_cons_of_mem _ (keepL_sub _ ls h)
theorem keepL_all {f : Nat → Bool} : ∀ {ls : List (List Int)}, (∀ k, k < ls.length → f k = true) → keepL f ls = ls
  | [], _ => rfl
  | r :: ls, h => by
    unfold keepL
    rw [if_pos (h 0 (by simp)), keepL_all fun k hk => h (k + 1) (by simpa using hk)]
/-- Where a place stood ahead of the removal of place i. -/
def gapN (i j : Nat) : Nat := if j < i then j else j + 1
theorem keepL_erase : ∀ (f : Nat → Bool) (ls : List (List Int)) (i : Nat), i < ls.length → f i = false → keepL (fun j => f (gapN i j)) (ls.eraseIdx i) = keepL f ls
  | f, [], i, h, _ => absurd h (Nat.not_lt_zero _)
  | f, r :: ls, 0, _, hf => by
    show keepL (fun j => f (gapN 0 j)) ls = if f 0 = true then _ else keepL (fun k => f (k + 1)) ls
    rw [hf, if_neg (by decide)]
    rfl
  | f, r :: ls, i + 1, h, hf => by
    have ih := keepL_erase (fun k => f (k + 1)) ls i (by simpa using h) hf
    have e : ∀ j, gapN (i + 1) (j + 1) = gapN i j + 1 := fun j => by
      unfold gapN
      split <;> split <;> omega
    have e0 : gapN (i + 1) 0 = 0 := by unfold gapN; rw [if_pos (Nat.succ_pos _)]
    show (if f (gapN (i + 1) 0) = true then r :: keepL (fun k => f (gapN (i + 1) (k + 1))) (ls.eraseIdx i) else keepL (fun k => f (gapN (i + 1) (k + 1))) (ls.eraseIdx i)) = if f 0 = true then r :: keepL (fun k => f (k + 1)) ls else keepL (fun k => f (k + 1)) ls
    rw [e0]
    have e2 : (fun k => f (gapN (i + 1) (k + 1))) = fun j => f (gapN i j + 1) := by funext j; rw [e]
    rw [e2, ih]
theorem erase_get14 (ls : List (List Int)) (i j : Nat) : (ls.eraseIdx i).getD j [] = ls.getD (gapN i j) [] := by
  rw [List.getD_eq_getElem?_getD, List.getD_eq_getElem?_getD, List.getElem?_eraseIdx]
  unfold gapN
  split <;> rfl
theorem gap_lt {i j k : Nat} : gapN i j < gapN i k ↔ j < k := by unfold gapN; split <;> split <;> omega
theorem gap_inj {i j k : Nat} : gapN i j = gapN i k ↔ j = k := by unfold gapN; split <;> split <;> omega
theorem gap_onto {i k n : Nat} (hk : k < n + 1) (hne : k ≠ i) (hi : i < n + 1) : ∃ j, j < n ∧ gapN i j = k := by
  by_cases h : k < i
  · exact ⟨k, by omega, by unfold gapN; rw [if_pos h]⟩
  · exact ⟨k - 1, by omega, by unfold gapN; rw [if_neg (by omega)]; omega⟩
theorem rise_erase14 {ls : List (List Int)} (h : RiseM ls) (i : Nat) : RiseM (ls.eraseIdx i) := fun k => by rw [erase_get14]; exact h _
theorem dom_erase14 {ls : List (List Int)} {i j k : Nat} : domR (ls.eraseIdx i) j k ↔ domR ls (gapN i j) (gapN i k) := by
  unfold domR
  rw [erase_get14, erase_get14, gap_lt]
  rw [show (k ≠ j ↔ gapN i k ≠ gapN i j) from ⟨fun h e => h (gap_inj.1 e), fun h e => h (gap_inj.2 e)⟩]
theorem go_erase14 {ls : List (List Int)} (h : RiseM ls) {i j : Nat} (hi : i < ls.length) (hg : rowGo ls i = true) : rowGo (ls.eraseIdx i) j = rowGo ls (gapN i j) := by
  have hlen : (ls.eraseIdx i).length = ls.length - 1 := List.length_eraseIdx_of_lt hi
  rw [Bool.eq_iff_iff, go_iff14 h, go_iff14 (rise_erase14 h i)]
  constructor
  · rintro ⟨k, hk, hd⟩
    refine ⟨gapN i k, ?_, dom_erase14.1 hd⟩
    rw [hlen] at hk
    unfold gapN
    split <;> omega
  · rintro ⟨k, hk, hd⟩
    have main : ∀ k, k < ls.length → k ≠ i → domR ls k (gapN i j) → ∃ k, k < (ls.eraseIdx i).length ∧ domR (ls.eraseIdx i) k j := fun k hk hne hd => by
      obtain ⟨k', h1, rfl⟩ := gap_onto (n := ls.length - 1) (by omega) hne (by omega)
      exact ⟨k', by omega, dom_erase14.2 hd⟩
    by_cases e : k = i
    · subst e
      obtain ⟨k2, h1, h2⟩ := (go_iff14 h).1 hg
      exact main k2 h1 (fun e => h2.1 e.symm) (dom_trans14 h h2 hd)
    · exact main k hk e hd
/-- The rows without those that may be left out. -/
def splR (ls : List (List Int)) : List (List Int) := keepL (fun k => !rowGo ls k) ls
theorem spl_erase14 {ls : List (List Int)} (h : RiseM ls) {i : Nat} (hi : i < ls.length) (hg : rowGo ls i = true) : splR (ls.eraseIdx i) = splR ls := by
  unfold splR
  have e : (fun k => !rowGo (ls.eraseIdx i) k) = fun j => (fun k => !rowGo ls k) (gapN i j) := by
    funext j
    show (!rowGo (ls.eraseIdx i) j) = !rowGo ls (gapN i j)
    rw [go_erase14 h hi hg]
  rw [e]
  exact keepL_erase (fun k => !rowGo ls k) ls i hi (by rw [hg]; rfl)
theorem rwI_go {ls : List (List Int)} {i : Nat} (h : rwI ls = some i) : i < ls.length ∧ rowGo ls i = true := by
  unfold rwI at h
  exact ⟨List.mem_range.1 (List.mem_of_find?_eq_some h), List.find?_some h⟩
theorem rwI_none {ls : List (List Int)} (h : rwI ls = none) : ∀ k, k < ls.length → rowGo ls k = false := by
  unfold rwI at h
  intro k hk
  have := List.find?_eq_none.1 h k (List.mem_range.2 hk)
  simpa using this
theorem spl_none14 {ls : List (List Int)} (h : rwI ls = none) : splR ls = ls := keepL_all fun k hk => by
  show (!rowGo ls k) = true
  rw [rwI_none h k hk]; rfl
theorem tk_erase14 {ls : List (List Int)} (h : tkC ls = none) (i : Nat) : tkC (ls.eraseIdx i) = none := by
  unfold tkC at h ⊢
  rw [Option.map_eq_none_iff, List.find?_eq_none] at h ⊢
  exact fun r hr => h r (List.mem_of_mem_eraseIdx hr)
theorem spl_less14 : ∀ (m : Nat) {ls : List (List Int)}, ls.length = m → RiseM ls → masR (splR ls) ≤ masR ls ∧ (splR ls).length ≤ ls.length := by
  intro m
  induction m with
  | zero =>
    intro ls hm _
    have : ls = [] := List.eq_nil_of_length_eq_zero hm
    subst this
    exact ⟨Nat.le_refl _, Nat.le_refl _⟩
  | succ m ih =>
    intro ls hm h
    cases hr : rwI ls with
    | none => rw [spl_none14 hr]; exact ⟨Nat.le_refl _, Nat.le_refl _⟩
    | some i =>
      obtain ⟨hi, hg⟩ := rwI_go hr
      have hlen : (ls.eraseIdx i).length = ls.length - 1 := List.length_eraseIdx_of_lt hi
      have h1 := ih (ls := ls.eraseIdx i) (by omega) (rise_erase14 h i)
      rw [spl_erase14 h hi hg] at h1
      have := mas_erase hi
      omega
theorem spl_lt14 {ls : List (List Int)} (h : RiseM ls) {i : Nat} (hr : rwI ls = some i) : masR (splR ls) < masR ls ∧ (splR ls).length < ls.length := by
  obtain ⟨hi, hg⟩ := rwI_go hr
  have hlen : (ls.eraseIdx i).length = ls.length - 1 := List.length_eraseIdx_of_lt hi
  have h1 := spl_less14 _ (ls := ls.eraseIdx i) rfl (rise_erase14 h i)
  rw [spl_erase14 h hi hg] at h1
  have := mas_erase hi
  omega
/-- All spare rows at once: what the document does one by one. -/
theorem red_rows14 {n : Nat} {t : Int → Bool} : ∀ (F : Nat) (ls : List (List Int)), masR ls < F → RiseM ls → tkC ls = none → ∃ F', redP n F t ls = redP n F' t (splR ls) ∧ masR (splR ls) < F'
  | 0, ls, h, _, _ => absurd h (Nat.not_lt_zero _)
  | F + 1, ls, hF, h, ht => by
    cases hr : rwI ls with
    | none => exact ⟨F + 1, by rw [spl_none14 hr], by rw [spl_none14 hr]; exact hF⟩
    | some i =>
      obtain ⟨hi, hg⟩ := rwI_go hr
      have := mas_erase hi
      obtain ⟨F', h1, h2⟩ := red_rows14 F (ls.eraseIdx i) (by omega) (rise_erase14 h i) (tk_erase14 ht i)
      rw [spl_erase14 h hi hg] at h1 h2
      exact ⟨F', by rw [red_r ht hr]; exact h1, h2⟩
theorem row_len14 {n : Nat} {r : List Int} (h : risL n r) : r.length ≤ n := by
  rw [← row_cnt h.2 h.1]
  unfold crdT
  have := List.countP_le_length (p := fun c : Nat => decide ((c : Int) ∈ r)) (l := List.range n)
  simpa using this
end Go.Proofs.Ytcbhcclickjpnaa
namespace Go.Proofs.Ytcbhcclickjpnaa
open Go.RowKit Go.Joins

attribute [local go_sem] Oper.semAt_some

/-- Is list x another one, that has all numbers of r? -/
def hldB (ls : List (List Int)) (r : List Int) (k : Nat) (x : Int) : Bool := decide (x ≠ (k : Int)) && subR r (ls.getD x.toNat [])
theorem hld_no {ls : List (List Int)} {r l : List Int} {k : Nat} {i : Nat} {x : Int} (hx : l[i]? = some x) (h : hldB ls r k x = false) : (l.take (i + 1)).filter (hldB ls r k) = (l.take i).filter (hldB ls r k) := by
  rw [List.take_add_one, hx, List.filter_append]
  simp [h]
theorem hld_yes {ls : List (List Int)} {r l : List Int} {k : Nat} {i : Nat} {x : Int} (hx : l[i]? = some x) (h : hldB ls r k x = true) : (l.take (i + 1)).filter (hldB ls r k) = (l.take i).filter (hldB ls r k) ++ [x] := by
  rw [List.take_add_one, hx, List.filter_append]
  simp [h]
theorem hld_len (ls : List (List Int)) (r l : List Int) (k i : Nat) : ((l.take i).filter (hldB ls r k)).length ≤ l.length := by
  have h1 := List.length_filter_le (hldB ls r k) (l.take i)
  rw [List.length_take] at h1
  omega
/-- What may come: a list that is there, another one than k, that has all numbers of r. -/
def HoldT (ls : List (List Int)) (r : List Int) (k : Nat) : Type := { x : Int // 0 ≤ x ∧ x < ls.length ∧ hldB ls r k x = true }
def HoldT.i {ls : List (List Int)} {r : List Int} {k : Nat} (x : HoldT ls r k) : Int := x.1
theorem grown_of_below14 {w w' : World} (h : Below w.heap.size w w') : w.grownBy w' none := ⟨h.os, h.tape, h.output, h.size, fun b hb _ => h.block b hb⟩
theorem not_old14 {D : Nat → Prop} {w W : World} (hD : ∀ b, D b → b < w.heap.size) (hb : w.heap.size ≤ W.heap.size) : ∀ b, ¬ D b ∨ W.heap.size ≤ b → ¬ D b := by
  rintro b (h | h)
  · exact h
  · intro hd
    have := hD b hd
    omega
set_option maxHeartbeats 4000000 in
set_option maxRecDepth 100000 in
theorem holds14_in (n : Nat) (l : Nat) (D : Nat → Prop) (b1 b2 b3 : Nat) (V H : Value) (ls hv : List (List Int)) (k : Nat) (r : List Int) (hn : 1 ≤ n) (hk : ls[k]? = some r)
    (hr : ∀ x, x ∈ r → 0 ≤ x ∧ x < hv.length) (hls : ls.length ≤ 100000) (hris : ∀ q, q ∈ ls → q.Pairwise (· < ·)) (hfew : ∀ q, FewOk ls hv r q → ∀ x, x ∈ q → 0 ≤ x ∧ x < ls.length)
    (J Jx : List (HoldT ls r k) → World → Prop) (W : World) (hD : ∀ b, D b → b < W.heap.size)
    (hJ : AbidesFrom W.heap.size J)
    (hY : ∀ pre x W1, J pre W1 → pre.length < 9223372036854775808 → YieldAt Fence.wide (n - 1) Try.prog l #[.int .i64 x.i] W1 fun e W' =>
      (e = .returned (.bool true) ∧ J (pre ++ [x]) W' ∧ KeepC D W1 W') ∨ (e = .returned (.bool false) ∧ Jx (pre ++ [x]) W'))
    (h1 : W.cell? ⟨b1, 0, none⟩ = some V) (h2 : W.cell? ⟨b2, 0, none⟩ = some H) (h3 : W.cell? ⟨b3, 0, none⟩ = some (.int .i64 k)) (d1 : ¬ D b1) (_d2 : ¬ D b2) (d3 : ¬ D b3)
    (hV : MatN W (fun b => ¬ D b) V ls) (hH : MatN W (fun b => ¬ D b) H hv) (h0 : J [] W) :
    CallsIn Fence.wide n Try.prog 104 (#[.func (.yield l) #[] #[]] ++ #[.pointer (some ⟨b1, 0, none⟩), .pointer (some ⟨b2, 0, none⟩), .pointer (some ⟨b3, 0, none⟩)]) W fun e W' => (∃ v, e = .returned v) ∧
      ((∃ xs : List (HoldT ls r k), (∃ q, FewOk ls hv r q ∧ xs.map HoldT.i = q.filter (hldB ls r k)) ∧ J xs W') ∨ (∃ pre : List (HoldT ls r k), True ∧ Jx pre W')) := by
  have HF := fewest14_any (fun b => ¬ D b) V H ls hv k r W hV.here hH hk hr hls
  have hkl : k < ls.length := (List.getElem?_eq_some_iff.1 hk).1
  have hgr : ls.getD k [] = r := by rw [List.getD_eq_getElem?_getD, hk]; rfl
  have hVV := hV
  obtain ⟨AV, cV, rfl, hlV, hcV⟩ := hV
  obtain ⟨bv, ov, rfl, dv, hcv⟩ := hcV (by omega)
  obtain ⟨AH, cH, rfl, -, -⟩ := id hH
  have hrH := Lib.hid hr
  have hlsH := Lib.hid hls
  clear hr hls hcV hH
  refine callsIn_of_wp Try.func104 rfl trivial ?_ rfl
  simp only [Try.ntmps104, List.size_toArray, List.length_cons, List.length_nil, Nat.reduceAdd, Nat.reduceSub, Array.replicate_succ, Array.replicate_zero, List.push_toArray, List.append_toArray, List.nil_append, List.cons_append]
  gi_wp2_with fail
  refine ⟨trivial, (callsIn_wide.2 HF).mono ?_⟩
  rintro e w1 ⟨vq, q, rfl, hq, hI, hb⟩
  have hI' : IntsN w1 (fun b => ¬ D b) vq q := hI.keep (fun _ _ => rfl) (not_old14 hD (Nat.le_refl _))
  have hq2 := Lib.hid (hfew q hq)
  have hqH := Lib.hid hq
  have hJ0 := hJ [] W w1 none h0 (grown_of_below14 hb) (fun r e => by cases e)
  have hkc : KeepC D W w1 := KeepC.of_below hb
  have hs1 := hb.size
  have hIq := hI'
  obtain ⟨Aq, cq, rfl, hlq, hcq⟩ := hI'
  have hst : Hid (∀ (i : Nat) (x : Int), q[i]? = some x → hldB ls r k x = false → (q.take (i + 1)).filter (hldB ls r k) = (q.take i).filter (hldB ls r k)) := Lib.hid (fun i x => hld_no)
  have hst2 : Hid (∀ (i : Nat) (x : Int), q[i]? = some x → hldB ls r k x = true → (q.take (i + 1)).filter (hldB ls r k) = (q.take i).filter (hldB ls r k) ++ [x]) := Lib.hid (fun i x => hld_yes)
  have hln : Hid (∀ i, ((q.take i).filter (hldB ls r k)).length ≤ q.length) := Lib.hid (fun i => hld_len ls r q k i)
  have hall : Hid ((q.take q.length).filter (hldB ls r k) = q.filter (hldB ls r k)) := Lib.hid (by rw [List.take_length])
  clear hI hq hb HF h0 hfew
  gi_wp2
  gi_loopw [6, 12] (fun _ i wr => ∃ (j : Nat) (pre : List (HoldT ls r k)), j ≤ q.length ∧ i = .int .i64 j ∧ Hid (pre.map HoldT.i = (q.take j).filter (hldB ls r k)) ∧ J pre wr ∧ KeepC D w1 wr)
    (fun _ i _ => q.length - (intOf i).toNat)
  case atStart => exact ⟨0, [], Nat.zero_le _, rfl, Lib.hid rfl, hJ0, KeepC.refl _ _⟩
  case round =>
    obtain ⟨j, pre, hj, rfl, hpj, hJs, hkr⟩ := hrel
    have hkW := hkc.trans hkr
    have hsr := hkW.size
    by_cases hlt : j < q.length
    · obtain ⟨x, hx⟩ : ∃ x, q[j]? = some x := ⟨_, List.getElem?_eq_getElem hlt⟩
      obtain ⟨bq, oq, rfl, dq, hcq⟩ := hcq (by omega)
      have z0 := hkr.cell (hcq j x hx) dq
      obtain ⟨x0, x1⟩ := hq2.out x (List.mem_of_getElem? hx)
      obtain ⟨y, rfl⟩ := Int.eq_ofNat_of_zero_le x0
      have hyl : y < ls.length := by omega
      have hxH := Lib.hid hx
      obtain ⟨ly, hly⟩ : ∃ q, ls[y]? = some q := ⟨_, List.getElem?_eq_getElem hyl⟩
      obtain ⟨o1, p1, hi1⟩ := hcv y ly hly
      obtain ⟨o2, p2, hi2⟩ := hcv k r hk
      have e1 := hkW.cell p1 dv
      have e2 := hkW.cell p2 dv
      have c1 := hkW.cell h1 d1
      have c3 := hkW.cell h3 d3
      have i1 := hkW.ints hi1
      have i2 := hkW.ints hi2
      have HA := fun X : After wr => hasall14_any o1 o2 ly r X.1 (((i1.here).below X.2).more X.2.size) (((i2.here).below X.2).more X.2.size) (hris _ (List.mem_of_getElem? hly)) (hris r (List.mem_of_getElem? hk))
      obtain ⟨A1, cc1, rfl, -, -⟩ := id hi1
      obtain ⟨A2, cc2, rfl, -, -⟩ := id hi2
      have f1 := fun X : After wr => After.cell X e1
      have f2 := fun X : After wr => After.cell X e2
      have f3 := fun X : After wr => After.cell X c1
      have f4 := fun X : After wr => After.cell X c3
      have gy : Hid (ls.getD (y : Int).toNat [] = ly) := Lib.hid (by rw [List.getD_eq_getElem?_getD, Int.toNat_natCast, hly]; rfl)
      have y0 : (0 : Int) ≤ (y : Int) := by omega
      have y1 : (y : Int) < (ls.length : Int) := by omega
      have k0 : (0 : Int) ≤ (k : Int) := by omega
      have k1 : (k : Int) < (ls.length : Int) := by omega
      have j0 : (0 : Int) ≤ (j : Int) := by omega
      have j1 : (j : Int) < (q.length : Int) := by omega
      have hkl2 := Lib.hid hkl
      clear hcq hx p1 p2 e1 e2 c1 c3 i1 i2 hi1 hi2 h1 h2 h3 hris hkl hq2 hcv x1 hyl hly
      gi_wp2_with fail
      by_cases hyk : y = k
      · have hB : hldB ls r k (y : Int) = false := by
          unfold hldB
          rw [hyk, decide_eq_false (by simp)]; rfl
        have hs := Lib.hid (hst.out j y hxH.out hB)
        have hne : ((y : Int) != (k : Int)) = false := by rw [hyk]; simp
        clear hB hyk HA hst hst2 hln hall
        refine wpIn_region_after (lets_wide _) (by kernel_rfl) (by kernel_rfl) (by kernel_rfl) ?_
        repeat (first | go_big_quiet_step (fail))
        refine wpQuiet_nil ?_
        intro z
        have hJz := hJ _ wr z.1 none hJs (grown_of_below14 z.2) (fun r e => by cases e)
        have hkz := hkr.trans (KeepC.of_below z.2)
        clear f1 f2 f3 f4 z0
        gi_wp2
        go_roundw
        case rel => exact ⟨j + 1, pre, by omega, by go_num, Lib.hid (by rw [hs.out]; exact hpj.out), hJz, hkz⟩
        case measure => simp [intOf]; omega
      · have hne : ((y : Int) != (k : Int)) = true := by rw [bne_iff_ne]; omega
        cases hsb : subR r ly
        · have hB : hldB ls r k (y : Int) = false := by
            unfold hldB
            rw [gy.out, hsb, Bool.and_false]
          have hs := Lib.hid (hst.out j y hxH.out hB)
          rw [hsb] at HA
          clear hB hyk hst hst2 hln hall hsb
          refine wpIn_region_after (lets_wide _) (by kernel_rfl) (by kernel_rfl) (by kernel_rfl) ?_
          repeat (first | go_big_quiet_step ((go_at_call 106; exact Calls.after_of (HA _))))
          refine wpQuiet_nil ?_
          intro z
          have hJz := hJ _ wr z.1 none hJs (grown_of_below14 z.2) (fun r e => by cases e)
          have hkz := hkr.trans (KeepC.of_below z.2)
          clear f1 f2 f3 f4 z0 HA
          gi_wp2
          go_roundw
          case rel => exact ⟨j + 1, pre, by omega, by go_num, Lib.hid (by rw [hs.out]; exact hpj.out), hJz, hkz⟩
          case measure => simp [intOf]; omega
        · have hB : hldB ls r k (y : Int) = true := by
            unfold hldB
            rw [gy.out, hsb, decide_eq_true (show (y : Int) ≠ k by omega)]; rfl
          have hs := Lib.hid (hst2.out j y hxH.out hB)
          have hl2 : pre.length ≤ q.length := by
            have h1 := hln.out j
            rw [← hpj.out, List.length_map] at h1
            exact h1
          obtain ⟨xx, hxx⟩ : ∃ xx : HoldT ls r k, xx.i = (y : Int) := ⟨⟨y, y0, y1, hB⟩, rfl⟩
          rw [hsb] at HA
          clear hB hyk hst hst2 hln hall hsb
          refine wpIn_region_mid 17 _ rfl (lets_wide _) (by kernel_rfl) (by kernel_rfl) (by kernel_rfl) ?_
          simp only [List.take_succ_cons, List.take_zero, List.drop_succ_cons, List.drop_zero]
          repeat (first | go_big_quiet_step ((go_at_call 106; exact Calls.after_of (HA _))))
          refine wpQuiet_nil ⟨by rfl, ?_⟩
          intro z K hK
          have hJz := hJ _ wr z.1 none hJs (grown_of_below14 z.2) (fun r e => by cases e)
          have hkz := hkr.trans (KeepC.of_below z.2)
          obtain ⟨fn, tmps, assign, body, hy, hR⟩ := hY _ xx z.1 hJz (by omega)
          rw [hxx] at hy
          have hxx2 := Lib.hid hxx
          clear hxx
          clear f1 f2 f3 f4 z0 HA hY
          gi_wp2
          refine hR.mono ?_
          rintro e W3 (⟨rfl, hJ3, hk3⟩ | ⟨rfl, hJx3⟩)
          · refine hK.out _ _ ?_
            clear hK
            repeat (first | go_big_quiet_step (fail))
            refine wpQuiet_nil ?_
            gi_wp2
            go_roundw
            case rel => exact ⟨j + 1, pre ++ [xx], by omega, by go_num, Lib.hid (by rw [hs.out, List.map_append, hpj.out, ← hxx2.out]; rfl), hJ3, hkz.trans hk3⟩
            case measure => simp [intOf]; omega
          · refine hK.out _ _ ?_
            clear hK
            repeat (first | go_big_quiet_step (fail))
            refine wpQuiet_nil ?_
            gi_wp2
            refine bodyPost_ret (results_none rfl _ _ _) rfl ?_
            exact ⟨⟨_, rfl⟩, .inr ⟨_, trivial, hJx3⟩⟩
    · have e : j = q.length := by omega
      have hjd : ¬ (j : Int) < (q.length : Int) := by omega
      have hJf : Hid (pre.map HoldT.i = q.filter (hldB ls r k)) := Lib.hid (by rw [← hall.out, ← e]; exact hpj.out)
      clear e hst hst2 hln hall
      gi_wp2
      go_end0
      exact ⟨⟨_, rfl⟩, .inl ⟨_, ⟨q, hqH.out, hJf.out⟩, hJs⟩⟩
/-- The iterator value that holders hands back, made in w. -/
theorem holds14_stops (n : Nat) (D : Nat → Prop) (b1 b2 b3 : Nat) (V H : Value) (ls hv : List (List Int)) (k : Nat) (r : List Int) (w : World) (hn : 1 ≤ n) (hk : ls[k]? = some r)
    (hr : ∀ x, x ∈ r → 0 ≤ x ∧ x < hv.length) (hls : ls.length ≤ 100000) (hris : ∀ q, q ∈ ls → q.Pairwise (· < ·)) (hfew : ∀ q, FewOk ls hv r q → ∀ x, x ∈ q → 0 ≤ x ∧ x < ls.length)
    (hD : ∀ b, D b → b < w.heap.size)
    (h1 : w.cell? ⟨b1, 0, none⟩ = some V) (h2 : w.cell? ⟨b2, 0, none⟩ = some H) (h3 : w.cell? ⟨b3, 0, none⟩ = some (.int .i64 k)) (d1 : ¬ D b1) (d2 : ¬ D b2) (d3 : ¬ D b3)
    (hV : MatN w (fun b => ¬ D b) V ls) (hH : MatN w (fun b => ¬ D b) H hv) :
    SeqStopsK Fence.wide n Try.prog 104 #[.pointer (some ⟨b1, 0, none⟩), .pointer (some ⟨b2, 0, none⟩), .pointer (some ⟨b3, 0, none⟩)] (fun x : HoldT ls r k => #[.int .i64 x.i]) (KeepC D)
      (fun xs => ∃ q, FewOk ls hv r q ∧ xs.map HoldT.i = q.filter (hldB ls r k)) (fun _ => True) 9223372036854775808 w := fun l J Jx W hW hJ _ hY h0 =>
  have hk' : KeepC D w W := KeepC.of_below hW
  holds14_in n l D b1 b2 b3 V H ls hv k r hn hk hr hls hris hfew J Jx W (fun b hb => Nat.lt_of_lt_of_le (hD b hb) hW.size) hJ hY (hk'.cell h1 d1) (hk'.cell h2 d2) (hk'.cell h3 d3) d1 d2 d3 (hk'.mat hV) (hk'.mat hH) h0
theorem holders14_any (V H : Value) (k : Int) (w : World) (hV : ∃ A n c, V = .slice A n c) (hH : ∃ A n c, H = .slice A n c) :
    Calls Try.prog 103 #[V, H, .int .i64 k] w fun e w' => e = .returned (.func (.func 104) #[] #[.pointer (some ⟨w.heap.size, 0, none⟩), .pointer (some ⟨w.heap.size + 1, 0, none⟩), .pointer (some ⟨w.heap.size + 1 + 1, 0, none⟩)]) ∧
      w' = ((w.alloc (.cells #[V] 22)).alloc (.cells #[H] 22)).alloc (.cells #[.int .i64 k] 3) := by
  have hmf : ∀ (fn : Fn) (first cap : Array Value) (w : World), (Instr.makeFunc fn first cap).run Try.prog w = .ok (.func fn first cap) w := fun _ _ _ _ => rfl
  obtain ⟨A, n, c, rfl⟩ := hV
  obtain ⟨A2, n2, c2, rfl⟩ := hH
  go_enter Try.func103, Try.ntmps103
  go_wp2
  go_ret
  exact ⟨rfl, rfl⟩
end Go.Proofs.Ytcbhcclickjpnaa
