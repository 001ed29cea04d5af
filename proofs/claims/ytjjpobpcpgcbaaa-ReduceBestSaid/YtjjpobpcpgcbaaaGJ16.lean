/- hasAll and fewest of the package reduce. How many lists have a number, how far the rows of one memory reach: plain. -/
import Derived.Test.YtjjpobpcpgcbaaaGJ15
import Derived.Test.YtjjpobpcpgcbaaaGJ14
namespace Go.Proofs.Ytjjpobpcpgcbaaa
open Go.RowKit Go.Joins

theorem sub_len14 : ∀ {b a : List Int}, a.Pairwise (· < ·) → b.Pairwise (· < ·) → (∀ x, x ∈ a → x ∈ b) → a.length ≤ b.length
  | [], a, _, _, h => by
    cases a with
    | nil => exact Nat.le_refl _
    | cons x a => exact absurd (h x (List.mem_cons_self ..)) List.not_mem_nil
  | y :: b, [], _, _, _ => Nat.zero_le _
  | y :: b, x :: a, ha, hb, h => by
    rw [List.pairwise_cons] at ha hb
    by_cases e : x = y
    · subst e
      have := sub_len14 ha.2 hb.2 fun z hz => by
        rcases List.mem_cons.1 (h z (List.mem_cons_of_mem _ hz)) with e | h1
        · have := ha.1 z hz
          omega
        · exact h1
      simpa using this
    · have hx : x ∈ b := (List.mem_cons.1 (h x (List.mem_cons_self ..))).resolve_left e
      have hyx := hb.1 x hx
      have := sub_len14 (a := x :: a) (by rw [List.pairwise_cons]; exact ha) hb.2 fun z hz => by
        rcases List.mem_cons.1 (h z hz) with e | h1
        · subst e
          rcases List.mem_cons.1 hz with e2 | h2
          · omega
          · have := ha.1 _ h2
            omega
        · exact h1
      exact Nat.le_succ_of_le this
theorem sub_iff14 {a b : List Int} : subR a b = true ↔ ∀ x, x ∈ a → x ∈ b := by
  unfold subR
  rw [List.all_eq_true]
  exact forall_congr' fun x => forall_congr' fun _ => decide_eq_true_iff
/-- What stands between the rows when k of the short row are found and a of the long one are passed over. -/
structure HasI (xs ys : List Int) (a k : Nat) : Prop where
  ha : a ≤ xs.length
  got : ∀ j y, j < k → ys[j]? = some y → y ∈ xs
  past : ∀ q x, q < a → xs[q]? = some x → ∀ j y, k ≤ j → ys[j]? = some y → x < y
theorem HasI.zero (xs ys : List Int) : HasI xs ys 0 0 := ⟨Nat.zero_le _, fun _ _ h => absurd h (Nat.not_lt_zero _), fun _ _ h => absurd h (Nat.not_lt_zero _)⟩
theorem rise_get14 {l : List Int} (h : l.Pairwise (· < ·)) {i j : Nat} {x y : Int} (hi : l[i]? = some x) (hj : l[j]? = some y) (hij : i < j) : x < y := by
  obtain ⟨h1, rfl⟩ := List.getElem?_eq_some_iff.1 hi
  obtain ⟨h2, rfl⟩ := List.getElem?_eq_some_iff.1 hj
  exact List.pairwise_iff_getElem.1 h i j h1 h2 hij
theorem HasI.step {xs ys : List Int} {a k : Nat} {x y : Int} (h : HasI xs ys a k) (ry : ys.Pairwise (· < ·)) (hx : xs[a]? = some x) (hy : ys[k]? = some y) (hlt : x < y) : HasI xs ys (a + 1) k := by
  refine ⟨(List.getElem?_eq_some_iff.1 hx).1, h.got, fun q z hq hz j u hj hu => ?_⟩
  by_cases e : q = a
  · subst e
    rw [hx] at hz
    injection hz with hz
    subst hz
    by_cases e2 : k = j
    · subst e2
      rw [hy] at hu
      injection hu with hu
      omega
    · have := rise_get14 ry hy hu (by omega)
      omega
  · exact h.past q z (by omega) hz j u hj hu
theorem HasI.found {xs ys : List Int} {a k : Nat} {y : Int} (h : HasI xs ys a k) (hx : xs[a]? = some y) (hy : ys[k]? = some y) : HasI xs ys a (k + 1) := by
  refine ⟨h.ha, fun j z hj hz => ?_, fun q x hq hx j u hj hu => h.past q x hq hx j u (by omega) hu⟩
  by_cases e : j = k
  · subst e
    rw [hy] at hz
    injection hz with hz
    subst hz
    exact List.mem_of_getElem? hx
  · exact h.got j z (by omega) hz
theorem HasI.no {xs ys : List Int} {a k : Nat} {y : Int} (h : HasI xs ys a k) (rx : xs.Pairwise (· < ·)) (hy : ys[k]? = some y) (ht : ∀ x, xs[a]? = some x → y < x) : subR ys xs = false := by
  rw [Bool.eq_false_iff]
  intro hs
  obtain ⟨q, hq⟩ := List.mem_iff_getElem?.1 (sub_iff14.1 hs y (List.mem_of_getElem? hy))
  rcases Nat.lt_trichotomy q a with h1 | h1 | h1
  · have := h.past q y h1 hq k y (Nat.le_refl _) hy
    omega
  · subst h1
    have := ht y hq
    omega
  · have hlt := (List.getElem?_eq_some_iff.1 hq).1
    have := ht _ (List.getElem?_eq_getElem (show a < xs.length by omega))
    have := rise_get14 rx (List.getElem?_eq_getElem (show a < xs.length by omega)) hq h1
    omega
set_option maxHeartbeats 2000000 in
set_option maxRecDepth 100000 in
theorem hasall14_any (v u : Value) (xs ys : List Int) (w : World) (hx : IntsAt w w.heap.size v xs) (hy : IntsAt w w.heap.size u ys) (rx : xs.Pairwise (· < ·)) (ry : ys.Pairwise (· < ·)) :
    Calls Try.prog 59 #[v, u] w fun e w' => e = .returned (.bool (subR ys xs)) ∧ Below w.heap.size w w' := by
  obtain ⟨A, c, rfl, hlx, hcx⟩ := hx
  obtain ⟨A2, c2, rfl, hly, hcy⟩ := hy
  have hless : Hid (xs.length < ys.length → subR ys xs = false) := Lib.hid (fun h => by
    rw [Bool.eq_false_iff]
    intro hs
    have := sub_len14 ry rx (sub_iff14.1 hs)
    omega)
  have hyes : Hid (∀ a, HasI xs ys a ys.length → subR ys xs = true) := Lib.hid (fun a h => sub_iff14.2 fun y hy => by
    obtain ⟨j, hj⟩ := List.mem_iff_getElem?.1 hy
    exact h.got j y (List.getElem?_eq_some_iff.1 hj).1 hj)
  have hno : Hid (∀ (a k : Nat) (y : Int), HasI xs ys a k → ys[k]? = some y → (∀ x, xs[a]? = some x → y < x) → subR ys xs = false) := Lib.hid (fun a k y h hy ht => h.no rx hy ht)
  have hst : Hid (∀ (a k : Nat) (x y : Int), HasI xs ys a k → xs[a]? = some x → ys[k]? = some y → x < y → HasI xs ys (a + 1) k) := Lib.hid (fun a k x y h h1 h2 h3 => h.step ry h1 h2 h3)
  clear rx ry
  generalize subR ys xs = R at *
  go_enter Try.func59, Try.ntmps59
  by_cases hl : xs.length < ys.length
  · have hd : decide ((xs.length : Int) < (ys.length : Int)) = true := decide_eq_true (by omega)
    have hr := Lib.hid (hless.out hl)
    have hl2 : (xs.length : Int) < (ys.length : Int) := by omega
    clear hl hcx hcy
    go_wp2
    go_ret
    exact ⟨by rw [hr.out]; rfl, Below.refl _ _⟩
  have hd : decide ((xs.length : Int) < (ys.length : Int)) = false := decide_eq_false (by omega)
  have hl2 : ¬ (xs.length : Int) < (ys.length : Int) := by omega
  clear hl hless
  go_wp2
  clear hd hl2
  go_loopw [5, 7, 15] (fun a _ t wr => ∃ i k : Nat, a = .int .i64 i ∧ k ≤ ys.length ∧ t = .int .i64 k ∧ i ≤ xs.length ∧ Hid (HasI xs ys i k) ∧ w = wr) (fun _ _ t _ => ys.length - (intOf t).toNat)
  case atStart => exact ⟨0, 0, rfl, by omega, rfl, by omega, Lib.hid (HasI.zero _ _), rfl⟩
  case round =>
    obtain ⟨i, k, rfl, hk, rfl, hi, hI, rfl⟩ := hrel
    by_cases hlt : k < ys.length
    · obtain ⟨b, off, rfl, hB, hc⟩ := hcy (by omega)
      obtain ⟨y, hy⟩ : ∃ y, ys[k]? = some y := ⟨_, List.getElem?_eq_getElem hlt⟩
      have c0 := hc k y hy
      have hyH := Lib.hid hy
      clear hc hy hcy
      go_wp2
      go_loopw [5] (fun a wr => ∃ i : Nat, a = .int .i64 i ∧ i ≤ xs.length ∧ Hid (HasI xs ys i k) ∧ w = wr) (fun a _ => xs.length - (intOf a).toNat)
      case atStart => exact ⟨i, rfl, hi, hI, rfl⟩
      case round =>
        clear hI hi
        obtain ⟨i, rfl, hi, hI, rfl⟩ := hrel
        by_cases hlt2 : i < xs.length
        · obtain ⟨b2, off2, rfl, hB2, hc2⟩ := hcx (by omega)
          obtain ⟨x, hx⟩ : ∃ x, xs[i]? = some x := ⟨_, List.getElem?_eq_getElem hlt2⟩
          have d0 := hc2 i x hx
          have hxH := Lib.hid hx
          clear hc2 hx hcx
          have g0 : decide ((i : Int) < (xs.length : Int)) = true := decide_eq_true (by omega)
          by_cases h1 : x < y
          · have g1 : decide (x < y) = true := decide_eq_true h1
            have hI2 := Lib.hid (hst.out i k x y hI.out hxH.out hyH.out h1)
            clear hI hxH h1 hst hno hyes
            go_wp2
            go_roundw
            case rel => exact ⟨i + 1, by go_num, by omega, hI2, by first | rfl | trivial⟩
            case measure => simp [intOf]; omega
          · have g1 : decide (x < y) = false := decide_eq_false h1
            by_cases h2 : x = y
            · subst h2
              have g2 : (x != x) = false := by simp
              have g3 : ((i : Int) == (xs.length : Int)) = false := by rw [beq_eq_false_iff_ne]; omega
              have hI2 : Hid (HasI xs ys i (k + 1)) := Lib.hid (hI.out.found hxH.out hyH.out)
              clear hI hxH h1 hst hno hyes
              go_wp2
              go_roundw
              case rel => exact ⟨i, k + 1, rfl, by omega, by go_num, hi, hI2, by first | rfl | trivial⟩
              case measure => simp [intOf]; omega
            · have g2 : (x != y) = true := by rw [bne_iff_ne]; exact h2
              have g3 : ((i : Int) == (xs.length : Int)) = false := by rw [beq_eq_false_iff_ne]; omega
              have hr := Lib.hid (hno.out i k y hI.out hyH.out fun z hz => by rw [hxH.out] at hz; injection hz with hz; omega)
              clear hI hxH h1 h2 hst hno hyes
              go_wp2
              go_ret
              exact ⟨by rw [hr.out]; rfl, Below.refl _ _⟩
        · have e : i = xs.length := by omega
          have g0 : decide ((i : Int) < (xs.length : Int)) = false := decide_eq_false (by omega)
          have g3 : ((i : Int) == (xs.length : Int)) = true := by rw [beq_iff_eq]; omega
          have hr := Lib.hid (hno.out i k y hI.out hyH.out fun z hz => by
            have := (List.getElem?_eq_some_iff.1 hz).1
            omega)
          clear hI hst hno hyes e hcx
          go_wp2
          go_ret
          exact ⟨by rw [hr.out]; rfl, Below.refl _ _⟩
    · have e : k = ys.length := by omega
      have hkd : decide ((k : Int) < (ys.length : Int)) = false := decide_eq_false (by omega)
      have hr := Lib.hid (hyes.out i (by rw [← e]; exact hI.out))
      clear e hI hst hno hyes hcx hcy
      go_wp2
      go_ret
      exact ⟨by rw [hr.out]; rfl, Below.refl _ _⟩
end Go.Proofs.Ytjjpobpcpgcbaaa
namespace Go.Proofs.Ytjjpobpcpgcbaaa
open Go.RowKit Go.Joins

/-- The lists that have y, when the first k lists and j numbers of the next are passed. -/
def ctX (ls : List (List Int)) (k j y : Nat) : List Int := whK ls (y : Int) k ++ if (y : Int) ∈ (ls.getD k []).take j then [(k : Int)] else []
def nS (ls : List (List Int)) (y : Nat) : Nat := (whr ls (y : Int)).length
def preS (ls : List (List Int)) : Nat → Nat
  | 0 => 0
  | y + 1 => preS ls y + nS ls y
def totK (ls : List (List Int)) (k : Nat) : Nat := ((ls.take k).map List.length).sum
theorem totK_succ {ls : List (List Int)} {k : Nat} {r : List Int} (h : ls[k]? = some r) : totK ls (k + 1) = totK ls k + r.length := by
  unfold totK
  rw [List.take_add_one, h, List.map_append, List.sum_append]
  simp
theorem totK_le {ls : List (List Int)} (h : ∀ r, r ∈ ls → r.length ≤ 4000) : ∀ k, totK ls k ≤ 4000 * k
  | 0 => by simp [totK]
  | k + 1 => by
    have ih := totK_le h k
    cases hk : ls[k]? with
    | some r =>
      rw [totK_succ hk]
      have := h r (List.mem_of_getElem? hk)
      omega
    | none =>
      have e : totK ls (k + 1) = totK ls k := by
        unfold totK
        rw [List.take_add_one, hk]
        simp
      rw [e]; omega
theorem ct_start (ls : List (List Int)) (k y : Nat) : ctX ls k 0 y = whK ls (y : Int) k := by
  unfold ctX
  rw [List.take_zero, if_neg List.not_mem_nil, List.append_nil]
theorem ct_row {ls : List (List Int)} {k : Nat} {r : List Int} (h : ls[k]? = some r) (y : Nat) : ctX ls k r.length y = whK ls (y : Int) (k + 1) := by
  have e : ls.getD k [] = r := by rw [List.getD_eq_getElem?_getD, h]; rfl
  unfold ctX
  rw [e, List.take_length, whK_succ h]
  split
  · rfl
  · rw [List.append_nil]
theorem ct_hit {ls : List (List Int)} {k j y : Nat} {r : List Int} (h : ls[k]? = some r) (hr : r.Pairwise (· < ·)) (hj : r[j]? = some (y : Int)) : ctX ls k (j + 1) y = ctX ls k j y ++ [(k : Int)] := by
  have e : ls.getD k [] = r := by rw [List.getD_eq_getElem?_getD, h]; rfl
  have h1 : (y : Int) ∈ r.take (j + 1) := by
    rw [List.take_add_one, hj]
    exact List.mem_append.2 (.inr (List.mem_singleton.2 rfl))
  have h2 : ¬ (y : Int) ∈ r.take j := fun hm => by
    obtain ⟨i, hi⟩ := List.mem_iff_getElem?.1 hm
    rw [List.getElem?_take] at hi
    split at hi
    · rename_i hij
      have := rise_get14 hr hi hj hij
      omega
    · cases hi
  unfold ctX
  rw [e, if_pos h1, if_neg h2, List.append_nil]
theorem ct_miss {ls : List (List Int)} {k j y z : Nat} {r : List Int} (h : ls[k]? = some r) (hj : r[j]? = some (y : Int)) (hne : z ≠ y) : ctX ls k (j + 1) z = ctX ls k j z := by
  have e : ls.getD k [] = r := by rw [List.getD_eq_getElem?_getD, h]; rfl
  unfold ctX
  rw [e, List.take_add_one, hj]
  have : ((z : Int) ∈ r.take j ++ (some (y : Int)).toList) ↔ (z : Int) ∈ r.take j := by
    rw [List.mem_append]
    constructor
    · rintro (h | h)
      · exact h
      · have : (z : Int) = y := by simpa using h
        omega
    · exact .inl
  simp only [this]
theorem whK_mono (ls : List (List Int)) (c : Int) (k : Nat) : ∀ d, (whK ls c k).length ≤ (whK ls c (k + d)).length
  | 0 => Nat.le_refl _
  | d + 1 => by
    have ih := whK_mono ls c k d
    have h : (whK ls c (k + d)).length ≤ (whK ls c (k + d + 1)).length := by
      unfold whK
      rw [List.length_map, List.length_map, List.range_succ, List.filter_append, List.length_append]
      omega
    exact Nat.le_trans ih h
theorem whK_le {ls : List (List Int)} {c : Int} {k : Nat} (hk : k ≤ ls.length) : (whK ls c k).length ≤ (whr ls c).length := by
  have := whK_mono ls c k (ls.length - k)
  rw [show k + (ls.length - k) = ls.length by omega, whK_all] at this
  exact this
theorem ct_le {ls : List (List Int)} {k j : Nat} {r : List Int} (h : ls[k]? = some r) (y : Nat) : (ctX ls k j y).length ≤ nS ls y := by
  have hk : k < ls.length := (List.getElem?_eq_some_iff.1 h).1
  have e : ls.getD k [] = r := by rw [List.getD_eq_getElem?_getD, h]; rfl
  have h1 := whK_le (c := (y : Int)) (show k + 1 ≤ ls.length from hk)
  rw [whK_succ h] at h1
  unfold ctX nS
  rw [e]
  by_cases hm : (y : Int) ∈ r.take j
  · rw [if_pos hm]
    rw [if_pos (List.mem_of_mem_take hm)] at h1
    exact h1
  · rw [if_neg hm, List.append_nil]
    have := whK_le (c := (y : Int)) (show k ≤ ls.length by omega)
    exact this
theorem ct_lt {ls : List (List Int)} {k j y : Nat} {r : List Int} (h : ls[k]? = some r) (hr : r.Pairwise (· < ·)) (hj : r[j]? = some (y : Int)) : (ctX ls k j y).length < nS ls y := by
  have h1 := ct_le (j := j + 1) h y
  rw [ct_hit h hr hj, List.length_append] at h1
  exact h1
theorem pre_mono (ls : List (List Int)) : ∀ {a b : Nat}, a ≤ b → preS ls a ≤ preS ls b
  | a, 0, h => by
    have : a = 0 := by omega
    subst this
    exact Nat.le_refl _
  | a, b + 1, h => by
    by_cases e : a = b + 1
    · subst e; exact Nat.le_refl _
    · have := pre_mono ls (show a ≤ b by omega)
      show _ ≤ preS ls b + nS ls b
      omega
theorem row_cnt {n : Nat} : ∀ {r : List Int}, r.Pairwise (· < ·) → (∀ x, x ∈ r → 0 ≤ x ∧ x < n) → crdT n (fun c => decide (c ∈ r)) = r.length
  | [], _, _ => by
    have : (fun c : Int => decide (c ∈ ([] : List Int))) = fun _ => false := by funext c; simp
    rw [this, crd_zero]; rfl
  | x :: r, hr, hx => by
    rw [List.pairwise_cons] at hr
    have ih := row_cnt hr.2 fun y hy => hx y (List.mem_cons_of_mem _ hy)
    obtain ⟨h0, h1⟩ := hx x (List.mem_cons_self ..)
    obtain ⟨c, rfl⟩ := Int.eq_ofNat_of_zero_le h0
    have h2 := crd_less (T := fun d => decide (d ∈ (c : Int) :: r)) (c := c) (by simp) n
    rw [if_pos (by omega)] at h2
    have e : (fun d : Int => decide (d ∈ (c : Int) :: r) && !decide (d = (c : Int))) = fun d => decide (d ∈ r) := by
      funext d
      by_cases e : d = (c : Int)
      · subst e
        have : ¬ (c : Int) ∈ r := fun hm => by have := hr.1 _ hm; omega
        simp [this]
      · simp [e]
    rw [e, ih] at h2
    rw [← h2]; rfl
def sumN (n : Nat) (f : Nat → Nat) : Nat := ((List.range n).map f).sum
theorem sumN_succ (n : Nat) (f : Nat → Nat) : sumN (n + 1) f = sumN n f + f n := by
  unfold sumN
  rw [List.range_succ, List.map_append, List.sum_append]
  simp
theorem sumN_add (f g : Nat → Nat) : ∀ n, sumN n (fun y => f y + g y) = sumN n f + sumN n g
  | 0 => rfl
  | n + 1 => by rw [sumN_succ, sumN_succ, sumN_succ, sumN_add f g n]; omega
theorem sumN_crd (T : Int → Bool) : ∀ n, sumN n (fun y => if T (y : Int) = true then 1 else 0) = crdT n T
  | 0 => by simp [sumN, crdT]
  | n + 1 => by rw [sumN_succ, crd_succ, sumN_crd T n]
theorem sumN_ext {f g : Nat → Nat} (h : ∀ y, f y = g y) (n : Nat) : sumN n f = sumN n g := by
  have : f = g := funext h
  rw [this]
theorem sum_wh {ls : List (List Int)} {n : Nat} (hr : ∀ r, r ∈ ls → risL n r) : ∀ k, k ≤ ls.length → sumN n (fun y => (whK ls (y : Int) k).length) = totK ls k
  | 0, _ => by
    have : ∀ n, sumN n (fun y => (whK ls (y : Int) 0).length) = 0 := fun n => by
      induction n with
      | zero => rfl
      | succ n ih => rw [sumN_succ, ih]; rfl
    rw [this]; rfl
  | k + 1, hk => by
    have ih := sum_wh hr k (by omega)
    obtain ⟨r, h⟩ : ∃ r, ls[k]? = some r := ⟨_, List.getElem?_eq_getElem (show k < ls.length by omega)⟩
    have hrr := hr r (List.mem_of_getElem? h)
    have e : ∀ y : Nat, (whK ls (y : Int) (k + 1)).length = (whK ls (y : Int) k).length + if (decide ((y : Int) ∈ r)) = true then 1 else 0 := fun y => by
      rw [whK_succ h]
      by_cases hm : (y : Int) ∈ r
      · rw [if_pos hm, if_pos (decide_eq_true hm), List.length_append]; rfl
      · rw [if_neg hm, if_neg (by simpa using hm)]; rfl
    rw [sumN_ext e, sumN_add, ih, sumN_crd (fun c => decide (c ∈ r)), row_cnt hrr.2 hrr.1, totK_succ h]
theorem pre_sum (ls : List (List Int)) : ∀ n, preS ls n = sumN n (nS ls)
  | 0 => rfl
  | n + 1 => by rw [sumN_succ, ← pre_sum ls n]; rfl
theorem pre_all {ls : List (List Int)} {n : Nat} (hr : ∀ r, r ∈ ls → risL n r) : preS ls n = totK ls ls.length := by
  rw [pre_sum, ← sum_wh hr ls.length (Nat.le_refl _)]
  rfl
end Go.Proofs.Ytjjpobpcpgcbaaa
