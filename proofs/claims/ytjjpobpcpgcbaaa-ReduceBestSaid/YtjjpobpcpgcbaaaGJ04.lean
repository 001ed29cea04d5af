/- A matrix in memory: a slice of slices of numbers; the document's own Same and SameRows of layer 13. The document's own ahead and Solves of layer 13, and Great. -/
import Derived.Test.YtjjpobpcpgcbaaaGJ03
import Derived.Test.YtjjpobpcpgcbaaaGJ02
namespace Go.Proofs.Ytjjpobpcpgcbaaa
open Go.RowKit Go.Joins

/-- The slice v reads as the rows ls, each a slice of numbers; what it reads lies below block B. -/
def MatAt (w : World) (B : Nat) (v : Value) (ls : List (List Int)) : Prop :=
  ∃ A c, v = .slice A ls.length c ∧ ls.length ≤ 9223372036854775807 ∧
    (0 < ls.length → ∃ b off, A = some ⟨b, off, none⟩ ∧ b < B ∧ ∀ j l, ls[j]? = some l → ∃ ov, w.cell? ⟨b, off + j, none⟩ = some ov ∧ IntsAt w B ov l)
theorem MatAt.below {w w' : World} {B : Nat} {v : Value} {ls : List (List Int)} (h : MatAt w B v ls) (hb : Below B w w') : MatAt w' B v ls := by
  obtain ⟨A, c, e, hl, h⟩ := h
  refine ⟨A, c, e, hl, fun h0 => ?_⟩
  obtain ⟨b, off, eA, hB, hc⟩ := h h0
  refine ⟨b, off, eA, hB, fun j l hx => ?_⟩
  obtain ⟨ov, c0, hi⟩ := hc j l hx
  exact ⟨ov, (hb.cell (p := ⟨b, off + j, none⟩) hB).trans c0, hi.below hb⟩
theorem MatAt.more {w : World} {B B' : Nat} {v : Value} {ls : List (List Int)} (h : MatAt w B v ls) (hB : B ≤ B') : MatAt w B' v ls := by
  obtain ⟨A, c, e, hl, h⟩ := h
  refine ⟨A, c, e, hl, fun h0 => ?_⟩
  obtain ⟨b, off, eA, hb, hc⟩ := h h0
  refine ⟨b, off, eA, by omega, fun j l hx => ?_⟩
  obtain ⟨ov, c0, hi⟩ := hc j l hx
  exact ⟨ov, c0, hi.more hB⟩
theorem mat_nil (w : World) (B : Nat) : MatAt w B (.slice none 0 0) [] := ⟨none, 0, rfl, by decide, fun h => absurd h (by simp)⟩
set_option maxHeartbeats 2000000 in
set_option maxRecDepth 100000 in
theorem rsame13_any (w : World) (v u : Value) (xs ys : List Int) (hx : IntsAt w w.heap.size v xs) (hy : IntsAt w w.heap.size u ys) :
    Calls Try.prog 19 #[v, u] w fun e w' => e = .returned (.bool (decide (xs = ys))) ∧ Below w.heap.size w w' := by
  obtain ⟨A, c, rfl, hlx, hcx⟩ := hx
  obtain ⟨A2, c2, rfl, hly, hcy⟩ := hy
  by_cases hl : xs.length = ys.length
  · have hd : (((xs.length : Nat) : Int) != ((ys.length : Nat) : Int)) = false := by rw [hl]; simp
    have hlH := Lib.hid hl
    clear hl
    go_enter Try.func19, Try.ntmps19
    go_wp2
    clear hd
    go_loopw [5] (fun t wr => ∃ k : Nat, k ≤ xs.length ∧ t = .int .i64 k ∧ Hid (xs.take k = ys.take k) ∧ Below w.heap.size w wr) (fun t _ => xs.length - (intOf t).toNat)
    case atStart => exact ⟨0, by omega, rfl, Lib.hid (by simp), Below.refl _ _⟩
    case round =>
      obtain ⟨k, hk, rfl, hH, hb⟩ := hrel
      by_cases hlt : k < xs.length
      · have hlt' : k < ys.length := by have := hlH.out; omega
        obtain ⟨b, off, rfl, hB, hc⟩ := hcx (by omega)
        obtain ⟨b', off', rfl, hB', hc'⟩ := hcy (by omega)
        obtain ⟨x, hx⟩ : ∃ x, xs[k]? = some x := ⟨_, List.getElem?_eq_getElem hlt⟩
        obtain ⟨y, hy⟩ : ∃ y, ys[k]? = some y := ⟨_, List.getElem?_eq_getElem hlt'⟩
        have q0 := fun X : After wr => After.cell X ((hb.cell (p := ⟨b, off + k, none⟩) hB).trans (hc k x hx))
        have q2 := fun X : After wr => After.cell X ((hb.cell (p := ⟨b', off' + k, none⟩) hB').trans (hc' k y hy))
        have b1 : (0 : Int) ≤ (k : Int) := by omega
        have b2 : (k : Int) < (xs.length : Int) := by omega
        have b3 : (k : Int) < (ys.length : Int) := by omega
        have hxH := Lib.hid hx
        have hyH := Lib.hid hy
        clear hc hc' hcx hcy hx hy
        by_cases hxy : x = y
        · subst hxy
          have hst : Hid (xs.take (k + 1) = ys.take (k + 1)) := Lib.hid (by rw [List.take_add_one, List.take_add_one, hH.out, hxH.out, hyH.out])
          have hd : (x != x) = false := by simp
          clear hH
          go_wp2_with fail
          refine wp_region_after (by kernel_rfl) (by kernel_rfl) ?_
          repeat (first | go_big_quiet_step (fail))
          refine wpQuiet_nil ?_
          intro z
          have hbz := hb.trans (z.2.mono hb.size)
          clear q0 q2
          go_wp2
          go_roundw
          case rel => exact ⟨k + 1, by omega, by go_num, hst, hbz⟩
          case measure => simp [intOf]; omega
        · have hno : Hid (¬ xs = ys) := Lib.hid (fun e => by
            have e1 := hxH.out
            rw [e, hyH.out] at e1
            injection e1 with e1
            exact hxy e1.symm)
          have hd : (x != y) = true := by rw [bne_iff_ne]; exact hxy
          clear hH hxH hyH hxy
          go_wp2_with fail
          refine wp_region_after (by kernel_rfl) (by kernel_rfl) ?_
          repeat (first | go_big_quiet_step (fail))
          refine wpQuiet_nil ?_
          intro z
          have hbz := hb.trans (z.2.mono hb.size)
          clear q0 q2
          go_wp2
          go_ret
          exact ⟨by rw [decide_eq_false hno.out]; rfl, hbz⟩
      · have e : k = xs.length := by omega
        subst e
        have hyes : Hid (xs = ys) := Lib.hid (by
          have := hH.out
          rwa [List.take_length, List.take_of_length_le (by have := hlH.out; omega)] at this)
        clear hcx hcy hH
        go_wp2
        go_ret
        exact ⟨by rw [decide_eq_true hyes.out]; rfl, hb⟩
  · have hd : (((xs.length : Nat) : Int) != ((ys.length : Nat) : Int)) = true := by rw [bne_iff_ne]; intro e; exact hl (by exact_mod_cast e)
    have hno : Hid (¬ xs = ys) := Lib.hid (fun e => hl (by rw [e]))
    clear hl hcx hcy
    go_enter Try.func19, Try.ntmps19
    go_wp2
    go_ret
    exact ⟨by rw [decide_eq_false hno.out]; rfl, Below.refl _ _⟩
set_option maxHeartbeats 2000000 in
set_option maxRecDepth 100000 in
theorem rsameRows13_any (w : World) (v u : Value) (xs ys : List (List Int)) (hx : MatAt w w.heap.size v xs) (hy : MatAt w w.heap.size u ys) :
    Calls Try.prog 13 #[v, u] w fun e w' => e = .returned (.bool (decide (xs = ys))) ∧ Below w.heap.size w w' := by
  obtain ⟨A, c, rfl, hlx, hcx⟩ := hx
  obtain ⟨A2, c2, rfl, hly, hcy⟩ := hy
  by_cases hl : xs.length = ys.length
  · have hd : (((xs.length : Nat) : Int) != ((ys.length : Nat) : Int)) = false := by rw [hl]; simp
    have hlH := Lib.hid hl
    clear hl
    go_enter Try.func13, Try.ntmps13
    go_wp2
    clear hd
    go_loopw [5] (fun t wr => ∃ k : Nat, k ≤ xs.length ∧ t = .int .i64 k ∧ Hid (xs.take k = ys.take k) ∧ Below w.heap.size w wr) (fun t _ => xs.length - (intOf t).toNat)
    case atStart => exact ⟨0, by omega, rfl, Lib.hid (by simp), Below.refl _ _⟩
    case round =>
      obtain ⟨k, hk, rfl, hH, hb⟩ := hrel
      by_cases hlt : k < xs.length
      · have hlt' : k < ys.length := by have := hlH.out; omega
        obtain ⟨b, off, rfl, hB, hc⟩ := hcx (by omega)
        obtain ⟨b', off', rfl, hB', hc'⟩ := hcy (by omega)
        obtain ⟨x, hx⟩ : ∃ x, xs[k]? = some x := ⟨_, List.getElem?_eq_getElem hlt⟩
        obtain ⟨y, hy⟩ : ∃ y, ys[k]? = some y := ⟨_, List.getElem?_eq_getElem hlt'⟩
        obtain ⟨ov, cx, hix⟩ := hc k x hx
        obtain ⟨ou, cy, hiy⟩ := hc' k y hy
        have q0 := fun X : After wr => After.cell X ((hb.cell (p := ⟨b, off + k, none⟩) hB).trans cx)
        have q2 := fun X : After wr => After.cell X ((hb.cell (p := ⟨b', off' + k, none⟩) hB').trans cy)
        have HS := fun X : After wr => rsame13_any X.1 ov ou x y ((hix.below (hb.trans (X.2.mono hb.size))).more (by have := hb.size; have := X.2.size; omega)) ((hiy.below (hb.trans (X.2.mono hb.size))).more (by have := hb.size; have := X.2.size; omega))
        have b1 : (0 : Int) ≤ (k : Int) := by omega
        have b2 : (k : Int) < (xs.length : Int) := by omega
        have b3 : (k : Int) < (ys.length : Int) := by omega
        have hxH := Lib.hid hx
        have hyH := Lib.hid hy
        clear hc hc' hcx hcy hx hy cx cy hix hiy
        by_cases hxy : x = y
        · have hst : Hid (xs.take (k + 1) = ys.take (k + 1)) := Lib.hid (by rw [List.take_add_one, List.take_add_one, hH.out, hxH.out, hyH.out, hxy])
          rw [decide_eq_true hxy] at HS
          clear hH hxy
          go_wp2_with fail
          refine wp_region_after (by kernel_rfl) (by kernel_rfl) ?_
          repeat (first | go_big_quiet_step (exact Calls.after_of (HS _)))
          refine wpQuiet_nil ?_
          intro z
          have hbz := hb.trans (z.2.mono hb.size)
          clear q0 q2 HS
          go_wp2
          go_roundw
          case rel => exact ⟨k + 1, by omega, by go_num, hst, hbz⟩
          case measure => simp [intOf]; omega
        · have hno : Hid (¬ xs = ys) := Lib.hid (fun e => by
            have e1 := hxH.out
            rw [e, hyH.out] at e1
            injection e1 with e1
            exact hxy e1.symm)
          rw [decide_eq_false hxy] at HS
          clear hH hxH hyH hxy
          go_wp2_with fail
          refine wp_region_after (by kernel_rfl) (by kernel_rfl) ?_
          repeat (first | go_big_quiet_step (exact Calls.after_of (HS _)))
          refine wpQuiet_nil ?_
          intro z
          have hbz := hb.trans (z.2.mono hb.size)
          clear q0 q2 HS
          go_wp2
          go_ret
          exact ⟨by rw [decide_eq_false hno.out]; rfl, hbz⟩
      · have e : k = xs.length := by omega
        subst e
        have hyes : Hid (xs = ys) := Lib.hid (by
          have := hH.out
          rwa [List.take_length, List.take_of_length_le (by have := hlH.out; omega)] at this)
        clear hcx hcy hH
        go_wp2
        go_ret
        exact ⟨by rw [decide_eq_true hyes.out]; rfl, hb⟩
  · have hd : (((xs.length : Nat) : Int) != ((ys.length : Nat) : Int)) = true := by rw [bne_iff_ne]; intro e; exact hl (by exact_mod_cast e)
    have hno : Hid (¬ xs = ys) := Lib.hid (fun e => hl (by rw [e]))
    clear hl hcx hcy
    go_enter Try.func13, Try.ntmps13
    go_wp2
    go_ret
    exact ⟨by rw [decide_eq_false hno.out]; rfl, Below.refl _ _⟩
end Go.Proofs.Ytjjpobpcpgcbaaa
namespace Go.Proofs.Ytjjpobpcpgcbaaa
open Go.RowKit Go.Joins

def lexL : List Int → List Int → Bool
  | x :: a, y :: b => if x = y then lexL a b else decide (x < y)
  | _, _ => false
def aheadL (a b : List Int) : Bool := decide (a.length < b.length) || (decide (a.length = b.length) && lexL a b)
theorem drop_of {α : Type} {xs : List α} {k : Nat} {x : α} (h : xs[k]? = some x) : xs.drop k = x :: xs.drop (k + 1) := by
  obtain ⟨h1, h2⟩ := List.getElem?_eq_some_iff.1 h
  rw [← h2]
  exact List.drop_eq_getElem_cons h1
theorem lex_step {xs ys : List Int} {k : Nat} {x : Int} (hx : xs[k]? = some x) (hy : ys[k]? = some x) : lexL (xs.drop k) (ys.drop k) = lexL (xs.drop (k + 1)) (ys.drop (k + 1)) := by
  rw [drop_of hx, drop_of hy, lexL, if_pos rfl]
theorem lex_ne {xs ys : List Int} {k : Nat} {x y : Int} (hx : xs[k]? = some x) (hy : ys[k]? = some y) (h : ¬ x = y) : lexL (xs.drop k) (ys.drop k) = decide (x < y) := by
  rw [drop_of hx, drop_of hy, lexL, if_neg h]
theorem lex_end {xs ys : List Int} : lexL (xs.drop xs.length) ys = false := by
  rw [List.drop_length]; cases ys <;> rfl
def hitR (cols l : List Int) : Bool := l.any fun x => cols.any fun c => decide (x = c)
def solvesM (ls : List (List Int)) (cols : List Int) : Bool := ls.all (hitR cols)
theorem hit_step {cols l : List Int} {k : Nat} {x : Int} (h : l[k]? = some x) : hitR cols (l.take (k + 1)) = (hitR cols (l.take k) || cols.any fun c => decide (x = c)) := by
  unfold hitR
  rw [List.take_add_one, h]
  simp
theorem any_step {cols : List Int} {k : Nat} {x c : Int} (h : cols[k]? = some c) : ((cols.take (k + 1)).any fun c => decide (x = c)) = (((cols.take k).any fun c => decide (x = c)) || decide (x = c)) := by
  rw [List.take_add_one, h]
  simp
set_option maxHeartbeats 4000000 in
set_option maxRecDepth 100000 in
theorem rsolves13_any (w : World) (v u : Value) (ls : List (List Int)) (cols : List Int) (hv : MatAt w w.heap.size v ls) (hu : IntsAt w w.heap.size u cols) :
    Calls Try.prog 36 #[v, u] w fun e w' => e = .returned (.bool (solvesM ls cols)) ∧ Below w.heap.size w w' := by
  obtain ⟨A, c, rfl, hlv, hcv⟩ := hv
  obtain ⟨A2, c2, rfl, hlu, hcu⟩ := hu
  go_enter Try.func36, Try.ntmps36
  go_wp2
  go_loopw [5] (fun t wr => ∃ i : Nat, i ≤ ls.length ∧ t = .int .i64 i ∧ Hid (∀ j l, j < i → ls[j]? = some l → hitR cols l = true) ∧ Below w.heap.size w wr) (fun t _ => ls.length - (intOf t).toNat)
  case atStart => exact ⟨0, by omega, rfl, Lib.hid (fun j l h => absurd h (Nat.not_lt_zero _)), Below.refl _ _⟩
  case round =>
    obtain ⟨i, hi, rfl, hH, hb⟩ := hrel
    by_cases hil : i < ls.length
    · obtain ⟨b, off, rfl, hB, hc⟩ := hcv (by omega)
      obtain ⟨l, hl⟩ : ∃ l, ls[i]? = some l := ⟨_, List.getElem?_eq_getElem hil⟩
      obtain ⟨ov, c0, A3, c3, rfl, hl3, hc3⟩ := hc i l hl
      have i0 : (0 : Int) ≤ (i : Int) := by omega
      have i1 : (i : Int) < (ls.length : Int) := by omega
      have hlH := Lib.hid hl
      clear hc hcv hl
      go_wp2
      go_loopw [6, 7] (fun s t wj => ∃ k : Nat, k ≤ l.length ∧ t = .int .i64 k ∧ s = .bool (hitR cols (l.take k)) ∧ Below w.heap.size w wj) (fun _ t _ => l.length - (intOf t).toNat)
      case atStart => exact ⟨0, by omega, rfl, rfl, hb⟩
      case round =>
        clear hb
        obtain ⟨k, hk, rfl, rfl, hb⟩ := hrel
        have d0 := (hb.cell (p := ⟨b, off + i, none⟩) hB).trans c0
        by_cases hkl : k < l.length
        · obtain ⟨b3, off3, rfl, hB3, hc3'⟩ := hc3 (by omega)
          obtain ⟨x, hx⟩ : ∃ x, l[k]? = some x := ⟨_, List.getElem?_eq_getElem hkl⟩
          have e0 := hc3' k x hx
          have k0 : (0 : Int) ≤ (k : Int) := by omega
          have k1 : (k : Int) < (l.length : Int) := by omega
          have hst := Lib.hid (hit_step (cols := cols) hx)
          clear hc3 hc3' hx
          go_wp2
          clear d0
          go_loopw [6, 8] (fun s t wk => ∃ m : Nat, m ≤ cols.length ∧ t = .int .i64 m ∧ s = .bool (hitR cols (l.take k) || (cols.take m).any fun c => decide (x = c)) ∧ Below w.heap.size w wk) (fun _ t _ => cols.length - (intOf t).toNat)
          case atStart => exact ⟨0, by omega, rfl, by simp, hb⟩
          case round =>
            clear hb
            obtain ⟨m, hm, rfl, rfl, hb⟩ := hrel
            by_cases hml : m < cols.length
            · obtain ⟨b4, off4, rfl, hB4, hc4⟩ := hcu (by omega)
              obtain ⟨y, hy⟩ : ∃ y, cols[m]? = some y := ⟨_, List.getElem?_eq_getElem hml⟩
              have q0 := fun X : After wr => After.cell X ((hb.cell (p := ⟨b, off + i, none⟩) hB).trans c0)
              have q1 := fun X : After wr => After.cell X ((hb.cell (p := ⟨b3, off3 + k, none⟩) hB3).trans e0)
              have q2 := fun X : After wr => After.cell X ((hb.cell (p := ⟨b4, off4 + m, none⟩) hB4).trans (hc4 m y hy))
              have m0 : (0 : Int) ≤ (m : Int) := by omega
              have m1 : (m : Int) < (cols.length : Int) := by omega
              have hst2 := Lib.hid (any_step (x := x) hy)
              have hxy : (x == y) = decide (x = y) := by by_cases e : x = y <;> simp [e]
              clear hcu hc4 hy
              generalize hs : (hitR cols (l.take k) || (cols.take m).any fun c => decide (x = c)) = s
              have hsH := Lib.hid hs
              clear hs
              cases s
              · go_wp2_with fail
                refine wp_region_after (by kernel_rfl) (by kernel_rfl) ?_
                repeat (first | go_big_quiet_step (fail))
                refine wpQuiet_nil ?_
                intro z
                have hbz := hb.trans (z.2.mono hb.size)
                clear q0 q1 q2
                go_wp2
                go_roundw
                case rel => exact ⟨m + 1, by omega, by go_num, by rw [hst2.out, ← Bool.or_assoc, hsH.out]; simp [], hbz⟩
                case measure => simp [intOf]; omega
              · go_wp2_with fail
                refine wp_region_after (by kernel_rfl) (by kernel_rfl) ?_
                repeat (first | go_big_quiet_step (fail))
                refine wpQuiet_nil ?_
                intro z
                have hbz := hb.trans (z.2.mono hb.size)
                clear q0 q1 q2
                go_wp2
                go_roundw
                case rel => exact ⟨m + 1, by omega, by go_num, by rw [hst2.out, ← Bool.or_assoc, hsH.out]; simp, hbz⟩
                case measure => simp [intOf]; omega
            · have e : m = cols.length := by omega
              subst e
              go_wp2
              go_roundw
              case rel => exact ⟨k + 1, by omega, by go_num, by rw [hst.out, List.take_length], hb⟩
              case measure => simp [intOf]; omega
        · have e : k = l.length := by omega
          subst e
          rw [List.take_length]
          clear hc3
          cases hs : hitR cols l
          · have hno : Hid (solvesM ls cols = false) := Lib.hid (by
              unfold solvesM
              rw [List.all_eq_false]
              exact ⟨l, List.mem_of_getElem? hlH.out, by simp [hs]⟩)
            clear hs
            go_wp2
            go_ret
            exact ⟨by rw [hno.out]; rfl, hb⟩
          · have hst : Hid (∀ j l, j < i + 1 → ls[j]? = some l → hitR cols l = true) := Lib.hid (fun j l' hj hl' => by
              by_cases e : j = i
              · subst e
                rw [hlH.out] at hl'
                injection hl' with hl'
                rw [← hl']; exact hs
              · exact hH.out j l' (by omega) hl')
            clear hs hH
            go_wp2
            go_roundw
            case rel => exact ⟨i + 1, by omega, by go_num, hst, hb⟩
            case measure => simp [intOf]; omega
    · have e : i = ls.length := by omega
      subst e
      have hyes : Hid (solvesM ls cols = true) := Lib.hid (by
        unfold solvesM
        rw [List.all_eq_true]
        intro l hl
        obtain ⟨j, hj, rfl⟩ := List.mem_iff_getElem.1 hl
        exact hH.out j _ hj (List.getElem?_eq_getElem hj))
      clear hcv hcu hH
      go_wp2
      go_ret
      exact ⟨by rw [hyes.out]; rfl, hb⟩
end Go.Proofs.Ytjjpobpcpgcbaaa
