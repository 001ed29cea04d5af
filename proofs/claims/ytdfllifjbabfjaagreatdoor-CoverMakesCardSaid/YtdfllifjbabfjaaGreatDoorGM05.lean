/- A matrix in memory: a slice of slices of numbers; the document's own Same and SameRows of layer 13. The document's own ahead and Solves of layer 13, and Great. The document's own Right of layer 13, and Great. -/
import Derived.Test.YtdfllifjbabfjaaGreatDoorGM04
import Derived.Test.YtdfllifjbabfjaaGreatDoorGM03
namespace Go.Proofs.YtdfllifjbabfjaaGreatDoor
open Go.RowKit Go.Joins

/-- The slice v reads as the rows ls, each a slice of numbers; what it reads lies below block B. -/
def MatAt (w : World) (B : Nat) (v : Value) (ls : List (List Int)) : Prop :=
  ∃ A c, v = .slice A ls.length c ∧ ls.length ≤ 9223372036854775807 ∧
    (0 < ls.length → ∃ b off, A = some ⟨b, off, none⟩ ∧ b < B ∧ ∀ j l, ls[j]? = some l → ∃ ov, w.cell? ⟨b, off + j, none⟩ = some ov ∧ IntsAt w B ov l)
theorem MatAt.below {w w' : World} {B : Nat} {v : Value} {ls : List (List Int)} (h : MatAt w B v ls) (hb : Below B w w') : MatAt w' B v ls := by
  obtain ⟨A, c, e, hl, h⟩ := h
  refine ⟨A, c, e, hl, fun h0 => ?_⟩
  obtain ⟨b, off, eA, hB, hc⟩ := h h0
  refine ⟨b, off, eA, hB, fun j l hx => ?_⟩
  obtain ⟨ov, c0, hi⟩ := hc j l hx
  exact ⟨ov, (hb.cell (p := ⟨b, off + j, none⟩) hB).trans c0, hi.below hb⟩
theorem MatAt.more {w : World} {B B' : Nat} {v : Value} {ls : List (List Int)} (h : MatAt w B v ls) (hB : B ≤ B') : MatAt w B' v ls := by
  obtain ⟨A, c, e, hl, h⟩ := h
  refine ⟨A, c, e, hl, fun h0 => ?_⟩
  obtain ⟨b, off, eA, hb, hc⟩ := h h0
  refine ⟨b, off, eA, by omega, fun j l hx => ?_⟩
  obtain ⟨ov, c0, hi⟩ := hc j l hx
  exact ⟨ov, c0, hi.more hB⟩
theorem mat_nil (w : World) (B : Nat) : MatAt w B (.slice none 0 0) [] := ⟨none, 0, rfl, by decide, fun h => absurd h (by simp)⟩
set_option maxHeartbeats 2000000 in
set_option maxRecDepth 100000 in
theorem rsame13_any (w : World) (v u : Value) (xs ys : List Int) (hx : IntsAt w w.heap.size v xs) (hy : IntsAt w w.heap.size u ys) :
    Calls Tryz.prog 27 #[v, u] w fun e w' => e = .returned (.bool (decide (xs = ys))) ∧ Below w.heap.size w w' := by
  obtain ⟨A, c, rfl, hlx, hcx⟩ := hx
  obtain ⟨A2, c2, rfl, hly, hcy⟩ := hy
  by_cases hl : xs.length = ys.length
  · have hd : (((xs.length : Nat) : Int) != ((ys.length : Nat) : Int)) = false := by rw [hl]; simp
    have hlH := Lib.hid hl
    clear hl
    go_enter Tryz.func27, Tryz.ntmps27
    go_wp2
    clear hd
    go_loopw [5] (fun t wr => ∃ k : Nat, k ≤ xs.length ∧ t = .int .i64 k ∧ Hid (xs.take k = ys.take k) ∧ Below w.heap.size w wr) (fun t _ => xs.length - (intOf t).toNat)
    case atStart => exact ⟨0, by omega, rfl, Lib.hid (by simp), Below.refl _ _⟩
    case round =>
      obtain ⟨k, hk, rfl, hH, hb⟩ := hrel
      by_cases hlt : k < xs.length
      · have hlt' : k < ys.length := by have := hlH.out; omega
        obtain ⟨b, off, rfl, hB, hc⟩ := hcx (by omega)
        obtain ⟨b', off', rfl, hB', hc'⟩ := hcy (by omega)
        obtain ⟨x, hx⟩ : ∃ x, xs[k]? = some x := ⟨_, List.getElem?_eq_getElem hlt⟩
        obtain ⟨y, hy⟩ : ∃ y, ys[k]? = some y := ⟨_, List.getElem?_eq_getElem hlt'⟩
        have q0 := fun X : After wr => After.cell X ((hb.cell (p := ⟨b, off + k, none⟩) hB).trans (hc k x hx))
        have q2 := fun X : After wr => After.cell X ((hb.cell (p := ⟨b', off' + k, none⟩) hB').trans (hc' k y hy))
        have b1 : (0 : Int) ≤ (k : Int) := by omega
        have b2 : (k : Int) < (xs.length : Int) := by omega
        have b3 : (k : Int) < (ys.length : Int) := by omega
        have hxH := Lib.hid hx
        have hyH := Lib.hid hy
        clear hc hc' hcx hcy hx hy
        by_cases hxy : x = y
        · subst hxy
          have hst : Hid (xs.take (k + 1) = ys.take (k + 1)) := Lib.hid (by rw [List.take_add_one, List.take_add_one, hH.out, hxH.out, hyH.out])
          have hd : (x != x) = false := by simp
          clear hH
          go_wp2_with fail
          refine wp_region_after (by kernel_rfl) (by kernel_rfl) ?_
          repeat (first | go_big_quiet_step (fail))
          refine wpQuiet_nil ?_
          intro z
          have hbz := hb.trans (z.2.mono hb.size)
          clear q0 q2
          go_wp2
          go_roundw
          case rel => exact ⟨k + 1, by omega, by go_num, hst, hbz⟩
          case measure => simp [intOf]; omega
        · have hno : Hid (¬ xs = ys) := Lib.hid (fun e => by
            have e1 := hxH.out
            rw [e, hyH.out] at e1
            injection e1 with e1
            exact hxy e1.symm)
          have hd : (x != y) = true := by rw [bne_iff_ne]; exact hxy
          clear hH hxH hyH hxy
          go_wp2_with fail
          refine wp_region_after (by kernel_rfl) (by kernel_rfl) ?_
          repeat (first | go_big_quiet_step (fail))
          refine wpQuiet_nil ?_
          intro z
          have hbz := hb.trans (z.2.mono hb.size)
          clear q0 q2
          go_wp2
          go_ret
          exact ⟨by rw [decide_eq_false hno.out]; rfl, hbz⟩
      · have e : k = xs.length := by omega
        subst e
        have hyes : Hid (xs = ys) := Lib.hid (by
          have := hH.out
          rwa [List.take_length, List.take_of_length_le (by have := hlH.out; omega)] at this)
        clear hcx hcy hH
        go_wp2
        go_ret
        exact ⟨by rw [decide_eq_true hyes.out]; rfl, hb⟩
  · have hd : (((xs.length : Nat) : Int) != ((ys.length : Nat) : Int)) = true := by rw [bne_iff_ne]; intro e; exact hl (by exact_mod_cast e)
    have hno : Hid (¬ xs = ys) := Lib.hid (fun e => hl (by rw [e]))
    clear hl hcx hcy
    go_enter Tryz.func27, Tryz.ntmps27
    go_wp2
    go_ret
    exact ⟨by rw [decide_eq_false hno.out]; rfl, Below.refl _ _⟩
set_option maxHeartbeats 2000000 in
set_option maxRecDepth 100000 in
theorem rsameRows13_any (w : World) (v u : Value) (xs ys : List (List Int)) (hx : MatAt w w.heap.size v xs) (hy : MatAt w w.heap.size u ys) :
    Calls Tryz.prog 9 #[v, u] w fun e w' => e = .returned (.bool (decide (xs = ys))) ∧ Below w.heap.size w w' := by
  obtain ⟨A, c, rfl, hlx, hcx⟩ := hx
  obtain ⟨A2, c2, rfl, hly, hcy⟩ := hy
  by_cases hl : xs.length = ys.length
  · have hd : (((xs.length : Nat) : Int) != ((ys.length : Nat) : Int)) = false := by rw [hl]; simp
    have hlH := Lib.hid hl
    clear hl
    go_enter Tryz.func9, Tryz.ntmps9
    go_wp2
    clear hd
    go_loopw [5] (fun t wr => ∃ k : Nat, k ≤ xs.length ∧ t = .int .i64 k ∧ Hid (xs.take k = ys.take k) ∧ Below w.heap.size w wr) (fun t _ => xs.length - (intOf t).toNat)
    case atStart => exact ⟨0, by omega, rfl, Lib.hid (by simp), Below.refl _ _⟩
    case round =>
      obtain ⟨k, hk, rfl, hH, hb⟩ := hrel
      by_cases hlt : k < xs.length
      · have hlt' : k < ys.length := by have := hlH.out; omega
        obtain ⟨b, off, rfl, hB, hc⟩ := hcx (by omega)
        obtain ⟨b', off', rfl, hB', hc'⟩ := hcy (by omega)
        obtain ⟨x, hx⟩ : ∃ x, xs[k]? = some x := ⟨_, List.getElem?_eq_getElem hlt⟩
        obtain ⟨y, hy⟩ : ∃ y, ys[k]? = some y := ⟨_, List.getElem?_eq_getElem hlt'⟩
        obtain ⟨ov, cx, hix⟩ := hc k x hx
        obtain ⟨ou, cy, hiy⟩ := hc' k y hy
        have q0 := fun X : After wr => After.cell X ((hb.cell (p := ⟨b, off + k, none⟩) hB).trans cx)
        have q2 := fun X : After wr => After.cell X ((hb.cell (p := ⟨b', off' + k, none⟩) hB').trans cy)
        have HS := fun X : After wr => rsame13_any X.1 ov ou x y ((hix.below (hb.trans (X.2.mono hb.size))).more (by have := hb.size; have := X.2.size; omega)) ((hiy.below (hb.trans (X.2.mono hb.size))).more (by have := hb.size; have := X.2.size; omega))
        have b1 : (0 : Int) ≤ (k : Int) := by omega
        have b2 : (k : Int) < (xs.length : Int) := by omega
        have b3 : (k : Int) < (ys.length : Int) := by omega
        have hxH := Lib.hid hx
        have hyH := Lib.hid hy
        clear hc hc' hcx hcy hx hy cx cy hix hiy
        by_cases hxy : x = y
        · have hst : Hid (xs.take (k + 1) = ys.take (k + 1)) := Lib.hid (by rw [List.take_add_one, List.take_add_one, hH.out, hxH.out, hyH.out, hxy])
          rw [decide_eq_true hxy] at HS
          clear hH hxy
          go_wp2_with fail
          refine wp_region_after (by kernel_rfl) (by kernel_rfl) ?_
          repeat (first | go_big_quiet_step (exact Calls.after_of (HS _)))
          refine wpQuiet_nil ?_
          intro z
          have hbz := hb.trans (z.2.mono hb.size)
          clear q0 q2 HS
          go_wp2
          go_roundw
          case rel => exact ⟨k + 1, by omega, by go_num, hst, hbz⟩
          case measure => simp [intOf]; omega
        · have hno : Hid (¬ xs = ys) := Lib.hid (fun e => by
            have e1 := hxH.out
            rw [e, hyH.out] at e1
            injection e1 with e1
            exact hxy e1.symm)
          rw [decide_eq_false hxy] at HS
          clear hH hxH hyH hxy
          go_wp2_with fail
          refine wp_region_after (by kernel_rfl) (by kernel_rfl) ?_
          repeat (first | go_big_quiet_step (exact Calls.after_of (HS _)))
          refine wpQuiet_nil ?_
          intro z
          have hbz := hb.trans (z.2.mono hb.size)
          clear q0 q2 HS
          go_wp2
          go_ret
          exact ⟨by rw [decide_eq_false hno.out]; rfl, hbz⟩
      · have e : k = xs.length := by omega
        subst e
        have hyes : Hid (xs = ys) := Lib.hid (by
          have := hH.out
          rwa [List.take_length, List.take_of_length_le (by have := hlH.out; omega)] at this)
        clear hcx hcy hH
        go_wp2
        go_ret
        exact ⟨by rw [decide_eq_true hyes.out]; rfl, hb⟩
  · have hd : (((xs.length : Nat) : Int) != ((ys.length : Nat) : Int)) = true := by rw [bne_iff_ne]; intro e; exact hl (by exact_mod_cast e)
    have hno : Hid (¬ xs = ys) := Lib.hid (fun e => hl (by rw [e]))
    clear hl hcx hcy
    go_enter Tryz.func9, Tryz.ntmps9
    go_wp2
    go_ret
    exact ⟨by rw [decide_eq_false hno.out]; rfl, Below.refl _ _⟩
end Go.Proofs.YtdfllifjbabfjaaGreatDoor
namespace Go.Proofs.YtdfllifjbabfjaaGreatDoor
open Go.RowKit Go.Joins

def lexL : List Int → List Int → Bool
  | x :: a, y :: b => if x = y then lexL a b else decide (x < y)
  | _, _ => false
def aheadL (a b : List Int) : Bool := decide (a.length < b.length) || (decide (a.length = b.length) && lexL a b)
theorem drop_of {α : Type} {xs : List α} {k : Nat} {x : α} (h : xs[k]? = some x) : xs.drop k = x :: xs.drop (k + 1) := by
  obtain ⟨h1, h2⟩ := List.getElem?_eq_some_iff.1 h
  rw [← h2]
  exact List.drop_eq_getElem_cons h1
theorem lex_step {xs ys : List Int} {k : Nat} {x : Int} (hx : xs[k]? = some x) (hy : ys[k]? = some x) : lexL (xs.drop k) (ys.drop k) = lexL (xs.drop (k + 1)) (ys.drop (k + 1)) := by
  rw [drop_of hx, drop_of hy, lexL, if_pos rfl]
theorem lex_ne {xs ys : List Int} {k : Nat} {x y : Int} (hx : xs[k]? = some x) (hy : ys[k]? = some y) (h : ¬ x = y) : lexL (xs.drop k) (ys.drop k) = decide (x < y) := by
  rw [drop_of hx, drop_of hy, lexL, if_neg h]
theorem lex_end {xs ys : List Int} : lexL (xs.drop xs.length) ys = false := by
  rw [List.drop_length]; cases ys <;> rfl
set_option maxHeartbeats 2000000 in
set_option maxRecDepth 100000 in
theorem rahead13_any (w : World) (v u : Value) (xs ys : List Int) (hx : IntsAt w w.heap.size v xs) (hy : IntsAt w w.heap.size u ys) :
    Calls Tryz.prog 31 #[v, u] w fun e w' => e = .returned (.bool (aheadL xs ys)) ∧ Below w.heap.size w w' := by
  obtain ⟨A, c, rfl, hlx, hcx⟩ := hx
  obtain ⟨A2, c2, rfl, hly, hcy⟩ := hy
  by_cases h1 : xs.length < ys.length
  · have hr : Hid (aheadL xs ys = true) := Lib.hid (by unfold aheadL; rw [decide_eq_true h1]; rfl)
    have h1i : (xs.length : Int) < (ys.length : Int) := by omega
    clear hcx hcy
    go_enter Tryz.func31, Tryz.ntmps31
    go_wp2
    go_ret
    exact ⟨by rw [hr.out]; rfl, Below.refl _ _⟩
  · by_cases h2 : ys.length < xs.length
    · have hr : Hid (aheadL xs ys = false) := Lib.hid (by unfold aheadL; rw [decide_eq_false h1, decide_eq_false (by omega)]; rfl)
      have h1i : ¬ (xs.length : Int) < (ys.length : Int) := by omega
      have h2i : (ys.length : Int) < (xs.length : Int) := by omega
      clear hcx hcy
      go_enter Tryz.func31, Tryz.ntmps31
      go_wp2
      go_ret
      exact ⟨by rw [hr.out]; rfl, Below.refl _ _⟩
    · have hr : Hid (aheadL xs ys = lexL xs ys) := Lib.hid (by unfold aheadL; rw [decide_eq_false h1, decide_eq_true (by omega)]; rfl)
      have h1i : ¬ (xs.length : Int) < (ys.length : Int) := by omega
      have h2i : ¬ (ys.length : Int) < (xs.length : Int) := by omega
      have hlH : Hid (xs.length = ys.length) := Lib.hid (by omega)
      clear h1 h2
      go_enter Tryz.func31, Tryz.ntmps31
      go_wp2
      clear h1i h2i
      go_loopw [5] (fun t wr => ∃ k : Nat, k ≤ xs.length ∧ t = .int .i64 k ∧ Hid (lexL xs ys = lexL (xs.drop k) (ys.drop k)) ∧ Below w.heap.size w wr) (fun t _ => xs.length - (intOf t).toNat)
      case atStart => exact ⟨0, by omega, rfl, Lib.hid (by simp), Below.refl _ _⟩
      case round =>
        obtain ⟨k, hk, rfl, hH, hb⟩ := hrel
        by_cases hlt : k < xs.length
        · have hlt' : k < ys.length := by have := hlH.out; omega
          obtain ⟨b, off, rfl, hB, hc⟩ := hcx (by omega)
          obtain ⟨b', off', rfl, hB', hc'⟩ := hcy (by omega)
          obtain ⟨x, hx⟩ : ∃ x, xs[k]? = some x := ⟨_, List.getElem?_eq_getElem hlt⟩
          obtain ⟨y, hy⟩ : ∃ y, ys[k]? = some y := ⟨_, List.getElem?_eq_getElem hlt'⟩
          have q0 := fun X : After wr => After.cell X ((hb.cell (p := ⟨b, off + k, none⟩) hB).trans (hc k x hx))
          have q2 := fun X : After wr => After.cell X ((hb.cell (p := ⟨b', off' + k, none⟩) hB').trans (hc' k y hy))
          have b1 : (0 : Int) ≤ (k : Int) := by omega
          have b2 : (k : Int) < (xs.length : Int) := by omega
          have b3 : (k : Int) < (ys.length : Int) := by omega
          have hxH := Lib.hid hx
          have hyH := Lib.hid hy
          clear hc hc' hcx hcy hx hy
          by_cases hxy : x = y
          · subst hxy
            have hst : Hid (lexL xs ys = lexL (xs.drop (k + 1)) (ys.drop (k + 1))) := Lib.hid (hH.out.trans (lex_step hxH.out hyH.out))
            have hd : (x == x) = true := by simp
            clear hH
            go_wp2_with fail
            refine wp_region_after (by kernel_rfl) (by kernel_rfl) ?_
            repeat (first | go_big_quiet_step (fail))
            refine wpQuiet_nil ?_
            intro z
            have hbz := hb.trans (z.2.mono hb.size)
            clear q0 q2
            go_wp2
            go_roundw
            case rel => exact ⟨k + 1, by omega, by go_num, hst, hbz⟩
            case measure => simp [intOf]; omega
          · have hno : Hid (aheadL xs ys = decide (x < y)) := Lib.hid (hr.out.trans (hH.out.trans (lex_ne hxH.out hyH.out hxy)))
            have hd : (x == y) = false := by simpa using hxy
            clear hH hxH hyH hxy hr
            go_wp2_with fail
            refine wp_region_after (by kernel_rfl) (by kernel_rfl) ?_
            repeat (first | go_big_quiet_step (fail))
            refine wpQuiet_nil ?_
            intro z
            have hbz := hb.trans (z.2.mono hb.size)
            have p0 := fun X : After z.1 => After.cell X (q0 z)
            have p2 := fun X : After z.1 => After.cell X (q2 z)
            clear q0 q2 hd
            go_wp2_with fail
            refine wp_region_after (by kernel_rfl) (by kernel_rfl) ?_
            repeat (first | go_big_quiet_step (fail))
            refine wpQuiet_nil ?_
            intro z2
            have hbz2 := hbz.trans (z2.2.mono hbz.size)
            clear p0 p2
            go_wp2
            go_ret
            exact ⟨by rw [hno.out]; rfl, hbz2⟩
        · have e : k = xs.length := by omega
          subst e
          have hyes : Hid (aheadL xs ys = false) := Lib.hid (hr.out.trans (hH.out.trans lex_end))
          clear hcx hcy hH hr
          go_wp2_with fail
          refine wp_region_after (by kernel_rfl) (by kernel_rfl) ?_
          repeat (first | go_big_quiet_step (fail))
          refine wpQuiet_nil ?_
          intro z
          have hbz := hb.trans (z.2.mono hb.size)
          go_wp2_with fail
          refine wp_region_after (by kernel_rfl) (by kernel_rfl) ?_
          repeat (first | go_big_quiet_step (fail))
          refine wpQuiet_nil ?_
          intro z2
          have hbz2 := hbz.trans (z2.2.mono hbz.size)
          go_wp2
          go_ret
          exact ⟨by rw [hyes.out]; rfl, hbz2⟩
def hitR (cols l : List Int) : Bool := l.any fun x => cols.any fun c => decide (x = c)
def solvesM (ls : List (List Int)) (cols : List Int) : Bool := ls.all (hitR cols)
theorem hit_step {cols l : List Int} {k : Nat} {x : Int} (h : l[k]? = some x) : hitR cols (l.take (k + 1)) = (hitR cols (l.take k) || cols.any fun c => decide (x = c)) := by
  unfold hitR
  rw [List.take_add_one, h]
  simp
theorem any_step {cols : List Int} {k : Nat} {x c : Int} (h : cols[k]? = some c) : ((cols.take (k + 1)).any fun c => decide (x = c)) = (((cols.take k).any fun c => decide (x = c)) || decide (x = c)) := by
  rw [List.take_add_one, h]
  simp
end Go.Proofs.YtdfllifjbabfjaaGreatDoor
namespace Go.Proofs.YtdfllifjbabfjaaGreatDoor
open Go.RowKit Go.Joins

def mtv (n : Int) (L : Value) : Value := .agg #[.int .i64 n, L]
def mtb (n : Int) (L : Value) : Obj := .cells #[.int .i64 n, L] 30 (0, 0)
def greatM (ls : List (List Int)) : Bool := (ls.any fun l : List Int => decide (100 < l.length)) || decide (100 < ls.length)
def okR (cols : Int) (l : List Int) (k : Nat) : Bool := decide (0 ≤ l.getD k 0) && decide (l.getD k 0 < cols) && (decide (k = 0) || decide (l.getD (k - 1) 0 < l.getD k 0))
def rightR (cols : Int) (l : List Int) : Bool := (List.range l.length).all (okR cols l)
def rightM (cols : Int) (ls : List (List Int)) : Bool := decide (0 ≤ cols) && decide (cols ≤ 4000) && ls.all (rightR cols)
theorem right_bad {cols : Int} {ls : List (List Int)} {i k : Nat} {l : List Int} (hl : ls[i]? = some l) (hk : k < l.length) (h : okR cols l k = false) : rightM cols ls = false := by
  unfold rightM
  have : ls.all (rightR cols) = false := by
    rw [List.all_eq_false]
    refine ⟨l, List.mem_of_getElem? hl, ?_⟩
    unfold rightR
    simp only [List.all_eq_true, List.mem_range]
    intro H
    rw [H k hk] at h
    cases h
  rw [this, Bool.and_false]
theorem right_ok {cols : Int} {ls : List (List Int)} (h1 : 0 ≤ cols) (h2 : cols ≤ 4000) (h : ∀ (i : Nat) (l : List Int), ls[i]? = some l → ∀ k, k < l.length → okR cols l k = true) : rightM cols ls = true := by
  unfold rightM
  rw [decide_eq_true h1, decide_eq_true h2]
  simp only [Bool.true_and, List.all_eq_true]
  intro l hl
  obtain ⟨i, hi, rfl⟩ := List.mem_iff_getElem.1 hl
  unfold rightR
  simp only [List.all_eq_true, List.mem_range]
  exact fun k hk => h i _ (List.getElem?_eq_getElem hi) k hk
theorem getD_some {l : List Int} {k : Nat} {x : Int} (h : l[k]? = some x) : l.getD k 0 = x := by simp [List.getD, h]
end Go.Proofs.YtdfllifjbabfjaaGreatDoor
