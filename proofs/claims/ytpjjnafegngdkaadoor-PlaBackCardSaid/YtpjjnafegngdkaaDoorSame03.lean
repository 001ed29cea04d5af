/- Same of the package pla, and of the document's own answers, for any two tables. -/
import Derived.Test.YtpjjnafegngdkaaDoorRight03b
namespace Go.Proofs.YtpjjnafegngdkaaDoor
open Go.RowKit Go.Joins

theorem take_eq_succ {α : Type} {a b : List α} {j : Nat} {x : α} (ha : a[j]? = some x) (hb : b[j]? = some x) (h : a.take j = b.take j) : a.take (j + 1) = b.take (j + 1) := by
  have h1 : j < a.length := (List.getElem?_eq_some_iff.1 ha).1
  have h2 : j < b.length := (List.getElem?_eq_some_iff.1 hb).1
  rw [List.take_succ_eq_append_getElem h1, List.take_succ_eq_append_getElem h2, h, (List.getElem?_eq_some_iff.1 ha).2, (List.getElem?_eq_some_iff.1 hb).2]
theorem ne_of_at {α : Type} {a b : List α} {j : Nat} {x y : α} (ha : a[j]? = some x) (hb : b[j]? = some y) (h : x ≠ y) : a ≠ b := by
  intro e; subst e; rw [ha] at hb; injection hb with hb; exact h hb
set_option maxHeartbeats 1000000 in
set_option maxRecDepth 100000 in
theorem eqInts_any (O O' : Value) (o o' : List Int) (w : World) (hO : IntsAt w w.heap.size O o) (hO' : IntsAt w w.heap.size O' o') :
    Calls Tryd.prog 27 #[O, O'] w fun e w' => e = .returned (.bool (decide (o = o'))) ∧ Below w.heap.size w w' := by
  obtain ⟨A, c, rfl, hlen, hA⟩ := hO
  obtain ⟨A', c', rfl, hlen', hA'⟩ := hO'
  have hne := Lib.hid (fun (j : Nat) (x y : Int) (ha : o[j]? = some x) (hb : o'[j]? = some y) (h : x ≠ y) => ne_of_at ha hb h)
  by_cases hl : o.length = o'.length
  · have hl' := Lib.hid hl
    go_enter Tryd.func27, Tryd.ntmps27
    go_wp2
    clear hl
    go_loopw [5, 13] (fun _ t wr => ∃ j : Nat, j ≤ o.length ∧ t = .int .i64 j ∧ Hid (o.take j = o'.take j) ∧ Below w.heap.size w wr) (fun _ t _ => o.length - (intOf t).toNat)
    case atStart => exact ⟨0, by omega, rfl, Lib.hid (by simp), Below.refl _ _⟩
    case round =>
      obtain ⟨j, hj, rfl, hH, hb⟩ := hrel
      by_cases hlt : j < o.length
      · have hlt' : j < o'.length := by have := hl'.out; omega
        obtain ⟨b, off, rfl, hB, hc⟩ := hA (by omega)
        obtain ⟨b', off', rfl, hB', hc'⟩ := hA' (by omega)
        obtain ⟨x, hx⟩ : ∃ x, o[j]? = some x := ⟨_, List.getElem?_eq_getElem hlt⟩
        obtain ⟨y, hy⟩ : ∃ y, o'[j]? = some y := ⟨_, List.getElem?_eq_getElem hlt'⟩
        have d := (hb.cell (p := ⟨b, off + j, none⟩) hB).trans (hc j x hx)
        have d' := (hb.cell (p := ⟨b', off' + j, none⟩) hB').trans (hc' j y hy)
        have gx := Lib.hid hx
        have gy := Lib.hid hy
        have b1 : (0 : Int) ≤ (j : Int) := by omega
        have b2 : (j : Int) < (o.length : Int) := by omega
        have b3 : (j : Int) < (o'.length : Int) := by omega
        clear hc hc' hx hy hA hA'
        by_cases hxy : x = y
        · subst hxy
          go_wp2
          go_quiet (fail)
          go_wp2
          go_roundw
          case rel => exact ⟨j + 1, by omega, by go_num, Lib.hid (take_eq_succ gx.out gy.out hH.out), hb.trans ((below_draws _ _ _).mono hb.size)⟩
          case measure => simp [intOf]; omega
        · have hr := Lib.hid (hne.out j x y gx.out gy.out hxy)
          have hd : ((x : Int) == y) = false := by simpa using hxy
          go_wp2
          go_quiet (fail)
          go_wp2
          go_ret
          exact ⟨ret_bool (by have := hr.out; simp [this]), hb.trans ((below_draws _ _ _).mono hb.size)⟩
      · have e : j = o.length := by omega
        have hr : Hid (o = o') := Lib.hid (by
          have := hH.out
          rw [e, List.take_length, hl'.out, List.take_length] at this
          exact this)
        subst e
        have hnlt : ¬ o.length < o'.length := by have := hl'.out; omega
        clear hA hA'
        go_wp2
        go_ret
        exact ⟨ret_bool (by have := hr.out; simp [this]), hb⟩
  · have hr : Hid (¬ o = o') := Lib.hid (fun e => hl (by rw [e]))
    have hd : (((o.length : Nat) : Int) == ((o'.length : Nat) : Int)) = false := by rw [beq_eq_false_iff_ne]; omega
    clear hA hA'
    go_enter Tryd.func27, Tryd.ntmps27
    go_wp2
    go_ret
    exact ⟨ret_bool (by have := hr.out; simp [this]), Below.refl _ _⟩
def lnsSame (a b : Ln) : Bool := decide (a.m = b.m ∧ a.v = b.v) && decide (a.o = b.o)
theorem lnsSame_iff (a b : Ln) : lnsSame a b = true ↔ a = b := by
  obtain ⟨m, v, o⟩ := a
  obtain ⟨m', v', o'⟩ := b
  unfold lnsSame; simp [and_assoc]
set_option maxHeartbeats 1000000 in
set_option maxRecDepth 100000 in
theorem same1_any (m v : BitVec 8) (O : Value) (o : List Int) (m' v' : BitVec 8) (O' : Value) (o' : List Int) (w : World) (hO : IntsAt w w.heap.size O o) (hO' : IntsAt w w.heap.size O' o') :
    Calls Tryd.prog 26 #[lv m v O, lv m' v' O'] w fun e w' => e = .returned (.bool (lnsSame ⟨m, v, o⟩ ⟨m', v', o'⟩)) ∧ Below w.heap.size w w' := by
  have E := eq_cube m v m' v'
  have hB := below_alloc2 w (.cells #[.int .u8 m.toNat, .int .u8 v.toNat, O] 39 (0, 0)) (.cells #[.int .u8 m'.toNat, .int .u8 v'.toNat, O'] 39 (0, 0))
  have H := eqInts_any O O' o o' _ ((hO.below hB).more hB.size) ((hO'.below hB).more hB.size)
  have hr : Hid (lnsSame ⟨m, v, o⟩ ⟨m', v', o'⟩ = (decide (m = m' ∧ v = v') && decide (o = o'))) := Lib.hid rfl
  clear hO hO'
  unfold lv bvv
  generalize decide (o = o') = q at *
  cases hd : decide (m = m' ∧ v = v')
  · rw [hd] at hr
    simp only [hd] at E
    clear hd H
    go_enter Tryd.func26, Tryd.ntmps26
    go_wp2
    go_ret
    exact ⟨by rw [hr.out]; rfl, hB⟩
  · rw [hd] at hr
    simp only [hd] at E
    clear hd
    go_enter Tryd.func26, Tryd.ntmps26
    go_wp2_with fail
    refine H.mono ?_
    rintro e w1 ⟨rfl, hb1⟩
    go_wp2
    go_ret
    exact ⟨by rw [hr.out]; rfl, hB.trans (hb1.mono hB.size)⟩
def lsEq : List Ln → List Ln → Bool
  | [], [] => true
  | a :: l, b :: r => lnsSame a b && lsEq l r
  | _, _ => false
theorem lsEq_iff : ∀ a b : List Ln, lsEq a b = true ↔ a = b
  | [], [] => by simp [lsEq]
  | [], b :: r => by simp [lsEq]
  | a :: l, [] => by simp [lsEq]
  | a :: l, b :: r => by
    unfold lsEq
    rw [Bool.and_eq_true, lnsSame_iff, lsEq_iff l r]
    simp
theorem lsEq_no {a b : List Ln} (h : a ≠ b) : lsEq a b = false := by
  cases e : lsEq a b
  · rfl
  · exact absurd ((lsEq_iff a b).1 e) h
def sameT (t u : Tb) : Bool := decide (t.k = u.k) && (decide (t.i = u.i) && (decide (t.n = u.n) && lsEq t.ls u.ls))
theorem sameT_iff (t u : Tb) : sameT t u = true ↔ t = u := by
  obtain ⟨k, i, n, ls⟩ := t
  obtain ⟨k', i', n', ls'⟩ := u
  unfold sameT; simp [lsEq_iff]
set_option maxHeartbeats 1000000 in
set_option maxRecDepth 100000 in
theorem eqLines_any (L L' : Value) (ls ls' : List Ln) (w : World) (hL : LinesAt w w.heap.size L ls) (hL' : LinesAt w w.heap.size L' ls') :
    Calls Tryd.prog 25 #[L, L', .func (.func 26) #[] #[]] w fun e w' => e = .returned (.bool (lsEq ls ls')) ∧ Below w.heap.size w w' := by
  have hcf : ∀ (args : Array Value) (w1 : World), (Sem.run Tryd.prog (callFunc 26 args) w1) = .ok (.enter 26 args) w1 := fun _ _ => by kernel_rfl
  obtain ⟨A, c, rfl, hlen, hA⟩ := hL
  obtain ⟨A', c', rfl, hlen', hA'⟩ := hL'
  have hne := Lib.hid (fun (j : Nat) (x y : Ln) (ha : ls[j]? = some x) (hb : ls'[j]? = some y) (h : x ≠ y) => lsEq_no (ne_of_at ha hb h))
  by_cases hl : ls.length = ls'.length
  · have hl' := Lib.hid hl
    go_enter Tryd.func25, Tryd.ntmps25
    go_wp2
    clear hl
    go_loopw [7, 8, 9, 17] (fun _ _ _ t wr => ∃ j : Nat, j ≤ ls.length ∧ t = .int .i64 j ∧ Hid (ls.take j = ls'.take j) ∧ Below w.heap.size w wr) (fun _ _ _ t _ => ls.length - (intOf t).toNat)
    case atStart => exact ⟨0, by omega, rfl, Lib.hid (by simp), Below.refl _ _⟩
    case round =>
      obtain ⟨j, hj, rfl, hH, hb⟩ := hrel
      by_cases hlt : j < ls.length
      · have hlt' : j < ls'.length := by have := hl'.out; omega
        obtain ⟨b, off, rfl, hB, hc⟩ := hA (by omega)
        obtain ⟨b', off', rfl, hB', hc'⟩ := hA' (by omega)
        obtain ⟨x, hx⟩ : ∃ x, ls[j]? = some x := ⟨_, List.getElem?_eq_getElem hlt⟩
        obtain ⟨y, hy⟩ : ∃ y, ls'[j]? = some y := ⟨_, List.getElem?_eq_getElem hlt'⟩
        have gx := Lib.hid hx
        have gy := Lib.hid hy
        obtain ⟨ov, x0, x1, x2, hO⟩ := hc j x hx
        obtain ⟨ov', y0, y1, y2, hO'⟩ := hc' j y hy
        obtain ⟨A2, q2, rfl, -, -⟩ := id hO
        obtain ⟨A2', q2', rfl, -, -⟩ := id hO'
        have hO1 := (hO.below hb).more hb.size
        have hO1' := (hO'.below hb).more hb.size
        have d0 := (hb.cell (p := ⟨b, off + j * 3, none⟩) hB).trans x0
        have d1 := (hb.cell (p := ⟨b, off + j * 3 + 1, none⟩) hB).trans x1
        have d2 := (hb.cell (p := ⟨b, off + j * 3 + 2, none⟩) hB).trans x2
        have d0' := (hb.cell (p := ⟨b', off' + j * 3, none⟩) hB').trans y0
        have d1' := (hb.cell (p := ⟨b', off' + j * 3 + 1, none⟩) hB').trans y1
        have d2' := (hb.cell (p := ⟨b', off' + j * 3 + 2, none⟩) hB').trans y2
        have k0 : ∀ o, (wr.alloc o).cell? ⟨b', off' + j * 3, none⟩ = some (bvv y.m) := fun o => (World.cell?_alloc_lt _ _ _ (Nat.lt_of_lt_of_le hB' hb.size)).trans d0'
        have k1 : ∀ o, (wr.alloc o).cell? ⟨b', off' + j * 3 + 1, none⟩ = some (bvv y.v) := fun o => (World.cell?_alloc_lt _ _ _ (Nat.lt_of_lt_of_le hB' hb.size)).trans d1'
        have k2 : ∀ o, (wr.alloc o).cell? ⟨b', off' + j * 3 + 2, none⟩ = some (.slice A2' y.o.length q2') := fun o => (World.cell?_alloc_lt _ _ _ (Nat.lt_of_lt_of_le hB' hb.size)).trans d2'
        clear hc hc' hx hy hA hA' x0 x1 x2 y0 y1 y2 hO hO' d0' d1' d2'
        have HS : ∀ o1 o2 : Obj, _ := fun o1 o2 => same1_any x.m x.v (.slice A2 x.o.length q2) x.o y.m y.v (.slice A2' y.o.length q2') y.o ((wr.alloc o1).alloc o2) ((hO1.below (below_alloc2 wr o1 o2)).more (below_alloc2 wr o1 o2).size) ((hO1'.below (below_alloc2 wr o1 o2)).more (below_alloc2 wr o1 o2).size)
        clear hO1 hO1'
        unfold lv bvv at *
        cases hxy : lnsSame x y
        · have hxy' : lnsSame ⟨x.m, x.v, x.o⟩ ⟨y.m, y.v, y.o⟩ = false := hxy
          simp only [hxy'] at HS
          have hr := Lib.hid (hne.out j x y gx.out gy.out (fun e => by rw [(lnsSame_iff x y).2 e] at hxy; cases hxy))
          clear hxy hxy'
          go_wp2_with fail
          refine (HS _ _).mono ?_
          rintro e w1 ⟨rfl, hb1⟩
          have hB1 := (hb.trans ((below_alloc2 wr _ _).mono hb.size)).trans (hb1.mono (by have := hb.size; simp; omega))
          clear hb1 HS
          go_wp2
          go_ret
          exact ⟨by rw [hr.out]; rfl, hB1⟩
        · have hxy' : lnsSame ⟨x.m, x.v, x.o⟩ ⟨y.m, y.v, y.o⟩ = true := hxy
          simp only [hxy'] at HS
          have he := Lib.hid ((lnsSame_iff x y).1 hxy)
          clear hxy hxy'
          go_wp2_with fail
          refine (HS _ _).mono ?_
          rintro e w1 ⟨rfl, hb1⟩
          have hB1 := (hb.trans ((below_alloc2 wr _ _).mono hb.size)).trans (hb1.mono (by have := hb.size; simp; omega))
          clear hb1 HS
          go_wp2
          go_roundw
          case rel => exact ⟨j + 1, by omega, by go_num, Lib.hid (take_eq_succ (gx.out.trans (by rw [he.out])) gy.out hH.out), hB1⟩
          case measure => simp [intOf]; omega
      · have e : j = ls.length := by omega
        have hr : Hid (lsEq ls ls' = true) := Lib.hid (by
          have := hH.out
          rw [e, List.take_length, hl'.out, List.take_length] at this
          exact (lsEq_iff _ _).2 this)
        subst e
        have hnlt : ¬ ls.length < ls'.length := by have := hl'.out; omega
        clear hA hA'
        go_wp2
        go_ret
        exact ⟨by rw [hr.out]; rfl, hb⟩
  · have hr : Hid (lsEq ls ls' = false) := Lib.hid (lsEq_no (fun e => hl (by rw [e])))
    have hd : (((ls.length : Nat) : Int) == ((ls'.length : Nat) : Int)) = false := by rw [beq_eq_false_iff_ne]; omega
    clear hA hA'
    go_enter Tryd.func25, Tryd.ntmps25
    go_wp2
    go_ret
    exact ⟨by rw [hr.out]; rfl, Below.refl _ _⟩
end Go.Proofs.YtpjjnafegngdkaaDoor
