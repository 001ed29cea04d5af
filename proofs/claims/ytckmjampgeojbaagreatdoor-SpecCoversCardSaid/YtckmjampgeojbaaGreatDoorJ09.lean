/- Same of the package pla, and of the document's own answers, for any two tables. Same of the package pla, for any two tables. Same of the document's own answers of layer 3, for any two tables. Same of the document's own answers of layer 3, for any two tables: all cases. Right of the document's own answers of layer 3, for every table. A Builder that the call has made is written: copyCheck, WriteString; what put of the package pla does; the decimal digits of a small number. Print of the package pla, for every table. What Parse of the package pla calls of the library: Cut at a line feed, HasPrefix, TrimPrefix, CutPrefix; and whether a line is skipped. A number behind a word: number of the package pla, for every line. -/
import Derived.Test.YtckmjampgeojbaaGreatDoorJ06
import Derived.Test.YtckmjampgeojbaaGreatDoorJ05
import Derived.Test.YtckmjampgeojbaaGreatDoorShelf
import Derived.Deep.RegionHeld3
import Derived.Deep.CutRange
import Derived.Lib.Builder
import Derived.Lib.AppendStr
import Derived.Lib.UnsafeStr
import Derived.Laws.Externs
import Derived.Lib.ItoaNum
import Derived.Lib.IndexBytes
import Derived.Lib.IndexLaws
namespace Go.Proofs.YtckmjampgeojbaaGreatDoor
open Go.RowKit Go.Joins

theorem take_eq_succ {α : Type} {a b : List α} {j : Nat} {x : α} (ha : a[j]? = some x) (hb : b[j]? = some x) (h : a.take j = b.take j) : a.take (j + 1) = b.take (j + 1) := by
  have h1 : j < a.length := (List.getElem?_eq_some_iff.1 ha).1
  have h2 : j < b.length := (List.getElem?_eq_some_iff.1 hb).1
  rw [List.take_succ_eq_append_getElem h1, List.take_succ_eq_append_getElem h2, h, (List.getElem?_eq_some_iff.1 ha).2, (List.getElem?_eq_some_iff.1 hb).2]
theorem ne_of_at {α : Type} {a b : List α} {j : Nat} {x y : α} (ha : a[j]? = some x) (hb : b[j]? = some y) (h : x ≠ y) : a ≠ b := by
  intro e; subst e; rw [ha] at hb; injection hb with hb; exact h hb
def lnsSame (a b : Ln) : Bool := decide (a.m = b.m ∧ a.v = b.v) && decide (a.o = b.o)
theorem lnsSame_iff (a b : Ln) : lnsSame a b = true ↔ a = b := by
  obtain ⟨m, v, o⟩ := a
  obtain ⟨m', v', o'⟩ := b
  unfold lnsSame; simp [and_assoc]
def lsEq : List Ln → List Ln → Bool
  | [], [] => true
  | a :: l, b :: r => lnsSame a b && lsEq l r
  | _, _ => false
theorem lsEq_iff : ∀ a b : List Ln, lsEq a b = true ↔ a = b
  | [], [] => by simp [lsEq]
  | [], b :: r => by simp [lsEq]
  | a :: l, [] => by simp [lsEq]
  | a :: l, b :: r => by
    unfold lsEq
    rw [Bool.and_eq_true, lnsSame_iff, lsEq_iff l r]
    simp
theorem lsEq_no {a b : List Ln} (h : a ≠ b) : lsEq a b = false := by
  cases e : lsEq a b
  · rfl
  · exact absurd ((lsEq_iff a b).1 e) h
def sameT (t u : Tb) : Bool := decide (t.k = u.k) && (decide (t.i = u.i) && (decide (t.n = u.n) && lsEq t.ls u.ls))
theorem sameT_iff (t u : Tb) : sameT t u = true ↔ t = u := by
  obtain ⟨k, i, n, ls⟩ := t
  obtain ⟨k', i', n', ls'⟩ := u
  unfold sameT; simp [lsEq_iff]
end Go.Proofs.YtckmjampgeojbaaGreatDoor
namespace Go.Proofs.YtckmjampgeojbaaGreatDoor
open Go.RowKit Go.Joins

end Go.Proofs.YtckmjampgeojbaaGreatDoor
namespace Go.Proofs.YtckmjampgeojbaaGreatDoor
open Go.RowKit Go.Joins

theorem After.cellA {w : World} (x : After w) {a : Addr} {v : Value} (hb : a.block < w.heap.size) (h : w.cell? a = some v) : x.1.cell? a = some v := (x.2.cell hb).trans h
theorem below2a {w a : World} (h : Below a.heap.size a w) (o1 o2 : Obj) : Below a.heap.size a ((w.alloc o1).alloc o2) := h.trans ((below_alloc2 w o1 o2).mono h.size)
end Go.Proofs.YtckmjampgeojbaaGreatDoor
namespace Go.Proofs.YtckmjampgeojbaaGreatDoor
open Go.RowKit Go.Joins

end Go.Proofs.YtckmjampgeojbaaGreatDoor
namespace Go.Proofs.YtckmjampgeojbaaGreatDoor
open Go.RowKit Go.Joins

theorem all_take_succ {α : Type} {p : α → Bool} {l : List α} {k : Nat} {x : α} (h : l[k]? = some x) (hn : (l.take k).all p = true) (hp : p x = true) : (l.take (k + 1)).all p = true := by
  have hk : k < l.length := (List.getElem?_eq_some_iff.1 h).1
  rw [List.take_succ_eq_append_getElem hk, List.all_append, hn]
  have : l[k] = x := (List.getElem?_eq_some_iff.1 h).2
  simp [this, hp]
theorem all_not {α : Type} {p : α → Bool} {l : List α} {k : Nat} {x : α} (h : l[k]? = some x) (hp : p x = false) : l.all p = false := by
  rw [List.all_eq_false]
  exact ⟨x, List.mem_of_getElem? h, by simp [hp]⟩
end Go.Proofs.YtckmjampgeojbaaGreatDoor
namespace Go.Proofs.YtckmjampgeojbaaGreatDoor
open Go.RowKit Go.Joins

theorem data_append (a b : ByteArray) : (a ++ b).data.toList = a.data.toList ++ b.data.toList := by
  simp [ByteArray.data_append]
theorem dec_dig (n : Nat) (h : n < 100) : Lib.decDigits n = digL n := by
  have : ∀ k, k < 100 → Lib.decDigits k = digL k := by decide +kernel
  exact this n h
theorem byteV_snoc (l : List UInt8) (c : UInt8) : byteV (l ++ [c]) = byteV l ++ [.int .u8 (c.toNat : Int)] := by simp [byteV]
end Go.Proofs.YtckmjampgeojbaaGreatDoor
namespace Go.Proofs.YtckmjampgeojbaaGreatDoor
open Go.RowKit Go.Joins

/-- The words of the kinds, as they lie in memory. -/
def KW (w : World) : Prop := 0 < w.heap.size ∧ 0 < w.heap.size ∧ w.cell? ⟨0, 0, none⟩ = some (.string { data := #[102] }) ∧ w.cell? ⟨0, 1, none⟩ = some (.string { data := #[102, 100] }) ∧ w.cell? ⟨0, 2, none⟩ = some (.string { data := #[102, 114] }) ∧ w.cell? ⟨0, 3, none⟩ = some (.string { data := #[102, 100, 114] })
theorem KW.below {w w' : World} (h : KW w) (hb : Below w.heap.size w w') : KW w' := by
  obtain ⟨h0, h1, a, b, c, d⟩ := h
  have hz := hb.size
  exact ⟨by omega, by omega, (hb.cell (p := ⟨_, _, none⟩) h1).trans a, (hb.cell (p := ⟨_, _, none⟩) h1).trans b, (hb.cell (p := ⟨_, _, none⟩) h1).trans c, (hb.cell (p := ⟨_, _, none⟩) h1).trans d⟩
theorem KW.at_ {w : World} (h : KW w) (K : Nat) (hK : K ≤ 3) : w.cell? ⟨0, K, none⟩ = some (.string (str (kindW K))) := by
  obtain ⟨_, _, a, b, c, d⟩ := h
  have : K = 0 ∨ K = 1 ∨ K = 2 ∨ K = 3 := by omega
  rcases this with rfl | rfl | rfl | rfl
  · exact a
  · exact b
  · exact c
  · exact d
theorem lenI : wordI.length = 3 := rfl
theorem lenO : wordO.length = 3 := rfl
theorem lenK : wordK.length = 6 := rfl
theorem lenP : wordP.length = 3 := rfl
theorem keep_low {w w' : World} {B g : Nat} {o : Obj} (hb : Below B w w') (hg : g < B) (h : w.heap[g]? = some o) : w'.heap[g]? = some o := (hb.block g hg).trans h
theorem KW.low {w w' : World} {B : Nat} (h : KW w) (hb : Below B w w') (hB : 0 < B := by first | assumption | omega) : KW w' := by
  obtain ⟨_, h1, a, b, c, d⟩ := h
  have hz := hb.size
  exact ⟨by omega, by omega, (hb.cell (p := ⟨_, _, none⟩) hB).trans a, (hb.cell (p := ⟨_, _, none⟩) hB).trans b, (hb.cell (p := ⟨_, _, none⟩) hB).trans c, (hb.cell (p := ⟨_, _, none⟩) hB).trans d⟩
theorem rows_succ {ls : List Ln} {j : Nat} {l : Ln} (h : ls[j]? = some l) (i : Nat) : rowsL (ls.take (j + 1)) i = rowsL (ls.take j) i ++ (rowL l i ++ [10]) := by
  have hj : j < ls.length := (List.getElem?_eq_some_iff.1 h).1
  have : ls[j] = l := (List.getElem?_eq_some_iff.1 h).2
  rw [List.take_succ_eq_append_getElem hj, this]
  unfold rowsL
  rw [List.flatMap_append]
  simp
theorem rows_le (ls : List Ln) (j i : Nat) : (rowsL (ls.take j) i).length ≤ (rowsL ls i).length := by
  have : rowsL ls i = rowsL (ls.take j) i ++ rowsL (ls.drop j) i := by
    unfold rowsL; rw [← List.flatMap_append, List.take_append_drop]
  rw [this, List.length_append]; omega
end Go.Proofs.YtckmjampgeojbaaGreatDoor
namespace Go.Proofs.YtckmjampgeojbaaGreatDoor
open Go.RowKit Go.Joins

theorem extract_str (l : List UInt8) (a b : Nat) : (str l).extract a b = str ((l.drop a).take (b - a)) := by
  apply ByteArray.ext
  apply Array.ext'
  rw [Lib.extract_data]
  rfl
theorem data_str (l : List UInt8) : (str l).data.toList = l := rfl
theorem idx_at : ∀ (a r : List UInt8), (∀ c ∈ a, c ≠ 10) → Lib.indexByte (a ++ 10 :: r) 10 = a.length
  | [], r, _ => by simp [Lib.indexByte]
  | c :: a, r, h => by
    have ih := idx_at a r (fun x hx => h x (by simp [hx]))
    rw [List.cons_append]
    unfold Lib.indexByte
    rw [ih]
    have h1 : (c == 10) = false := by simpa using h c (by simp)
    have h2 : (((a.length : Nat) : Int) == -1) = false := by rw [beq_eq_false_iff_ne]; omega
    rw [h1, h2]
    simp
theorem idx_none : ∀ a : List UInt8, (∀ c ∈ a, c ≠ 10) → Lib.indexByte a 10 = -1
  | [], _ => rfl
  | c :: a, h => by
    have ih := idx_none a (fun x hx => h x (by simp [hx]))
    unfold Lib.indexByte
    rw [ih]
    have h1 : (c == 10) = false := by simpa using h c (by simp)
    rw [h1]
    simp
set_option maxHeartbeats 1000000 in
set_option maxRecDepth 100000 in
theorem lcut_at (a r : List UInt8) (ha : ∀ c ∈ a, c ≠ 10) (hl : a.length + r.length ≤ 1000000) (w : World) :
    Calls Tryz.prog 75 #[.string (str (a ++ 10 :: r)), .string { data := #[10] }] w fun e w' => e = .returned (.tuple #[.string (str a), .string (str r), .bool true]) ∧ Below w.heap.size w w' := by
  have HI := fun w => Tryz.stringslite_Index_one (str (a ++ 10 :: r)) 10 w
  rw [data_str, idx_at a r ha] at HI
  have hs : (str (a ++ 10 :: r)).size = a.length + (r.length + 1) := by rw [size_str]; simp
  have e1 : (str (a ++ 10 :: r)).extract 0 a.length = str a := by rw [extract_str]; simp
  have e2 : (str (a ++ 10 :: r)).extract (a.length + 1) (a.length + (r.length + 1)) = str r := by
    rw [extract_str]
    congr 1
    rw [show a ++ 10 :: r = (a ++ [10]) ++ r by simp, List.drop_left' (by simp)]
    exact List.take_of_length_le (by omega)
  have b1 : (0 : Int) ≤ (a.length : Int) := by omega
  have b2 : (a.length : Int) ≤ ((a.length + (r.length + 1) : Nat) : Int) := by omega
  have b3 : (a.length : Int) + 1 ≤ ((a.length + (r.length + 1) : Nat) : Int) := by omega
  have b4 : IntKind.i64.wrap ((a.length : Int) + 1) = (a.length : Int) + 1 := IntWalk.i64_in _ ⟨by omega, by omega⟩
  have hz := Lib.hid hs
  generalize str (a ++ 10 :: r) = s at *
  generalize str a = sa at *
  generalize str r = sr at *
  generalize a.length = na at *
  generalize r.length = nr at *
  clear ha
  go_enter Tryz.func75, Tryz.ntmps75
  go_wp2_with fail
  refine (HI _).mono ?_
  rintro e w1 ⟨rfl, rfl⟩
  clear HI
  go_wp2
  go_quiet (fail)
  go_wp2
  go_ret3
  exact ⟨rfl, below_draws _ _ _⟩
set_option maxHeartbeats 1000000 in
set_option maxRecDepth 100000 in
theorem lcut_no (a : List UInt8) (ha : ∀ c ∈ a, c ≠ 10) (w : World) :
    Calls Tryz.prog 75 #[.string (str a), .string { data := #[10] }] w fun e w' => e = .returned (.tuple #[.string (str a), .string { data := #[] }, .bool false]) ∧ Below w.heap.size w w' := by
  have HI := fun w => Tryz.stringslite_Index_one (str a) 10 w
  rw [data_str, idx_none a ha] at HI
  generalize str a = s at *
  clear ha
  go_enter Tryz.func75, Tryz.ntmps75
  go_wp2_with fail
  refine (HI _).mono ?_
  rintro e w1 ⟨rfl, rfl⟩
  clear HI
  go_wp2
  go_ret3
  exact ⟨rfl, Below.refl _ _⟩
theorem cut_at (a r : List UInt8) (ha : ∀ c ∈ a, c ≠ 10) (hl : a.length + r.length ≤ 1000000) (w : World) :
    Calls Tryz.prog 46 #[.string (str (a ++ 10 :: r)), .string { data := #[10] }] w fun e w' => e = .returned (.tuple #[.string (str a), .string (str r), .bool true]) ∧ Below w.heap.size w w' := by
  have HC := fun w => lcut_at a r ha hl w
  generalize str (a ++ 10 :: r) = s at *
  clear ha hl
  go_enter Tryz.func46, Tryz.ntmps46
  go_wp2_with fail
  refine (HC _).mono ?_
  rintro e w1 ⟨rfl, hb⟩
  go_wp2
  go_ret3
  exact ⟨rfl, hb⟩
theorem cut_no (a : List UInt8) (ha : ∀ c ∈ a, c ≠ 10) (w : World) :
    Calls Tryz.prog 46 #[.string (str a), .string { data := #[10] }] w fun e w' => e = .returned (.tuple #[.string (str a), .string { data := #[] }, .bool false]) ∧ Below w.heap.size w w' := by
  have HC := fun w => lcut_no a ha w
  generalize str a = s at *
  clear ha
  go_enter Tryz.func46, Tryz.ntmps46
  go_wp2_with fail
  refine (HC _).mono ?_
  rintro e w1 ⟨rfl, hb⟩
  go_wp2
  go_ret3
  exact ⟨rfl, hb⟩
theorem prefix_any (l p : List UInt8) (w : World) : Calls Tryz.prog 47 #[.string (str l), .string (str p)] w fun e w' => e = .returned (.bool (p.isPrefixOf l)) ∧ w = w' :=
  (Tryz.strings_HasPrefix (str l) (str p) w).mono fun _ _ ⟨a, b⟩ => ⟨a, b.symm⟩
theorem trim_any (l p : List UInt8) (h : p.isPrefixOf l = true) (w : World) : Calls Tryz.prog 78 #[.string (str l), .string (str p)] w fun e w' => e = .returned (.string (str (l.drop p.length))) ∧ w = w' := by
  have := Tryz.strings_TrimPrefix (str l) (str p) w
  rw [data_str, data_str] at this
  unfold Lib.trimPrefix Lib.hasPrefix at this
  rw [if_pos h] at this
  exact this.mono fun _ _ ⟨a, b⟩ => ⟨a, b.symm⟩
theorem cutpre_any (l p : List UInt8) (w : World) : Calls Tryz.prog 88 #[.string (str l), .string (str p)] w fun e w' => e = .returned (.tuple #[.string (str (if p.isPrefixOf l then l.drop p.length else l)), .bool (p.isPrefixOf l)]) ∧ w = w' := by
  have := Tryz.strings_CutPrefix (str l) (str p) w
  rw [data_str, data_str] at this
  unfold Lib.trimPrefix Lib.hasPrefix at this
  exact this.mono fun _ _ ⟨a, b⟩ => ⟨a, b.symm⟩
theorem loop_eq (s : ByteArray) : ∀ (n i : Nat) (r : List UInt8), n = s.size - i → ByteArray.toList.loop s i r = r.reverse ++ s.data.toList.drop i := by
  intro n
  induction n with
  | zero =>
    intro i r h
    unfold ByteArray.toList.loop
    rw [if_neg (by omega), List.drop_of_length_le (by rw [← Lib.size_eq]; omega)]
    simp
  | succ n ih =>
    intro i r h
    unfold ByteArray.toList.loop
    have hi : i < s.data.toList.length := by rw [← Lib.size_eq]; omega
    rw [if_pos (by omega), ih (i + 1) _ (by omega), List.drop_eq_getElem_cons hi, List.reverse_cons, List.append_assoc]
    congr 1
    show [s.get! i] ++ _ = _ :: _
    have : s.get! i = s.data.toList[i] := by
      have hi' : i < s.data.size := by simpa using hi
      obtain ⟨d⟩ := s
      show d[i]! = _
      rw [getElem!_pos d i hi']
      simp
    rw [this]; rfl
theorem toList_str (l : List UInt8) : (str l).toList = l := by
  unfold ByteArray.toList
  rw [loop_eq (str l) (str l).size 0 [] (by omega)]
  rfl
theorem toList_eq (s : ByteArray) : s.toList = s.data.toList := by
  unfold ByteArray.toList
  rw [loop_eq s s.size 0 [] (by omega)]
  simp
theorem skipped_any (l : List UInt8) (w : World) : Calls Tryz.prog 28 #[.string (str l)] w fun e w' => e = .returned (.bool (skipL l)) ∧ w = w' := by
  have HP := fun w => prefix_any l [35] w
  rw [show str [35] = { data := #[35] } from rfl] at HP
  have ht := toList_str l
  cases l with
  | nil =>
    clear HP
    generalize str [] = s at *
    go_enter Tryz.func28, Tryz.ntmps28
    go_wp2
    go_ret
    exact ⟨rfl, rfl⟩
  | cons c r =>
    have hs : Hid (skipL (c :: r) = [35].isPrefixOf (c :: r)) := Lib.hid rfl
    generalize [35].isPrefixOf (c :: r) = q at *
    generalize str (c :: r) = s at *
    go_enter Tryz.func28, Tryz.ntmps28
    go_wp2_with fail
    refine (HP _).mono ?_
    rintro e w1 ⟨rfl, rfl⟩
    go_wp2
    go_ret
    exact ⟨by rw [hs.out]; rfl, rfl⟩
end Go.Proofs.YtckmjampgeojbaaGreatDoor
namespace Go.Proofs.YtckmjampgeojbaaGreatDoor
open Go.RowKit Go.Joins

theorem numGo_bad {most : Int} {c : UInt8} {r : List UInt8} {f : Bool} {x : Int} (h : (c.toNat : Int) < 48 ∨ 57 < (c.toNat : Int)) : numGo most (c :: r) f x = none := by
  unfold numGo
  rw [if_pos (by rcases h with h | h; exact Or.inl h; exact Or.inr (Or.inl h))]
theorem numGo_zero {most : Int} {c : UInt8} {r : List UInt8} : numGo most (c :: r) false 0 = none := by
  unfold numGo
  rw [if_pos (Or.inr (Or.inr ⟨rfl, rfl⟩))]
theorem numGo_big {most : Int} {c : UInt8} {r : List UInt8} {f : Bool} {x : Int} (h : ¬ ((c.toNat : Int) < 48 ∨ 57 < (c.toNat : Int) ∨ (f = false ∧ x = 0))) (hm : most < x * 10 + ((c.toNat : Int) - 48)) : numGo most (c :: r) f x = none := by
  unfold numGo
  rw [if_neg h, if_pos hm]
theorem numGo_step {most : Int} {c : UInt8} {r : List UInt8} {f : Bool} {x : Int} (h : ¬ ((c.toNat : Int) < 48 ∨ 57 < (c.toNat : Int) ∨ (f = false ∧ x = 0))) (hm : ¬ most < x * 10 + ((c.toNat : Int) - 48)) : numGo most (c :: r) f x = numGo most r false (x * 10 + ((c.toNat : Int) - 48)) := by
  conv => lhs; unfold numGo
  rw [if_neg h, if_neg hm]
theorem numB_no {l p : List UInt8} {a b : Int} (h : p.isPrefixOf l = false) : numB l p a b = (0, false) := by
  unfold numB; rw [if_neg (by simp [h])]
theorem numB_nil {l p : List UInt8} {a b : Int} (h : l.drop p.length = []) : numB l p a b = (0, false) := by
  unfold numB; rw [if_neg (by simp [h])]
theorem numB_none {l p : List UInt8} {a b : Int} (h : p.isPrefixOf l = true) (hd : l.drop p.length ≠ []) (hg : numGo b (l.drop p.length) true 0 = none) : numB l p a b = (0, false) := by
  unfold numB; rw [if_pos ⟨h, hd⟩, hg]
theorem numB_some {l p : List UInt8} {a b x : Int} (h : p.isPrefixOf l = true) (hd : l.drop p.length ≠ []) (hg : numGo b (l.drop p.length) true 0 = some x) : numB l p a b = (x, decide (a ≤ x)) := by
  unfold numB; rw [if_pos ⟨h, hd⟩, hg]
set_option maxHeartbeats 2000000 in
set_option maxRecDepth 1000000 in
theorem number_go (l p : List UInt8) (least most : Int) (hp : p.isPrefixOf l = true) (hd : l.drop p.length ≠ []) (h0 : 0 ≤ most) (hm : most ≤ 1000) (hlen : l.length ≤ 1000000) (w : World) :
    Calls Tryz.prog 77 #[.string (str l), .string (str p), .int .i64 least, .int .i64 most] w fun e w' => e = .returned (.tuple #[.int .i64 (numB l p least most).1, .bool (numB l p least most).2]) ∧ Below w.heap.size w w' := by
  have HC := fun w => cutpre_any l p w
  rw [hp, if_pos rfl] at HC
  have hBn := Lib.hid (fun hg => numB_none (a := least) (b := most) hp hd hg)
  have hBs := Lib.hid (fun x hg => numB_some (a := least) (b := most) (x := x) hp hd hg)
  have hDl : (l.drop p.length).length ≤ 1000000 := by simp; omega
  generalize l.drop p.length = D at *
  have hDe : (str D).toList ≠ [] := by rw [toList_str]; exact hd
  have hDe2 : (str D).toList.isEmpty = false := by rw [toList_str]; simpa using hd
  have hDp : 0 < D.length := List.length_pos_iff.2 hd
  have hsz := Lib.hid (size_str D)
  have hget : Hid (∀ (k : Nat) (h : k < (str D).size), (str D)[k] = D.getD k 0) := Lib.hid (fun k h => by
    have : k < D.length := by rwa [size_str] at h
    simp [str, List.getD, this]; rfl)
  have hcons : Hid (∀ k, k < D.length → D.drop k = D.getD k 0 :: D.drop (k + 1)) := Lib.hid (fun k h => by
    rw [List.drop_eq_getElem_cons h]; simp [List.getD, h])
  generalize numB l p least most = R at *
  generalize str D = s at *
  generalize str l = sl at *
  generalize str p = sp at *
  clear hp hd
  go_enter Tryz.func77, Tryz.ntmps77
  go_wp2_with fail
  refine (HC _).mono ?_
  rintro e w1 ⟨rfl, rfl⟩
  clear HC
  go_wp2
  go_loopw [12, 13, 14] (fun n _ _ wr => ∃ (k : Nat) (x : Int), k ≤ D.length ∧ n = .int .i64 x ∧ 0 ≤ x ∧ x ≤ most ∧ wr.heap[w.heap.size]? = some (.stringIter s k) ∧ Below w.heap.size w wr ∧ Hid (numGo most D true 0 = numGo most (D.drop k) (k == 0) x)) (fun _ _ _ wr => D.length - wr.iterPos (w.heap.size))
  case atStart =>
    refine ⟨0, 0, by omega, rfl, by omega, h0, ?_, ?_, Lib.hid (by simp)⟩
    · have := World.iter_heap w s 0
      simpa using this
    · exact below_alloc1 w _
  case round =>
    obtain ⟨k, x, hk, rfl, hx0, hxm, hit, hb, hG⟩ := hrel
    have hpos : Hid (wr.iterPos w.heap.size = k) := Lib.hid (by simp [World.iterPos, hit])
    have hz := size_of_block hit
    by_cases hlt : k < D.length
    · have hks : k < s.size := by have := hsz.out; omega
      have hgk := hget.out k hks
      have hck := Lib.hid (hcons.out k hlt)
      generalize hcc : D.getD k 0 = c at *
      have hr : ∃ (r : Int) (m : Nat), (∀ ty, (Instr.next (.pointer (some ⟨w.heap.size, 0, none⟩)) true ty).run Tryz.prog wr = .ok (.tuple #[.bool true, .int .i64 k, .int .i32 r]) (wr.iterAt w.heap.size s m)) ∧ 0 ≤ r ∧ ((r = c.toNat ∧ m = k + 1) ∨ (57 < r ∧ 57 < (c.toNat : Int))) := by
        by_cases ha : c.toNat < 128
        · refine ⟨c.toNat, k + 1, fun ty => ?_, by omega, Or.inl ⟨rfl, rfl⟩⟩
          rw [Lib.run_next_ascii_at wr w.heap.size s k ty hit hks (by rw [hgk]; exact ha), hgk]
        · have := decode_high s k hks (by rw [hgk]; omega)
          refine ⟨(Utf8.decode s k).1, k + (Utf8.decode s k).2, fun ty => Lib.run_next_any_at wr w.heap.size s k ty hit hks, by omega, Or.inr ⟨by omega, by omega⟩⟩
      obtain ⟨r, m, hnx, hr0, hrc⟩ := hr
      have hit' := Lib.hid (Lib.iterAt_heap wr _ _ _ m hit)
      have hb' := Lib.hid (Lib.below_iterAt hb (Nat.le_refl _) s m)
      clear hgk hcc hit hb
      generalize wr.iterAt w.heap.size s m = wx at *
      by_cases hbad : r < 48 ∨ 57 < r
      · have hRn := Lib.hid (hBn.out (by rw [hG.out, hck.out]; exact numGo_bad (by omega)))
        rcases hbad with hbad | hbad
        · have hbx := hb'.out
          go_wp2
          go_ret2
          exact ⟨by rw [hRn.out]; rfl, hbx⟩
        · have hbx := hb'.out
          have hb48 : ¬ r < 48 := by omega
          go_wp2
          go_ret2
          exact ⟨by rw [hRn.out]; rfl, hbx⟩
      · have hrr : r = (c.toNat : Int) ∧ m = k + 1 := by
          rcases hrc with h | h
          · exact h
          · omega
        obtain ⟨e1, rfl⟩ := hrr
        have e1' := Lib.hid e1
        have g1 : ¬ r < 48 := by omega
        have g2 : ¬ 57 < r := by omega
        have g3 : r ≤ 57 := by omega
        have g4 : 48 ≤ r := by omega
        have hbx := hb'.out
        clear hbad hrc e1
        by_cases hz0 : 0 < k ∧ x = 0
        · obtain ⟨hk0, rfl⟩ := hz0
          have hRn := Lib.hid (hBn.out (by
            have : (k == 0) = false := by rw [beq_eq_false_iff_ne]; omega
            rw [hG.out, hck.out, this]; exact numGo_zero))
          go_wp2
          go_ret2
          exact ⟨by rw [hRn.out]; rfl, hbx⟩
        · have hnz : Hid (¬ ((c.toNat : Int) < 48 ∨ 57 < (c.toNat : Int) ∨ ((k == 0) = false ∧ x = 0))) := Lib.hid (by
            rw [← e1'.out]
            intro h
            rcases h with h | h | ⟨h, h2⟩
            · omega
            · omega
            · exact hz0 ⟨by have : k ≠ 0 := by simpa using h
                            omega, h2⟩)
          by_cases hbig : most < x * 10 + (r - 48)
          · have hRn := Lib.hid (hBn.out (by rw [hG.out, hck.out]; exact numGo_big hnz.out (by rw [← e1'.out]; exact hbig)))
            by_cases hk0 : 0 < k
            · have hx1 : ¬ x = 0 := fun e => hz0 ⟨hk0, e⟩
              have hx2 : ((x : Int) == 0) = false := by simpa using hx1
              clear hz0
              go_wp2
              go_ret2
              exact ⟨by rw [hRn.out]; rfl, hbx⟩
            · clear hz0
              go_wp2
              go_ret2
              exact ⟨by rw [hRn.out]; rfl, hbx⟩
          · have hGn : Hid (numGo most D true 0 = numGo most (D.drop (k + 1)) (k + 1 == 0) (x * 10 + (r - 48))) := Lib.hid (by
              rw [hG.out, hck.out, numGo_step hnz.out (by rw [← e1'.out]; exact hbig), ← e1'.out]; rfl)
            have hpx : Hid (wx.iterPos w.heap.size = k + 1) := Lib.hid (by have := hit'.out; simp [World.iterPos, this])
            by_cases hk0 : 0 < k
            · have hx1 : ¬ x = 0 := fun e => hz0 ⟨hk0, e⟩
              have hx2 : ((x : Int) == 0) = false := by simpa using hx1
              clear hz0
              go_wp2
              go_roundw
              case rel => exact ⟨k + 1, x * 10 + (r - 48), by omega, by go_num, by omega, by omega, hit'.out, hb'.out, hGn⟩
              case measure => rw [hpx.out, hpos.out]; omega
            · clear hz0
              go_wp2
              go_roundw
              case rel => exact ⟨k + 1, x * 10 + (r - 48), by omega, by go_num, by omega, by omega, hit'.out, hb'.out, hGn⟩
              case measure => rw [hpx.out, hpos.out]; omega
    · have e : k = D.length := by omega
      have hnx : ∀ ty, (Instr.next (.pointer (some ⟨w.heap.size, 0, none⟩)) true ty).run Tryz.prog wr = .ok (.tuple #[.bool false]) wr := fun ty => Lib.run_next_end_at wr w.heap.size s k ty hit (by have := hsz.out; omega)
      have hRs := Lib.hid (hBs.out x (by rw [hG.out, e, List.drop_length]; rfl))
      clear hit e
      go_wp2
      go_ret2
      exact ⟨by rw [hRs.out]; rfl, hb⟩
theorem number_any (l p : List UInt8) (least most : Int) (h0 : 0 ≤ most) (hm : most ≤ 1000) (hlen : l.length ≤ 1000000) (w : World) :
    Calls Tryz.prog 77 #[.string (str l), .string (str p), .int .i64 least, .int .i64 most] w fun e w' => e = .returned (.tuple #[.int .i64 (numB l p least most).1, .bool (numB l p least most).2]) ∧ Below w.heap.size w w' := by
  cases hp : p.isPrefixOf l
  · have HC := fun w => cutpre_any l p w
    rw [hp, if_neg (by decide)] at HC
    rw [numB_no hp]
    generalize str l = sl at *
    generalize str p = sp at *
    clear hp
    go_enter Tryz.func77, Tryz.ntmps77
    go_wp2_with fail
    refine (HC _).mono ?_
    rintro e w1 ⟨rfl, rfl⟩
    clear HC
    go_wp2
    go_ret2
    exact ⟨rfl, Below.refl _ _⟩
  · by_cases hd : l.drop p.length = []
    · have HC := fun w => cutpre_any l p w
      rw [hp, if_pos rfl, hd] at HC
      rw [numB_nil hd]
      have ht := toList_str []
      generalize str [] = sn at *
      generalize str l = sl at *
      generalize str p = sp at *
      clear hp hd
      go_enter Tryz.func77, Tryz.ntmps77
      go_wp2_with fail
      refine (HC _).mono ?_
      rintro e w1 ⟨rfl, rfl⟩
      clear HC
      go_wp2
      go_ret2
      exact ⟨rfl, Below.refl _ _⟩
    · exact number_go l p least most hp hd h0 hm hlen w
end Go.Proofs.YtckmjampgeojbaaGreatDoor
