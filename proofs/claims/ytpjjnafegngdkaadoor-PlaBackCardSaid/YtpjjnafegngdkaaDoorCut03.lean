/- What Parse of the package pla calls of the library: Cut at a line feed, HasPrefix, TrimPrefix, CutPrefix; and whether a line is skipped. -/
import Derived.Test.YtpjjnafegngdkaaDoorPrint03
import Derived.Lib.IndexBytes
import Derived.Lib.IndexLaws
namespace Go.Proofs.YtpjjnafegngdkaaDoor
open Go.RowKit Go.Joins

theorem extract_str (l : List UInt8) (a b : Nat) : (str l).extract a b = str ((l.drop a).take (b - a)) := by
  apply ByteArray.ext
  apply Array.ext'
  rw [Lib.extract_data]
  rfl
theorem data_str (l : List UInt8) : (str l).data.toList = l := rfl
theorem idx_at : ∀ (a r : List UInt8), (∀ c ∈ a, c ≠ 10) → Lib.indexByte (a ++ 10 :: r) 10 = a.length
  | [], r, _ => by simp [Lib.indexByte]
  | c :: a, r, h => by
    have ih := idx_at a r (fun x hx => h x (by simp [hx]))
    rw [List.cons_append]
    unfold Lib.indexByte
    rw [ih]
    have h1 : (c == 10) = false := by simpa using h c (by simp)
    have h2 : (((a.length : Nat) : Int) == -1) = false := by rw [beq_eq_false_iff_ne]; omega
    rw [h1, h2]
    simp
theorem idx_none : ∀ a : List UInt8, (∀ c ∈ a, c ≠ 10) → Lib.indexByte a 10 = -1
  | [], _ => rfl
  | c :: a, h => by
    have ih := idx_none a (fun x hx => h x (by simp [hx]))
    unfold Lib.indexByte
    rw [ih]
    have h1 : (c == 10) = false := by simpa using h c (by simp)
    rw [h1]
    simp
set_option maxHeartbeats 1000000 in
set_option maxRecDepth 100000 in
theorem lcut_at (a r : List UInt8) (ha : ∀ c ∈ a, c ≠ 10) (hl : a.length + r.length ≤ 1000000) (w : World) :
    Calls Tryd.prog 57 #[.string (str (a ++ 10 :: r)), .string { data := #[10] }] w fun e w' => e = .returned (.tuple #[.string (str a), .string (str r), .bool true]) ∧ Below w.heap.size w w' := by
  have HI := fun w => Tryd.stringslite_Index_one (str (a ++ 10 :: r)) 10 w
  rw [data_str, idx_at a r ha] at HI
  have hs : (str (a ++ 10 :: r)).size = a.length + (r.length + 1) := by rw [size_str]; simp
  have e1 : (str (a ++ 10 :: r)).extract 0 a.length = str a := by rw [extract_str]; simp
  have e2 : (str (a ++ 10 :: r)).extract (a.length + 1) (a.length + (r.length + 1)) = str r := by
    rw [extract_str]
    congr 1
    rw [show a ++ 10 :: r = (a ++ [10]) ++ r by simp, List.drop_left' (by simp)]
    exact List.take_of_length_le (by omega)
  have b1 : (0 : Int) ≤ (a.length : Int) := by omega
  have b2 : (a.length : Int) ≤ ((a.length + (r.length + 1) : Nat) : Int) := by omega
  have b3 : (a.length : Int) + 1 ≤ ((a.length + (r.length + 1) : Nat) : Int) := by omega
  have b4 : IntKind.i64.wrap ((a.length : Int) + 1) = (a.length : Int) + 1 := IntWalk.i64_in _ ⟨by omega, by omega⟩
  have hz := Lib.hid hs
  generalize str (a ++ 10 :: r) = s at *
  generalize str a = sa at *
  generalize str r = sr at *
  generalize a.length = na at *
  generalize r.length = nr at *
  clear ha
  go_enter Tryd.func57, Tryd.ntmps57
  go_wp2_with fail
  refine (HI _).mono ?_
  rintro e w1 ⟨rfl, rfl⟩
  clear HI
  go_wp2
  go_quiet (fail)
  go_wp2
  go_ret3
  exact ⟨rfl, below_draws _ _ _⟩
set_option maxHeartbeats 1000000 in
set_option maxRecDepth 100000 in
theorem lcut_no (a : List UInt8) (ha : ∀ c ∈ a, c ≠ 10) (w : World) :
    Calls Tryd.prog 57 #[.string (str a), .string { data := #[10] }] w fun e w' => e = .returned (.tuple #[.string (str a), .string { data := #[] }, .bool false]) ∧ Below w.heap.size w w' := by
  have HI := fun w => Tryd.stringslite_Index_one (str a) 10 w
  rw [data_str, idx_none a ha] at HI
  generalize str a = s at *
  clear ha
  go_enter Tryd.func57, Tryd.ntmps57
  go_wp2_with fail
  refine (HI _).mono ?_
  rintro e w1 ⟨rfl, rfl⟩
  clear HI
  go_wp2
  go_ret3
  exact ⟨rfl, Below.refl _ _⟩
theorem cut_at (a r : List UInt8) (ha : ∀ c ∈ a, c ≠ 10) (hl : a.length + r.length ≤ 1000000) (w : World) :
    Calls Tryd.prog 45 #[.string (str (a ++ 10 :: r)), .string { data := #[10] }] w fun e w' => e = .returned (.tuple #[.string (str a), .string (str r), .bool true]) ∧ Below w.heap.size w w' := by
  have HC := fun w => lcut_at a r ha hl w
  generalize str (a ++ 10 :: r) = s at *
  clear ha hl
  go_enter Tryd.func45, Tryd.ntmps45
  go_wp2_with fail
  refine (HC _).mono ?_
  rintro e w1 ⟨rfl, hb⟩
  go_wp2
  go_ret3
  exact ⟨rfl, hb⟩
theorem cut_no (a : List UInt8) (ha : ∀ c ∈ a, c ≠ 10) (w : World) :
    Calls Tryd.prog 45 #[.string (str a), .string { data := #[10] }] w fun e w' => e = .returned (.tuple #[.string (str a), .string { data := #[] }, .bool false]) ∧ Below w.heap.size w w' := by
  have HC := fun w => lcut_no a ha w
  generalize str a = s at *
  clear ha
  go_enter Tryd.func45, Tryd.ntmps45
  go_wp2_with fail
  refine (HC _).mono ?_
  rintro e w1 ⟨rfl, hb⟩
  go_wp2
  go_ret3
  exact ⟨rfl, hb⟩
theorem prefix_any (l p : List UInt8) (w : World) : Calls Tryd.prog 46 #[.string (str l), .string (str p)] w fun e w' => e = .returned (.bool (p.isPrefixOf l)) ∧ w = w' :=
  (Tryd.strings_HasPrefix (str l) (str p) w).mono fun _ _ ⟨a, b⟩ => ⟨a, b.symm⟩
theorem trim_any (l p : List UInt8) (h : p.isPrefixOf l = true) (w : World) : Calls Tryd.prog 60 #[.string (str l), .string (str p)] w fun e w' => e = .returned (.string (str (l.drop p.length))) ∧ w = w' := by
  have := Tryd.strings_TrimPrefix (str l) (str p) w
  rw [data_str, data_str] at this
  unfold Lib.trimPrefix Lib.hasPrefix at this
  rw [if_pos h] at this
  exact this.mono fun _ _ ⟨a, b⟩ => ⟨a, b.symm⟩
theorem cutpre_any (l p : List UInt8) (w : World) : Calls Tryd.prog 67 #[.string (str l), .string (str p)] w fun e w' => e = .returned (.tuple #[.string (str (if p.isPrefixOf l then l.drop p.length else l)), .bool (p.isPrefixOf l)]) ∧ w = w' := by
  have := Tryd.strings_CutPrefix (str l) (str p) w
  rw [data_str, data_str] at this
  unfold Lib.trimPrefix Lib.hasPrefix at this
  exact this.mono fun _ _ ⟨a, b⟩ => ⟨a, b.symm⟩
theorem loop_eq (s : ByteArray) : ∀ (n i : Nat) (r : List UInt8), n = s.size - i → ByteArray.toList.loop s i r = r.reverse ++ s.data.toList.drop i := by
  intro n
  induction n with
  | zero =>
    intro i r h
    unfold ByteArray.toList.loop
    rw [if_neg (by omega), List.drop_of_length_le (by rw [← Lib.size_eq]; omega)]
    simp
  | succ n ih =>
    intro i r h
    unfold ByteArray.toList.loop
    have hi : i < s.data.toList.length := by rw [← Lib.size_eq]; omega
    rw [if_pos (by omega), ih (i + 1) _ (by omega), List.drop_eq_getElem_cons hi, List.reverse_cons, List.append_assoc]
    congr 1
    show [s.get! i] ++ _ = _ :: _
    have : s.get! i = s.data.toList[i] := by
      have hi' : i < s.data.size := by simpa using hi
      obtain ⟨d⟩ := s
      show d[i]! = _
      rw [getElem!_pos d i hi']
      simp
    rw [this]; rfl
theorem toList_str (l : List UInt8) : (str l).toList = l := by
  unfold ByteArray.toList
  rw [loop_eq (str l) (str l).size 0 [] (by omega)]
  rfl
theorem toList_eq (s : ByteArray) : s.toList = s.data.toList := by
  unfold ByteArray.toList
  rw [loop_eq s s.size 0 [] (by omega)]
  simp
theorem skipped_any (l : List UInt8) (w : World) : Calls Tryd.prog 33 #[.string (str l)] w fun e w' => e = .returned (.bool (skipL l)) ∧ w = w' := by
  have HP := fun w => prefix_any l [35] w
  rw [show str [35] = { data := #[35] } from rfl] at HP
  have ht := toList_str l
  cases l with
  | nil =>
    clear HP
    generalize str [] = s at *
    go_enter Tryd.func33, Tryd.ntmps33
    go_wp2
    go_ret
    exact ⟨rfl, rfl⟩
  | cons c r =>
    have hs : Hid (skipL (c :: r) = [35].isPrefixOf (c :: r)) := Lib.hid rfl
    generalize [35].isPrefixOf (c :: r) = q at *
    generalize str (c :: r) = s at *
    go_enter Tryd.func33, Tryd.ntmps33
    go_wp2_with fail
    refine (HP _).mono ?_
    rintro e w1 ⟨rfl, rfl⟩
    go_wp2
    go_ret
    exact ⟨by rw [hs.out]; rfl, rfl⟩
end Go.Proofs.YtpjjnafegngdkaaDoor
