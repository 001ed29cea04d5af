/- What read of the package pla does to the draft, for every line. What read of the package pla does to the draft where a row or the end may come, and for every draft. Line by line: the closure of Parse, eachLine. Parse: a text's table, in memory. -/
import Derived.Test.YtckmjampgeojbaaGreatDoorJ11
namespace Go.Proofs.YtckmjampgeojbaaGreatDoor
open Go.RowKit Go.Joins

/-- What a line that is read leaves: an error, or the next draft. -/
def StepLeaves (w : World) (bd : Nat) (r : Int ⊕ Dr) (e : Ending) (w' : World) : Prop :=
  (∃ x, r = .inl x ∧ x ≠ 0 ∧ e = .returned (.int .i64 x) ∧ Below bd w w') ∨ (∃ d' L', r = .inr d' ∧ Leaves w bd d'.ls (.int .i64 0) d'.k d'.i d'.n L' d'.last d'.said e w')
theorem step0 {k i n : Int} {ls : List Ln} {said : Int} (l : List UInt8) : stepD ⟨k, i, n, ls, 0, said⟩ l = if (numB l wordI 0 8).2 = true then .inr ⟨k, (numB l wordI 0 8).1, n, ls, 1, said⟩ else .inl 2 := rfl
theorem step1 {k i n : Int} {ls : List Ln} {said : Int} (l : List UInt8) : stepD ⟨k, i, n, ls, 1, said⟩ l = if (numB l wordO 1 4).2 = true then .inr ⟨k, i, (numB l wordO 1 4).1, ls, 2, said⟩ else .inl 2 := rfl
theorem step6 {k i n : Int} {ls : List Ln} {said : Int} (l : List UInt8) : stepD ⟨k, i, n, ls, 6, said⟩ l = .inl 2 := rfl
theorem stepK_some {k i n kk : Int} {ls : List Ln} {said : Int} (l : List UInt8) (h : wordK.isPrefixOf l = true) (hk : kindOf (l.drop 6) = some kk) : stepD ⟨k, i, n, ls, 2, said⟩ l = .inr ⟨kk, i, n, ls, 3, said⟩ := by
  unfold stepD
  dsimp only
  rw [if_neg (by decide), if_neg (by decide), if_neg (by decide), if_pos ⟨by decide, h⟩, hk]
theorem stepK_none {k i n : Int} {ls : List Ln} {said : Int} (l : List UInt8) (h : wordK.isPrefixOf l = true) (hk : kindOf (l.drop 6) = none) : stepD ⟨k, i, n, ls, 2, said⟩ l = .inl 2 := by
  unfold stepD
  dsimp only
  rw [if_neg (by decide), if_neg (by decide), if_neg (by decide), if_pos ⟨by decide, h⟩, hk]
theorem stepP {k i n : Int} {ls : List Ln} {last said : Int} (l : List UInt8) (hl : last = 2 ∧ wordK.isPrefixOf l = false ∨ last = 3) (h : wordP.isPrefixOf l = true) : stepD ⟨k, i, n, ls, last, said⟩ l = if (numB l wordP 0 64).2 = true then .inr ⟨k, i, n, ls, 4, (numB l wordP 0 64).1⟩ else .inl 2 := by
  unfold stepD
  have h3 : ¬ (last < 3 ∧ wordK.isPrefixOf l = true) := by
    rintro ⟨a, b⟩
    rcases hl with ⟨_, c⟩ | c
    · rw [b] at c; cases c
    · omega
  have h2 : last = 2 ∨ last = 3 := by rcases hl with ⟨a, _⟩ | a; exact Or.inl a; exact Or.inr a
  dsimp only
  rw [if_neg (by omega), if_neg (by omega), if_neg (by omega), if_neg h3, if_pos ⟨by omega, h⟩]
def lateL (last : Int) (l : List UInt8) : Prop := (last = 2 ∧ wordK.isPrefixOf l = false ∧ wordP.isPrefixOf l = false) ∨ (last = 3 ∧ wordP.isPrefixOf l = false) ∨ last = 4 ∨ last = 5
theorem stepLate {k i n : Int} {ls : List Ln} {last said : Int} (l : List UInt8) (hl : lateL last l) : stepD ⟨k, i, n, ls, last, said⟩ l =
    if l = wordE then (if said = -1 ∨ said = ls.length then .inr ⟨k, i, n, ls, 6, said⟩ else .inl 2)
    else if rowOk l i n = true then (if ls.length = 64 then .inl 3 else .inr ⟨k, i, n, ls ++ [rowLn l i], 5, said⟩) else .inl 2 := by
  unfold stepD
  have h2 : last = 2 ∨ last = 3 ∨ last = 4 ∨ last = 5 := by
    rcases hl with ⟨a, _⟩ | ⟨a, _⟩ | a | a
    · exact Or.inl a
    · exact Or.inr (Or.inl a)
    · exact Or.inr (Or.inr (Or.inl a))
    · exact Or.inr (Or.inr (Or.inr a))
  have h3 : ¬ (last < 3 ∧ wordK.isPrefixOf l = true) := by
    rintro ⟨a, b⟩
    rcases hl with ⟨_, c, _⟩ | ⟨c, _⟩ | c | c
    · rw [b] at c; cases c
    · omega
    · omega
    · omega
  have h4 : ¬ (last < 4 ∧ wordP.isPrefixOf l = true) := by
    rintro ⟨a, b⟩
    rcases hl with ⟨_, _, c⟩ | ⟨_, c⟩ | c | c
    · rw [b] at c; cases c
    · rw [b] at c; cases c
    · omega
    · omega
  dsimp only
  rw [if_neg (by omega), if_neg (by omega), if_neg (by omega), if_neg h3, if_neg h4]
set_option maxHeartbeats 1000000 in
set_option maxRecDepth 100000 in
theorem read0 (l : List UInt8) (hl : l.length ≤ 1000000) (bd : Nat) (k i n : Int) (L : Value) (said : Int) (ls : List Ln) (w : World) (hbox : w.heap[bd]? = some (db k i n L 0 said)) (hrows : RowsAt w bd L ls) :
    Calls Tryz.prog 29 #[.pointer (some ⟨bd, 0, none⟩), .string (str l)] w (StepLeaves w bd (stepD ⟨k, i, n, ls, 0, said⟩ l)) := by
  have H := readIn_any l hl bd k i n L 0 said ls w hbox hrows
  rw [step0]
  generalize (numB l wordI 0 8).1 = x at *
  generalize str l = s at *
  obtain ⟨q0, q1, q2, q3, q4, q5, qf⟩ := now6 hbox
  cases hb : (numB l wordI 0 8).2
  · rw [hb] at H
    rw [if_neg (by decide)]
    clear hb hbox hrows
    go_enter Tryz.func29, Tryz.ntmps29
    go_wp2_with fail
    refine H.mono ?_
    rintro e w1 ⟨rfl, hk, hr, hB⟩
    clear H q0 q1 q2 q3 q4 q5 qf
    go_wp2
    go_ret
    exact Or.inl ⟨2, rfl, by decide, rfl, hB⟩
  · rw [hb] at H
    rw [if_pos rfl]
    clear hb hbox hrows
    go_enter Tryz.func29, Tryz.ntmps29
    go_wp2_with fail
    refine H.mono ?_
    rintro e w1 ⟨rfl, hk, hr, hB⟩
    clear H q0 q1 q2 q3 q4 q5 qf
    go_wp2
    go_ret
    exact Or.inr ⟨_, L, rfl, rfl, hk, hr, hB⟩
set_option maxHeartbeats 1000000 in
set_option maxRecDepth 100000 in
theorem read1 (l : List UInt8) (hl : l.length ≤ 1000000) (bd : Nat) (k i n : Int) (L : Value) (said : Int) (ls : List Ln) (w : World) (hbox : w.heap[bd]? = some (db k i n L 1 said)) (hrows : RowsAt w bd L ls) :
    Calls Tryz.prog 29 #[.pointer (some ⟨bd, 0, none⟩), .string (str l)] w (StepLeaves w bd (stepD ⟨k, i, n, ls, 1, said⟩ l)) := by
  have H := readOut_any l hl bd k i n L 1 said ls w hbox hrows
  rw [step1]
  generalize (numB l wordO 1 4).1 = x at *
  generalize str l = s at *
  obtain ⟨q0, q1, q2, q3, q4, q5, qf⟩ := now6 hbox
  cases hb : (numB l wordO 1 4).2
  · rw [hb] at H
    rw [if_neg (by decide)]
    clear hb hbox hrows
    go_enter Tryz.func29, Tryz.ntmps29
    go_wp2_with fail
    refine H.mono ?_
    rintro e w1 ⟨rfl, hk, hr, hB⟩
    clear H q0 q1 q2 q3 q4 q5 qf
    go_wp2
    go_ret
    exact Or.inl ⟨2, rfl, by decide, rfl, hB⟩
  · rw [hb] at H
    rw [if_pos rfl]
    clear hb hbox hrows
    go_enter Tryz.func29, Tryz.ntmps29
    go_wp2_with fail
    refine H.mono ?_
    rintro e w1 ⟨rfl, hk, hr, hB⟩
    clear H q0 q1 q2 q3 q4 q5 qf
    go_wp2
    go_ret
    exact Or.inr ⟨_, L, rfl, rfl, hk, hr, hB⟩
set_option maxHeartbeats 1000000 in
set_option maxRecDepth 100000 in
theorem read6 (l : List UInt8) (bd : Nat) (k i n : Int) (L : Value) (said : Int) (ls : List Ln) (w : World) (hbox : w.heap[bd]? = some (db k i n L 6 said)) :
    Calls Tryz.prog 29 #[.pointer (some ⟨bd, 0, none⟩), .string (str l)] w (StepLeaves w bd (stepD ⟨k, i, n, ls, 6, said⟩ l)) := by
  rw [step6]
  have hz := size_of_block hbox
  generalize str l = s at *
  obtain ⟨q0, q1, q2, q3, q4, q5, qf⟩ := now6 hbox
  clear hbox
  go_enter Tryz.func29, Tryz.ntmps29
  go_wp2
  go_ret
  exact Or.inl ⟨2, rfl, by decide, rfl, Below.refl _ _⟩
set_option maxHeartbeats 1000000 in
set_option maxRecDepth 100000 in
theorem readK (l : List UInt8) (bd : Nat) (k i n : Int) (L : Value) (said : Int) (ls : List Ln) (w : World) (hbox : w.heap[bd]? = some (db k i n L 2 said)) (hrows : RowsAt w bd L ls) (hkw : KW w) (hkb : 0 < bd) (hp : wordK.isPrefixOf l = true) :
    Calls Tryz.prog 29 #[.pointer (some ⟨bd, 0, none⟩), .string (str l)] w (StepLeaves w bd (stepD ⟨k, i, n, ls, 2, said⟩ l)) := by
  have H := readKind_any l hp bd k i n L 2 said ls w hbox hrows hkw hkb
  have HP := fun w => prefix_any l wordK w
  rw [hp, show str wordK = { data := #[46, 116, 121, 112, 101, 32] } from rfl] at HP
  have hS1 := Lib.hid (fun (kk : Int) (h : kindOf (l.drop 6) = some kk) => stepK_some (k := k) (i := i) (n := n) (ls := ls) (said := said) l hp h)
  have hS2 := Lib.hid (fun (h : kindOf (l.drop 6) = none) => stepK_none (k := k) (i := i) (n := n) (ls := ls) (said := said) l hp h)
  generalize stepD ⟨k, i, n, ls, 2, said⟩ l = R at *
  generalize str l = s at *
  obtain ⟨q0, q1, q2, q3, q4, q5, qf⟩ := now6 hbox
  clear hbox hrows hkw
  go_enter Tryz.func29, Tryz.ntmps29
  go_wp2_with (go_at_call 47; refine (HP _).mono ?_; rintro e w2 ⟨rfl, rfl⟩)
  refine H.mono ?_
  intro e w1 hK
  clear H HP q0 q1 q2 q3 q4 q5 qf
  rcases hK with ⟨kk, hkk, rfl, hk, hr, hB⟩ | ⟨hkk, rfl, hB⟩
  · have hkk' := Lib.hid hkk
    clear hkk
    go_wp2
    go_ret
    exact Or.inr ⟨_, L, hS1.out _ hkk'.out, rfl, hk, hr, hB⟩
  · have hkk' := Lib.hid hkk
    clear hkk
    go_wp2
    go_ret
    exact Or.inl ⟨2, hS2.out hkk'.out, by decide, rfl, hB⟩
set_option maxHeartbeats 1000000 in
set_option maxRecDepth 100000 in
theorem readP2 (l : List UInt8) (hl : l.length ≤ 1000000) (bd : Nat) (k i n : Int) (L : Value) (said : Int) (ls : List Ln) (w : World) (hbox : w.heap[bd]? = some (db k i n L 2 said)) (hrows : RowsAt w bd L ls) (hq : wordK.isPrefixOf l = false) (hp : wordP.isPrefixOf l = true) :
    Calls Tryz.prog 29 #[.pointer (some ⟨bd, 0, none⟩), .string (str l)] w (StepLeaves w bd (stepD ⟨k, i, n, ls, 2, said⟩ l)) := by
  have H := readCount_any l hl bd k i n L 2 said ls w hbox hrows
  have HP := fun w => prefix_any l wordP w
  rw [hp, show str wordP = { data := #[46, 112, 32] } from rfl] at HP
  have HK := fun w => prefix_any l wordK w
  rw [hq, show str wordK = { data := #[46, 116, 121, 112, 101, 32] } from rfl] at HK
  rw [stepP l (Or.inl ⟨rfl, hq⟩) hp]
  generalize (numB l wordP 0 64).1 = x at *
  generalize str l = s at *
  obtain ⟨q0, q1, q2, q3, q4, q5, qf⟩ := now6 hbox
  cases hb : (numB l wordP 0 64).2
  · rw [hb] at H
    rw [if_neg (by decide)]
    clear hb hbox hrows
    go_enter Tryz.func29, Tryz.ntmps29
    go_wp2_with (first | (go_at_call_of 47 (Value.string { data := #[46, 112, 32] }); refine (HP _).mono ?_; rintro e w2 ⟨rfl, rfl⟩) | (go_at_call_of 47 (Value.string { data := #[46, 116, 121, 112, 101, 32] }); refine (HK _).mono ?_; rintro e w2 ⟨rfl, rfl⟩))
    refine H.mono ?_
    rintro e w1 ⟨rfl, hk, hr, hB⟩
    clear H q0 q1 q2 q3 q4 q5 qf
    go_wp2
    go_ret
    exact Or.inl ⟨2, rfl, by decide, rfl, hB⟩
  · rw [hb] at H
    rw [if_pos rfl]
    clear hb hbox hrows
    go_enter Tryz.func29, Tryz.ntmps29
    go_wp2_with (first | (go_at_call_of 47 (Value.string { data := #[46, 112, 32] }); refine (HP _).mono ?_; rintro e w2 ⟨rfl, rfl⟩) | (go_at_call_of 47 (Value.string { data := #[46, 116, 121, 112, 101, 32] }); refine (HK _).mono ?_; rintro e w2 ⟨rfl, rfl⟩))
    refine H.mono ?_
    rintro e w1 ⟨rfl, hk, hr, hB⟩
    clear H q0 q1 q2 q3 q4 q5 qf
    go_wp2
    go_ret
    exact Or.inr ⟨_, L, rfl, rfl, hk, hr, hB⟩
set_option maxHeartbeats 1000000 in
set_option maxRecDepth 100000 in
theorem readP3 (l : List UInt8) (hl : l.length ≤ 1000000) (bd : Nat) (k i n : Int) (L : Value) (said : Int) (ls : List Ln) (w : World) (hbox : w.heap[bd]? = some (db k i n L 3 said)) (hrows : RowsAt w bd L ls) (hp : wordP.isPrefixOf l = true) :
    Calls Tryz.prog 29 #[.pointer (some ⟨bd, 0, none⟩), .string (str l)] w (StepLeaves w bd (stepD ⟨k, i, n, ls, 3, said⟩ l)) := by
  have H := readCount_any l hl bd k i n L 3 said ls w hbox hrows
  have HP := fun w => prefix_any l wordP w
  rw [hp, show str wordP = { data := #[46, 112, 32] } from rfl] at HP
  rw [stepP l (Or.inr rfl) hp]
  generalize (numB l wordP 0 64).1 = x at *
  generalize str l = s at *
  obtain ⟨q0, q1, q2, q3, q4, q5, qf⟩ := now6 hbox
  cases hb : (numB l wordP 0 64).2
  · rw [hb] at H
    rw [if_neg (by decide)]
    clear hb hbox hrows
    go_enter Tryz.func29, Tryz.ntmps29
    go_wp2_with (first | (go_at_call_of 47 (Value.string { data := #[46, 112, 32] }); refine (HP _).mono ?_; rintro e w2 ⟨rfl, rfl⟩))
    refine H.mono ?_
    rintro e w1 ⟨rfl, hk, hr, hB⟩
    clear H q0 q1 q2 q3 q4 q5 qf
    go_wp2
    go_ret
    exact Or.inl ⟨2, rfl, by decide, rfl, hB⟩
  · rw [hb] at H
    rw [if_pos rfl]
    clear hb hbox hrows
    go_enter Tryz.func29, Tryz.ntmps29
    go_wp2_with (first | (go_at_call_of 47 (Value.string { data := #[46, 112, 32] }); refine (HP _).mono ?_; rintro e w2 ⟨rfl, rfl⟩))
    refine H.mono ?_
    rintro e w1 ⟨rfl, hk, hr, hB⟩
    clear H q0 q1 q2 q3 q4 q5 qf
    go_wp2
    go_ret
    exact Or.inr ⟨_, L, rfl, rfl, hk, hr, hB⟩
end Go.Proofs.YtckmjampgeojbaaGreatDoor
namespace Go.Proofs.YtckmjampgeojbaaGreatDoor
open Go.RowKit Go.Joins

theorem late_end {k i n : Int} {ls : List Ln} {last said : Int} {l : List UInt8} (hl : lateL last l) (h : l = wordE) (hs : (decide (said = -1) || decide (said = (ls.length : Int))) = true) : stepD ⟨k, i, n, ls, last, said⟩ l = .inr ⟨k, i, n, ls, 6, said⟩ := by
  rw [stepLate l hl, if_pos h, if_pos (by simpa using hs)]
theorem late_noend {k i n : Int} {ls : List Ln} {last said : Int} {l : List UInt8} (hl : lateL last l) (h : l = wordE) (hs : (decide (said = -1) || decide (said = (ls.length : Int))) = false) : stepD ⟨k, i, n, ls, last, said⟩ l = .inl 2 := by
  rw [stepLate l hl, if_pos h, if_neg (by simpa using hs)]
theorem late_row {k i n : Int} {ls : List Ln} {last said : Int} {l : List UInt8} (hl : lateL last l) (h : l ≠ wordE) (hr : rowOk l i n = true) (h64 : ls.length ≠ 64) : stepD ⟨k, i, n, ls, last, said⟩ l = .inr ⟨k, i, n, ls ++ [rowLn l i], 5, said⟩ := by
  rw [stepLate l hl, if_neg h, if_pos hr, if_neg h64]
theorem late_full {k i n : Int} {ls : List Ln} {last said : Int} {l : List UInt8} (hl : lateL last l) (h : l ≠ wordE) (hr : rowOk l i n = true) (h64 : ls.length = 64) : stepD ⟨k, i, n, ls, last, said⟩ l = .inl 3 := by
  rw [stepLate l hl, if_neg h, if_pos hr, if_pos h64]
theorem late_norow {k i n : Int} {ls : List Ln} {last said : Int} {l : List UInt8} (hl : lateL last l) (h : l ≠ wordE) (hr : rowOk l i n = false) : stepD ⟨k, i, n, ls, last, said⟩ l = .inl 2 := by
  rw [stepLate l hl, if_neg h, if_neg (by rw [hr]; decide)]
set_option maxHeartbeats 2000000 in
set_option maxRecDepth 100000 in
theorem readE2 (l : List UInt8) (hl : l.length ≤ 1000000) (bd : Nat) (k : Int) (I N : Nat) (hi : I ≤ 8) (hn : N ≤ 4) (L : Value) (said : Int) (ls : List Ln) (h64 : ls.length ≤ 64) (w : World) (hbox : w.heap[bd]? = some (db k I N L 2 said)) (hrows : RowsAt w bd L ls) (hq : wordK.isPrefixOf l = false) (hp : wordP.isPrefixOf l = false) :
    Calls Tryz.prog 29 #[.pointer (some ⟨bd, 0, none⟩), .string (str l)] w (StepLeaves w bd (stepD ⟨k, I, N, ls, 2, said⟩ l)) := by
  have hla : lateL 2 l := Or.inl ⟨rfl, hq, hp⟩
  have HP := fun w => prefix_any l wordP w
  rw [hp, show str wordP = { data := #[46, 112, 32] } from rfl] at HP
  have HK := fun w => prefix_any l wordK w
  rw [hq, show str wordK = { data := #[46, 116, 121, 112, 101, 32] } from rfl] at HK
  have HE := readEnd_any bd k I N L 2 said ls w hbox hrows
  have h1 := Lib.hid (fun h hs => late_end (k := k) (i := I) (n := N) (ls := ls) (said := said) hla h hs)
  have h2 := Lib.hid (fun h hs => late_noend (k := k) (i := I) (n := N) (ls := ls) (said := said) hla h hs)
  have h3 := Lib.hid (fun h hr hf => late_row (k := k) (i := I) (n := N) (ls := ls) (said := said) hla h hr hf)
  have h4 := Lib.hid (fun h hr hf => late_full (k := k) (i := I) (n := N) (ls := ls) (said := said) hla h hr hf)
  have h5 := Lib.hid (fun h hr => late_norow (k := k) (i := I) (n := N) (ls := ls) (said := said) hla h hr)
  have hyes := Lib.hid (fun hr => readRow_yes l I N hi hn hr bd k L 2 said ls h64 w hbox hrows)
  have hno := Lib.hid (fun hr => readRow_no l hl I N hi hn hr bd k L 2 said w hbox)
  have ht := toList_str l
  have hc : ({ data := #[46, 101] } : ByteArray).toList = [46, 101] := toList_str [46, 101]
  have hwE : wordE = [46, 101] := rfl
  obtain ⟨q0, q1, q2, q3, q4, q5, qf⟩ := now6 hbox
  generalize stepD ⟨k, I, N, ls, 2, said⟩ l = R at *
  clear hbox hrows hla hwE hp hq
  by_cases hE : l = [46, 101]
  · have hE' := Lib.hid hE
    replace ht := ht.trans hE
    generalize str l = s at *
    clear hyes hno hE
    cases hb : (decide (said = -1) || decide (said = (ls.length : Int)))
    · have hR := Lib.hid (h2.out hE'.out hb)
      rw [hb] at HE
      clear hb
      go_enter Tryz.func29, Tryz.ntmps29
      go_wp2_with (first | (go_at_call_of 47 (Value.string { data := #[46, 112, 32] }); refine (HP _).mono ?_; rintro e w2 ⟨rfl, rfl⟩) | (go_at_call_of 47 (Value.string { data := #[46, 116, 121, 112, 101, 32] }); refine (HK _).mono ?_; rintro e w2 ⟨rfl, rfl⟩))
      refine HE.mono ?_
      rintro e w1 ⟨rfl, hk, hr, hB⟩
      clear HE q0 q1 q2 q3 q4 q5 qf
      go_wp2
      go_ret
      exact Or.inl ⟨2, hR.out, by decide, rfl, hB⟩
    · have hR := Lib.hid (h1.out hE'.out hb)
      rw [hb] at HE
      clear hb
      go_enter Tryz.func29, Tryz.ntmps29
      go_wp2_with (first | (go_at_call_of 47 (Value.string { data := #[46, 112, 32] }); refine (HP _).mono ?_; rintro e w2 ⟨rfl, rfl⟩) | (go_at_call_of 47 (Value.string { data := #[46, 116, 121, 112, 101, 32] }); refine (HK _).mono ?_; rintro e w2 ⟨rfl, rfl⟩))
      refine HE.mono ?_
      rintro e w1 ⟨rfl, hk, hr, hB⟩
      clear HE q0 q1 q2 q3 q4 q5 qf
      go_wp2
      go_ret
      exact Or.inr ⟨_, L, hR.out, rfl, hk, hr, hB⟩
  · have hE' := Lib.hid hE
    have hEb : (l == [46, 101]) = false := by simpa using hE
    clear hE HE
    cases hro : rowOk l I N
    · have hR := Lib.hid (h5.out hE'.out hro)
      have HN := hno.out hro
      clear hro hno hyes
      generalize str l = s at *
      go_enter Tryz.func29, Tryz.ntmps29
      go_wp2_with (first | (go_at_call_of 47 (Value.string { data := #[46, 112, 32] }); refine (HP _).mono ?_; rintro e w2 ⟨rfl, rfl⟩) | (go_at_call_of 47 (Value.string { data := #[46, 116, 121, 112, 101, 32] }); refine (HK _).mono ?_; rintro e w2 ⟨rfl, rfl⟩))
      refine HN.mono ?_
      rintro e w1 ⟨rfl, hB⟩
      clear HN q0 q1 q2 q3 q4 q5 qf
      go_wp2
      go_ret
      exact Or.inl ⟨2, hR.out, by decide, rfl, hB⟩
    · have hR3 := Lib.hid (fun hf => h3.out hE'.out hro hf)
      have hR4 := Lib.hid (fun hf => h4.out hE'.out hro hf)
      have HY := hyes.out hro
      clear hro hno hyes
      generalize str l = s at *
      go_enter Tryz.func29, Tryz.ntmps29
      go_wp2_with (first | (go_at_call_of 47 (Value.string { data := #[46, 112, 32] }); refine (HP _).mono ?_; rintro e w2 ⟨rfl, rfl⟩) | (go_at_call_of 47 (Value.string { data := #[46, 116, 121, 112, 101, 32] }); refine (HK _).mono ?_; rintro e w2 ⟨rfl, rfl⟩))
      refine HY.mono ?_
      intro e w1 hL
      clear HY q0 q1 q2 q3 q4 q5 qf
      rcases hL with ⟨hf, rfl, hB⟩ | ⟨hf, L', rfl, hk, hr, hB⟩
      · have hf' := Lib.hid hf
        clear hf
        go_wp2
        go_ret
        exact Or.inl ⟨3, hR4.out hf'.out, by decide, rfl, hB⟩
      · have hf' := Lib.hid hf
        clear hf
        go_wp2
        go_ret
        exact Or.inr ⟨_, L', hR3.out hf'.out, rfl, hk, hr, hB⟩
set_option maxHeartbeats 2000000 in
set_option maxRecDepth 100000 in
theorem readE3 (l : List UInt8) (hl : l.length ≤ 1000000) (bd : Nat) (k : Int) (I N : Nat) (hi : I ≤ 8) (hn : N ≤ 4) (L : Value) (said : Int) (ls : List Ln) (h64 : ls.length ≤ 64) (w : World) (hbox : w.heap[bd]? = some (db k I N L 3 said)) (hrows : RowsAt w bd L ls) (hp : wordP.isPrefixOf l = false) :
    Calls Tryz.prog 29 #[.pointer (some ⟨bd, 0, none⟩), .string (str l)] w (StepLeaves w bd (stepD ⟨k, I, N, ls, 3, said⟩ l)) := by
  have hla : lateL 3 l := Or.inr (Or.inl ⟨rfl, hp⟩)
  have HP := fun w => prefix_any l wordP w
  rw [hp, show str wordP = { data := #[46, 112, 32] } from rfl] at HP
  have HE := readEnd_any bd k I N L 3 said ls w hbox hrows
  have h1 := Lib.hid (fun h hs => late_end (k := k) (i := I) (n := N) (ls := ls) (said := said) hla h hs)
  have h2 := Lib.hid (fun h hs => late_noend (k := k) (i := I) (n := N) (ls := ls) (said := said) hla h hs)
  have h3 := Lib.hid (fun h hr hf => late_row (k := k) (i := I) (n := N) (ls := ls) (said := said) hla h hr hf)
  have h4 := Lib.hid (fun h hr hf => late_full (k := k) (i := I) (n := N) (ls := ls) (said := said) hla h hr hf)
  have h5 := Lib.hid (fun h hr => late_norow (k := k) (i := I) (n := N) (ls := ls) (said := said) hla h hr)
  have hyes := Lib.hid (fun hr => readRow_yes l I N hi hn hr bd k L 3 said ls h64 w hbox hrows)
  have hno := Lib.hid (fun hr => readRow_no l hl I N hi hn hr bd k L 3 said w hbox)
  have ht := toList_str l
  have hc : ({ data := #[46, 101] } : ByteArray).toList = [46, 101] := toList_str [46, 101]
  have hwE : wordE = [46, 101] := rfl
  obtain ⟨q0, q1, q2, q3, q4, q5, qf⟩ := now6 hbox
  generalize stepD ⟨k, I, N, ls, 3, said⟩ l = R at *
  clear hbox hrows hla hwE hp
  by_cases hE : l = [46, 101]
  · have hE' := Lib.hid hE
    replace ht := ht.trans hE
    generalize str l = s at *
    clear hyes hno hE
    cases hb : (decide (said = -1) || decide (said = (ls.length : Int)))
    · have hR := Lib.hid (h2.out hE'.out hb)
      rw [hb] at HE
      clear hb
      go_enter Tryz.func29, Tryz.ntmps29
      go_wp2_with (go_at_call_of 47 (Value.string { data := #[46, 112, 32] }); refine (HP _).mono ?_; rintro e w2 ⟨rfl, rfl⟩)
      refine HE.mono ?_
      rintro e w1 ⟨rfl, hk, hr, hB⟩
      clear HE q0 q1 q2 q3 q4 q5 qf
      go_wp2
      go_ret
      exact Or.inl ⟨2, hR.out, by decide, rfl, hB⟩
    · have hR := Lib.hid (h1.out hE'.out hb)
      rw [hb] at HE
      clear hb
      go_enter Tryz.func29, Tryz.ntmps29
      go_wp2_with (go_at_call_of 47 (Value.string { data := #[46, 112, 32] }); refine (HP _).mono ?_; rintro e w2 ⟨rfl, rfl⟩)
      refine HE.mono ?_
      rintro e w1 ⟨rfl, hk, hr, hB⟩
      clear HE q0 q1 q2 q3 q4 q5 qf
      go_wp2
      go_ret
      exact Or.inr ⟨_, L, hR.out, rfl, hk, hr, hB⟩
  · have hE' := Lib.hid hE
    have hEb : (l == [46, 101]) = false := by simpa using hE
    clear hE HE
    cases hro : rowOk l I N
    · have hR := Lib.hid (h5.out hE'.out hro)
      have HN := hno.out hro
      clear hro hno hyes
      generalize str l = s at *
      go_enter Tryz.func29, Tryz.ntmps29
      go_wp2_with (go_at_call_of 47 (Value.string { data := #[46, 112, 32] }); refine (HP _).mono ?_; rintro e w2 ⟨rfl, rfl⟩)
      refine HN.mono ?_
      rintro e w1 ⟨rfl, hB⟩
      clear HN q0 q1 q2 q3 q4 q5 qf
      go_wp2
      go_ret
      exact Or.inl ⟨2, hR.out, by decide, rfl, hB⟩
    · have hR3 := Lib.hid (fun hf => h3.out hE'.out hro hf)
      have hR4 := Lib.hid (fun hf => h4.out hE'.out hro hf)
      have HY := hyes.out hro
      clear hro hno hyes
      generalize str l = s at *
      go_enter Tryz.func29, Tryz.ntmps29
      go_wp2_with (go_at_call_of 47 (Value.string { data := #[46, 112, 32] }); refine (HP _).mono ?_; rintro e w2 ⟨rfl, rfl⟩)
      refine HY.mono ?_
      intro e w1 hL
      clear HY q0 q1 q2 q3 q4 q5 qf
      rcases hL with ⟨hf, rfl, hB⟩ | ⟨hf, L', rfl, hk, hr, hB⟩
      · have hf' := Lib.hid hf
        clear hf
        go_wp2
        go_ret
        exact Or.inl ⟨3, hR4.out hf'.out, by decide, rfl, hB⟩
      · have hf' := Lib.hid hf
        clear hf
        go_wp2
        go_ret
        exact Or.inr ⟨_, L', hR3.out hf'.out, rfl, hk, hr, hB⟩
set_option maxHeartbeats 2000000 in
set_option maxRecDepth 100000 in
theorem readE4 (l : List UInt8) (hl : l.length ≤ 1000000) (bd : Nat) (k : Int) (I N : Nat) (hi : I ≤ 8) (hn : N ≤ 4) (L : Value) (said : Int) (ls : List Ln) (h64 : ls.length ≤ 64) (w : World) (hbox : w.heap[bd]? = some (db k I N L 4 said)) (hrows : RowsAt w bd L ls) :
    Calls Tryz.prog 29 #[.pointer (some ⟨bd, 0, none⟩), .string (str l)] w (StepLeaves w bd (stepD ⟨k, I, N, ls, 4, said⟩ l)) := by
  have hla : lateL 4 l := Or.inr (Or.inr (Or.inl rfl))
  have HE := readEnd_any bd k I N L 4 said ls w hbox hrows
  have h1 := Lib.hid (fun h hs => late_end (k := k) (i := I) (n := N) (ls := ls) (said := said) hla h hs)
  have h2 := Lib.hid (fun h hs => late_noend (k := k) (i := I) (n := N) (ls := ls) (said := said) hla h hs)
  have h3 := Lib.hid (fun h hr hf => late_row (k := k) (i := I) (n := N) (ls := ls) (said := said) hla h hr hf)
  have h4 := Lib.hid (fun h hr hf => late_full (k := k) (i := I) (n := N) (ls := ls) (said := said) hla h hr hf)
  have h5 := Lib.hid (fun h hr => late_norow (k := k) (i := I) (n := N) (ls := ls) (said := said) hla h hr)
  have hyes := Lib.hid (fun hr => readRow_yes l I N hi hn hr bd k L 4 said ls h64 w hbox hrows)
  have hno := Lib.hid (fun hr => readRow_no l hl I N hi hn hr bd k L 4 said w hbox)
  have ht := toList_str l
  have hc : ({ data := #[46, 101] } : ByteArray).toList = [46, 101] := toList_str [46, 101]
  have hwE : wordE = [46, 101] := rfl
  obtain ⟨q0, q1, q2, q3, q4, q5, qf⟩ := now6 hbox
  generalize stepD ⟨k, I, N, ls, 4, said⟩ l = R at *
  clear hbox hrows hla hwE
  by_cases hE : l = [46, 101]
  · have hE' := Lib.hid hE
    replace ht := ht.trans hE
    generalize str l = s at *
    clear hyes hno hE
    cases hb : (decide (said = -1) || decide (said = (ls.length : Int)))
    · have hR := Lib.hid (h2.out hE'.out hb)
      rw [hb] at HE
      clear hb
      go_enter Tryz.func29, Tryz.ntmps29
      go_wp2_with fail
      refine HE.mono ?_
      rintro e w1 ⟨rfl, hk, hr, hB⟩
      clear HE q0 q1 q2 q3 q4 q5 qf
      go_wp2
      go_ret
      exact Or.inl ⟨2, hR.out, by decide, rfl, hB⟩
    · have hR := Lib.hid (h1.out hE'.out hb)
      rw [hb] at HE
      clear hb
      go_enter Tryz.func29, Tryz.ntmps29
      go_wp2_with fail
      refine HE.mono ?_
      rintro e w1 ⟨rfl, hk, hr, hB⟩
      clear HE q0 q1 q2 q3 q4 q5 qf
      go_wp2
      go_ret
      exact Or.inr ⟨_, L, hR.out, rfl, hk, hr, hB⟩
  · have hE' := Lib.hid hE
    have hEb : (l == [46, 101]) = false := by simpa using hE
    clear hE HE
    cases hro : rowOk l I N
    · have hR := Lib.hid (h5.out hE'.out hro)
      have HN := hno.out hro
      clear hro hno hyes
      generalize str l = s at *
      go_enter Tryz.func29, Tryz.ntmps29
      go_wp2_with fail
      refine HN.mono ?_
      rintro e w1 ⟨rfl, hB⟩
      clear HN q0 q1 q2 q3 q4 q5 qf
      go_wp2
      go_ret
      exact Or.inl ⟨2, hR.out, by decide, rfl, hB⟩
    · have hR3 := Lib.hid (fun hf => h3.out hE'.out hro hf)
      have hR4 := Lib.hid (fun hf => h4.out hE'.out hro hf)
      have HY := hyes.out hro
      clear hro hno hyes
      generalize str l = s at *
      go_enter Tryz.func29, Tryz.ntmps29
      go_wp2_with fail
      refine HY.mono ?_
      intro e w1 hL
      clear HY q0 q1 q2 q3 q4 q5 qf
      rcases hL with ⟨hf, rfl, hB⟩ | ⟨hf, L', rfl, hk, hr, hB⟩
      · have hf' := Lib.hid hf
        clear hf
        go_wp2
        go_ret
        exact Or.inl ⟨3, hR4.out hf'.out, by decide, rfl, hB⟩
      · have hf' := Lib.hid hf
        clear hf
        go_wp2
        go_ret
        exact Or.inr ⟨_, L', hR3.out hf'.out, rfl, hk, hr, hB⟩
set_option maxHeartbeats 2000000 in
set_option maxRecDepth 100000 in
theorem readE5 (l : List UInt8) (hl : l.length ≤ 1000000) (bd : Nat) (k : Int) (I N : Nat) (hi : I ≤ 8) (hn : N ≤ 4) (L : Value) (said : Int) (ls : List Ln) (h64 : ls.length ≤ 64) (w : World) (hbox : w.heap[bd]? = some (db k I N L 5 said)) (hrows : RowsAt w bd L ls) :
    Calls Tryz.prog 29 #[.pointer (some ⟨bd, 0, none⟩), .string (str l)] w (StepLeaves w bd (stepD ⟨k, I, N, ls, 5, said⟩ l)) := by
  have hla : lateL 5 l := Or.inr (Or.inr (Or.inr rfl))
  have HE := readEnd_any bd k I N L 5 said ls w hbox hrows
  have h1 := Lib.hid (fun h hs => late_end (k := k) (i := I) (n := N) (ls := ls) (said := said) hla h hs)
  have h2 := Lib.hid (fun h hs => late_noend (k := k) (i := I) (n := N) (ls := ls) (said := said) hla h hs)
  have h3 := Lib.hid (fun h hr hf => late_row (k := k) (i := I) (n := N) (ls := ls) (said := said) hla h hr hf)
  have h4 := Lib.hid (fun h hr hf => late_full (k := k) (i := I) (n := N) (ls := ls) (said := said) hla h hr hf)
  have h5 := Lib.hid (fun h hr => late_norow (k := k) (i := I) (n := N) (ls := ls) (said := said) hla h hr)
  have hyes := Lib.hid (fun hr => readRow_yes l I N hi hn hr bd k L 5 said ls h64 w hbox hrows)
  have hno := Lib.hid (fun hr => readRow_no l hl I N hi hn hr bd k L 5 said w hbox)
  have ht := toList_str l
  have hc : ({ data := #[46, 101] } : ByteArray).toList = [46, 101] := toList_str [46, 101]
  have hwE : wordE = [46, 101] := rfl
  obtain ⟨q0, q1, q2, q3, q4, q5, qf⟩ := now6 hbox
  generalize stepD ⟨k, I, N, ls, 5, said⟩ l = R at *
  clear hbox hrows hla hwE
  by_cases hE : l = [46, 101]
  · have hE' := Lib.hid hE
    replace ht := ht.trans hE
    generalize str l = s at *
    clear hyes hno hE
    cases hb : (decide (said = -1) || decide (said = (ls.length : Int)))
    · have hR := Lib.hid (h2.out hE'.out hb)
      rw [hb] at HE
      clear hb
      go_enter Tryz.func29, Tryz.ntmps29
      go_wp2_with fail
      refine HE.mono ?_
      rintro e w1 ⟨rfl, hk, hr, hB⟩
      clear HE q0 q1 q2 q3 q4 q5 qf
      go_wp2
      go_ret
      exact Or.inl ⟨2, hR.out, by decide, rfl, hB⟩
    · have hR := Lib.hid (h1.out hE'.out hb)
      rw [hb] at HE
      clear hb
      go_enter Tryz.func29, Tryz.ntmps29
      go_wp2_with fail
      refine HE.mono ?_
      rintro e w1 ⟨rfl, hk, hr, hB⟩
      clear HE q0 q1 q2 q3 q4 q5 qf
      go_wp2
      go_ret
      exact Or.inr ⟨_, L, hR.out, rfl, hk, hr, hB⟩
  · have hE' := Lib.hid hE
    have hEb : (l == [46, 101]) = false := by simpa using hE
    clear hE HE
    cases hro : rowOk l I N
    · have hR := Lib.hid (h5.out hE'.out hro)
      have HN := hno.out hro
      clear hro hno hyes
      generalize str l = s at *
      go_enter Tryz.func29, Tryz.ntmps29
      go_wp2_with fail
      refine HN.mono ?_
      rintro e w1 ⟨rfl, hB⟩
      clear HN q0 q1 q2 q3 q4 q5 qf
      go_wp2
      go_ret
      exact Or.inl ⟨2, hR.out, by decide, rfl, hB⟩
    · have hR3 := Lib.hid (fun hf => h3.out hE'.out hro hf)
      have hR4 := Lib.hid (fun hf => h4.out hE'.out hro hf)
      have HY := hyes.out hro
      clear hro hno hyes
      generalize str l = s at *
      go_enter Tryz.func29, Tryz.ntmps29
      go_wp2_with fail
      refine HY.mono ?_
      intro e w1 hL
      clear HY q0 q1 q2 q3 q4 q5 qf
      rcases hL with ⟨hf, rfl, hB⟩ | ⟨hf, L', rfl, hk, hr, hB⟩
      · have hf' := Lib.hid hf
        clear hf
        go_wp2
        go_ret
        exact Or.inl ⟨3, hR4.out hf'.out, by decide, rfl, hB⟩
      · have hf' := Lib.hid hf
        clear hf
        go_wp2
        go_ret
        exact Or.inr ⟨_, L', hR3.out hf'.out, rfl, hk, hr, hB⟩
theorem read_any (l : List UInt8) (hl : l.length ≤ 1000000) (bd : Nat) (d : Dr) (hg : GoodD d) (h6 : d.last ≤ 6) (L : Value) (w : World) (hbox : w.heap[bd]? = some (db d.k d.i d.n L d.last d.said)) (hrows : RowsAt w bd L d.ls) (hkw : KW w) (hkb : 0 < bd) :
    Calls Tryz.prog 29 #[.pointer (some ⟨bd, 0, none⟩), .string (str l)] w (StepLeaves w bd (stepD d l)) := by
  obtain ⟨k, i, n, ls, last, said⟩ := d
  have hlo := hg.lo
  have h7 : last = 0 ∨ last = 1 ∨ last = 2 ∨ last = 3 ∨ last = 4 ∨ last = 5 ∨ last = 6 := by
    dsimp only at hlo h6; omega
  rcases h7 with rfl | rfl | rfl | rfl | rfl | rfl | rfl
  · exact read0 l hl bd k i n L said ls w hbox hrows
  · exact read1 l hl bd k i n L said ls w hbox hrows
  all_goals
    try exact read6 l bd k i n L said ls w hbox
  all_goals
    have hi := hg.i (by dsimp only; omega)
    have hn := hg.n (by dsimp only; omega)
    dsimp only at hi hn
    obtain ⟨I, rfl⟩ := Int.eq_ofNat_of_zero_le hi.1
    obtain ⟨N, rfl⟩ := Int.eq_ofNat_of_zero_le (show 0 ≤ n by omega)
    have hlen : ls.length ≤ 64 := hg.len
  · cases hq : wordK.isPrefixOf l
    · cases hp : wordP.isPrefixOf l
      · exact readE2 l hl bd k I N (by omega) (by omega) L said ls hlen w hbox hrows hq hp
      · exact readP2 l hl bd k I N L said ls w hbox hrows hq hp
    · exact readK l bd k I N L said ls w hbox hrows hkw hkb hq
  · cases hp : wordP.isPrefixOf l
    · exact readE3 l hl bd k I N (by omega) (by omega) L said ls hlen w hbox hrows hp
    · exact readP3 l hl bd k I N L said ls w hbox hrows hp
  · exact readE4 l hl bd k I N (by omega) (by omega) L said ls hlen w hbox hrows
  · exact readE5 l hl bd k I N (by omega) (by omega) L said ls hlen w hbox hrows
end Go.Proofs.YtckmjampgeojbaaGreatDoor
namespace Go.Proofs.YtckmjampgeojbaaGreatDoor
open Go.RowKit Go.Joins

theorem split10 : ∀ l : List UInt8, (∃ a r, l = a ++ 10 :: r ∧ ∀ c ∈ a, c ≠ 10) ∨ (∀ c ∈ l, c ≠ 10)
  | [] => Or.inr (by simp)
  | c :: l => by
    by_cases h : c = 10
    · subst h
      exact Or.inl ⟨[], l, rfl, by simp⟩
    · rcases split10 l with ⟨a, r, e, ha⟩ | ha
      · refine Or.inl ⟨c :: a, r, by rw [e]; rfl, ?_⟩
        intro x hx
        rcases List.mem_cons.1 hx with rfl | hx
        · exact h
        · exact ha x hx
      · refine Or.inr ?_
        intro x hx
        rcases List.mem_cons.1 hx with rfl | hx
        · exact h
        · exact ha x hx
theorem step_last {d d' : Dr} {line : List UInt8} (h : stepD d line = .inr d') : d'.last ≤ 6 := by
  unfold stepD at h
  split at h
  · split at h
    · cases h; show (1 : Int) ≤ 6; decide
    · cases h
  · split at h
    · split at h
      · cases h; show (2 : Int) ≤ 6; decide
      · cases h
    · split at h
      · cases h
      · split at h
        · split at h
          · cases h; show (3 : Int) ≤ 6; decide
          · cases h
        · split at h
          · split at h
            · cases h; show (4 : Int) ≤ 6; decide
            · cases h
          · split at h
            · split at h
              · cases h; show (6 : Int) ≤ 6; decide
              · cases h
            · split at h
              · split at h
                · cases h
                · cases h; show (5 : Int) ≤ 6; decide
              · cases h
theorem take_last {d d' : Dr} {line : List UInt8} (h6 : d.last ≤ 6) (h : takeD d line = .inr d') : d'.last ≤ 6 := by
  unfold takeD at h
  split at h
  · cases h; exact h6
  · exact step_last h
set_option maxHeartbeats 1000000 in
set_option maxRecDepth 100000 in
theorem take_any (l : List UInt8) (hl : l.length ≤ 1000000) (bd : Nat) (d : Dr) (hg : GoodD d) (h6 : d.last ≤ 6) (L : Value) (w : World) (hbox : w.heap[bd]? = some (db d.k d.i d.n L d.last d.said)) (hrows : RowsAt w bd L d.ls) (hkw : KW w) (hkb : 0 < bd) :
    Calls Tryz.prog 27 #[.string (str l), .pointer (some ⟨bd, 0, none⟩)] w (StepLeaves w bd (takeD d l)) := by
  have HS := fun w => skipped_any l w
  have HR := read_any l hl bd d hg h6 L w hbox hrows hkw hkb
  cases hs : skipL l
  · have ht : takeD d l = stepD d l := by unfold takeD; rw [hs]; rfl
    rw [ht]
    rw [hs] at HS
    generalize stepD d l = R at *
    generalize str l = s at *
    clear hs ht hbox hrows hkw hg
    go_enter Tryz.func27, Tryz.ntmps27
    go_wp2_with (go_at_call 28; refine (HS _).mono ?_; rintro e w2 ⟨rfl, rfl⟩)
    refine HR.mono ?_
    intro e w1 hL
    clear HR HS
    rcases hL with ⟨x, hx, hx0, rfl, hB⟩ | ⟨d', L', hd, rfl, hk, hr, hB⟩
    · have hx' := Lib.hid hx
      clear hx
      go_wp2
      go_ret
      exact Or.inl ⟨x, hx'.out, hx0, rfl, hB⟩
    · have hd' := Lib.hid hd
      clear hd
      go_wp2
      go_ret
      exact Or.inr ⟨d', L', hd'.out, rfl, hk, hr, hB⟩
  · have ht : Hid (takeD d l = .inr d) := Lib.hid (by unfold takeD; rw [hs]; rfl)
    rw [hs] at HS
    generalize takeD d l = R at *
    generalize str l = s at *
    have hb' := Lib.hid hbox
    clear hs HR hkw hg hbox
    go_enter Tryz.func27, Tryz.ntmps27
    go_wp2_with (go_at_call 28; refine (HS _).mono ?_; rintro e w2 ⟨rfl, rfl⟩)
    go_ret
    exact Or.inr ⟨d, L, ht.out, rfl, hb'.out, hrows, Below.refl _ _⟩
/-- What eachLine leaves. -/
def EachLeaves (w : World) (bd : Nat) (R : (Nat × Int) ⊕ (Nat × Dr)) (e : Ending) (w' : World) : Prop :=
  (∃ (m : Nat) (x : Int), R = .inl (m, x) ∧ x ≠ 0 ∧ e = .returned (.tuple #[.int .i64 m, .int .i64 x]) ∧ Below bd w w') ∨
  (∃ (m : Nat) (d : Dr) (L : Value), R = .inr (m, d) ∧ Leaves w bd d.ls (.tuple #[.int .i64 m, .int .i64 0]) d.k d.i d.n L d.last d.said e w')
def strLen : Value → Nat
  | .string s => s.size
  | _ => 0
set_option maxHeartbeats 4000000 in
set_option maxRecDepth 100000 in
theorem each_any (S : List UInt8) (hS : S.length ≤ 8000) (bd : Nat) (d0 : Dr) (hg0 : GoodD d0) (h60 : d0.last ≤ 6) (L0 : Value) (w : World) (hbox0 : w.heap[bd]? = some (db d0.k d0.i d0.n L0 d0.last d0.said)) (hrows0 : RowsAt w bd L0 d0.ls) (hkw : KW w) (hkb : 0 < bd) :
    Calls Tryz.prog 26 #[.string (str S), .func (.func 27) #[] #[.pointer (some ⟨bd, 0, none⟩)]] w (EachLeaves w bd (pGo S [] d0 0)) := by
  have hcf : ∀ (args : Array Value) (w1 : World), (Sem.run Tryz.prog (callFunc 27 args) w1) = .ok (.enter 27 args) w1 := fun _ _ => by kernel_rfl
  go_enter Tryz.func26, Tryz.ntmps26
  go_wp2
  go_loopw [0, 6, 7, 8, 9, 10] (fun s0 s6 _ _ _ _ wr => ∃ (r : List UInt8) (m : Nat) (d : Dr) (L : Value), s0 = .string (str r) ∧ s6 = .int .i64 m ∧ m + r.length ≤ 8000 ∧ Hid (pGo S [] d0 0 = pGo r [] d m) ∧ Hid (GoodD d ∧ d.last ≤ 6) ∧ Hid (wr.heap[bd]? = some (db d.k d.i d.n L d.last d.said)) ∧ RowsAt wr bd L d.ls ∧ Below bd w wr) (fun s0 _ _ _ _ _ _ => strLen s0)
  case atStart => exact ⟨S, 0, d0, L0, rfl, rfl, by omega, Lib.hid rfl, Lib.hid ⟨hg0, h60⟩, Lib.hid hbox0, hrows0, Below.refl _ _⟩
  case round =>
    clear hbox0 hrows0 hg0 h60
    obtain ⟨r, m, d, L, rfl, rfl, hmr, hG, hgd, hbox, hrows, hB⟩ := hrel
    have ht := toList_str r
    have hsz := Lib.hid (size_str r)
    by_cases hr : r = []
    · have hGe : Hid (pGo S [] d0 0 = .inr (m, d)) := Lib.hid (by rw [hG.out, hr]; rfl)
      replace ht := ht.trans hr
      generalize str r = s at *
      clear hr hkw
      go_wp2
      go_ret2
      exact Or.inr ⟨m, d, L, hGe.out, rfl, hbox.out, hrows, hB⟩
    · rcases split10 r with ⟨a, q, e, ha⟩ | ha
      · have hbne : (str r).toList.isEmpty = false := by rw [toList_str]; simpa using hr
        have hne : ¬ (str r).toList = [] := by rw [toList_str]; exact hr
        have hla : a.length + q.length ≤ 8000 := by rw [e] at hmr; simp at hmr; omega
        have hmq : m + 1 + q.length ≤ 8000 := by rw [e] at hmr; simp at hmr; omega
        have hmeas : Hid ((str q).size < (str r).size) := Lib.hid (by rw [size_str, size_str, e]; simp; omega)
        have HC := fun w => cut_at a q ha (by omega) w
        rw [← e] at HC
        have hline := Lib.hid (pGo_line a q ha d m)
        rw [← e] at hline
        have HT := fun w1 hb hr hk => take_any a (by omega) bd d hgd.out.1 hgd.out.2 L w1 hb hr hk hkb
        have hgt := Lib.hid (fun (d' : Dr) (h : takeD d a = .inr d') => (⟨take_good hgd.out.1 h, take_last hgd.out.2 h⟩ : GoodD d' ∧ d'.last ≤ 6))
        have hz := size_of_block hbox.out
        clear hr e ha ht
        generalize hR : takeD d a = R at *
        clear hR
        generalize hsr : str r = s at *
        clear hsr
        generalize str a = sa at *
        go_wp2_with fail
        refine (HC _).mono ?_
        rintro e w1 ⟨rfl, hb1⟩
        have hbox1 := Lib.hid (keep_blk hb1 hbox.out)
        have hrows1 := hrows.below hb1
        have hB1 := hB.trans (hb1.mono (by omega))
        have HT1 := HT w1 hbox1.out hrows1 (hkw.low hB1 hkb)
        clear HC hb1 hbox hrows hB HT
        go_wp2_with fail
        refine HT1.mono ?_
        intro e w2 hL
        clear HT1
        rcases hL with ⟨x, hx, hx0, rfl, hB2⟩ | ⟨d', L', hd, rfl, hk, hr, hB2⟩
        · have hGx : Hid (pGo S [] d0 0 = .inl (m, x)) := Lib.hid (by rw [hG.out, hline.out, hx])
          have hxb : ((x : Int) != 0) = true := by rw [bne_iff_ne]; exact hx0
          clear hx hx0
          go_wp2
          go_ret2
          exact Or.inl ⟨m, x, hGx.out, by simpa using hxb, rfl, hB1.trans hB2⟩
        · have hGd : Hid (pGo S [] d0 0 = pGo q [] d' (m + 1)) := Lib.hid (by rw [hG.out, hline.out, hd])
          have hgd' := Lib.hid (hgt.out d' hd)
          have hk' := Lib.hid hk
          clear hd hk hgt hline
          go_wp2
          go_roundw
          case rel => exact ⟨q, m + 1, d', L', rfl, by go_num, by omega, hGd, hgd', hk', hr, hB1.trans hB2⟩
          case measure => simp only [strLen]; exact hmeas.out
      · have hbne : (str r).toList.isEmpty = false := by rw [toList_str]; simpa using hr
        have hne : ¬ (str r).toList = [] := by rw [toList_str]; exact hr
        have HC := fun w => cut_no r ha w
        have hGl : Hid (pGo S [] d0 0 = .inl (m, 2)) := Lib.hid (by rw [hG.out, pGo_last r ha hr])
        have hz := size_of_block hbox.out
        clear hr ha ht
        generalize hsr : str r = s at *
        clear hsr
        go_wp2_with fail
        refine (HC _).mono ?_
        rintro e w1 ⟨rfl, hb1⟩
        have hB1 := hB.trans (hb1.mono (by omega))
        clear HC hb1
        go_wp2
        go_ret2
        exact Or.inl ⟨m, 2, hGl.out, by decide, rfl, hB1⟩
end Go.Proofs.YtckmjampgeojbaaGreatDoor
namespace Go.Proofs.YtckmjampgeojbaaGreatDoor
open Go.RowKit Go.Joins

theorem own_cells {w : World} {base size n : Nat} {e : TypeId} {v : Value} {xs : List Value} (h : w.ownsRow base e size v n xs) (hn : 0 < n) :
    ∃ g c, v = .slice (some ⟨g, 0, none⟩) n c ∧ g < w.heap.size ∧ n ≤ 9223372036854775807 ∧ ∀ i x, xs[i]? = some x → w.cell? ⟨g, i, none⟩ = some x := by
  rcases h.2 with ⟨rfl, h0⟩ | ⟨g, cap, cur, rfl, hg, hgg, h1, h2, h3, h4⟩
  · omega
  · have hm : maxLen = 9223372036854775807 := rfl
    refine ⟨g, cap, rfl, size_of_block hgg, by omega, fun i x hx => ?_⟩
    rw [cell_of_block hgg]
    rw [← h4, List.getElem?_take] at hx
    split at hx
    · simpa using hx
    · cases hx
theorem linesV_at : ∀ (ls : List Ln) (os : List Value) (j : Nat) (l : Ln) (ov : Value), ls[j]? = some l → os[j]? = some ov →
    (linesV ls os)[j * 3]? = some (bvv l.m) ∧ (linesV ls os)[j * 3 + 1]? = some (bvv l.v) ∧ (linesV ls os)[j * 3 + 2]? = some ov
  | [], _, _, _, _, h, _ => by simp at h
  | _ :: _, [], _, _, _, _, h => by simp at h
  | a :: ls, b :: os, 0, l, ov, h, h' => by
    simp at h h'
    subst h h'
    exact ⟨rfl, rfl, rfl⟩
  | a :: ls, b :: os, j + 1, l, ov, h, h' => by
    obtain ⟨x, y, z⟩ := linesV_at ls os j l ov (by simpa using h) (by simpa using h')
    have e : linesV (a :: ls) (b :: os) = bvv a.m :: bvv a.v :: b :: linesV ls os := rfl
    rw [e, show (j + 1) * 3 = j * 3 + 3 by omega]
    exact ⟨x, y, z⟩
theorem own_ints {w : World} {bd : Nat} {v : Value} {o : List Int} (h : w.ownsRow bd 3 1 v o.length (intsI o)) : IntsAt w w.heap.size v o := by
  rcases Nat.eq_zero_or_pos o.length with h0 | h0
  · obtain ⟨A, c, rfl⟩ := own_form h
    exact ⟨A, c, rfl, by omega, fun h => by omega⟩
  · obtain ⟨g, c, rfl, hg, hlen, hc⟩ := own_cells h h0
    refine ⟨_, c, rfl, hlen, fun _ => ⟨g, 0, rfl, hg, fun j x hx => ?_⟩⟩
    rw [Nat.zero_add]
    exact hc j _ (by simp [intsI, hx])
theorem RowsAt.lines {w : World} {bd : Nat} {L : Value} {ls : List Ln} (h : RowsAt w bd L ls) : LinesAt w w.heap.size L ls := by
  obtain ⟨os, h1, h2, h3⟩ := h
  rcases Nat.eq_zero_or_pos ls.length with h0 | h0
  · obtain ⟨A, c, rfl⟩ := own_form h2
    exact ⟨A, c, rfl, by omega, fun h => by omega⟩
  · obtain ⟨g, c, rfl, hg, hlen, hc⟩ := own_cells h2 h0
    refine ⟨_, c, rfl, hlen, fun _ => ⟨g, 0, rfl, hg, fun j l hl => ?_⟩⟩
    have hj : j < os.length := by rw [h1]; exact (List.getElem?_eq_some_iff.1 hl).1
    have ho : os[j]? = some os[j] := List.getElem?_eq_getElem hj
    obtain ⟨a, b, d⟩ := linesV_at ls os j l _ hl ho
    rw [Nat.zero_add]
    exact ⟨os[j], hc _ _ a, hc _ _ b, hc _ _ d, own_ints (h3 j l _ hl ho)⟩
/-- What Parse leaves. -/
def ParseLeaves (w : World) (R : Option Tb) (E : Int × Int) (e : Ending) (w' : World) : Prop :=
  Below w.heap.size w w' ∧ ((∃ t L, R = some t ∧ e = .returned (.tuple #[tv t.k t.i t.n L, .int .i64 0, .int .i64 0]) ∧ LinesAt w' w'.heap.size L t.ls) ∨
    (R = none ∧ E.2 ≠ 0 ∧ e = .returned (.tuple #[tv 0 0 0 (.slice none 0 0), .int .i64 E.1, .int .i64 E.2])))
set_option maxHeartbeats 1000000 in
set_option maxRecDepth 100000 in
theorem parse_long (S : List UInt8) (hS : S.length ≤ 9000) (h8 : 8000 < S.length) (w : World) :
    Calls Tryz.prog 12 #[.string (str S)] w (ParseLeaves w (parseT S) (parseE S)) := by
  have hR : parseT S = none := by unfold parseT; rw [if_pos h8]
  have hE : parseE S = (0, 3) := by unfold parseE; rw [if_pos h8]
  rw [hR, hE]
  have hs := size_str S
  have h1 : (8000 : Int) < ((str S).size : Int) := by omega
  have h2 : (str S).size ≤ 9000 := by omega
  clear hs hR hE h8
  generalize str S = s at *
  go_enter Tryz.func12, Tryz.ntmps12
  go_wp2
  exact bodyPost_ret (v := .tuple #[tv 0 0 0 (.slice none 0 0), .int .i64 0, .int .i64 3]) (by simp [results, Tryz.results12, go_sem, tv]) rfl
    ⟨below_alloc1 w _, Or.inr ⟨rfl, by decide, rfl⟩⟩
theorem heap2_a (w : World) (o1 o2 : Obj) : ((w.alloc o1).alloc o2).heap[w.heap.size]? = some o1 := heap_alloc2_old _ _ _
theorem RowsAt.low {w : World} {bd : Nat} {L : Value} {ls : List Ln} (h : RowsAt w bd L ls) {a : Addr} (ha : a.block < bd) (u : Value) : RowsAt (w.setCell a u) bd L ls := by
  obtain ⟨os, h1, h2, h3⟩ := h
  exact ⟨os, h1, ownsRow_setCell_below h2 ha u, fun j l ov hl ho => ownsRow_setCell_below (h3 j l ov hl ho) ha u⟩
theorem RowsAt.low4 {w : World} {bd : Nat} {L : Value} {ls : List Ln} (h : RowsAt w bd L ls) {b : Nat} (ha : b < bd) (u0 u1 u2 u3 : Value) : RowsAt ((((w.setCell ⟨b, 0, none⟩ u0).setCell ⟨b, 1, none⟩ u1).setCell ⟨b, 2, none⟩ u2).setCell ⟨b, 3, none⟩ u3) bd L ls :=
  (((h.low ha u0).low ha u1).low ha u2).low ha u3
theorem cellsT {w : World} {b : Nat} {k i n : Int} {L : Value} (h : w.heap[b]? = some (tb k i n L)) (u0 u1 u2 u3 : Value) : ((((w.setCell ⟨b, 0, none⟩ u0).setCell ⟨b, 1, none⟩ u1).setCell ⟨b, 2, none⟩ u2).setCell ⟨b, 3, none⟩ u3).heap[b]? = some (.cells #[u0, u1, u2, u3] 33 (0, 0)) := by
  unfold tb at h
  have h1 := block_setCell (i := 0) h u0
  have h2 := block_setCell (i := 1) h1 u1
  have h3 := block_setCell (i := 2) h2 u2
  rw [block_setCell h3]
  rfl
theorem heap2_b (w : World) (o1 o2 : Obj) : ((w.alloc o1).alloc o2).heap[w.heap.size + 1]? = some o2 := by
  have := heap_alloc_new (w.alloc o1) o2
  simpa using this
/-- A table's box, here and now. -/
theorem nowT {w : World} {b : Nat} {k i n : Int} {L : Value} (h : w.heap[b]? = some (tb k i n L)) :
    w.cell? ⟨b, 0, none⟩ = some (.int .i64 k) ∧ w.cell? ⟨b, 1, none⟩ = some (.int .i64 i) ∧ w.cell? ⟨b, 2, none⟩ = some (.int .i64 n) ∧ w.cell? ⟨b, 3, none⟩ = some L ∧ (∀ j : Nat, w.frozen? ⟨b, j, none⟩ = false) := by
  unfold tb at h
  exact ⟨by rw [cell_of_block h]; rfl, by rw [cell_of_block h]; rfl, by rw [cell_of_block h]; rfl, by rw [cell_of_block h]; rfl, unfrozen_of_block h⟩
def outT : (Nat × Int) ⊕ (Nat × Dr) → Option Tb
  | .inl _ => none
  | .inr (_, d) => if d.last = 6 then some ⟨d.k, d.i, d.n, d.ls⟩ else none
def outE : (Nat × Int) ⊕ (Nat × Dr) → Int × Int
  | .inl (n, e) => (n, e)
  | .inr (n, d) => if d.last = 6 then (0, 0) else (n, 7)
theorem parseT_out {S : List UInt8} (h : ¬ 8000 < S.length) : parseT S = outT (pGo S [] dr0 0) := by
  unfold parseT; rw [if_neg h]
  rcases pGo S [] dr0 0 with a | ⟨a, b⟩ <;> rfl
theorem parseE_out {S : List UInt8} (h : ¬ 8000 < S.length) : parseE S = outE (pGo S [] dr0 0) := by
  unfold parseE; rw [if_neg h]
  rcases pGo S [] dr0 0 with ⟨a, b⟩ | ⟨a, b⟩ <;> rfl
set_option maxHeartbeats 1000000 in
set_option maxRecDepth 100000 in
theorem parse_short (S : List UInt8) (h8 : S.length ≤ 8000) (w : World) (hkw : KW w) :
    Calls Tryz.prog 12 #[.string (str S)] w (ParseLeaves w (parseT S) (parseE S)) := by
  have hmf : ∀ (fn : Fn) (first cap : Array Value) (w : World), (Instr.makeFunc fn first cap).run Tryz.prog w = .ok (.func fn first cap) w := fun _ _ _ _ => rfl
  have hW0 : Below w.heap.size w ((w.alloc (tb 0 0 0 (.slice none 0 0))).alloc (db 1 0 0 (.slice none 0 0) 0 (-1))) := below_alloc2 w _ _
  have HE := each_any S h8 (w.heap.size + 1) dr0 good0 (by decide) (.slice none 0 0) ((w.alloc (tb 0 0 0 (.slice none 0 0))).alloc (db 1 0 0 (.slice none 0 0) 0 (-1))) (heap2_b _ _ _) ⟨[], rfl, World.ownsRow_nil _ _ _ _, by simp [dr0]⟩ (hkw.below hW0) (by have := hkw.2.1; omega)
  have hk0 := Lib.hid (heap2_a w (tb 0 0 0 (.slice none 0 0)) (db 1 0 0 (.slice none 0 0) 0 (-1)))
  have hlt : w.heap.size < ((w.alloc (tb 0 0 0 (.slice none 0 0))).alloc (db 1 0 0 (.slice none 0 0) 0 (-1))).heap.size := by simp; omega
  have hs := size_str S
  have h1 : ¬ (8000 : Int) < ((str S).size : Int) := by omega
  have h2 : (str S).size ≤ 8000 := by omega
  have hnS : ¬ 8000 < S.length := by omega
  have hT := Lib.hid (parseT_out hnS)
  have hE := Lib.hid (parseE_out hnS)
  generalize parseT S = RT at *
  generalize parseE S = RE at *
  generalize pGo S [] dr0 0 = R at *
  clear hs hnS h8 hkw
  generalize str S = s at *
  have hW := Lib.hid hW0
  clear hW0
  unfold tb db at HE
  go_enter Tryz.func12, Tryz.ntmps12
  go_wp2_with fail
  refine HE.mono ?_
  intro e w1 hL
  clear HE
  rcases hL with ⟨m, x, hR, hx, rfl, hB⟩ | ⟨m, d, L, hR, rfl, hbox, hrows, hB⟩
  · have hxb : ((x : Int) != 0) = true := by rw [bne_iff_ne]; exact hx
    have hk1 : w1.heap[w.heap.size]? = some (tb 0 0 0 (.slice none 0 0)) := (hB.block _ (by omega)).trans hk0.out
    have hT1 := Lib.hid (hT.out.trans (congrArg outT hR))
    have hE1 := Lib.hid (hE.out.trans (congrArg outE hR))
    have hx' := Lib.hid hx
    obtain ⟨q0, q1, q2, q3, qf⟩ := nowT hk1
    have hz := size_of_block hk1
    have hk := Lib.hid hk1
    have hbB := Lib.hid (hW.out.trans (hB.mono (by omega)))
    clear hR hT hE hx hk0 hlt hk1 hB hW
    go_wp2
    obtain ⟨d0, d1, d2, d3, -⟩ := nowT (cellsT hk.out (.int .i64 0) (.int .i64 0) (.int .i64 0) (.slice none 0 0))
    exact bodyPost_ret (v := .tuple #[tv 0 0 0 (.slice none 0 0), .int .i64 m, .int .i64 x]) (by simp [results, Tryz.results12, go_sem, tv, d0, d1, d2, d3]) rfl
      ⟨below4 (Nat.le_refl _) hbB.out, Or.inr ⟨hT1.out, by rw [hE1.out]; exact hx'.out, by rw [hE1.out]; rfl⟩⟩
  · obtain ⟨A, c, rfl⟩ := hrows.form
    have hk1 : w1.heap[w.heap.size]? = some (tb 0 0 0 (.slice none 0 0)) := (hB.block _ (by omega)).trans hk0.out
    have hT1 := Lib.hid (hT.out.trans (congrArg outT hR))
    have hE1 := Lib.hid (hE.out.trans (congrArg outE hR))
    obtain ⟨q0, q1, q2, q3, qf⟩ := nowT hk1
    have hz := size_of_block hk1
    have hk := Lib.hid hk1
    have hbB := Lib.hid (hW.out.trans (hB.mono (by omega)))
    obtain ⟨p0, p1, p2, p3, p4, p5, pf⟩ := now6 hbox
    have hz2 := size_of_block hbox
    clear hR hT hE hk0 hlt hk1 hB hW hbox
    by_cases h6 : d.last = 6
    · have hd : ((d.last : Int) != 6) = false := by simpa using h6
      have hT2 : Hid (RT = some ⟨d.k, d.i, d.n, d.ls⟩) := Lib.hid (hT1.out.trans (if_pos h6))
      clear hT1 hE1 h6
      go_wp2
      obtain ⟨d0, d1, d2, d3, -⟩ := nowT (cellsT hk.out (.int .i64 d.k) (.int .i64 d.i) (.int .i64 d.n) (.slice A d.ls.length c))
      have hLs := (hrows.low4 (b := w.heap.size) (by omega) (.int .i64 d.k) (.int .i64 d.i) (.int .i64 d.n) (.slice A d.ls.length c)).lines
      exact bodyPost_ret (v := .tuple #[tv d.k d.i d.n (.slice A d.ls.length c), .int .i64 0, .int .i64 0]) (by simp [results, Tryz.results12, go_sem, tv, d0, d1, d2, d3]) rfl
        ⟨below4 (Nat.le_refl _) hbB.out, Or.inl ⟨_, _, hT2.out, rfl, hLs⟩⟩
    · have hd : ((d.last : Int) != 6) = true := by simpa using h6
      have hT2 : Hid (RT = none) := Lib.hid (hT1.out.trans (if_neg h6))
      have hE2 : Hid (RE = ((m : Int), (7 : Int))) := Lib.hid (hE1.out.trans (if_neg h6))
      clear hT1 hE1 h6
      go_wp2
      obtain ⟨d0, d1, d2, d3, -⟩ := nowT (cellsT hk.out (.int .i64 0) (.int .i64 0) (.int .i64 0) (.slice none 0 0))
      exact bodyPost_ret (v := .tuple #[tv 0 0 0 (.slice none 0 0), .int .i64 m, .int .i64 7]) (by simp [results, Tryz.results12, go_sem, tv, d0, d1, d2, d3]) rfl
        ⟨below4 (Nat.le_refl _) hbB.out, Or.inr ⟨hT2.out, by rw [hE2.out]; show (7 : Int) ≠ 0; decide, by rw [hE2.out]⟩⟩
theorem parse_any (S : List UInt8) (hS : S.length ≤ 9000) (w : World) (hkw : KW w) :
    Calls Tryz.prog 12 #[.string (str S)] w (ParseLeaves w (parseT S) (parseE S)) := by
  rcases Nat.lt_or_ge 8000 S.length with h | h
  · exact parse_long S hS h w
  · exact parse_short S h w hkw
end Go.Proofs.YtckmjampgeojbaaGreatDoor
