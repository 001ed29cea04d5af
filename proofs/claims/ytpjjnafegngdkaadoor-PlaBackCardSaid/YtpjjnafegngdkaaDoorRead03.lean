/- What read of the package pla does to the draft, for every line. -/
import Derived.Test.YtpjjnafegngdkaaDoorDraft03
namespace Go.Proofs.YtpjjnafegngdkaaDoor
open Go.RowKit Go.Joins

/-- What a line that is read leaves: an error, or the next draft. -/
def StepLeaves (w : World) (bd : Nat) (r : Int ⊕ Dr) (e : Ending) (w' : World) : Prop :=
  (∃ x, r = .inl x ∧ x ≠ 0 ∧ e = .returned (.int .i64 x) ∧ Below bd w w') ∨ (∃ d' L', r = .inr d' ∧ Leaves w bd d'.ls (.int .i64 0) d'.k d'.i d'.n L' d'.last d'.said e w')
theorem step0 {k i n : Int} {ls : List Ln} {said : Int} (l : List UInt8) : stepD ⟨k, i, n, ls, 0, said⟩ l = if (numB l wordI 0 8).2 = true then .inr ⟨k, (numB l wordI 0 8).1, n, ls, 1, said⟩ else .inl 2 := rfl
theorem step1 {k i n : Int} {ls : List Ln} {said : Int} (l : List UInt8) : stepD ⟨k, i, n, ls, 1, said⟩ l = if (numB l wordO 1 4).2 = true then .inr ⟨k, i, (numB l wordO 1 4).1, ls, 2, said⟩ else .inl 2 := rfl
theorem step6 {k i n : Int} {ls : List Ln} {said : Int} (l : List UInt8) : stepD ⟨k, i, n, ls, 6, said⟩ l = .inl 2 := rfl
theorem stepK_some {k i n kk : Int} {ls : List Ln} {said : Int} (l : List UInt8) (h : wordK.isPrefixOf l = true) (hk : kindOf (l.drop 6) = some kk) : stepD ⟨k, i, n, ls, 2, said⟩ l = .inr ⟨kk, i, n, ls, 3, said⟩ := by
  unfold stepD
  dsimp only
  rw [if_neg (by decide), if_neg (by decide), if_neg (by decide), if_pos ⟨by decide, h⟩, hk]
theorem stepK_none {k i n : Int} {ls : List Ln} {said : Int} (l : List UInt8) (h : wordK.isPrefixOf l = true) (hk : kindOf (l.drop 6) = none) : stepD ⟨k, i, n, ls, 2, said⟩ l = .inl 2 := by
  unfold stepD
  dsimp only
  rw [if_neg (by decide), if_neg (by decide), if_neg (by decide), if_pos ⟨by decide, h⟩, hk]
theorem stepP {k i n : Int} {ls : List Ln} {last said : Int} (l : List UInt8) (hl : last = 2 ∧ wordK.isPrefixOf l = false ∨ last = 3) (h : wordP.isPrefixOf l = true) : stepD ⟨k, i, n, ls, last, said⟩ l = if (numB l wordP 0 64).2 = true then .inr ⟨k, i, n, ls, 4, (numB l wordP 0 64).1⟩ else .inl 2 := by
  unfold stepD
  have h3 : ¬ (last < 3 ∧ wordK.isPrefixOf l = true) := by
    rintro ⟨a, b⟩
    rcases hl with ⟨_, c⟩ | c
    · rw [b] at c; cases c
    · omega
  have h2 : last = 2 ∨ last = 3 := by rcases hl with ⟨a, _⟩ | a; exact Or.inl a; exact Or.inr a
  dsimp only
  rw [if_neg (by omega), if_neg (by omega), if_neg (by omega), if_neg h3, if_pos ⟨by omega, h⟩]
def lateL (last : Int) (l : List UInt8) : Prop := (last = 2 ∧ wordK.isPrefixOf l = false ∧ wordP.isPrefixOf l = false) ∨ (last = 3 ∧ wordP.isPrefixOf l = false) ∨ last = 4 ∨ last = 5
theorem stepLate {k i n : Int} {ls : List Ln} {last said : Int} (l : List UInt8) (hl : lateL last l) : stepD ⟨k, i, n, ls, last, said⟩ l =
    if l = wordE then (if said = -1 ∨ said = ls.length then .inr ⟨k, i, n, ls, 6, said⟩ else .inl 2)
    else if rowOk l i n = true then (if ls.length = 64 then .inl 3 else .inr ⟨k, i, n, ls ++ [rowLn l i], 5, said⟩) else .inl 2 := by
  unfold stepD
  have h2 : last = 2 ∨ last = 3 ∨ last = 4 ∨ last = 5 := by
    rcases hl with ⟨a, _⟩ | ⟨a, _⟩ | a | a
    · exact Or.inl a
    · exact Or.inr (Or.inl a)
    · exact Or.inr (Or.inr (Or.inl a))
    · exact Or.inr (Or.inr (Or.inr a))
  have h3 : ¬ (last < 3 ∧ wordK.isPrefixOf l = true) := by
    rintro ⟨a, b⟩
    rcases hl with ⟨_, c, _⟩ | ⟨c, _⟩ | c | c
    · rw [b] at c; cases c
    · omega
    · omega
    · omega
  have h4 : ¬ (last < 4 ∧ wordP.isPrefixOf l = true) := by
    rintro ⟨a, b⟩
    rcases hl with ⟨_, _, c⟩ | ⟨_, c⟩ | c | c
    · rw [b] at c; cases c
    · rw [b] at c; cases c
    · omega
    · omega
  dsimp only
  rw [if_neg (by omega), if_neg (by omega), if_neg (by omega), if_neg h3, if_neg h4]
set_option maxHeartbeats 1000000 in
set_option maxRecDepth 100000 in
theorem read0 (l : List UInt8) (hl : l.length ≤ 1000000) (bd : Nat) (k i n : Int) (L : Value) (said : Int) (ls : List Ln) (w : World) (hbox : w.heap[bd]? = some (db k i n L 0 said)) (hrows : RowsAt w bd L ls) :
    Calls Tryd.prog 34 #[.pointer (some ⟨bd, 0, none⟩), .string (str l)] w (StepLeaves w bd (stepD ⟨k, i, n, ls, 0, said⟩ l)) := by
  have H := readIn_any l hl bd k i n L 0 said ls w hbox hrows
  rw [step0]
  generalize (numB l wordI 0 8).1 = x at *
  generalize str l = s at *
  obtain ⟨q0, q1, q2, q3, q4, q5, qf⟩ := now6 hbox
  cases hb : (numB l wordI 0 8).2
  · rw [hb] at H
    rw [if_neg (by decide)]
    clear hb hbox hrows
    go_enter Tryd.func34, Tryd.ntmps34
    go_wp2_with fail
    refine H.mono ?_
    rintro e w1 ⟨rfl, hk, hr, hB⟩
    clear H q0 q1 q2 q3 q4 q5 qf
    go_wp2
    go_ret
    exact Or.inl ⟨2, rfl, by decide, rfl, hB⟩
  · rw [hb] at H
    rw [if_pos rfl]
    clear hb hbox hrows
    go_enter Tryd.func34, Tryd.ntmps34
    go_wp2_with fail
    refine H.mono ?_
    rintro e w1 ⟨rfl, hk, hr, hB⟩
    clear H q0 q1 q2 q3 q4 q5 qf
    go_wp2
    go_ret
    exact Or.inr ⟨_, L, rfl, rfl, hk, hr, hB⟩
set_option maxHeartbeats 1000000 in
set_option maxRecDepth 100000 in
theorem read1 (l : List UInt8) (hl : l.length ≤ 1000000) (bd : Nat) (k i n : Int) (L : Value) (said : Int) (ls : List Ln) (w : World) (hbox : w.heap[bd]? = some (db k i n L 1 said)) (hrows : RowsAt w bd L ls) :
    Calls Tryd.prog 34 #[.pointer (some ⟨bd, 0, none⟩), .string (str l)] w (StepLeaves w bd (stepD ⟨k, i, n, ls, 1, said⟩ l)) := by
  have H := readOut_any l hl bd k i n L 1 said ls w hbox hrows
  rw [step1]
  generalize (numB l wordO 1 4).1 = x at *
  generalize str l = s at *
  obtain ⟨q0, q1, q2, q3, q4, q5, qf⟩ := now6 hbox
  cases hb : (numB l wordO 1 4).2
  · rw [hb] at H
    rw [if_neg (by decide)]
    clear hb hbox hrows
    go_enter Tryd.func34, Tryd.ntmps34
    go_wp2_with fail
    refine H.mono ?_
    rintro e w1 ⟨rfl, hk, hr, hB⟩
    clear H q0 q1 q2 q3 q4 q5 qf
    go_wp2
    go_ret
    exact Or.inl ⟨2, rfl, by decide, rfl, hB⟩
  · rw [hb] at H
    rw [if_pos rfl]
    clear hb hbox hrows
    go_enter Tryd.func34, Tryd.ntmps34
    go_wp2_with fail
    refine H.mono ?_
    rintro e w1 ⟨rfl, hk, hr, hB⟩
    clear H q0 q1 q2 q3 q4 q5 qf
    go_wp2
    go_ret
    exact Or.inr ⟨_, L, rfl, rfl, hk, hr, hB⟩
set_option maxHeartbeats 1000000 in
set_option maxRecDepth 100000 in
theorem read6 (l : List UInt8) (bd : Nat) (k i n : Int) (L : Value) (said : Int) (ls : List Ln) (w : World) (hbox : w.heap[bd]? = some (db k i n L 6 said)) :
    Calls Tryd.prog 34 #[.pointer (some ⟨bd, 0, none⟩), .string (str l)] w (StepLeaves w bd (stepD ⟨k, i, n, ls, 6, said⟩ l)) := by
  rw [step6]
  have hz := size_of_block hbox
  generalize str l = s at *
  obtain ⟨q0, q1, q2, q3, q4, q5, qf⟩ := now6 hbox
  clear hbox
  go_enter Tryd.func34, Tryd.ntmps34
  go_wp2
  go_ret
  exact Or.inl ⟨2, rfl, by decide, rfl, Below.refl _ _⟩
set_option maxHeartbeats 1000000 in
set_option maxRecDepth 100000 in
theorem readK (l : List UInt8) (bd : Nat) (k i n : Int) (L : Value) (said : Int) (ls : List Ln) (w : World) (hbox : w.heap[bd]? = some (db k i n L 2 said)) (hrows : RowsAt w bd L ls) (hkw : KW w) (hkb : 0 < bd) (hp : wordK.isPrefixOf l = true) :
    Calls Tryd.prog 34 #[.pointer (some ⟨bd, 0, none⟩), .string (str l)] w (StepLeaves w bd (stepD ⟨k, i, n, ls, 2, said⟩ l)) := by
  have H := readKind_any l hp bd k i n L 2 said ls w hbox hrows hkw hkb
  have HP := fun w => prefix_any l wordK w
  rw [hp, show str wordK = { data := #[46, 116, 121, 112, 101, 32] } from rfl] at HP
  have hS1 := Lib.hid (fun (kk : Int) (h : kindOf (l.drop 6) = some kk) => stepK_some (k := k) (i := i) (n := n) (ls := ls) (said := said) l hp h)
  have hS2 := Lib.hid (fun (h : kindOf (l.drop 6) = none) => stepK_none (k := k) (i := i) (n := n) (ls := ls) (said := said) l hp h)
  generalize stepD ⟨k, i, n, ls, 2, said⟩ l = R at *
  generalize str l = s at *
  obtain ⟨q0, q1, q2, q3, q4, q5, qf⟩ := now6 hbox
  clear hbox hrows hkw
  go_enter Tryd.func34, Tryd.ntmps34
  go_wp2_with (go_at_call 46; refine (HP _).mono ?_; rintro e w2 ⟨rfl, rfl⟩)
  refine H.mono ?_
  intro e w1 hK
  clear H HP q0 q1 q2 q3 q4 q5 qf
  rcases hK with ⟨kk, hkk, rfl, hk, hr, hB⟩ | ⟨hkk, rfl, hB⟩
  · have hkk' := Lib.hid hkk
    clear hkk
    go_wp2
    go_ret
    exact Or.inr ⟨_, L, hS1.out _ hkk'.out, rfl, hk, hr, hB⟩
  · have hkk' := Lib.hid hkk
    clear hkk
    go_wp2
    go_ret
    exact Or.inl ⟨2, hS2.out hkk'.out, by decide, rfl, hB⟩
set_option maxHeartbeats 1000000 in
set_option maxRecDepth 100000 in
theorem readP2 (l : List UInt8) (hl : l.length ≤ 1000000) (bd : Nat) (k i n : Int) (L : Value) (said : Int) (ls : List Ln) (w : World) (hbox : w.heap[bd]? = some (db k i n L 2 said)) (hrows : RowsAt w bd L ls) (hq : wordK.isPrefixOf l = false) (hp : wordP.isPrefixOf l = true) :
    Calls Tryd.prog 34 #[.pointer (some ⟨bd, 0, none⟩), .string (str l)] w (StepLeaves w bd (stepD ⟨k, i, n, ls, 2, said⟩ l)) := by
  have H := readCount_any l hl bd k i n L 2 said ls w hbox hrows
  have HP := fun w => prefix_any l wordP w
  rw [hp, show str wordP = { data := #[46, 112, 32] } from rfl] at HP
  have HK := fun w => prefix_any l wordK w
  rw [hq, show str wordK = { data := #[46, 116, 121, 112, 101, 32] } from rfl] at HK
  rw [stepP l (Or.inl ⟨rfl, hq⟩) hp]
  generalize (numB l wordP 0 64).1 = x at *
  generalize str l = s at *
  obtain ⟨q0, q1, q2, q3, q4, q5, qf⟩ := now6 hbox
  cases hb : (numB l wordP 0 64).2
  · rw [hb] at H
    rw [if_neg (by decide)]
    clear hb hbox hrows
    go_enter Tryd.func34, Tryd.ntmps34
    go_wp2_with (first | (go_at_call_of 46 (Value.string { data := #[46, 112, 32] }); refine (HP _).mono ?_; rintro e w2 ⟨rfl, rfl⟩) | (go_at_call_of 46 (Value.string { data := #[46, 116, 121, 112, 101, 32] }); refine (HK _).mono ?_; rintro e w2 ⟨rfl, rfl⟩))
    refine H.mono ?_
    rintro e w1 ⟨rfl, hk, hr, hB⟩
    clear H q0 q1 q2 q3 q4 q5 qf
    go_wp2
    go_ret
    exact Or.inl ⟨2, rfl, by decide, rfl, hB⟩
  · rw [hb] at H
    rw [if_pos rfl]
    clear hb hbox hrows
    go_enter Tryd.func34, Tryd.ntmps34
    go_wp2_with (first | (go_at_call_of 46 (Value.string { data := #[46, 112, 32] }); refine (HP _).mono ?_; rintro e w2 ⟨rfl, rfl⟩) | (go_at_call_of 46 (Value.string { data := #[46, 116, 121, 112, 101, 32] }); refine (HK _).mono ?_; rintro e w2 ⟨rfl, rfl⟩))
    refine H.mono ?_
    rintro e w1 ⟨rfl, hk, hr, hB⟩
    clear H q0 q1 q2 q3 q4 q5 qf
    go_wp2
    go_ret
    exact Or.inr ⟨_, L, rfl, rfl, hk, hr, hB⟩
set_option maxHeartbeats 1000000 in
set_option maxRecDepth 100000 in
theorem readP3 (l : List UInt8) (hl : l.length ≤ 1000000) (bd : Nat) (k i n : Int) (L : Value) (said : Int) (ls : List Ln) (w : World) (hbox : w.heap[bd]? = some (db k i n L 3 said)) (hrows : RowsAt w bd L ls) (hp : wordP.isPrefixOf l = true) :
    Calls Tryd.prog 34 #[.pointer (some ⟨bd, 0, none⟩), .string (str l)] w (StepLeaves w bd (stepD ⟨k, i, n, ls, 3, said⟩ l)) := by
  have H := readCount_any l hl bd k i n L 3 said ls w hbox hrows
  have HP := fun w => prefix_any l wordP w
  rw [hp, show str wordP = { data := #[46, 112, 32] } from rfl] at HP
  rw [stepP l (Or.inr rfl) hp]
  generalize (numB l wordP 0 64).1 = x at *
  generalize str l = s at *
  obtain ⟨q0, q1, q2, q3, q4, q5, qf⟩ := now6 hbox
  cases hb : (numB l wordP 0 64).2
  · rw [hb] at H
    rw [if_neg (by decide)]
    clear hb hbox hrows
    go_enter Tryd.func34, Tryd.ntmps34
    go_wp2_with (first | (go_at_call_of 46 (Value.string { data := #[46, 112, 32] }); refine (HP _).mono ?_; rintro e w2 ⟨rfl, rfl⟩))
    refine H.mono ?_
    rintro e w1 ⟨rfl, hk, hr, hB⟩
    clear H q0 q1 q2 q3 q4 q5 qf
    go_wp2
    go_ret
    exact Or.inl ⟨2, rfl, by decide, rfl, hB⟩
  · rw [hb] at H
    rw [if_pos rfl]
    clear hb hbox hrows
    go_enter Tryd.func34, Tryd.ntmps34
    go_wp2_with (first | (go_at_call_of 46 (Value.string { data := #[46, 112, 32] }); refine (HP _).mono ?_; rintro e w2 ⟨rfl, rfl⟩))
    refine H.mono ?_
    rintro e w1 ⟨rfl, hk, hr, hB⟩
    clear H q0 q1 q2 q3 q4 q5 qf
    go_wp2
    go_ret
    exact Or.inr ⟨_, L, rfl, rfl, hk, hr, hB⟩
end Go.Proofs.YtpjjnafegngdkaaDoor
