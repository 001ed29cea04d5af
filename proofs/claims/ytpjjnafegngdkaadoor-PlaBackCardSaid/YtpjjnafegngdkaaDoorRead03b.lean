/- What read of the package pla does to the draft where a row or the end may come, and for every draft. -/
import Derived.Test.YtpjjnafegngdkaaDoorRead03
import Derived.Test.YtpjjnafegngdkaaDoorRRow03
namespace Go.Proofs.YtpjjnafegngdkaaDoor
open Go.RowKit Go.Joins

theorem late_end {k i n : Int} {ls : List Ln} {last said : Int} {l : List UInt8} (hl : lateL last l) (h : l = wordE) (hs : (decide (said = -1) || decide (said = (ls.length : Int))) = true) : stepD ⟨k, i, n, ls, last, said⟩ l = .inr ⟨k, i, n, ls, 6, said⟩ := by
  rw [stepLate l hl, if_pos h, if_pos (by simpa using hs)]
theorem late_noend {k i n : Int} {ls : List Ln} {last said : Int} {l : List UInt8} (hl : lateL last l) (h : l = wordE) (hs : (decide (said = -1) || decide (said = (ls.length : Int))) = false) : stepD ⟨k, i, n, ls, last, said⟩ l = .inl 2 := by
  rw [stepLate l hl, if_pos h, if_neg (by simpa using hs)]
theorem late_row {k i n : Int} {ls : List Ln} {last said : Int} {l : List UInt8} (hl : lateL last l) (h : l ≠ wordE) (hr : rowOk l i n = true) (h64 : ls.length ≠ 64) : stepD ⟨k, i, n, ls, last, said⟩ l = .inr ⟨k, i, n, ls ++ [rowLn l i], 5, said⟩ := by
  rw [stepLate l hl, if_neg h, if_pos hr, if_neg h64]
theorem late_full {k i n : Int} {ls : List Ln} {last said : Int} {l : List UInt8} (hl : lateL last l) (h : l ≠ wordE) (hr : rowOk l i n = true) (h64 : ls.length = 64) : stepD ⟨k, i, n, ls, last, said⟩ l = .inl 3 := by
  rw [stepLate l hl, if_neg h, if_pos hr, if_pos h64]
theorem late_norow {k i n : Int} {ls : List Ln} {last said : Int} {l : List UInt8} (hl : lateL last l) (h : l ≠ wordE) (hr : rowOk l i n = false) : stepD ⟨k, i, n, ls, last, said⟩ l = .inl 2 := by
  rw [stepLate l hl, if_neg h, if_neg (by rw [hr]; decide)]
set_option maxHeartbeats 2000000 in
set_option maxRecDepth 100000 in
theorem readE2 (l : List UInt8) (hl : l.length ≤ 1000000) (bd : Nat) (k : Int) (I N : Nat) (hi : I ≤ 8) (hn : N ≤ 4) (L : Value) (said : Int) (ls : List Ln) (h64 : ls.length ≤ 64) (w : World) (hbox : w.heap[bd]? = some (db k I N L 2 said)) (hrows : RowsAt w bd L ls) (hq : wordK.isPrefixOf l = false) (hp : wordP.isPrefixOf l = false) :
    Calls Tryd.prog 34 #[.pointer (some ⟨bd, 0, none⟩), .string (str l)] w (StepLeaves w bd (stepD ⟨k, I, N, ls, 2, said⟩ l)) := by
  have hla : lateL 2 l := Or.inl ⟨rfl, hq, hp⟩
  have HP := fun w => prefix_any l wordP w
  rw [hp, show str wordP = { data := #[46, 112, 32] } from rfl] at HP
  have HK := fun w => prefix_any l wordK w
  rw [hq, show str wordK = { data := #[46, 116, 121, 112, 101, 32] } from rfl] at HK
  have HE := readEnd_any bd k I N L 2 said ls w hbox hrows
  have h1 := Lib.hid (fun h hs => late_end (k := k) (i := I) (n := N) (ls := ls) (said := said) hla h hs)
  have h2 := Lib.hid (fun h hs => late_noend (k := k) (i := I) (n := N) (ls := ls) (said := said) hla h hs)
  have h3 := Lib.hid (fun h hr hf => late_row (k := k) (i := I) (n := N) (ls := ls) (said := said) hla h hr hf)
  have h4 := Lib.hid (fun h hr hf => late_full (k := k) (i := I) (n := N) (ls := ls) (said := said) hla h hr hf)
  have h5 := Lib.hid (fun h hr => late_norow (k := k) (i := I) (n := N) (ls := ls) (said := said) hla h hr)
  have hyes := Lib.hid (fun hr => readRow_yes l I N hi hn hr bd k L 2 said ls h64 w hbox hrows)
  have hno := Lib.hid (fun hr => readRow_no l hl I N hi hn hr bd k L 2 said w hbox)
  have ht := toList_str l
  have hc : ({ data := #[46, 101] } : ByteArray).toList = [46, 101] := toList_str [46, 101]
  have hwE : wordE = [46, 101] := rfl
  obtain ⟨q0, q1, q2, q3, q4, q5, qf⟩ := now6 hbox
  generalize stepD ⟨k, I, N, ls, 2, said⟩ l = R at *
  clear hbox hrows hla hwE hp hq
  by_cases hE : l = [46, 101]
  · have hE' := Lib.hid hE
    replace ht := ht.trans hE
    generalize str l = s at *
    clear hyes hno hE
    cases hb : (decide (said = -1) || decide (said = (ls.length : Int)))
    · have hR := Lib.hid (h2.out hE'.out hb)
      rw [hb] at HE
      clear hb
      go_enter Tryd.func34, Tryd.ntmps34
      go_wp2_with (first | (go_at_call_of 46 (Value.string { data := #[46, 112, 32] }); refine (HP _).mono ?_; rintro e w2 ⟨rfl, rfl⟩) | (go_at_call_of 46 (Value.string { data := #[46, 116, 121, 112, 101, 32] }); refine (HK _).mono ?_; rintro e w2 ⟨rfl, rfl⟩))
      refine HE.mono ?_
      rintro e w1 ⟨rfl, hk, hr, hB⟩
      clear HE q0 q1 q2 q3 q4 q5 qf
      go_wp2
      go_ret
      exact Or.inl ⟨2, hR.out, by decide, rfl, hB⟩
    · have hR := Lib.hid (h1.out hE'.out hb)
      rw [hb] at HE
      clear hb
      go_enter Tryd.func34, Tryd.ntmps34
      go_wp2_with (first | (go_at_call_of 46 (Value.string { data := #[46, 112, 32] }); refine (HP _).mono ?_; rintro e w2 ⟨rfl, rfl⟩) | (go_at_call_of 46 (Value.string { data := #[46, 116, 121, 112, 101, 32] }); refine (HK _).mono ?_; rintro e w2 ⟨rfl, rfl⟩))
      refine HE.mono ?_
      rintro e w1 ⟨rfl, hk, hr, hB⟩
      clear HE q0 q1 q2 q3 q4 q5 qf
      go_wp2
      go_ret
      exact Or.inr ⟨_, L, hR.out, rfl, hk, hr, hB⟩
  · have hE' := Lib.hid hE
    have hEb : (l == [46, 101]) = false := by simpa using hE
    clear hE HE
    cases hro : rowOk l I N
    · have hR := Lib.hid (h5.out hE'.out hro)
      have HN := hno.out hro
      clear hro hno hyes
      generalize str l = s at *
      go_enter Tryd.func34, Tryd.ntmps34
      go_wp2_with (first | (go_at_call_of 46 (Value.string { data := #[46, 112, 32] }); refine (HP _).mono ?_; rintro e w2 ⟨rfl, rfl⟩) | (go_at_call_of 46 (Value.string { data := #[46, 116, 121, 112, 101, 32] }); refine (HK _).mono ?_; rintro e w2 ⟨rfl, rfl⟩))
      refine HN.mono ?_
      rintro e w1 ⟨rfl, hB⟩
      clear HN q0 q1 q2 q3 q4 q5 qf
      go_wp2
      go_ret
      exact Or.inl ⟨2, hR.out, by decide, rfl, hB⟩
    · have hR3 := Lib.hid (fun hf => h3.out hE'.out hro hf)
      have hR4 := Lib.hid (fun hf => h4.out hE'.out hro hf)
      have HY := hyes.out hro
      clear hro hno hyes
      generalize str l = s at *
      go_enter Tryd.func34, Tryd.ntmps34
      go_wp2_with (first | (go_at_call_of 46 (Value.string { data := #[46, 112, 32] }); refine (HP _).mono ?_; rintro e w2 ⟨rfl, rfl⟩) | (go_at_call_of 46 (Value.string { data := #[46, 116, 121, 112, 101, 32] }); refine (HK _).mono ?_; rintro e w2 ⟨rfl, rfl⟩))
      refine HY.mono ?_
      intro e w1 hL
      clear HY q0 q1 q2 q3 q4 q5 qf
      rcases hL with ⟨hf, rfl, hB⟩ | ⟨hf, L', rfl, hk, hr, hB⟩
      · have hf' := Lib.hid hf
        clear hf
        go_wp2
        go_ret
        exact Or.inl ⟨3, hR4.out hf'.out, by decide, rfl, hB⟩
      · have hf' := Lib.hid hf
        clear hf
        go_wp2
        go_ret
        exact Or.inr ⟨_, L', hR3.out hf'.out, rfl, hk, hr, hB⟩
set_option maxHeartbeats 2000000 in
set_option maxRecDepth 100000 in
theorem readE3 (l : List UInt8) (hl : l.length ≤ 1000000) (bd : Nat) (k : Int) (I N : Nat) (hi : I ≤ 8) (hn : N ≤ 4) (L : Value) (said : Int) (ls : List Ln) (h64 : ls.length ≤ 64) (w : World) (hbox : w.heap[bd]? = some (db k I N L 3 said)) (hrows : RowsAt w bd L ls) (hp : wordP.isPrefixOf l = false) :
    Calls Tryd.prog 34 #[.pointer (some ⟨bd, 0, none⟩), .string (str l)] w (StepLeaves w bd (stepD ⟨k, I, N, ls, 3, said⟩ l)) := by
  have hla : lateL 3 l := Or.inr (Or.inl ⟨rfl, hp⟩)
  have HP := fun w => prefix_any l wordP w
  rw [hp, show str wordP = { data := #[46, 112, 32] } from rfl] at HP
  have HE := readEnd_any bd k I N L 3 said ls w hbox hrows
  have h1 := Lib.hid (fun h hs => late_end (k := k) (i := I) (n := N) (ls := ls) (said := said) hla h hs)
  have h2 := Lib.hid (fun h hs => late_noend (k := k) (i := I) (n := N) (ls := ls) (said := said) hla h hs)
  have h3 := Lib.hid (fun h hr hf => late_row (k := k) (i := I) (n := N) (ls := ls) (said := said) hla h hr hf)
  have h4 := Lib.hid (fun h hr hf => late_full (k := k) (i := I) (n := N) (ls := ls) (said := said) hla h hr hf)
  have h5 := Lib.hid (fun h hr => late_norow (k := k) (i := I) (n := N) (ls := ls) (said := said) hla h hr)
  have hyes := Lib.hid (fun hr => readRow_yes l I N hi hn hr bd k L 3 said ls h64 w hbox hrows)
  have hno := Lib.hid (fun hr => readRow_no l hl I N hi hn hr bd k L 3 said w hbox)
  have ht := toList_str l
  have hc : ({ data := #[46, 101] } : ByteArray).toList = [46, 101] := toList_str [46, 101]
  have hwE : wordE = [46, 101] := rfl
  obtain ⟨q0, q1, q2, q3, q4, q5, qf⟩ := now6 hbox
  generalize stepD ⟨k, I, N, ls, 3, said⟩ l = R at *
  clear hbox hrows hla hwE hp
  by_cases hE : l = [46, 101]
  · have hE' := Lib.hid hE
    replace ht := ht.trans hE
    generalize str l = s at *
    clear hyes hno hE
    cases hb : (decide (said = -1) || decide (said = (ls.length : Int)))
    · have hR := Lib.hid (h2.out hE'.out hb)
      rw [hb] at HE
      clear hb
      go_enter Tryd.func34, Tryd.ntmps34
      go_wp2_with (go_at_call_of 46 (Value.string { data := #[46, 112, 32] }); refine (HP _).mono ?_; rintro e w2 ⟨rfl, rfl⟩)
      refine HE.mono ?_
      rintro e w1 ⟨rfl, hk, hr, hB⟩
      clear HE q0 q1 q2 q3 q4 q5 qf
      go_wp2
      go_ret
      exact Or.inl ⟨2, hR.out, by decide, rfl, hB⟩
    · have hR := Lib.hid (h1.out hE'.out hb)
      rw [hb] at HE
      clear hb
      go_enter Tryd.func34, Tryd.ntmps34
      go_wp2_with (go_at_call_of 46 (Value.string { data := #[46, 112, 32] }); refine (HP _).mono ?_; rintro e w2 ⟨rfl, rfl⟩)
      refine HE.mono ?_
      rintro e w1 ⟨rfl, hk, hr, hB⟩
      clear HE q0 q1 q2 q3 q4 q5 qf
      go_wp2
      go_ret
      exact Or.inr ⟨_, L, hR.out, rfl, hk, hr, hB⟩
  · have hE' := Lib.hid hE
    have hEb : (l == [46, 101]) = false := by simpa using hE
    clear hE HE
    cases hro : rowOk l I N
    · have hR := Lib.hid (h5.out hE'.out hro)
      have HN := hno.out hro
      clear hro hno hyes
      generalize str l = s at *
      go_enter Tryd.func34, Tryd.ntmps34
      go_wp2_with (go_at_call_of 46 (Value.string { data := #[46, 112, 32] }); refine (HP _).mono ?_; rintro e w2 ⟨rfl, rfl⟩)
      refine HN.mono ?_
      rintro e w1 ⟨rfl, hB⟩
      clear HN q0 q1 q2 q3 q4 q5 qf
      go_wp2
      go_ret
      exact Or.inl ⟨2, hR.out, by decide, rfl, hB⟩
    · have hR3 := Lib.hid (fun hf => h3.out hE'.out hro hf)
      have hR4 := Lib.hid (fun hf => h4.out hE'.out hro hf)
      have HY := hyes.out hro
      clear hro hno hyes
      generalize str l = s at *
      go_enter Tryd.func34, Tryd.ntmps34
      go_wp2_with (go_at_call_of 46 (Value.string { data := #[46, 112, 32] }); refine (HP _).mono ?_; rintro e w2 ⟨rfl, rfl⟩)
      refine HY.mono ?_
      intro e w1 hL
      clear HY q0 q1 q2 q3 q4 q5 qf
      rcases hL with ⟨hf, rfl, hB⟩ | ⟨hf, L', rfl, hk, hr, hB⟩
      · have hf' := Lib.hid hf
        clear hf
        go_wp2
        go_ret
        exact Or.inl ⟨3, hR4.out hf'.out, by decide, rfl, hB⟩
      · have hf' := Lib.hid hf
        clear hf
        go_wp2
        go_ret
        exact Or.inr ⟨_, L', hR3.out hf'.out, rfl, hk, hr, hB⟩
set_option maxHeartbeats 2000000 in
set_option maxRecDepth 100000 in
theorem readE4 (l : List UInt8) (hl : l.length ≤ 1000000) (bd : Nat) (k : Int) (I N : Nat) (hi : I ≤ 8) (hn : N ≤ 4) (L : Value) (said : Int) (ls : List Ln) (h64 : ls.length ≤ 64) (w : World) (hbox : w.heap[bd]? = some (db k I N L 4 said)) (hrows : RowsAt w bd L ls) :
    Calls Tryd.prog 34 #[.pointer (some ⟨bd, 0, none⟩), .string (str l)] w (StepLeaves w bd (stepD ⟨k, I, N, ls, 4, said⟩ l)) := by
  have hla : lateL 4 l := Or.inr (Or.inr (Or.inl rfl))
  have HE := readEnd_any bd k I N L 4 said ls w hbox hrows
  have h1 := Lib.hid (fun h hs => late_end (k := k) (i := I) (n := N) (ls := ls) (said := said) hla h hs)
  have h2 := Lib.hid (fun h hs => late_noend (k := k) (i := I) (n := N) (ls := ls) (said := said) hla h hs)
  have h3 := Lib.hid (fun h hr hf => late_row (k := k) (i := I) (n := N) (ls := ls) (said := said) hla h hr hf)
  have h4 := Lib.hid (fun h hr hf => late_full (k := k) (i := I) (n := N) (ls := ls) (said := said) hla h hr hf)
  have h5 := Lib.hid (fun h hr => late_norow (k := k) (i := I) (n := N) (ls := ls) (said := said) hla h hr)
  have hyes := Lib.hid (fun hr => readRow_yes l I N hi hn hr bd k L 4 said ls h64 w hbox hrows)
  have hno := Lib.hid (fun hr => readRow_no l hl I N hi hn hr bd k L 4 said w hbox)
  have ht := toList_str l
  have hc : ({ data := #[46, 101] } : ByteArray).toList = [46, 101] := toList_str [46, 101]
  have hwE : wordE = [46, 101] := rfl
  obtain ⟨q0, q1, q2, q3, q4, q5, qf⟩ := now6 hbox
  generalize stepD ⟨k, I, N, ls, 4, said⟩ l = R at *
  clear hbox hrows hla hwE
  by_cases hE : l = [46, 101]
  · have hE' := Lib.hid hE
    replace ht := ht.trans hE
    generalize str l = s at *
    clear hyes hno hE
    cases hb : (decide (said = -1) || decide (said = (ls.length : Int)))
    · have hR := Lib.hid (h2.out hE'.out hb)
      rw [hb] at HE
      clear hb
      go_enter Tryd.func34, Tryd.ntmps34
      go_wp2_with fail
      refine HE.mono ?_
      rintro e w1 ⟨rfl, hk, hr, hB⟩
      clear HE q0 q1 q2 q3 q4 q5 qf
      go_wp2
      go_ret
      exact Or.inl ⟨2, hR.out, by decide, rfl, hB⟩
    · have hR := Lib.hid (h1.out hE'.out hb)
      rw [hb] at HE
      clear hb
      go_enter Tryd.func34, Tryd.ntmps34
      go_wp2_with fail
      refine HE.mono ?_
      rintro e w1 ⟨rfl, hk, hr, hB⟩
      clear HE q0 q1 q2 q3 q4 q5 qf
      go_wp2
      go_ret
      exact Or.inr ⟨_, L, hR.out, rfl, hk, hr, hB⟩
  · have hE' := Lib.hid hE
    have hEb : (l == [46, 101]) = false := by simpa using hE
    clear hE HE
    cases hro : rowOk l I N
    · have hR := Lib.hid (h5.out hE'.out hro)
      have HN := hno.out hro
      clear hro hno hyes
      generalize str l = s at *
      go_enter Tryd.func34, Tryd.ntmps34
      go_wp2_with fail
      refine HN.mono ?_
      rintro e w1 ⟨rfl, hB⟩
      clear HN q0 q1 q2 q3 q4 q5 qf
      go_wp2
      go_ret
      exact Or.inl ⟨2, hR.out, by decide, rfl, hB⟩
    · have hR3 := Lib.hid (fun hf => h3.out hE'.out hro hf)
      have hR4 := Lib.hid (fun hf => h4.out hE'.out hro hf)
      have HY := hyes.out hro
      clear hro hno hyes
      generalize str l = s at *
      go_enter Tryd.func34, Tryd.ntmps34
      go_wp2_with fail
      refine HY.mono ?_
      intro e w1 hL
      clear HY q0 q1 q2 q3 q4 q5 qf
      rcases hL with ⟨hf, rfl, hB⟩ | ⟨hf, L', rfl, hk, hr, hB⟩
      · have hf' := Lib.hid hf
        clear hf
        go_wp2
        go_ret
        exact Or.inl ⟨3, hR4.out hf'.out, by decide, rfl, hB⟩
      · have hf' := Lib.hid hf
        clear hf
        go_wp2
        go_ret
        exact Or.inr ⟨_, L', hR3.out hf'.out, rfl, hk, hr, hB⟩
set_option maxHeartbeats 2000000 in
set_option maxRecDepth 100000 in
theorem readE5 (l : List UInt8) (hl : l.length ≤ 1000000) (bd : Nat) (k : Int) (I N : Nat) (hi : I ≤ 8) (hn : N ≤ 4) (L : Value) (said : Int) (ls : List Ln) (h64 : ls.length ≤ 64) (w : World) (hbox : w.heap[bd]? = some (db k I N L 5 said)) (hrows : RowsAt w bd L ls) :
    Calls Tryd.prog 34 #[.pointer (some ⟨bd, 0, none⟩), .string (str l)] w (StepLeaves w bd (stepD ⟨k, I, N, ls, 5, said⟩ l)) := by
  have hla : lateL 5 l := Or.inr (Or.inr (Or.inr rfl))
  have HE := readEnd_any bd k I N L 5 said ls w hbox hrows
  have h1 := Lib.hid (fun h hs => late_end (k := k) (i := I) (n := N) (ls := ls) (said := said) hla h hs)
  have h2 := Lib.hid (fun h hs => late_noend (k := k) (i := I) (n := N) (ls := ls) (said := said) hla h hs)
  have h3 := Lib.hid (fun h hr hf => late_row (k := k) (i := I) (n := N) (ls := ls) (said := said) hla h hr hf)
  have h4 := Lib.hid (fun h hr hf => late_full (k := k) (i := I) (n := N) (ls := ls) (said := said) hla h hr hf)
  have h5 := Lib.hid (fun h hr => late_norow (k := k) (i := I) (n := N) (ls := ls) (said := said) hla h hr)
  have hyes := Lib.hid (fun hr => readRow_yes l I N hi hn hr bd k L 5 said ls h64 w hbox hrows)
  have hno := Lib.hid (fun hr => readRow_no l hl I N hi hn hr bd k L 5 said w hbox)
  have ht := toList_str l
  have hc : ({ data := #[46, 101] } : ByteArray).toList = [46, 101] := toList_str [46, 101]
  have hwE : wordE = [46, 101] := rfl
  obtain ⟨q0, q1, q2, q3, q4, q5, qf⟩ := now6 hbox
  generalize stepD ⟨k, I, N, ls, 5, said⟩ l = R at *
  clear hbox hrows hla hwE
  by_cases hE : l = [46, 101]
  · have hE' := Lib.hid hE
    replace ht := ht.trans hE
    generalize str l = s at *
    clear hyes hno hE
    cases hb : (decide (said = -1) || decide (said = (ls.length : Int)))
    · have hR := Lib.hid (h2.out hE'.out hb)
      rw [hb] at HE
      clear hb
      go_enter Tryd.func34, Tryd.ntmps34
      go_wp2_with fail
      refine HE.mono ?_
      rintro e w1 ⟨rfl, hk, hr, hB⟩
      clear HE q0 q1 q2 q3 q4 q5 qf
      go_wp2
      go_ret
      exact Or.inl ⟨2, hR.out, by decide, rfl, hB⟩
    · have hR := Lib.hid (h1.out hE'.out hb)
      rw [hb] at HE
      clear hb
      go_enter Tryd.func34, Tryd.ntmps34
      go_wp2_with fail
      refine HE.mono ?_
      rintro e w1 ⟨rfl, hk, hr, hB⟩
      clear HE q0 q1 q2 q3 q4 q5 qf
      go_wp2
      go_ret
      exact Or.inr ⟨_, L, hR.out, rfl, hk, hr, hB⟩
  · have hE' := Lib.hid hE
    have hEb : (l == [46, 101]) = false := by simpa using hE
    clear hE HE
    cases hro : rowOk l I N
    · have hR := Lib.hid (h5.out hE'.out hro)
      have HN := hno.out hro
      clear hro hno hyes
      generalize str l = s at *
      go_enter Tryd.func34, Tryd.ntmps34
      go_wp2_with fail
      refine HN.mono ?_
      rintro e w1 ⟨rfl, hB⟩
      clear HN q0 q1 q2 q3 q4 q5 qf
      go_wp2
      go_ret
      exact Or.inl ⟨2, hR.out, by decide, rfl, hB⟩
    · have hR3 := Lib.hid (fun hf => h3.out hE'.out hro hf)
      have hR4 := Lib.hid (fun hf => h4.out hE'.out hro hf)
      have HY := hyes.out hro
      clear hro hno hyes
      generalize str l = s at *
      go_enter Tryd.func34, Tryd.ntmps34
      go_wp2_with fail
      refine HY.mono ?_
      intro e w1 hL
      clear HY q0 q1 q2 q3 q4 q5 qf
      rcases hL with ⟨hf, rfl, hB⟩ | ⟨hf, L', rfl, hk, hr, hB⟩
      · have hf' := Lib.hid hf
        clear hf
        go_wp2
        go_ret
        exact Or.inl ⟨3, hR4.out hf'.out, by decide, rfl, hB⟩
      · have hf' := Lib.hid hf
        clear hf
        go_wp2
        go_ret
        exact Or.inr ⟨_, L', hR3.out hf'.out, rfl, hk, hr, hB⟩
theorem read_any (l : List UInt8) (hl : l.length ≤ 1000000) (bd : Nat) (d : Dr) (hg : GoodD d) (h6 : d.last ≤ 6) (L : Value) (w : World) (hbox : w.heap[bd]? = some (db d.k d.i d.n L d.last d.said)) (hrows : RowsAt w bd L d.ls) (hkw : KW w) (hkb : 0 < bd) :
    Calls Tryd.prog 34 #[.pointer (some ⟨bd, 0, none⟩), .string (str l)] w (StepLeaves w bd (stepD d l)) := by
  obtain ⟨k, i, n, ls, last, said⟩ := d
  have hlo := hg.lo
  have h7 : last = 0 ∨ last = 1 ∨ last = 2 ∨ last = 3 ∨ last = 4 ∨ last = 5 ∨ last = 6 := by
    dsimp only at hlo h6; omega
  rcases h7 with rfl | rfl | rfl | rfl | rfl | rfl | rfl
  · exact read0 l hl bd k i n L said ls w hbox hrows
  · exact read1 l hl bd k i n L said ls w hbox hrows
  all_goals
    try exact read6 l bd k i n L said ls w hbox
  all_goals
    have hi := hg.i (by dsimp only; omega)
    have hn := hg.n (by dsimp only; omega)
    dsimp only at hi hn
    obtain ⟨I, rfl⟩ := Int.eq_ofNat_of_zero_le hi.1
    obtain ⟨N, rfl⟩ := Int.eq_ofNat_of_zero_le (show 0 ≤ n by omega)
    have hlen : ls.length ≤ 64 := hg.len
  · cases hq : wordK.isPrefixOf l
    · cases hp : wordP.isPrefixOf l
      · exact readE2 l hl bd k I N (by omega) (by omega) L said ls hlen w hbox hrows hq hp
      · exact readP2 l hl bd k I N L said ls w hbox hrows hq hp
    · exact readK l bd k I N L said ls w hbox hrows hkw hkb hq
  · cases hp : wordP.isPrefixOf l
    · exact readE3 l hl bd k I N (by omega) (by omega) L said ls hlen w hbox hrows hp
    · exact readP3 l hl bd k I N L said ls w hbox hrows hp
  · exact readE4 l hl bd k I N (by omega) (by omega) L said ls hlen w hbox hrows
  · exact readE5 l hl bd k I N (by omega) (by omega) L said ls hlen w hbox hrows
end Go.Proofs.YtpjjnafegngdkaaDoor
