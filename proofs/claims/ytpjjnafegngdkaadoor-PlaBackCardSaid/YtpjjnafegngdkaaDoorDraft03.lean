/- The draft in memory, and what the methods that read a line of a number, a kind or the end do to it. -/
import Derived.Test.YtpjjnafegngdkaaDoorRow03
namespace Go.Proofs.YtpjjnafegngdkaaDoor
open Go.RowKit Go.Joins

/-- The draft's box. -/
def db (k i n : Int) (L : Value) (last said : Int) : Obj := .cells #[.int .i64 k, .int .i64 i, .int .i64 n, L, .int .i64 last, .int .i64 said] 67 (0, 0)
def linesV (ls : List Ln) (os : List Value) : List Value := (ls.zip os).flatMap fun p => [bvv p.1.m, bvv p.1.v, p.2]
/-- The lines that a draft has, in rows that the call has made. -/
def RowsAt (w : World) (bd : Nat) (L : Value) (ls : List Ln) : Prop :=
  ∃ os : List Value, os.length = ls.length ∧ w.ownsRow bd 39 3 L ls.length (linesV ls os) ∧ ∀ (j : Nat) (l : Ln) (ov : Value), ls[j]? = some l → os[j]? = some ov → w.ownsRow bd 3 1 ov l.o.length (intsI l.o)
theorem RowsAt.below {w w' : World} {bd : Nat} {L : Value} {ls : List Ln} (h : RowsAt w bd L ls) (hb : Below w.heap.size w w') : RowsAt w' bd L ls := by
  obtain ⟨os, h1, h2, h3⟩ := h
  exact ⟨os, h1, owns_below h2 hb, fun j l ov hl ho => owns_below (h3 j l ov hl ho) hb⟩
theorem Tryd.neDL : 39 ≠ 67 := by decide
theorem Tryd.neDI : 3 ≠ 67 := by decide
theorem RowsAt.set {w : World} {bd : Nat} {L : Value} {ls : List Ln} {C : Array Value} (h : RowsAt w bd L ls) (hb : w.heap[bd]? = some (.cells C 67 (0, 0))) (j : Nat) (u : Value) : RowsAt (w.setCell ⟨bd, j, none⟩ u) bd L ls := by
  obtain ⟨os, h1, h2, h3⟩ := h
  exact ⟨os, h1, own_set h2 (own_ne h2 hb Tryd.neDL) j u, fun i l ov hl ho => own_set (h3 i l ov hl ho) (own_ne (h3 i l ov hl ho) hb Tryd.neDI) j u⟩
theorem RowsAt.form {w : World} {bd : Nat} {L : Value} {ls : List Ln} (h : RowsAt w bd L ls) : ∃ A c, L = .slice A ls.length c := by
  obtain ⟨os, h1, h2, h3⟩ := h
  exact own_form h2
theorem now6 {w : World} {b : Nat} {k i n : Int} {L : Value} {last said : Int} (h : w.heap[b]? = some (db k i n L last said)) :
    w.cell? ⟨b, 0, none⟩ = some (.int .i64 k) ∧ w.cell? ⟨b, 1, none⟩ = some (.int .i64 i) ∧ w.cell? ⟨b, 2, none⟩ = some (.int .i64 n) ∧ w.cell? ⟨b, 3, none⟩ = some L ∧ w.cell? ⟨b, 4, none⟩ = some (.int .i64 last) ∧ w.cell? ⟨b, 5, none⟩ = some (.int .i64 said) ∧ (∀ j : Nat, w.frozen? ⟨b, j, none⟩ = false) := by
  unfold db at h
  exact ⟨by rw [cell_of_block h]; rfl, by rw [cell_of_block h]; rfl, by rw [cell_of_block h]; rfl, by rw [cell_of_block h]; rfl, by rw [cell_of_block h]; rfl, by rw [cell_of_block h]; rfl, unfrozen_of_block h⟩
/-- What a method leaves: its answer, the draft's box, its lines. -/
def Leaves (w : World) (bd : Nat) (ls : List Ln) (v : Value) (k i n : Int) (L : Value) (last said : Int) (e : Ending) (w' : World) : Prop :=
  e = .returned v ∧ w'.heap[bd]? = some (db k i n L last said) ∧ RowsAt w' bd L ls ∧ Below bd w w'
set_option maxHeartbeats 1000000 in
set_option maxRecDepth 100000 in
theorem readIn_any (l : List UInt8) (hl : l.length ≤ 1000000) (bd : Nat) (k i n : Int) (L : Value) (last said : Int) (ls : List Ln) (w : World) (hbox : w.heap[bd]? = some (db k i n L last said)) (hrows : RowsAt w bd L ls) :
    Calls Tryd.prog 47 #[.pointer (some ⟨bd, 0, none⟩), .string (str l)] w (Leaves w bd ls (.bool (numB l wordI 0 8).2) k (numB l wordI 0 8).1 n L 1 said) := by
  have HN := fun w => number_any l wordI 0 8 (by decide) (by decide) hl w
  rw [show str wordI = { data := #[46, 105, 32] } from rfl] at HN
  generalize (numB l wordI 0 8).1 = x at *
  generalize (numB l wordI 0 8).2 = b at *
  generalize str l = s at *
  have hz := size_of_block hbox
  go_enter Tryd.func47, Tryd.ntmps47
  go_wp2_with fail
  refine (HN _).mono ?_
  rintro e w1 ⟨rfl, hb1⟩
  have hbox1 := keep_blk hb1 hbox
  have hrows1 := hrows.below hb1
  have hB1 : Below bd w w1 := hb1.mono (by omega)
  obtain ⟨q0, q1, q2, q3, q4, q5, qf⟩ := now6 hbox1
  clear hb1 HN hbox hrows
  go_wp2
  go_ret
  unfold db at hbox1
  have hs1 := block_setCell (i := 1) hbox1 (.int .i64 x)
  refine ⟨rfl, ?_, (hrows1.set hbox1 1 _).set hs1 4 _, (hB1.setCell (by show bd ≤ bd; omega) _).setCell (by show bd ≤ bd; omega) _⟩
  rw [block_setCell hs1]
  rfl
set_option maxHeartbeats 1000000 in
set_option maxRecDepth 100000 in
theorem readOut_any (l : List UInt8) (hl : l.length ≤ 1000000) (bd : Nat) (k i n : Int) (L : Value) (last said : Int) (ls : List Ln) (w : World) (hbox : w.heap[bd]? = some (db k i n L last said)) (hrows : RowsAt w bd L ls) :
    Calls Tryd.prog 48 #[.pointer (some ⟨bd, 0, none⟩), .string (str l)] w (Leaves w bd ls (.bool (numB l wordO 1 4).2) k i (numB l wordO 1 4).1 L 2 said) := by
  have HN := fun w => number_any l wordO 1 4 (by decide) (by decide) hl w
  rw [show str wordO = { data := #[46, 111, 32] } from rfl] at HN
  generalize (numB l wordO 1 4).1 = x at *
  generalize (numB l wordO 1 4).2 = b at *
  generalize str l = s at *
  have hz := size_of_block hbox
  go_enter Tryd.func48, Tryd.ntmps48
  go_wp2_with fail
  refine (HN _).mono ?_
  rintro e w1 ⟨rfl, hb1⟩
  have hbox1 := keep_blk hb1 hbox
  have hrows1 := hrows.below hb1
  have hB1 : Below bd w w1 := hb1.mono (by omega)
  obtain ⟨q0, q1, q2, q3, q4, q5, qf⟩ := now6 hbox1
  clear hb1 HN hbox hrows
  go_wp2
  go_ret
  unfold db at hbox1
  have hs1 := block_setCell (i := 2) hbox1 (.int .i64 x)
  refine ⟨rfl, ?_, (hrows1.set hbox1 2 _).set hs1 4 _, (hB1.setCell (by show bd ≤ bd; omega) _).setCell (by show bd ≤ bd; omega) _⟩
  rw [block_setCell hs1]
  rfl
set_option maxHeartbeats 1000000 in
set_option maxRecDepth 100000 in
theorem readCount_any (l : List UInt8) (hl : l.length ≤ 1000000) (bd : Nat) (k i n : Int) (L : Value) (last said : Int) (ls : List Ln) (w : World) (hbox : w.heap[bd]? = some (db k i n L last said)) (hrows : RowsAt w bd L ls) :
    Calls Tryd.prog 50 #[.pointer (some ⟨bd, 0, none⟩), .string (str l)] w (Leaves w bd ls (.bool (numB l wordP 0 64).2) k i n L 4 (numB l wordP 0 64).1) := by
  have HN := fun w => number_any l wordP 0 64 (by decide) (by decide) hl w
  rw [show str wordP = { data := #[46, 112, 32] } from rfl] at HN
  generalize (numB l wordP 0 64).1 = x at *
  generalize (numB l wordP 0 64).2 = b at *
  generalize str l = s at *
  have hz := size_of_block hbox
  go_enter Tryd.func50, Tryd.ntmps50
  go_wp2_with fail
  refine (HN _).mono ?_
  rintro e w1 ⟨rfl, hb1⟩
  have hbox1 := keep_blk hb1 hbox
  have hrows1 := hrows.below hb1
  have hB1 : Below bd w w1 := hb1.mono (by omega)
  obtain ⟨q0, q1, q2, q3, q4, q5, qf⟩ := now6 hbox1
  clear hb1 HN hbox hrows
  go_wp2
  go_ret
  unfold db at hbox1
  have hs1 := block_setCell (i := 5) hbox1 (.int .i64 x)
  refine ⟨rfl, ?_, (hrows1.set hbox1 5 _).set hs1 4 _, (hB1.setCell (by show bd ≤ bd; omega) _).setCell (by show bd ≤ bd; omega) _⟩
  rw [block_setCell hs1]
  rfl
set_option maxHeartbeats 1000000 in
set_option maxRecDepth 100000 in
theorem readEnd_any (bd : Nat) (k i n : Int) (L : Value) (last said : Int) (ls : List Ln) (w : World) (hbox : w.heap[bd]? = some (db k i n L last said)) (hrows : RowsAt w bd L ls) :
    Calls Tryd.prog 51 #[.pointer (some ⟨bd, 0, none⟩)] w (Leaves w bd ls (.bool (decide (said = -1) || decide (said = (ls.length : Int)))) k i n L 6 said) := by
  have hz := size_of_block hbox
  obtain ⟨q0, q1, q2, q3, q4, q5, qf⟩ := now6 hbox
  obtain ⟨A, c, rfl⟩ := hrows.form
  unfold db at hbox
  have hs1 := block_setCell (i := 4) hbox (.int .i64 6)
  have hbox1 : (w.setCell ⟨bd, 4, none⟩ (.int .i64 6)).heap[bd]? = some (db k i n (.slice A ls.length c) 6 said) := hs1
  have hrows1 := hrows.set hbox 4 (.int .i64 6)
  have hB1 : Below bd w (w.setCell ⟨bd, 4, none⟩ (.int .i64 6)) := (Below.refl _ _).setCell (by show bd ≤ bd; omega) _
  clear hs1 hbox hrows
  by_cases hu : said = -1
  · subst hu
    go_enter Tryd.func51, Tryd.ntmps51
    go_upto_region 2 with (fail)
    clear q0 q1 q2 q3 q4 q5 qf
    generalize w.setCell ⟨bd, 4, none⟩ (.int .i64 6) = w1 at *
    obtain ⟨q0, q1, q2, q3, q4, q5, qf⟩ := now6 hbox1
    have p5 := fun X : After w1 => After.cell X q5
    refine wp_region_after (by kernel_rfl) (by kernel_rfl) ?_
    repeat (first | go_big_quiet_step (fail))
    refine wpQuiet_nil ?_
    intro X
    go_wp2
    go_ret
    exact ⟨by simp, X.same hbox1, hrows1.below X.2, hB1.trans (X.2.mono (by have := size_of_block hbox1; omega))⟩
  · have hd : ((said : Int) == -1) = false := by simpa using hu
    have he : Hid ((decide (said = -1) || decide (said = (ls.length : Int))) = ((said : Int) == (ls.length : Int))) := Lib.hid (by
      rw [decide_eq_false hu, Bool.false_or, Bool.eq_iff_iff]; simp)
    have he2 := he.out
    rw [he2]
    clear he2 he hu
    go_enter Tryd.func51, Tryd.ntmps51
    go_upto_region 2 with (fail)
    clear q0 q1 q2 q3 q4 q5 qf
    generalize w.setCell ⟨bd, 4, none⟩ (.int .i64 6) = w1 at *
    obtain ⟨q0, q1, q2, q3, q4, q5, qf⟩ := now6 hbox1
    have p5 := fun X : After w1 => After.cell X q5
    have p3 := fun X : After w1 => After.cell X q3
    refine wp_region_after (by kernel_rfl) (by kernel_rfl) ?_
    repeat (first | go_big_quiet_step (fail))
    refine wpQuiet_nil ?_
    intro X
    go_wp2
    go_ret
    exact ⟨rfl, X.same hbox1, hrows1.below X.2, hB1.trans (X.2.mono (by have := size_of_block hbox1; omega))⟩
/-- What readKind leaves: a kind, or none. -/
def KindLeaves (w : World) (bd : Nat) (ls : List Ln) (l : List UInt8) (i n : Int) (L : Value) (said : Int) (e : Ending) (w' : World) : Prop :=
  (∃ k, kindOf (l.drop 6) = some k ∧ Leaves w bd ls (.bool true) k i n L 3 said e w') ∨ (kindOf (l.drop 6) = none ∧ e = .returned (.bool false) ∧ Below bd w w')
def kwd (j : Nat) : List UInt8 := if j = 0 then [102] else if j = 1 then [102, 100] else if j = 2 then [102, 114] else [102, 100, 114]
theorem kind_none {W : List UInt8} (h : ∀ i, i < 4 → W ≠ kwd i) : kindOf W = none := by
  unfold kindOf
  have h0 : ¬ W = [102] := h 0 (by omega)
  have h1 : ¬ W = [102, 100] := h 1 (by omega)
  have h2 : ¬ W = [102, 114] := h 2 (by omega)
  have h3 : ¬ W = [102, 100, 114] := h 3 (by omega)
  rw [if_neg h0, if_neg h1, if_neg h2, if_neg h3]
set_option maxHeartbeats 4000000 in
set_option maxRecDepth 100000 in
theorem readKind_any (l : List UInt8) (hp : wordK.isPrefixOf l = true) (bd : Nat) (k i n : Int) (L : Value) (last said : Int) (ls : List Ln) (w : World) (hbox : w.heap[bd]? = some (db k i n L last said)) (hrows : RowsAt w bd L ls) (hkw : KW w) (hkb : 0 < bd) :
    Calls Tryd.prog 49 #[.pointer (some ⟨bd, 0, none⟩), .string (str l)] w (KindLeaves w bd ls l i n L said) := by
  have HT := fun w => trim_any l wordK hp w
  rw [show str wordK = { data := #[46, 116, 121, 112, 101, 32] } from rfl, show wordK.length = 6 from rfl] at HT
  have hz := size_of_block hbox
  obtain ⟨q0, q1, q2, q3, q4, q5, qf⟩ := now6 hbox
  obtain ⟨A, c, rfl⟩ := hrows.form
  unfold db at hbox
  have hs1 := block_setCell (i := 4) hbox (.int .i64 3)
  have hbox1 : (w.setCell ⟨bd, 4, none⟩ (.int .i64 3)).heap[bd]? = some (db k i n (.slice A ls.length c) 3 said) := hs1
  have hrows1 := hrows.set hbox 4 (.int .i64 3)
  have hB1 : Below bd w (w.setCell ⟨bd, 4, none⟩ (.int .i64 3)) := (Below.refl _ _).setCell (by show bd ≤ bd; omega) _
  have hkw1 := hkw.low hB1 hkb
  have ht := toList_str (l.drop 6)
  obtain ⟨W, hW0⟩ : ∃ W, l.drop 6 = W := ⟨_, rfl⟩
  rw [hW0] at HT ht
  have hWd := Lib.hid hW0
  generalize str W = sw at *
  have k0 : ({ data := #[102] } : ByteArray).toList = [102] := toList_str [102]
  have k1 : ({ data := #[102, 100] } : ByteArray).toList = [102, 100] := toList_str [102, 100]
  have k2 : ({ data := #[102, 114] } : ByteArray).toList = [102, 114] := toList_str [102, 114]
  have k3 : ({ data := #[102, 100, 114] } : ByteArray).toList = [102, 100, 114] := toList_str [102, 100, 114]
  clear hs1 hbox hrows hp hkw hW0
  go_enter Tryd.func49, Tryd.ntmps49
  go_upto_region 2 with (fail)
  clear q0 q1 q2 q3 q4 q5 qf
  generalize w.setCell ⟨bd, 4, none⟩ (.int .i64 3) = w1 at *
  obtain ⟨q0, q1, q2, q3, q4, q5, qf⟩ := now6 hbox1
  obtain ⟨_, _, g0, g1, g2, g3⟩ := hkw1
  go_wp2_with fail
  refine (HT _).mono ?_
  rintro e w2 ⟨rfl, rfl⟩
  go_wp2
  have i0 : ∀ w, (Instr.index 50 (.agg #[.string { data := #[102] }, .string { data := #[102, 100] }, .string { data := #[102, 114] }, .string { data := #[102, 100, 114] }]) (.int .i64 0)).run Tryd.prog w = .ok (.string { data := #[102] }) w := fun _ => by kernel_rfl
  have i1 : ∀ w, (Instr.index 50 (.agg #[.string { data := #[102] }, .string { data := #[102, 100] }, .string { data := #[102, 114] }, .string { data := #[102, 100, 114] }]) (.int .i64 1)).run Tryd.prog w = .ok (.string { data := #[102, 100] }) w := fun _ => by kernel_rfl
  have i2 : ∀ w, (Instr.index 50 (.agg #[.string { data := #[102] }, .string { data := #[102, 100] }, .string { data := #[102, 114] }, .string { data := #[102, 100, 114] }]) (.int .i64 2)).run Tryd.prog w = .ok (.string { data := #[102, 114] }) w := fun _ => by kernel_rfl
  have i3 : ∀ w, (Instr.index 50 (.agg #[.string { data := #[102] }, .string { data := #[102, 100] }, .string { data := #[102, 114] }, .string { data := #[102, 100, 114] }]) (.int .i64 3)).run Tryd.prog w = .ok (.string { data := #[102, 100, 114] }) w := fun _ => by kernel_rfl
  go_loopw [6, 7, 14] (fun _ _ t wr => ∃ j : Nat, j ≤ 4 ∧ t = .int .i64 j ∧ Hid (∀ i, i < j → W ≠ kwd i) ∧ wr = w1) (fun _ _ t _ => 4 - (intOf t).toNat)
  case atStart => exact ⟨0, by omega, rfl, Lib.hid (fun i hi => by omega), rfl⟩
  case round =>
    obtain ⟨j, hj, rfl, hno, rfl⟩ := hrel
    by_cases hlt : j < 4
    · have j4 : j = 0 ∨ j = 1 ∨ j = 2 ∨ j = 3 := by omega
      rcases j4 with rfl | rfl | rfl | rfl
      · by_cases hW : W = [102]
        · subst hW
          go_wp2
          go_ret
          unfold db at hbox1
          refine Or.inl ⟨0, by rw [hWd.out]; rfl, rfl, by rw [block_setCell hbox1]; rfl, hrows1.set hbox1 0 _, hB1.setCell (by show bd ≤ bd; omega) _⟩
        · have c1 : (([102] : List UInt8) == W) = false := by rw [beq_eq_false_iff_ne]; exact fun e => hW e.symm
          go_wp2
          go_roundw
          case rel => exact ⟨1, by omega, rfl, Lib.hid (fun i hi => by
            by_cases e : i = 0
            · subst e; exact hW
            · exact hno.out i (by omega)), (by trivial)⟩
          case measure => simp [intOf]
      · by_cases hW : W = [102, 100]
        · subst hW
          go_wp2
          go_ret
          unfold db at hbox1
          refine Or.inl ⟨1, by rw [hWd.out]; rfl, rfl, by rw [block_setCell hbox1]; rfl, hrows1.set hbox1 0 _, hB1.setCell (by show bd ≤ bd; omega) _⟩
        · have c1 : (([102, 100] : List UInt8) == W) = false := by rw [beq_eq_false_iff_ne]; exact fun e => hW e.symm
          go_wp2
          go_roundw
          case rel => exact ⟨2, by omega, rfl, Lib.hid (fun i hi => by
            by_cases e : i = 1
            · subst e; exact hW
            · exact hno.out i (by omega)), (by trivial)⟩
          case measure => simp [intOf]
      · by_cases hW : W = [102, 114]
        · subst hW
          go_wp2
          go_ret
          unfold db at hbox1
          refine Or.inl ⟨2, by rw [hWd.out]; rfl, rfl, by rw [block_setCell hbox1]; rfl, hrows1.set hbox1 0 _, hB1.setCell (by show bd ≤ bd; omega) _⟩
        · have c1 : (([102, 114] : List UInt8) == W) = false := by rw [beq_eq_false_iff_ne]; exact fun e => hW e.symm
          go_wp2
          go_roundw
          case rel => exact ⟨3, by omega, rfl, Lib.hid (fun i hi => by
            by_cases e : i = 2
            · subst e; exact hW
            · exact hno.out i (by omega)), (by trivial)⟩
          case measure => simp [intOf]
      · by_cases hW : W = [102, 100, 114]
        · subst hW
          go_wp2
          go_ret
          unfold db at hbox1
          refine Or.inl ⟨3, by rw [hWd.out]; rfl, rfl, by rw [block_setCell hbox1]; rfl, hrows1.set hbox1 0 _, hB1.setCell (by show bd ≤ bd; omega) _⟩
        · have c1 : (([102, 100, 114] : List UInt8) == W) = false := by rw [beq_eq_false_iff_ne]; exact fun e => hW e.symm
          go_wp2
          go_roundw
          case rel => exact ⟨4, by omega, rfl, Lib.hid (fun i hi => by
            by_cases e : i = 3
            · subst e; exact hW
            · exact hno.out i (by omega)), (by trivial)⟩
          case measure => simp [intOf]
    · have e : j = 4 := by omega
      subst e
      have hN := Lib.hid (kind_none hno.out)
      go_wp2
      go_ret
      exact Or.inr ⟨by rw [hWd.out, hN.out], rfl, hB1⟩
end Go.Proofs.YtpjjnafegngdkaaDoor
