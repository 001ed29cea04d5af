/- The draft in memory, and what the methods that read a line of a number, a kind or the end do to it. What readRow of the package pla does to the draft. -/
import Derived.Test.YtckmjampgeojbaaGreatDoorJ10
import Derived.Deep.RegionHeld3
import Derived.Deep.CutRange
import Derived.Deep.AppendLies
import Derived.Deep.RegionLaw
namespace Go.Proofs.YtckmjampgeojbaaGreatDoor
open Go.RowKit Go.Joins

/-- The draft's box. -/
def db (k i n : Int) (L : Value) (last said : Int) : Obj := .cells #[.int .i64 k, .int .i64 i, .int .i64 n, L, .int .i64 last, .int .i64 said] 60 (0, 0)
def linesV (ls : List Ln) (os : List Value) : List Value := (ls.zip os).flatMap fun p => [bvv p.1.m, bvv p.1.v, p.2]
/-- The lines that a draft has, in rows that the call has made. -/
def RowsAt (w : World) (bd : Nat) (L : Value) (ls : List Ln) : Prop :=
  ∃ os : List Value, os.length = ls.length ∧ w.ownsRow bd 93 3 L ls.length (linesV ls os) ∧ ∀ (j : Nat) (l : Ln) (ov : Value), ls[j]? = some l → os[j]? = some ov → w.ownsRow bd 3 1 ov l.o.length (intsI l.o)
theorem RowsAt.below {w w' : World} {bd : Nat} {L : Value} {ls : List Ln} (h : RowsAt w bd L ls) (hb : Below w.heap.size w w') : RowsAt w' bd L ls := by
  obtain ⟨os, h1, h2, h3⟩ := h
  exact ⟨os, h1, owns_below h2 hb, fun j l ov hl ho => owns_below (h3 j l ov hl ho) hb⟩
theorem Tryz.neDL : 93 ≠ 60 := by decide
theorem Tryz.neDI : 3 ≠ 60 := by decide
theorem RowsAt.set {w : World} {bd : Nat} {L : Value} {ls : List Ln} {C : Array Value} (h : RowsAt w bd L ls) (hb : w.heap[bd]? = some (.cells C 60 (0, 0))) (j : Nat) (u : Value) : RowsAt (w.setCell ⟨bd, j, none⟩ u) bd L ls := by
  obtain ⟨os, h1, h2, h3⟩ := h
  exact ⟨os, h1, own_set h2 (own_ne h2 hb Tryz.neDL) j u, fun i l ov hl ho => own_set (h3 i l ov hl ho) (own_ne (h3 i l ov hl ho) hb Tryz.neDI) j u⟩
theorem RowsAt.form {w : World} {bd : Nat} {L : Value} {ls : List Ln} (h : RowsAt w bd L ls) : ∃ A c, L = .slice A ls.length c := by
  obtain ⟨os, h1, h2, h3⟩ := h
  exact own_form h2
theorem now6 {w : World} {b : Nat} {k i n : Int} {L : Value} {last said : Int} (h : w.heap[b]? = some (db k i n L last said)) :
    w.cell? ⟨b, 0, none⟩ = some (.int .i64 k) ∧ w.cell? ⟨b, 1, none⟩ = some (.int .i64 i) ∧ w.cell? ⟨b, 2, none⟩ = some (.int .i64 n) ∧ w.cell? ⟨b, 3, none⟩ = some L ∧ w.cell? ⟨b, 4, none⟩ = some (.int .i64 last) ∧ w.cell? ⟨b, 5, none⟩ = some (.int .i64 said) ∧ (∀ j : Nat, w.frozen? ⟨b, j, none⟩ = false) := by
  unfold db at h
  exact ⟨by rw [cell_of_block h]; rfl, by rw [cell_of_block h]; rfl, by rw [cell_of_block h]; rfl, by rw [cell_of_block h]; rfl, by rw [cell_of_block h]; rfl, by rw [cell_of_block h]; rfl, unfrozen_of_block h⟩
/-- What a method leaves: its answer, the draft's box, its lines. -/
def Leaves (w : World) (bd : Nat) (ls : List Ln) (v : Value) (k i n : Int) (L : Value) (last said : Int) (e : Ending) (w' : World) : Prop :=
  e = .returned v ∧ w'.heap[bd]? = some (db k i n L last said) ∧ RowsAt w' bd L ls ∧ Below bd w w'
set_option maxHeartbeats 1000000 in
set_option maxRecDepth 100000 in
theorem readIn_any (l : List UInt8) (hl : l.length ≤ 1000000) (bd : Nat) (k i n : Int) (L : Value) (last said : Int) (ls : List Ln) (w : World) (hbox : w.heap[bd]? = some (db k i n L last said)) (hrows : RowsAt w bd L ls) :
    Calls Tryz.prog 48 #[.pointer (some ⟨bd, 0, none⟩), .string (str l)] w (Leaves w bd ls (.bool (numB l wordI 0 8).2) k (numB l wordI 0 8).1 n L 1 said) := by
  have HN := fun w => number_any l wordI 0 8 (by decide) (by decide) hl w
  rw [show str wordI = { data := #[46, 105, 32] } from rfl] at HN
  generalize (numB l wordI 0 8).1 = x at *
  generalize (numB l wordI 0 8).2 = b at *
  generalize str l = s at *
  have hz := size_of_block hbox
  go_enter Tryz.func48, Tryz.ntmps48
  go_wp2_with fail
  refine (HN _).mono ?_
  rintro e w1 ⟨rfl, hb1⟩
  have hbox1 := keep_blk hb1 hbox
  have hrows1 := hrows.below hb1
  have hB1 : Below bd w w1 := hb1.mono (by omega)
  obtain ⟨q0, q1, q2, q3, q4, q5, qf⟩ := now6 hbox1
  clear hb1 HN hbox hrows
  go_wp2
  go_ret
  unfold db at hbox1
  have hs1 := block_setCell (i := 1) hbox1 (.int .i64 x)
  refine ⟨rfl, ?_, (hrows1.set hbox1 1 _).set hs1 4 _, (hB1.setCell (by show bd ≤ bd; omega) _).setCell (by show bd ≤ bd; omega) _⟩
  rw [block_setCell hs1]
  rfl
set_option maxHeartbeats 1000000 in
set_option maxRecDepth 100000 in
theorem readOut_any (l : List UInt8) (hl : l.length ≤ 1000000) (bd : Nat) (k i n : Int) (L : Value) (last said : Int) (ls : List Ln) (w : World) (hbox : w.heap[bd]? = some (db k i n L last said)) (hrows : RowsAt w bd L ls) :
    Calls Tryz.prog 49 #[.pointer (some ⟨bd, 0, none⟩), .string (str l)] w (Leaves w bd ls (.bool (numB l wordO 1 4).2) k i (numB l wordO 1 4).1 L 2 said) := by
  have HN := fun w => number_any l wordO 1 4 (by decide) (by decide) hl w
  rw [show str wordO = { data := #[46, 111, 32] } from rfl] at HN
  generalize (numB l wordO 1 4).1 = x at *
  generalize (numB l wordO 1 4).2 = b at *
  generalize str l = s at *
  have hz := size_of_block hbox
  go_enter Tryz.func49, Tryz.ntmps49
  go_wp2_with fail
  refine (HN _).mono ?_
  rintro e w1 ⟨rfl, hb1⟩
  have hbox1 := keep_blk hb1 hbox
  have hrows1 := hrows.below hb1
  have hB1 : Below bd w w1 := hb1.mono (by omega)
  obtain ⟨q0, q1, q2, q3, q4, q5, qf⟩ := now6 hbox1
  clear hb1 HN hbox hrows
  go_wp2
  go_ret
  unfold db at hbox1
  have hs1 := block_setCell (i := 2) hbox1 (.int .i64 x)
  refine ⟨rfl, ?_, (hrows1.set hbox1 2 _).set hs1 4 _, (hB1.setCell (by show bd ≤ bd; omega) _).setCell (by show bd ≤ bd; omega) _⟩
  rw [block_setCell hs1]
  rfl
set_option maxHeartbeats 1000000 in
set_option maxRecDepth 100000 in
theorem readCount_any (l : List UInt8) (hl : l.length ≤ 1000000) (bd : Nat) (k i n : Int) (L : Value) (last said : Int) (ls : List Ln) (w : World) (hbox : w.heap[bd]? = some (db k i n L last said)) (hrows : RowsAt w bd L ls) :
    Calls Tryz.prog 51 #[.pointer (some ⟨bd, 0, none⟩), .string (str l)] w (Leaves w bd ls (.bool (numB l wordP 0 64).2) k i n L 4 (numB l wordP 0 64).1) := by
  have HN := fun w => number_any l wordP 0 64 (by decide) (by decide) hl w
  rw [show str wordP = { data := #[46, 112, 32] } from rfl] at HN
  generalize (numB l wordP 0 64).1 = x at *
  generalize (numB l wordP 0 64).2 = b at *
  generalize str l = s at *
  have hz := size_of_block hbox
  go_enter Tryz.func51, Tryz.ntmps51
  go_wp2_with fail
  refine (HN _).mono ?_
  rintro e w1 ⟨rfl, hb1⟩
  have hbox1 := keep_blk hb1 hbox
  have hrows1 := hrows.below hb1
  have hB1 : Below bd w w1 := hb1.mono (by omega)
  obtain ⟨q0, q1, q2, q3, q4, q5, qf⟩ := now6 hbox1
  clear hb1 HN hbox hrows
  go_wp2
  go_ret
  unfold db at hbox1
  have hs1 := block_setCell (i := 5) hbox1 (.int .i64 x)
  refine ⟨rfl, ?_, (hrows1.set hbox1 5 _).set hs1 4 _, (hB1.setCell (by show bd ≤ bd; omega) _).setCell (by show bd ≤ bd; omega) _⟩
  rw [block_setCell hs1]
  rfl
set_option maxHeartbeats 1000000 in
set_option maxRecDepth 100000 in
theorem readEnd_any (bd : Nat) (k i n : Int) (L : Value) (last said : Int) (ls : List Ln) (w : World) (hbox : w.heap[bd]? = some (db k i n L last said)) (hrows : RowsAt w bd L ls) :
    Calls Tryz.prog 52 #[.pointer (some ⟨bd, 0, none⟩)] w (Leaves w bd ls (.bool (decide (said = -1) || decide (said = (ls.length : Int)))) k i n L 6 said) := by
  have hz := size_of_block hbox
  obtain ⟨q0, q1, q2, q3, q4, q5, qf⟩ := now6 hbox
  obtain ⟨A, c, rfl⟩ := hrows.form
  unfold db at hbox
  have hs1 := block_setCell (i := 4) hbox (.int .i64 6)
  have hbox1 : (w.setCell ⟨bd, 4, none⟩ (.int .i64 6)).heap[bd]? = some (db k i n (.slice A ls.length c) 6 said) := hs1
  have hrows1 := hrows.set hbox 4 (.int .i64 6)
  have hB1 : Below bd w (w.setCell ⟨bd, 4, none⟩ (.int .i64 6)) := (Below.refl _ _).setCell (by show bd ≤ bd; omega) _
  clear hs1 hbox hrows
  by_cases hu : said = -1
  · subst hu
    go_enter Tryz.func52, Tryz.ntmps52
    go_upto_region 2 with (fail)
    clear q0 q1 q2 q3 q4 q5 qf
    generalize w.setCell ⟨bd, 4, none⟩ (.int .i64 6) = w1 at *
    obtain ⟨q0, q1, q2, q3, q4, q5, qf⟩ := now6 hbox1
    have p5 := fun X : After w1 => After.cell X q5
    refine wp_region_after (by kernel_rfl) (by kernel_rfl) ?_
    repeat (first | go_big_quiet_step (fail))
    refine wpQuiet_nil ?_
    intro X
    go_wp2
    go_ret
    exact ⟨by simp, X.same hbox1, hrows1.below X.2, hB1.trans (X.2.mono (by have := size_of_block hbox1; omega))⟩
  · have hd : ((said : Int) == -1) = false := by simpa using hu
    have he : Hid ((decide (said = -1) || decide (said = (ls.length : Int))) = ((said : Int) == (ls.length : Int))) := Lib.hid (by
      rw [decide_eq_false hu, Bool.false_or, Bool.eq_iff_iff]; simp)
    have he2 := he.out
    rw [he2]
    clear he2 he hu
    go_enter Tryz.func52, Tryz.ntmps52
    go_upto_region 2 with (fail)
    clear q0 q1 q2 q3 q4 q5 qf
    generalize w.setCell ⟨bd, 4, none⟩ (.int .i64 6) = w1 at *
    obtain ⟨q0, q1, q2, q3, q4, q5, qf⟩ := now6 hbox1
    have p5 := fun X : After w1 => After.cell X q5
    have p3 := fun X : After w1 => After.cell X q3
    refine wp_region_after (by kernel_rfl) (by kernel_rfl) ?_
    repeat (first | go_big_quiet_step (fail))
    refine wpQuiet_nil ?_
    intro X
    go_wp2
    go_ret
    exact ⟨rfl, X.same hbox1, hrows1.below X.2, hB1.trans (X.2.mono (by have := size_of_block hbox1; omega))⟩
/-- What readKind leaves: a kind, or none. -/
def KindLeaves (w : World) (bd : Nat) (ls : List Ln) (l : List UInt8) (i n : Int) (L : Value) (said : Int) (e : Ending) (w' : World) : Prop :=
  (∃ k, kindOf (l.drop 6) = some k ∧ Leaves w bd ls (.bool true) k i n L 3 said e w') ∨ (kindOf (l.drop 6) = none ∧ e = .returned (.bool false) ∧ Below bd w w')
def kwd (j : Nat) : List UInt8 := if j = 0 then [102] else if j = 1 then [102, 100] else if j = 2 then [102, 114] else [102, 100, 114]
theorem kind_none {W : List UInt8} (h : ∀ i, i < 4 → W ≠ kwd i) : kindOf W = none := by
  unfold kindOf
  have h0 : ¬ W = [102] := h 0 (by omega)
  have h1 : ¬ W = [102, 100] := h 1 (by omega)
  have h2 : ¬ W = [102, 114] := h 2 (by omega)
  have h3 : ¬ W = [102, 100, 114] := h 3 (by omega)
  rw [if_neg h0, if_neg h1, if_neg h2, if_neg h3]
set_option maxHeartbeats 4000000 in
set_option maxRecDepth 100000 in
theorem readKind_any (l : List UInt8) (hp : wordK.isPrefixOf l = true) (bd : Nat) (k i n : Int) (L : Value) (last said : Int) (ls : List Ln) (w : World) (hbox : w.heap[bd]? = some (db k i n L last said)) (hrows : RowsAt w bd L ls) (hkw : KW w) (hkb : 0 < bd) :
    Calls Tryz.prog 50 #[.pointer (some ⟨bd, 0, none⟩), .string (str l)] w (KindLeaves w bd ls l i n L said) := by
  have HT := fun w => trim_any l wordK hp w
  rw [show str wordK = { data := #[46, 116, 121, 112, 101, 32] } from rfl, show wordK.length = 6 from rfl] at HT
  have hz := size_of_block hbox
  obtain ⟨q0, q1, q2, q3, q4, q5, qf⟩ := now6 hbox
  obtain ⟨A, c, rfl⟩ := hrows.form
  unfold db at hbox
  have hs1 := block_setCell (i := 4) hbox (.int .i64 3)
  have hbox1 : (w.setCell ⟨bd, 4, none⟩ (.int .i64 3)).heap[bd]? = some (db k i n (.slice A ls.length c) 3 said) := hs1
  have hrows1 := hrows.set hbox 4 (.int .i64 3)
  have hB1 : Below bd w (w.setCell ⟨bd, 4, none⟩ (.int .i64 3)) := (Below.refl _ _).setCell (by show bd ≤ bd; omega) _
  have hkw1 := hkw.low hB1 hkb
  have ht := toList_str (l.drop 6)
  obtain ⟨W, hW0⟩ : ∃ W, l.drop 6 = W := ⟨_, rfl⟩
  rw [hW0] at HT ht
  have hWd := Lib.hid hW0
  generalize str W = sw at *
  have k0 : ({ data := #[102] } : ByteArray).toList = [102] := toList_str [102]
  have k1 : ({ data := #[102, 100] } : ByteArray).toList = [102, 100] := toList_str [102, 100]
  have k2 : ({ data := #[102, 114] } : ByteArray).toList = [102, 114] := toList_str [102, 114]
  have k3 : ({ data := #[102, 100, 114] } : ByteArray).toList = [102, 100, 114] := toList_str [102, 100, 114]
  clear hs1 hbox hrows hp hkw hW0
  go_enter Tryz.func50, Tryz.ntmps50
  go_upto_region 2 with (fail)
  clear q0 q1 q2 q3 q4 q5 qf
  generalize w.setCell ⟨bd, 4, none⟩ (.int .i64 3) = w1 at *
  obtain ⟨q0, q1, q2, q3, q4, q5, qf⟩ := now6 hbox1
  obtain ⟨_, _, g0, g1, g2, g3⟩ := hkw1
  go_wp2_with fail
  refine (HT _).mono ?_
  rintro e w2 ⟨rfl, rfl⟩
  go_wp2
  have i0 : ∀ w, (Instr.index 106 (.agg #[.string { data := #[102] }, .string { data := #[102, 100] }, .string { data := #[102, 114] }, .string { data := #[102, 100, 114] }]) (.int .i64 0)).run Tryz.prog w = .ok (.string { data := #[102] }) w := fun _ => by kernel_rfl
  have i1 : ∀ w, (Instr.index 106 (.agg #[.string { data := #[102] }, .string { data := #[102, 100] }, .string { data := #[102, 114] }, .string { data := #[102, 100, 114] }]) (.int .i64 1)).run Tryz.prog w = .ok (.string { data := #[102, 100] }) w := fun _ => by kernel_rfl
  have i2 : ∀ w, (Instr.index 106 (.agg #[.string { data := #[102] }, .string { data := #[102, 100] }, .string { data := #[102, 114] }, .string { data := #[102, 100, 114] }]) (.int .i64 2)).run Tryz.prog w = .ok (.string { data := #[102, 114] }) w := fun _ => by kernel_rfl
  have i3 : ∀ w, (Instr.index 106 (.agg #[.string { data := #[102] }, .string { data := #[102, 100] }, .string { data := #[102, 114] }, .string { data := #[102, 100, 114] }]) (.int .i64 3)).run Tryz.prog w = .ok (.string { data := #[102, 100, 114] }) w := fun _ => by kernel_rfl
  go_loopw [6, 7, 14] (fun _ _ t wr => ∃ j : Nat, j ≤ 4 ∧ t = .int .i64 j ∧ Hid (∀ i, i < j → W ≠ kwd i) ∧ wr = w1) (fun _ _ t _ => 4 - (intOf t).toNat)
  case atStart => exact ⟨0, by omega, rfl, Lib.hid (fun i hi => by omega), rfl⟩
  case round =>
    obtain ⟨j, hj, rfl, hno, rfl⟩ := hrel
    by_cases hlt : j < 4
    · have j4 : j = 0 ∨ j = 1 ∨ j = 2 ∨ j = 3 := by omega
      rcases j4 with rfl | rfl | rfl | rfl
      · by_cases hW : W = [102]
        · subst hW
          go_wp2
          go_ret
          unfold db at hbox1
          refine Or.inl ⟨0, by rw [hWd.out]; rfl, rfl, by rw [block_setCell hbox1]; rfl, hrows1.set hbox1 0 _, hB1.setCell (by show bd ≤ bd; omega) _⟩
        · have c1 : (([102] : List UInt8) == W) = false := by rw [beq_eq_false_iff_ne]; exact fun e => hW e.symm
          go_wp2
          go_roundw
          case rel => exact ⟨1, by omega, rfl, Lib.hid (fun i hi => by
            by_cases e : i = 0
            · subst e; exact hW
            · exact hno.out i (by omega)), (by trivial)⟩
          case measure => simp [intOf]
      · by_cases hW : W = [102, 100]
        · subst hW
          go_wp2
          go_ret
          unfold db at hbox1
          refine Or.inl ⟨1, by rw [hWd.out]; rfl, rfl, by rw [block_setCell hbox1]; rfl, hrows1.set hbox1 0 _, hB1.setCell (by show bd ≤ bd; omega) _⟩
        · have c1 : (([102, 100] : List UInt8) == W) = false := by rw [beq_eq_false_iff_ne]; exact fun e => hW e.symm
          go_wp2
          go_roundw
          case rel => exact ⟨2, by omega, rfl, Lib.hid (fun i hi => by
            by_cases e : i = 1
            · subst e; exact hW
            · exact hno.out i (by omega)), (by trivial)⟩
          case measure => simp [intOf]
      · by_cases hW : W = [102, 114]
        · subst hW
          go_wp2
          go_ret
          unfold db at hbox1
          refine Or.inl ⟨2, by rw [hWd.out]; rfl, rfl, by rw [block_setCell hbox1]; rfl, hrows1.set hbox1 0 _, hB1.setCell (by show bd ≤ bd; omega) _⟩
        · have c1 : (([102, 114] : List UInt8) == W) = false := by rw [beq_eq_false_iff_ne]; exact fun e => hW e.symm
          go_wp2
          go_roundw
          case rel => exact ⟨3, by omega, rfl, Lib.hid (fun i hi => by
            by_cases e : i = 2
            · subst e; exact hW
            · exact hno.out i (by omega)), (by trivial)⟩
          case measure => simp [intOf]
      · by_cases hW : W = [102, 100, 114]
        · subst hW
          go_wp2
          go_ret
          unfold db at hbox1
          refine Or.inl ⟨3, by rw [hWd.out]; rfl, rfl, by rw [block_setCell hbox1]; rfl, hrows1.set hbox1 0 _, hB1.setCell (by show bd ≤ bd; omega) _⟩
        · have c1 : (([102, 100, 114] : List UInt8) == W) = false := by rw [beq_eq_false_iff_ne]; exact fun e => hW e.symm
          go_wp2
          go_roundw
          case rel => exact ⟨4, by omega, rfl, Lib.hid (fun i hi => by
            by_cases e : i = 3
            · subst e; exact hW
            · exact hno.out i (by omega)), (by trivial)⟩
          case measure => simp [intOf]
    · have e : j = 4 := by omega
      subst e
      have hN := Lib.hid (kind_none hno.out)
      go_wp2
      go_ret
      exact Or.inr ⟨by rw [hWd.out, hN.out], rfl, hB1⟩
end Go.Proofs.YtckmjampgeojbaaGreatDoor
namespace Go.Proofs.YtckmjampgeojbaaGreatDoor
open Go.RowKit Go.Joins

theorem Tryz.infoLine : (Tryz.prog.info? 93).map (fun i => (i.zero, i.size, i.bytes)) = some (some (.agg #[.int .u8 0, .int .u8 0, .slice none 0 0]), 3, 32) := by kernel_rfl
theorem linesV_snoc (ls : List Ln) (os : List Value) (h : os.length = ls.length) (l : Ln) (ov : Value) : linesV (ls ++ [l]) (os ++ [ov]) = linesV ls os ++ [bvv l.m, bvv l.v, ov] := by
  unfold linesV
  rw [List.zip_append (by omega)]
  simp
theorem blkD {w : World} {b : Nat} {o : Obj} (h : w.heap[b]? = some o) : w.drew.heap[b]? = some o := h
theorem haveT {P Q : Prop} (h : P) (k : P → Q) : Q := k h
theorem belowA {w X : World} {bd : Nat} {o : Obj} (hbd : bd < w.heap.size) (h : Below bd w X) : Below bd w (X.alloc o) := h.alloc (Nat.le_trans (Nat.le_of_lt hbd) h.size) o
/-- What the call of row leaves while the draft stands. -/
theorem row_no_kept (l : List UInt8) (I N : Nat) (hi : I ≤ 8) (hn : N ≤ 4) (hl : l.length ≤ 1000000) (h : rowOk l I N = false) (bd : Nat) (w0 w : World) (o : Obj) (hk : w.heap[bd]? = some o) (hb : Below bd w0 w) :
    Calls Tryz.prog 79 #[.string (str l), .int .i64 I, .int .i64 N] w fun e w' => ∃ (m v : BitVec 8) (A : Option Addr) (n c : Nat), e = .returned (.tuple #[.agg #[.int .u8 m.toNat, .int .u8 v.toNat, .slice A n c], .bool false]) ∧ w'.heap[bd]? = some o ∧ Below bd w0 w' ∧ Below w.heap.size w w' :=
  (row_no l I N hi hn hl h w).mono fun _ w' ⟨m, v, A, n, c, e, hw⟩ => ⟨m, v, A, n, c, e, keep_blk hw hk, hb.trans (hw.mono (by have := size_of_block hk; omega)), hw⟩
set_option maxHeartbeats 4000000 in
set_option maxRecDepth 100000 in
theorem readRow_no (l : List UInt8) (hl : l.length ≤ 1000000) (I N : Nat) (hi : I ≤ 8) (hn : N ≤ 4) (h : rowOk l I N = false) (bd : Nat) (k : Int) (L : Value) (last said : Int) (w : World) (hbox : w.heap[bd]? = some (db k I N L last said)) :
    Calls Tryz.prog 53 #[.pointer (some ⟨bd, 0, none⟩), .string (str l)] w fun e w' => e = .returned (.int .i64 2) ∧ Below bd w w' := by
  have hz := size_of_block hbox
  obtain ⟨q0, q1, q2, q3, q4, q5, qf⟩ := now6 hbox
  unfold db at hbox
  have hs1 := block_setCell (i := 4) hbox (.int .i64 5)
  have hbox1 : (w.setCell ⟨bd, 4, none⟩ (.int .i64 5)).heap[bd]? = some (db k I N L 5 said) := hs1
  have hB1 : Below bd w (w.setCell ⟨bd, 4, none⟩ (.int .i64 5)) := (Below.refl _ _).setCell (by show bd ≤ bd; omega) _
  have HR := fun W o hk hb => row_no_kept l I N hi hn hl h bd w W o hk hb
  clear hs1 hbox h
  generalize str l = s at *
  go_enter Tryz.func53, Tryz.ntmps53
  go_upto_region 2 with (fail)
  clear q0 q1 q2 q3 q4 q5 qf
  generalize w.setCell ⟨bd, 4, none⟩ (.int .i64 5) = w1 at *
  obtain ⟨q0, q1, q2, q3, q4, q5, qf⟩ := now6 hbox1
  have hz1 := size_of_block hbox1
  have n1 := World.new_ne w1 _ q1
  have n2 := World.new_ne w1 _ q2
  unfold db at hbox1
  go_cut [6] from 7 to 45 (fun s6 wc => s6 = .bool false ∧ Below bd w wc)
  case first =>
    go_region_held3 (fun w' => w'.cell? ⟨bd, 1, none⟩ = some (.int .i64 I) ∧ w'.cell? ⟨bd, 2, none⟩ = some (.int .i64 N)) (go_keep)
      (first | (go_at_call 79; refine (HR _ (.cells #[.int .i64 k, .int .i64 I, .int .i64 N, L, .int .i64 5, .int .i64 said] 60 (0, 0)) (by repeat (first | (with_reducible exact hbox1) | (with_reducible refine blkD ?_) | (with_reducible refine keep_alloc ?_))) (by repeat (first | (with_reducible exact hB1) | (with_reducible refine Below.drew ?_) | (with_reducible refine belowA hz ?_)))).mono ?_; rintro e wr ⟨m, v, A, n, c, rfl, hk, hb, hc⟩; obtain ⟨x0, x1, x2, x3, x4, x5, xf⟩ := now6 hk; try (refine haveT (keep_blk hc (heap_alloc_new _ _)) (fun kz => ?_); obtain ⟨y0, y1, y2, yf⟩ := now3 kz rfl)))
    all_goals
      go_wp2_with fail
      go_meet
      first
        | exact ⟨rfl, belowA hz hb⟩
        | exact ⟨rfl, ((hb.setCell (by show bd ≤ w1.heap.size; omega) _).setCell (by show bd ≤ w1.heap.size; omega) _).setCell (by show bd ≤ w1.heap.size; omega) _⟩
  case rest =>
    obtain ⟨rfl, hb⟩ := hcut
    clear q0 q1 q2 q3 q4 q5 qf n1 n2
    go_wp2
    go_ret
    exact ⟨rfl, hb⟩
/-- What the call of row leaves while the draft and its lines stand. -/
def RowKept (l : List UInt8) (I : Int) (bd : Nat) (L : Value) (ls : List Ln) (w0 w : World) (o : Obj) (e : Ending) (w' : World) : Prop :=
  ∃ A c, e = .returned (.tuple #[.agg #[.int .u8 (rowLn l I).m.toNat, .int .u8 (rowLn l I).v.toNat, .slice A (rowLn l I).o.length c], .bool true]) ∧ w'.ownsRow bd 3 1 (.slice A (rowLn l I).o.length c) (rowLn l I).o.length (intsI (rowLn l I).o) ∧ w'.heap[bd]? = some o ∧ RowsAt w' bd L ls ∧ Below bd w0 w' ∧ Below w.heap.size w w'
theorem row_yes_kept (l : List UInt8) (I N : Nat) (hi : I ≤ 8) (hn : N ≤ 4) (h : rowOk l I N = true) (bd : Nat) (L : Value) (ls : List Ln) (w0 w : World) (o : Obj) (hk : w.heap[bd]? = some o) (hr : RowsAt w bd L ls) (hb : Below bd w0 w) :
    Calls Tryz.prog 79 #[.string (str l), .int .i64 I, .int .i64 N] w (RowKept l I bd L ls w0 w o) :=
  (row_yes l I N hi hn h w).mono fun _ w' ⟨V, e, ho, hw⟩ => by
    obtain ⟨A, c, rfl⟩ := own_form ho
    have := size_of_block hk
    exact ⟨A, c, e, own_more ho (by omega), keep_blk hw hk, hr.below hw, hb.trans (hw.mono (by omega)), hw⟩
theorem Tryz.neLD : 93 ≠ 60 := by decide
theorem RowsAt.alloc {w : World} {bd : Nat} {L : Value} {ls : List Ln} (h : RowsAt w bd L ls) (o : Obj) : RowsAt (w.alloc o) bd L ls := h.below (below_alloc1 w o)
theorem RowsAt.drew {w : World} {bd : Nat} {L : Value} {ls : List Ln} (h : RowsAt w bd L ls) : RowsAt w.drew bd L ls := h.below (Below.refl _ _).drew
/-- A store into a block that no row of the draft's is. -/
theorem RowsAt.other {w : World} {bd b : Nat} {L : Value} {ls : List Ln} {C : Array Value} (h : RowsAt w bd L ls) (hb : w.heap[b]? = some (.cells C 93 (0, 0))) (hne : L.ownBlock ≠ some b) (j : Nat) (u : Value) : RowsAt (w.setCell ⟨b, j, none⟩ u) bd L ls := by
  obtain ⟨os, h1, h2, h3⟩ := h
  exact ⟨os, h1, own_set h2 hne j u, fun i l ov hl ho => own_set (h3 i l ov hl ho) (own_ne (h3 i l ov hl ho) hb Tryz.neIL) j u⟩
theorem RowsAt.lt {w : World} {bd : Nat} {L : Value} {ls : List Ln} (h : RowsAt w bd L ls) {g : Nat} (hg : L.ownBlock = some g) : g < w.heap.size := by
  obtain ⟨os, h1, h2, h3⟩ := h
  exact (h2.lt g hg).2
/-- The new line is laid. -/
def NewLine (w : World) (l : List UInt8) (I : Int) (bd : Nat) (k N : Int) (L : Value) (said : Int) (ls : List Ln) (s5 s6 : Value) (wc : World) : Prop :=
  ∃ (b5 : Nat) (A : Option Addr) (c : Nat), s5 = .pointer (some ⟨b5, 0, none⟩) ∧ s6 = .bool true ∧ wc.heap[b5]? = some (.cells #[.int .u8 (rowLn l I).m.toNat, .int .u8 (rowLn l I).v.toNat, .slice A (rowLn l I).o.length c] 93 (0, 0)) ∧
    wc.ownsRow bd 3 1 (.slice A (rowLn l I).o.length c) (rowLn l I).o.length (intsI (rowLn l I).o) ∧ wc.heap[bd]? = some (db k I N L 5 said) ∧ RowsAt wc bd L ls ∧ Below bd w wc
theorem newLine_set {w wr : World} {l : List UInt8} {I : Int} {b bd : Nat} {k N : Int} {L : Value} {said : Int} {ls : List Ln} {A : Option Addr} {c : Nat} {C : Array Value} {z0 z1 z2 : Value} (hC : C = #[z0, z1, z2]) (kz : wr.heap[b]? = some (.cells C 93 (0, 0)))
    (hown : wr.ownsRow bd 3 1 (.slice A (rowLn l I).o.length c) (rowLn l I).o.length (intsI (rowLn l I).o)) (hk : wr.heap[bd]? = some (db k I N L 5 said)) (hrw : RowsAt wr bd L ls) (hL : L.ownBlock ≠ some b) (hlt : bd < b) (hb : Below bd w wr) :
    NewLine w l I bd k N L said ls (.pointer (some ⟨b, 0, none⟩)) (.bool true) (((wr.setCell ⟨b, 0, none⟩ (.int .u8 (rowLn l I).m.toNat)).setCell ⟨b, 1, none⟩ (.int .u8 (rowLn l I).v.toNat)).setCell ⟨b, 2, none⟩ (.slice A (rowLn l I).o.length c)) := by
  subst hC
  have s0 := block_setCell (i := 0) kz (.int .u8 (rowLn l I).m.toNat)
  have s1 := block_setCell (i := 1) s0 (.int .u8 (rowLn l I).v.toNat)
  have s2 := block_setCell (i := 2) s1 (.slice A (rowLn l I).o.length c)
  have hnb := own_ne hown kz Tryz.neIL
  refine ⟨b, A, c, rfl, rfl, s2, own_set (own_set (own_set hown hnb 0 _) hnb 1 _) hnb 2 _, keep_set (by show bd ≠ b; omega) (keep_set (by show bd ≠ b; omega) (keep_set (by show bd ≠ b; omega) hk)), ((hrw.other kz hL 0 _).other s0 hL 1 _).other s1 hL 2 _, ?_⟩
  exact ((hb.setCell (by show bd ≤ b; omega) _).setCell (by show bd ≤ b; omega) _).setCell (by show bd ≤ b; omega) _
theorem own_grown {w w' : World} {base size n : Nat} {e : TypeId} {v : Value} {xs : List Value} {row : Option Nat} (h : w.ownsRow base e size v n xs) (hg : w.grownBy w' row) (hne : ∀ g, v.ownBlock = some g → row ≠ some g) : w'.ownsRow base e size v n xs :=
  own_keep h (fun g h1 _ hlt => hg.block g hlt (fun e => hne g h1 e.symm))
theorem own_sep {w : World} {base base' size size' n n' : Nat} {e e' : TypeId} {v v' : Value} {xs xs' : List Value} (h : w.ownsRow base e size v n xs) (h' : w.ownsRow base' e' size' v' n' xs') (hne : e' ≠ e) (g : Nat) (hg : v.ownBlock = some g) : v'.ownBlock ≠ some g := by
  rcases h.2 with ⟨rfl, _⟩ | ⟨g', cap, cur, rfl, _, hh, _⟩
  · simp [Value.ownBlock] at hg
  · have : g' = g := by simpa [Value.ownBlock] using hg
    subst this
    exact own_ne h' hh hne
/-- A line more. -/
theorem rows_append {wc w1 : World} {bd : Nat} {k i n last said : Int} {L L' : Value} {ls : List Ln} {l : Ln} {ov : Value} {os : List Value} {o : Obj} (h1 : os.length = ls.length) (h2 : wc.ownsRow bd 93 3 L ls.length (linesV ls os))
    (h3 : ∀ (j : Nat) (l : Ln) (ov : Value), ls[j]? = some l → os[j]? = some ov → wc.ownsRow bd 3 1 ov l.o.length (intsI l.o)) (hov : wc.ownsRow bd 3 1 ov l.o.length (intsI l.o)) (hk1 : w1.heap[bd]? = some (db k i n L last said))
    (hg : ((wc.alloc o).drew).grownBy w1 L.ownBlock) (hown : w1.ownsRow bd 93 3 L' (ls.length + 1) (linesV ls os ++ [bvv l.m, bvv l.v, ov])) : RowsAt (w1.setCell ⟨bd, 3, none⟩ L') bd L' (ls ++ [l]) := by
  unfold db at hk1
  have hold : ∀ {x : Ln} {u : Value}, wc.ownsRow bd 3 1 u x.o.length (intsI x.o) → (w1.setCell ⟨bd, 3, none⟩ L').ownsRow bd 3 1 u x.o.length (intsI x.o) := fun {x u} h => by
    have ha : ((wc.alloc o).drew).ownsRow bd 3 1 u x.o.length (intsI x.o) := owns_below h (below_alloc1 wc o).drew
    have hL : ((wc.alloc o).drew).ownsRow bd 93 3 L ls.length (linesV ls os) := owns_below h2 (below_alloc1 wc o).drew
    have hw := own_grown ha hg (fun g hg1 => own_sep ha hL (fun e => Tryz.neIL e.symm) g hg1)
    exact own_set hw (own_ne hw hk1 Tryz.neDI) 3 _
  refine ⟨os ++ [ov], by simp [h1], ?_, ?_⟩
  · rw [linesV_snoc ls os h1, List.length_append]
    exact own_set hown (own_ne hown hk1 Tryz.neDL) 3 _
  · intro j x u hx hu
    rcases Nat.lt_trichotomy j ls.length with hj | hj | hj
    · rw [List.getElem?_append_left hj] at hx
      rw [List.getElem?_append_left (by omega)] at hu
      exact hold (h3 j x u hx hu)
    · rw [List.getElem?_append_right (by omega)] at hx
      rw [List.getElem?_append_right (by omega)] at hu
      rw [hj] at hx
      rw [hj, h1] at hu
      simp at hx hu
      subst hx; subst hu
      exact hold hov
    · rw [List.getElem?_append_right (by omega)] at hx
      have : j - ls.length ≠ 0 := by omega
      simp [this] at hx
/-- What readRow leaves of a line that is one. -/
def RowLeaves (w : World) (bd : Nat) (ls : List Ln) (l : List UInt8) (k I N said : Int) (e : Ending) (w' : World) : Prop :=
  (ls.length = 64 ∧ e = .returned (.int .i64 3) ∧ Below bd w w') ∨ (ls.length ≠ 64 ∧ ∃ L', Leaves w bd (ls ++ [rowLn l I]) (.int .i64 0) k I N L' 5 said e w')
set_option maxHeartbeats 4000000 in
set_option maxRecDepth 100000 in
theorem readRow_yes (l : List UInt8) (I N : Nat) (hi : I ≤ 8) (hn : N ≤ 4) (h : rowOk l I N = true) (bd : Nat) (k : Int) (L : Value) (last said : Int) (ls : List Ln) (h64 : ls.length ≤ 64) (w : World) (hbox : w.heap[bd]? = some (db k I N L last said)) (hrows : RowsAt w bd L ls) :
    Calls Tryz.prog 53 #[.pointer (some ⟨bd, 0, none⟩), .string (str l)] w (RowLeaves w bd ls l k I N said) := by
  have hz := size_of_block hbox
  obtain ⟨q0, q1, q2, q3, q4, q5, qf⟩ := now6 hbox
  obtain ⟨LA, Lc, rfl⟩ := hrows.form
  unfold db at hbox
  have hs1 := block_setCell (i := 4) hbox (.int .i64 5)
  have hbox1 : (w.setCell ⟨bd, 4, none⟩ (.int .i64 5)).heap[bd]? = some (db k I N (.slice LA ls.length Lc) 5 said) := hs1
  have hB1 : Below bd w (w.setCell ⟨bd, 4, none⟩ (.int .i64 5)) := (Below.refl _ _).setCell (by show bd ≤ bd; omega) _
  have hrows1 := hrows.set hbox 4 (.int .i64 5)
  have HR := fun W o hk hr hb => row_yes_kept l I N hi hn h bd (.slice LA ls.length Lc) ls w W o hk hr hb
  clear hs1 hbox h hrows
  generalize hsl : str l = s at *
  clear hsl
  go_enter Tryz.func53, Tryz.ntmps53
  go_upto_region 2 with (fail)
  clear q0 q1 q2 q3 q4 q5 qf
  generalize w.setCell ⟨bd, 4, none⟩ (.int .i64 5) = w1 at *
  obtain ⟨q0, q1, q2, q3, q4, q5, qf⟩ := now6 hbox1
  have hz1 := size_of_block hbox1
  have n1 := World.new_ne w1 _ q1
  have n2 := World.new_ne w1 _ q2
  unfold db at hbox1
  go_cut [5, 6] from 7 to 45 (fun s5 s6 wc => NewLine w l I bd k N (.slice LA ls.length Lc) said ls s5 s6 wc)
  case first =>
    go_region_held3 (fun w' => w'.cell? ⟨bd, 1, none⟩ = some (.int .i64 I) ∧ w'.cell? ⟨bd, 2, none⟩ = some (.int .i64 N)) (go_keep)
      (first | (go_at_call 79; refine (HR _ (.cells #[.int .i64 k, .int .i64 I, .int .i64 N, .slice LA ls.length Lc, .int .i64 5, .int .i64 said] 60 (0, 0)) (by repeat (first | (with_reducible exact hbox1) | (with_reducible refine blkD ?_) | (with_reducible refine keep_alloc ?_))) (by repeat (first | (with_reducible exact hrows1) | (with_reducible refine RowsAt.drew ?_) | (with_reducible refine RowsAt.alloc ?_ _))) (by repeat (first | (with_reducible exact hB1) | (with_reducible refine Below.drew ?_) | (with_reducible refine belowA hz ?_)))).mono ?_; rintro e wr ⟨A, c, rfl, hown, hk, hrw, hb, hc⟩; obtain ⟨x0, x1, x2, x3, x4, x5, xf⟩ := now6 hk; try (refine haveT (keep_blk hc (heap_alloc_new _ _)) (fun kz => ?_); obtain ⟨y0, y1, y2, yf⟩ := now3 kz rfl)))
    all_goals
      go_wp2_with fail
      go_meet
      first
        | exact ⟨_, A, c, rfl, rfl, heap_alloc_new _ _, owns_below hown (below_alloc1 _ _), keep_alloc hk, hrw.alloc _, belowA hz hb⟩
        | exact newLine_set rfl kz hown hk hrw (fun e => Nat.lt_irrefl _ (hrows1.lt e)) hz1 hb
  case rest =>
    clear q0 q1 q2 q3 q4 q5 qf n1 n2 HR hbox1 hrows1 hB1 hz1
    obtain ⟨b5, A, c, rfl, rfl, h5, hown, hk, hrw, hb⟩ := hcut
    by_cases hf : ls.length = 64
    · have hf' := Lib.hid hf
      have hd : (((ls.length : Nat) : Int) == 64) = true := by rw [beq_iff_eq]; omega
      obtain ⟨q0, q1, q2, q3, q4, q5, qf⟩ := now6 hk
      clear hf
      go_wp2
      go_ret
      exact Or.inl ⟨hf'.out, rfl, hb⟩
    · have hf' := Lib.hid hf
      have hd : (((ls.length : Nat) : Int) == 64) = false := by rw [beq_eq_false_iff_ne]; omega
      obtain ⟨q0, q1, q2, q3, q4, q5, qf⟩ := now6 hk
      obtain ⟨os, o1, o2, o3⟩ := hrw
      obtain ⟨d0, d1, d2, df⟩ := now3 h5 rfl
      obtain ⟨i0, hi0, hz0, hz1, hz2⟩ := info_parts Tryz.infoLine
      have hbL := own_ne o2 hk Tryz.neDL
      have hkl := size_of_block hk
      clear hf
      go_wp2
      go_region_law ((refine step_append_lies _ (by rfl) _ _ _ (by rfl) bd 93 i0 _ 3 32 Tryz.underlying31 hi0 hz0 hz1 hz2 rfl (by omega) (.slice LA ls.length Lc) ls.length (linesV ls os) (by rfl) ((owns_below o2 (below_alloc1 _ _).drew)) ⟨wc.heap.size, 0, none⟩ 1 1 [.int .u8 (rowLn l I).m.toNat, .int .u8 (rowLn l I).v.toNat, .slice A (rowLn l I).o.length c] (by rfl) (by rfl) (World.news_of_block (cs := #[.int .u8 (rowLn l I).m.toNat, .int .u8 (rowLn l I).v.toNat, .slice A (rowLn l I).o.length c]) (t := 93) (fr := (0, 0)) (heap_alloc_new wc _)) (by simp [Value.oneCell']) (by omega) (by unfold maxLen; omega) (by omega) (by simp; omega) (wc.heap.size + 1) (by simp) ?_; intro gg cap wa hown1 hgrow hat hlt; have hk1 := (hgrow.block bd (by simp; omega) (fun e => hbL e.symm)).trans (keep_alloc hk); obtain ⟨x0, x1, x2, x3, x4, x5, xf⟩ := now6 hk1))
      all_goals
        go_wp2
        go_ret
        have hBa : Below bd w wa := ((hb.alloc (by have := hb.size; omega) _).drew).grown hgrow (by simp; omega) (fun k hk => (o2.lt k hk).1)
        have hra := rows_append (l := rowLn l I) o1 o2 o3 hown hk1 hgrow hown1
        refine Or.inr ⟨hf'.out, _, rfl, ?_, hra, hBa.setCell (by show bd ≤ bd; omega) _⟩
        unfold db at hk1
        rw [block_setCell hk1]
        rfl
end Go.Proofs.YtckmjampgeojbaaGreatDoor
