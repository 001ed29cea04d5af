/- The document's own May, Right and Covers of layer 4, for every spec and all rows. -/
import Derived.Test.YtckmjampgeojbaaGreatDoorJ14
import Derived.Test.YtckmjampgeojbaaGreatDoorJ07
namespace Go.Proofs.YtckmjampgeojbaaGreatDoor
open Go.RowKit Go.Joins

theorem outsB_no {o : BitVec 8} {k q : Nat} (hb : o.getLsbD q = true) (hk : k ≤ q) : outsB o k = false := by
  unfold outsB
  rw [Bool.and_eq_false_iff]
  refine Or.inr (decide_eq_false fun h => ?_)
  rw [(shr_zero o k).1 h q hk] at hb
  simp at hb
def someB (o : BitVec 8) (j : Nat) : Bool := (List.range j).any fun q => o.getLsbD q
theorem someB_iff (o : BitVec 8) (j : Nat) : someB o j = true ↔ ∃ q, q < j ∧ o.getLsbD q = true := by
  unfold someB
  rw [List.any_eq_true]
  constructor
  · rintro ⟨q, h1, h2⟩; exact ⟨q, List.mem_range.1 h1, h2⟩
  · rintro ⟨q, h1, h2⟩; exact ⟨q, List.mem_range.2 h1, h2⟩
theorem someB_skip {o : BitVec 8} {j : Nat} (h : o.getLsbD j = false) : someB o (j + 1) = someB o j := by
  unfold someB
  rw [List.range_succ, List.any_append]
  simp [h]
theorem someB_yes {o : BitVec 8} {j : Nat} (h : o.getLsbD j = true) : someB o (j + 1) = true := (someB_iff o (j + 1)).2 ⟨j, by omega, h⟩
theorem outsB_end {o : BitVec 8} {k : Nat} (h : ∀ q, q < 8 → o.getLsbD q = true → q < k) : outsB o k = someB o 8 := by
  unfold outsB
  have h1 : o.toNat / 2 ^ k = 0 := by
    rw [shr_zero]
    intro q hq
    cases hb : o.getLsbD q
    · rfl
    · by_cases h8 : q < 8
      · have := h q h8 hb; omega
      · rw [BitVec.getLsbD_of_ge _ _ (by omega)] at hb; simp at hb
  rw [decide_eq_true h1, Bool.and_true]
  rw [Bool.eq_iff_iff, decide_eq_true_eq, someB_iff]
  constructor
  · intro hne
    apply Classical.byContradiction
    intro hn
    apply hne
    apply BitVec.eq_of_getLsbD_eq
    intro q hq
    rw [show (0 : BitVec 8).getLsbD q = false by simp]
    cases hb : o.getLsbD q
    · rfl
    · exact absurd ⟨q, hq, hb⟩ hn
  · rintro ⟨q, -, hb⟩ e
    rw [e] at hb
    simp at hb
set_option maxHeartbeats 4000000 in
set_option maxRecDepth 100000 in
theorem rmay_any (x : Rw) (i : Int) (k : Nat) (w : World) :
    Calls Tryz.prog 22 #[rwv x, .int .i64 i, .int .i64 k] w fun e w' => e = .returned (.bool (rwB x i k)) ∧ Below w.heap.size w w' := by
  have hno := Lib.hid (fun (q : Nat) (hb : x.o.getLsbD q = true) (h : k ≤ q) => (show rwB x i k = false by unfold rwB; rw [outsB_no hb h]; rfl))
  have hend : Hid ((∀ q, q < 8 → x.o.getLsbD q = true → q < k) → rwB x i k = (someB x.o 8 && rightB x.m x.v i)) := Lib.hid (fun h => by unfold rwB; rw [outsB_end h])
  have HR := fun w => rright_any x.m x.v i w
  have hB0 := below_alloc1 w (.cells #[bvv x.m, bvv x.v, bvv x.o] 42 (0, 0))
  have hx0 := heap_alloc_new w (.cells #[bvv x.m, bvv x.v, bvv x.o] 42 (0, 0))
  generalize rwB x i k = R at *
  generalize rightB x.m x.v i = r at *
  have HB := fun (q : Nat) (hq : q < 8) w => bit8_any x.o q hq w
  unfold rwv cv at *
  unfold bvv at *
  go_enter Tryz.func22, Tryz.ntmps22
  go_wp2
  go_loopw [7, 8] (fun s t wr => ∃ j : Nat, j ≤ 8 ∧ t = .int .i64 j ∧ (∃ b, s = .bool b ∧ Hid (b = someB x.o j)) ∧ Hid (∀ q, q < j → x.o.getLsbD q = true → q < k) ∧ Below w.heap.size w wr ∧ wr.heap[w.heap.size]? = some (.cells #[.int .u8 x.m.toNat, .int .u8 x.v.toNat, .int .u8 x.o.toNat] 42 (0, 0))) (fun _ t _ => 8 - (intOf t).toNat)
  case atStart => exact ⟨0, by omega, rfl, ⟨false, rfl, Lib.hid rfl⟩, Lib.hid (fun q hq => by omega), hB0, hx0⟩
  case round =>
    clear hB0 hx0
    obtain ⟨j, hj, rfl, ⟨b, rfl, hb⟩, hH, hbw, hx⟩ := hrel
    obtain ⟨x0, x1, x2, -⟩ := now3 hx rfl
    by_cases hlt : j < 8
    · have HBj := fun w => HB j hlt w
      clear HB
      cases hbit : x.o.getLsbD j
      · rw [hbit] at HBj
        have hb' : Hid (b = someB x.o (j + 1)) := Lib.hid (by rw [hb.out, someB_skip hbit])
        have hH' : Hid (∀ q, q < j + 1 → x.o.getLsbD q = true → q < k) := Lib.hid (fun q h1 h2 => by
          by_cases e : q = j
          · subst e; rw [hbit] at h2; simp at h2
          · exact hH.out q (by omega) h2)
        clear hbit hb hH
        go_wp2_with (go_at_call 42; refine (HBj _).mono ?_; rintro e w' ⟨rfl, rfl⟩)
        go_roundw
        case rel => exact ⟨j + 1, by omega, by go_num, ⟨b, rfl, hb'⟩, hH', hbw, hx⟩
        case measure => simp [intOf]; omega
      · rw [hbit] at HBj
        by_cases hjk : k ≤ j
        · have hR := Lib.hid (hno.out j hbit hjk)
          have hjk' : (k : Int) ≤ j := by omega
          clear hbit hb hH
          go_wp2_with (go_at_call 42; refine (HBj _).mono ?_; rintro e w' ⟨rfl, rfl⟩)
          go_ret
          exact ⟨by rw [hR.out]; rfl, hbw⟩
        · have hjk' : ¬ (k : Int) ≤ j := by omega
          have hb' : Hid (true = someB x.o (j + 1)) := Lib.hid (someB_yes hbit).symm
          have hH' : Hid (∀ q, q < j + 1 → x.o.getLsbD q = true → q < k) := Lib.hid (fun q h1 h2 => by
            by_cases e : q = j
            · omega
            · exact hH.out q (by omega) h2)
          clear hbit hb hH
          go_wp2_with (go_at_call 42; refine (HBj _).mono ?_; rintro e w' ⟨rfl, rfl⟩)
          go_roundw
          case rel => exact ⟨j + 1, by omega, by go_num, ⟨true, rfl, hb'⟩, hH', hbw, hx⟩
          case measure => simp [intOf]; omega
    · have e : j = 8 := by omega
      subst e
      have hRe := hend.out hH.out
      rw [← hb.out] at hRe
      have hR := Lib.hid hRe
      clear hRe hb hH hno hend HB
      cases b
      · have hR' : Hid (R = false) := Lib.hid (by rw [hR.out]; rfl)
        clear hR
        go_wp2
        go_ret
        exact ⟨by rw [hR'.out]; rfl, hbw⟩
      · have hR' : Hid (R = r) := Lib.hid (by rw [hR.out]; rfl)
        clear hR
        go_wp2_with fail
        refine (HR _).mono ?_
        rintro e w1 ⟨rfl, hb1⟩
        have hB1 := hbw.trans (hb1.mono hbw.size)
        clear HR
        go_wp2
        go_ret
        exact ⟨by rw [hR'.out]; rfl, hB1⟩
end Go.Proofs.YtckmjampgeojbaaGreatDoor
