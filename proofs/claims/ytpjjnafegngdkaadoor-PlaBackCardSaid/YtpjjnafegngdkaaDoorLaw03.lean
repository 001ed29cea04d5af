/- knows, of the third law text: what is known of two texts. -/
import Derived.Test.YtpjjnafegngdkaaDoorParse03b
import Derived.Test.YtpjjnafegngdkaaDoorRefp03b
import Derived.Test.YtpjjnafegngdkaaDoorSame03d
import Derived.Test.YtpjjnafegngdkaaDoorRight03c
import Derived.Test.YtpjjnafegngdkaaDoorPrint03
namespace Go.Proofs.YtpjjnafegngdkaaDoor
open Go.RowKit Go.Joins

def kT : Tb := ⟨1, 2, 1, [⟨1, 1, [1]⟩]⟩
def kS : List UInt8 := [46, 105, 32, 50, 10, 46, 111, 32, 49, 10, 46, 116, 121, 112, 101, 32, 102, 100, 10, 46, 112, 32, 49, 10, 49, 45, 32, 49, 10, 46, 101, 10]
def kS2 : List UInt8 := [46, 105, 32, 50, 10, 46, 111, 32, 48, 10, 46, 101, 10]
theorem kT_right : rightT kT = true := by decide +kernel
theorem kT_text : textT kT = kS := by decide +kernel
theorem kS_parse : parseT kS = some kT := by rw [← kT_text]; exact text_back kT_right
theorem kS2_err : parseE kS2 = (1, 2) := by decide +kernel
theorem kS2_none : parseT kS2 = none := by
  cases h : parseT kS2 with
  | none => rfl
  | some t => have := parse_E h; rw [kS2_err] at this; cases this
/-- The table that knows parses. -/
theorem kParse (w : World) (hkw : KW w) : Calls Tryd.prog 13 #[.string { data := #[46, 105, 32, 50, 10, 46, 111, 32, 49, 10, 46, 116, 121, 112, 101, 32, 102, 100, 10, 46, 112, 32, 49, 10, 49, 45, 32, 49, 10, 46, 101, 10] }] w fun e w' =>
    Below w.heap.size w w' ∧ ∃ b off c b2 off2 c2, e = .returned (.tuple #[tv 1 2 1 (.slice (some ⟨b, off, none⟩) 1 c), .int .i64 0, .int .i64 0]) ∧ b < w'.heap.size ∧ b2 < w'.heap.size ∧ w'.cell? ⟨b, off, none⟩ = some (.int .u8 1) ∧ w'.cell? ⟨b, off + 1, none⟩ = some (.int .u8 1) ∧
      w'.cell? ⟨b, off + 2, none⟩ = some (.slice (some ⟨b2, off2, none⟩) 1 c2) ∧ w'.cell? ⟨b2, off2, none⟩ = some (.int .i64 1) ∧ LinesAt w' w'.heap.size (.slice (some ⟨b, off, none⟩) 1 c) kT.ls := by
  have H := parse_any kS (by decide) w hkw
  refine H.mono ?_
  rintro e w' ⟨hB, ⟨t, L, ht, rfl, hL⟩ | ⟨ht, _⟩⟩
  · rw [kS_parse] at ht
    cases ht
    have hL' := hL
    obtain ⟨A, c, rfl, -, hc⟩ := hL
    obtain ⟨b, off, rfl, hb, hc⟩ := hc (by decide)
    obtain ⟨ov, q0, q1, q2, A2, c2, rfl, -, h2⟩ := hc 0 ⟨1, 1, [1]⟩ rfl
    obtain ⟨b2, off2, rfl, hb2, hi⟩ := h2 (by decide)
    have q3 := hi 0 1 rfl
    refine ⟨hB, b, off, c, b2, off2, c2, rfl, hb, hb2, ?_, ?_, ?_, ?_, hL'⟩
    · simpa [bvv] using q0
    · simpa [bvv] using q1
    · simpa using q2
    · simpa using q3
  · rw [kS_parse] at ht; cases ht
theorem kParse2 (w : World) (hkw : KW w) : Calls Tryd.prog 13 #[.string { data := #[46, 105, 32, 50, 10, 46, 111, 32, 48, 10, 46, 101, 10] }] w fun e w' =>
    Below w.heap.size w w' ∧ e = .returned (.tuple #[tv 0 0 0 (.slice none 0 0), .int .i64 1, .int .i64 2]) := by
  have H := parse_any kS2 (by decide) w hkw
  refine H.mono ?_
  rintro e w' ⟨hB, ⟨t, L, ht, rfl, hL⟩ | ⟨ht, hx, rfl⟩⟩
  · rw [kS2_none] at ht; cases ht
  · rw [kS2_err]; exact ⟨hB, rfl⟩
set_option maxHeartbeats 2000000 in
set_option maxRecDepth 100000 in
theorem knows3_any (w : World) (hkw : KW w) :
    Calls Tryd.prog 6 #[] w fun e w' => e = .returned (.bool true) ∧ Below w.heap.size w w' := by
  have HP1 := kParse w hkw
  go_enter Tryd.func6, Tryd.ntmps6
  go_wp2_with fail
  refine HP1.mono ?_
  rintro e w1 ⟨hB1, b, off, c, b2, off2, c2, rfl, hb, hb2, q0, q1, q2, q3, hL⟩
  clear HP1
  have hkw1 := hkw.below hB1
  have hw1a := below_alloc1 w1 (tb 1 2 1 (.slice (some ⟨b, off, none⟩) 1 c))
  have hLa := (hL.below hw1a).more hw1a.size
  have hkw1a := hkw1.below hw1a
  have HPr := pprint_yes 1 2 1 _ kT.ls _ hLa kT_right hkw1a
  rw [show (⟨((1 : Nat) : Int), ((2 : Nat) : Int), ((1 : Nat) : Int), kT.ls⟩ : Tb) = kT from rfl, kT_text, show str kS = { data := #[46, 105, 32, 50, 10, 46, 111, 32, 49, 10, 46, 116, 121, 112, 101, 32, 102, 100, 10, 46, 112, 32, 49, 10, 49, 45, 32, 49, 10, 46, 101, 10] } from rfl] at HPr
  unfold tv at HPr ⊢
  unfold tb at HPr
  clear hkw
  go_wp2_with fail
  refine HPr.mono ?_
  rintro e w2 ⟨rfl, hBp⟩
  have hbx2 : w2.heap[w1.heap.size]? = some (tb 1 2 1 (.slice (some ⟨b, off, none⟩) 1 c)) := keep_blk hBp (heap_alloc_new _ _)
  have hw2 := hw1a.trans (hBp.mono hw1a.size)
  have hkw2 := hkw1.below hw2
  clear HPr hBp hLa hkw1a hw1a
  have HP2 := kParse2 w2 hkw2
  unfold tv at HP2
  go_wp2_with fail
  refine HP2.mono ?_
  rintro e w3 ⟨hBq, rfl⟩
  have hw3 := hw2.trans (hBq.mono hw2.size)
  have hbx3 := keep_blk hBq hbx2
  have hw4 := hw3.alloc hw3.size (tb 0 0 0 (.slice none 0 0))
  have hL4 := (hL.below hw4).more hw4.size
  have f0 := (hw4.cell (p := ⟨b, off, none⟩) hb).trans q0
  have f1 := (hw4.cell (p := ⟨b, off + 1, none⟩) hb).trans q1
  have f2 := (hw4.cell (p := ⟨b, off + 2, none⟩) hb).trans q2
  have f3 := (hw4.cell (p := ⟨b2, off2, none⟩) hb2).trans q3
  have hbx4 := keep_alloc (x := tb 0 0 0 (.slice none 0 0)) hbx3
  obtain ⟨g0, g1, g2, g3, -⟩ := nowT hbx4
  have hz3 := size_of_block hbx3
  have hs3 := hw3.size
  have HR := pright_any 1 2 1 _ kT.ls _ hL4
  have hr : rightT ⟨1, 2, 1, kT.ls⟩ = true := kT_right
  rw [hr] at HR
  have hBz := Lib.hid (hB1.trans (hw4.mono hB1.size))
  clear HP2 hBq hbx2 hw2 hkw2 q0 q1 q2 q3 hw4 hr hB1 hkw1 hL
  unfold tv at HR
  unfold tb at HR hL4 f0 f1 f2 f3 g0 g1 g2 g3
  go_wp2_with fail
  refine HR.mono ?_
  rintro e w5 ⟨rfl, hB5⟩
  have hbx5 := keep_blk hB5 hbx4
  have hL5 := (hL4.below hB5).more hB5.size
  obtain ⟨g0, g1, g2, g3, -⟩ := nowT hbx5
  have HS := fun w6 (hb : Below w5.heap.size w5 w6) => psame_any 1 2 1 _ kT.ls 1 2 1 _ kT.ls w6 ((hL5.below hb).more hb.size) ((hL5.below hb).more hb.size)
  have hS := Lib.hid ((sameT_iff ⟨1, 2, 1, kT.ls⟩ ⟨1, 2, 1, kT.ls⟩).2 rfl)
  have HS5 := HS w5 (Below.refl _ _)
  rw [hS.out] at HS5
  have hBz5 := Lib.hid (hBz.out.trans (hB5.mono (by have := hBz.out.size; unfold tb at this; omega)))
  clear HR hL4 hBz f0 f1 f2 f3 hB5 hbx3 hbx4 hw3 HS
  unfold tv at HS5
  go_wp2_with fail
  refine HS5.mono ?_
  rintro e w6 ⟨rfl, hB6⟩
  have hBz6 := Lib.hid (hBz5.out.trans (hB6.mono hBz5.out.size))
  clear HS5
  go_wp2
  go_ret
  exact ⟨rfl, hBz6.out⟩
end Go.Proofs.YtpjjnafegngdkaaDoor
