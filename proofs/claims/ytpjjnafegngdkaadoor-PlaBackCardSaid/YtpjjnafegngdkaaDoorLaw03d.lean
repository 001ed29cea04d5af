/- The statement PlaBack, walked: its parts. -/
import Derived.Test.YtpjjnafegngdkaaDoorLaw03
namespace Go.Proofs.YtpjjnafegngdkaaDoor
open Go.RowKit Go.Joins

theorem heap2_d (w : World) (o1 : Obj) : (w.alloc o1).heap[w.heap.size]? = some o1 := heap_alloc_new _ _
/-- A table's printed text is parsed to the table. -/
theorem back_parse {t : Tb} (hr : rightT t = true) (w : World) (hkw : KW w) : Calls Tryd.prog 13 #[.string (str (textT t))] w fun e w' =>
    Below w.heap.size w w' ∧ ∃ A c, e = .returned (.tuple #[.agg #[.int .i64 t.k, .int .i64 t.i, .int .i64 t.n, .slice A t.ls.length c], .int .i64 0, .int .i64 0]) ∧ LinesAt w' w'.heap.size (.slice A t.ls.length c) t.ls := by
  have hl := textT_len hr
  have H := parse_any (textT t) (by omega) w hkw
  refine H.mono ?_
  rintro e w' ⟨hB, ⟨u, L, hu, rfl, hL⟩ | ⟨hu, _⟩⟩
  · rw [text_back hr] at hu
    cases hu
    have hL' := hL
    obtain ⟨A, c, rfl, -, -⟩ := hL
    exact ⟨hB, A, c, rfl, hL'⟩
  · rw [text_back hr] at hu; cases hu
/-- Behind the first part: the text that came in. -/
def tailP (w : World) (e : Ending) (w' : World) : Prop := e = .returned (.bool true) ∧ Below w.heap.size w w'
set_option maxHeartbeats 1000000 in
set_option maxRecDepth 100000 in
theorem plaBack_great (k i n : Int) (L : Value) (ls : List Ln) (s : ByteArray) (w : World) (hL : LinesAt w w.heap.size L ls) (hkw : KW w) (hg : greatL ls = true) :
    Calls Tryd.prog 4 #[tv k i n L, .string s] w fun e w' => e = .returned (.bool true) ∧ Below w.heap.size w w' := by
  have hB := below_alloc1 w (tb k i n L)
  have HG := great_any k i n L ls _ ((hL.below hB).more hB.size)
  rw [hg] at HG
  have hkw0 := hkw.below hB
  obtain ⟨A, c, rfl, hlen, -⟩ := hL
  unfold tv at *
  unfold tb at *
  clear hkw hg
  go_enter Tryd.func4, Tryd.ntmps4
  go_wp2_with fail
  refine HG.mono ?_
  rintro e w1 ⟨rfl, hb1⟩
  have HK := knows3_any w1 (hkw0.below hb1)
  have hB1 := hB.trans (hb1.mono hB.size)
  clear HG hb1 hkw0
  go_wp2_with fail
  refine HK.mono ?_
  rintro e w2 ⟨rfl, hb2⟩
  have hB2 := hB1.trans (hb2.mono hB1.size)
  clear HK
  go_wp2
  go_ret
  exact ⟨rfl, hB2⟩
set_option maxHeartbeats 1000000 in
set_option maxRecDepth 100000 in
theorem plaBack_long (k i n : Int) (L : Value) (ls : List Ln) (s : ByteArray) (hs : s.size ≤ maxLen) (w : World) (hL : LinesAt w w.heap.size L ls) (hkw : KW w) (hg : greatL ls = false) (h9 : 9000 < s.size) :
    Calls Tryd.prog 4 #[tv k i n L, .string s] w fun e w' => e = .returned (.bool true) ∧ Below w.heap.size w w' := by
  have hB := below_alloc1 w (tb k i n L)
  have HG := great_any k i n L ls _ ((hL.below hB).more hB.size)
  rw [hg] at HG
  have hkw0 := hkw.below hB
  have hmx : maxLen = 9223372036854775807 := rfl
  have hs2 : s.size ≤ 9223372036854775807 := by omega
  have h9' : (9000 : Int) < (s.size : Int) := by omega
  obtain ⟨A, c, rfl, hlen, -⟩ := hL
  unfold tv at *
  unfold tb at *
  clear hkw hg hmx hs h9
  go_enter Tryd.func4, Tryd.ntmps4
  go_wp2_with fail
  refine HG.mono ?_
  rintro e w1 ⟨rfl, hb1⟩
  have HK := knows3_any w1 (hkw0.below hb1)
  have hB1 := hB.trans (hb1.mono hB.size)
  clear HG hb1 hkw0
  go_wp2_with fail
  refine HK.mono ?_
  rintro e w2 ⟨rfl, hb2⟩
  have hB2 := hB1.trans (hb2.mono hB1.size)
  clear HK
  go_wp2
  go_ret
  exact ⟨rfl, hB2⟩
end Go.Proofs.YtpjjnafegngdkaaDoor
