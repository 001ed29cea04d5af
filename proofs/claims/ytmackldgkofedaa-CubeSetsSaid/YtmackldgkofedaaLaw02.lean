/- The document's own examples of layer 2, as the statements hold them. -/
import Derived.Test.YtmackldgkofedaaRef02e
import Derived.Test.YtmackldgkofedaaPkg02c
namespace Go.Proofs.Ytmackldgkofedaa
open Go.RowKit Go.Joins

theorem parse_1d0 (w : World) : Calls Try.prog 13 #[.string { data := #[49, 45, 48] }] w fun e w' => e = .returned (.tuple #[.agg #[.int .u8 5, .int .u8 1], .int .i64 0]) ∧ Below w.heap.size w w' := by
  have h := cparse_short { data := #[49, 45, 48] } (by decide) w
  have e : (Value.tuple #[cv (pM { data := #[49, 45, 48] }) (pV { data := #[49, 45, 48] }), .int .i64 (pE { data := #[49, 45, 48] })]) = .tuple #[.agg #[.int .u8 5, .int .u8 1], .int .i64 0] := by kernel_rfl
  rwa [e] at h
theorem parse_10 (w : World) : Calls Try.prog 13 #[.string { data := #[49, 48] }] w fun e w' => e = .returned (.tuple #[.agg #[.int .u8 3, .int .u8 1], .int .i64 0]) ∧ Below w.heap.size w w' := by
  have h := cparse_short { data := #[49, 48] } (by decide) w
  have e : (Value.tuple #[cv (pM { data := #[49, 48] }) (pV { data := #[49, 48] }), .int .i64 (pE { data := #[49, 48] })]) = .tuple #[.agg #[.int .u8 3, .int .u8 1], .int .i64 0] := by kernel_rfl
  rwa [e] at h
theorem parse_11 (w : World) : Calls Try.prog 13 #[.string { data := #[49, 49] }] w fun e w' => e = .returned (.tuple #[.agg #[.int .u8 3, .int .u8 3], .int .i64 0]) ∧ Below w.heap.size w w' := by
  have h := cparse_short { data := #[49, 49] } (by decide) w
  have e : (Value.tuple #[cv (pM { data := #[49, 49] }) (pV { data := #[49, 49] }), .int .i64 (pE { data := #[49, 49] })]) = .tuple #[.agg #[.int .u8 3, .int .u8 3], .int .i64 0] := by kernel_rfl
  rwa [e] at h
theorem points_ex (w : World) : Calls Try.prog 6 #[.agg #[.int .u8 5, .int .u8 1], .int .i64 3] w fun e w' => e = .returned (.tuple #[.agg #[.int .u64 10, .int .u64 0, .int .u64 0, .int .u64 0], .int .i64 0]) ∧ Below w.heap.size w w' := by
  have h := cpoints_yes (m := 5) (v := 1) (n := 3) (by decide) w
  have e : sv (cpts 5 1 3 3) = .agg #[.int .u64 10, .int .u64 0, .int .u64 0, .int .u64 0] := by kernel_rfl
  rw [e] at h
  exact h
theorem join_ex (w : World) : Calls Try.prog 17 #[.agg #[.int .u8 3, .int .u8 1], .agg #[.int .u8 3, .int .u8 3]] w fun e w' => e = .returned (.agg #[.int .u8 1, .int .u8 1]) ∧ Below w.heap.size w w' := by
  have h := join_any 3 1 3 3 w
  have e : cv (joinM 3 1 3 3) (1 &&& joinM 3 1 3 3) = .agg #[.int .u8 1, .int .u8 1] := by kernel_rfl
  rw [e] at h
  exact h
theorem text_ex (w : World) : Calls Try.prog 7 #[.agg #[.int .u8 1, .int .u8 1], .int .i64 2] w fun e w' => e = .returned (.tuple #[.string { data := #[49, 45] }, .int .i64 0]) ∧ Below w.heap.size w w' := by
  have h := ctext_yes (m := 1) (v := 1) (n := 2) (by decide) w
  have e : str (txtL 1 1 2) = { data := #[49, 45] } := by kernel_rfl
  rw [e] at h
  exact h
theorem size_ex (w : World) : Calls Try.prog 16 #[.agg #[.int .u8 5, .int .u8 1]] w fun e w' => e = .returned (.int .i64 2) ∧ Below w.heap.size w w' := by
  have h := size_any 5 1 w
  have e : szK 5 8 = 2 := by decide
  rw [e] at h
  exact h
theorem right_ex (w : World) : Calls Try.prog 9 #[.agg #[.int .u8 5, .int .u8 1], .int .i64 3] w fun e w' => e = .returned (.bool true) ∧ Below w.heap.size w w' :=
  right_yes (m := 5) (v := 1) (n := 3) (by decide) w
set_option maxHeartbeats 1000000 in
set_option maxRecDepth 1000000 in
theorem knows2_any (w : World) : Calls Try.prog 10 #[] w fun e w' => e = .returned (.bool true) ∧ Below w.heap.size w w' := by
  have E := eq4_refl
  go_enter Try.func10, Try.ntmps10
  go_wp2_with fail
  refine (parse_1d0 _).mono ?_
  rintro e w1 ⟨rfl, hb1⟩
  go_wp2_with fail
  refine (points_ex _).mono ?_
  rintro e w2 ⟨rfl, hb2⟩
  have hc2 := keep_blk hb2 (heap_alloc_new _ _)
  have hB2 : Below w.heap.size w w2 := (hb1.alloc hb1.size _).trans (hb2.mono (by have := hb1.size; simp; omega))
  have hs2 := size_of_block hc2
  clear hb1 hb2
  go_wp2_with fail
  refine (parse_10 _).mono ?_
  rintro e w3 ⟨rfl, hb3⟩
  have hc3 := keep_blk hb3 ((Below.heap_alloc _ _ _ hs2).trans hc2)
  have hp3 := keep_blk hb3 (heap_alloc_new _ _)
  have hB3 : Below w.heap.size w w3 := (hB2.alloc hB2.size _).trans (hb3.mono (by have := hB2.size; simp; omega))
  have hs3 := size_of_block hp3
  clear hb3 hB2 hc2
  go_wp2_with fail
  refine (parse_11 _).mono ?_
  rintro e w4 ⟨rfl, hb4⟩
  have hc4 := keep_blk hb4 ((Below.heap_alloc _ _ _ (size_of_block hc3)).trans hc3)
  have hp4 := keep_blk hb4 ((Below.heap_alloc _ _ _ hs3).trans hp3)
  have ha4 := keep_blk hb4 (heap_alloc_new _ _)
  have hB4 : Below w.heap.size w w4 := (hB3.alloc hB3.size _).trans (hb4.mono (by have := hB3.size; simp; omega))
  have hs4 := size_of_block ha4
  clear hb4 hB3 hc3 hp3
  obtain ⟨A0, A1, -⟩ := al2 ha4 rfl
  go_wp2_with fail
  refine (join_ex _).mono ?_
  rintro e w5 ⟨rfl, hb5⟩
  have hc5 := keep_blk hb5 (keep_alloc hc4)
  have hp5 := keep_blk hb5 (keep_alloc hp4)
  have hB5 : Below w.heap.size w w5 := (hB4.alloc hB4.size _).trans (hb5.mono (by have := hB4.size; simp; omega))
  clear hb5 hB4 hc4 hp4 ha4 A0 A1
  go_wp2_with fail
  refine (text_ex _).mono ?_
  rintro e w6 ⟨rfl, hb6⟩
  have hc6 := keep_blk hb6 hc5
  have hp6 := keep_blk hb6 hp5
  have hB6 : Below w.heap.size w w6 := hB5.trans (hb6.mono hB5.size)
  obtain ⟨c0, c1, -⟩ := now2 hc6 rfl
  obtain ⟨p0, p1, p2, p3, -⟩ := now4 hp6 rfl
  clear hb6 hB5 hc5 hp5
  go_wp2_with fail
  refine (size_ex _).mono ?_
  rintro e w7 ⟨rfl, hb7⟩
  have hc7 := keep_blk hb7 hc6
  have hB7 : Below w.heap.size w w7 := hB6.trans (hb7.mono hB6.size)
  clear c0 c1 p0 p1 p2 p3 hb7 hB6 hc6 hp6
  obtain ⟨c0, c1, -⟩ := now2 hc7 rfl
  go_wp2_with fail
  refine (right_ex _).mono ?_
  rintro e w8 ⟨rfl, hb8⟩
  have hB8 : Below w.heap.size w w8 := hB7.trans (hb8.mono hB7.size)
  go_wp2
  go_ret
  exact ⟨rfl, hB8⟩
end Go.Proofs.Ytmackldgkofedaa
