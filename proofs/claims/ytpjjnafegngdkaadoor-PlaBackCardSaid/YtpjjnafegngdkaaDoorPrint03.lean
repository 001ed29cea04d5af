/- Print of the package pla, for every table. -/
import Derived.Test.YtpjjnafegngdkaaDoorBuild03
namespace Go.Proofs.YtpjjnafegngdkaaDoor
open Go.RowKit Go.Joins

/-- The words of the kinds, as they lie in memory. -/
def KW (w : World) : Prop := 0 < w.heap.size ∧ 0 < w.heap.size ∧ w.cell? ⟨0, 0, none⟩ = some (.string { data := #[102] }) ∧ w.cell? ⟨0, 1, none⟩ = some (.string { data := #[102, 100] }) ∧ w.cell? ⟨0, 2, none⟩ = some (.string { data := #[102, 114] }) ∧ w.cell? ⟨0, 3, none⟩ = some (.string { data := #[102, 100, 114] })
theorem KW.below {w w' : World} (h : KW w) (hb : Below w.heap.size w w') : KW w' := by
  obtain ⟨h0, h1, a, b, c, d⟩ := h
  have hz := hb.size
  exact ⟨by omega, by omega, (hb.cell (p := ⟨_, _, none⟩) h1).trans a, (hb.cell (p := ⟨_, _, none⟩) h1).trans b, (hb.cell (p := ⟨_, _, none⟩) h1).trans c, (hb.cell (p := ⟨_, _, none⟩) h1).trans d⟩
theorem KW.at_ {w : World} (h : KW w) (K : Nat) (hK : K ≤ 3) : w.cell? ⟨0, K, none⟩ = some (.string (str (kindW K))) := by
  obtain ⟨_, _, a, b, c, d⟩ := h
  have : K = 0 ∨ K = 1 ∨ K = 2 ∨ K = 3 := by omega
  rcases this with rfl | rfl | rfl | rfl
  · exact a
  · exact b
  · exact c
  · exact d
theorem lenI : wordI.length = 3 := rfl
theorem lenO : wordO.length = 3 := rfl
theorem lenK : wordK.length = 6 := rfl
theorem lenP : wordP.length = 3 := rfl
theorem keep_low {w w' : World} {B g : Nat} {o : Obj} (hb : Below B w w') (hg : g < B) (h : w.heap[g]? = some o) : w'.heap[g]? = some o := (hb.block g hg).trans h
theorem KW.low {w w' : World} {B : Nat} (h : KW w) (hb : Below B w w') (hB : 0 < B := by first | assumption | omega) : KW w' := by
  obtain ⟨_, h1, a, b, c, d⟩ := h
  have hz := hb.size
  exact ⟨by omega, by omega, (hb.cell (p := ⟨_, _, none⟩) hB).trans a, (hb.cell (p := ⟨_, _, none⟩) hB).trans b, (hb.cell (p := ⟨_, _, none⟩) hB).trans c, (hb.cell (p := ⟨_, _, none⟩) hB).trans d⟩
theorem Bld.below {w w' : World} {B b : Nat} {l : List UInt8} (h : Bld B b l w) (hb : Below w.heap.size w w') : Bld B b l w' := by
  rcases h with ⟨hB, v, hk, hown, hne⟩ | ⟨hB, v, hk, hown, hne⟩
  · exact Or.inl ⟨hB, v, keep_blk hb hk, owns_below hown hb, hne⟩
  · exact Or.inr ⟨hB, v, keep_blk hb hk, owns_below hown hb, hne⟩
theorem Bld.new (w : World) : Bld w.heap.size w.heap.size [] (w.alloc (.cells #[.pointer none, .slice none 0 0] 43)) :=
  Or.inl ⟨Nat.le_refl _, .slice none 0 0, heap_alloc_new _ _, World.ownsRow_nil _ _ _ _, by simp [Value.ownBlock]⟩
theorem rows_succ {ls : List Ln} {j : Nat} {l : Ln} (h : ls[j]? = some l) (i : Nat) : rowsL (ls.take (j + 1)) i = rowsL (ls.take j) i ++ (rowL l i ++ [10]) := by
  have hj : j < ls.length := (List.getElem?_eq_some_iff.1 h).1
  have : ls[j] = l := (List.getElem?_eq_some_iff.1 h).2
  rw [List.take_succ_eq_append_getElem hj, this]
  unfold rowsL
  rw [List.flatMap_append]
  simp
theorem rows_le (ls : List Ln) (j i : Nat) : (rowsL (ls.take j) i).length ≤ (rowsL ls i).length := by
  have : rowsL ls i = rowsL (ls.take j) i ++ rowsL (ls.drop j) i := by
    unfold rowsL; rw [← List.flatMap_append, List.take_append_drop]
  rw [this, List.length_append]; omega
set_option maxHeartbeats 1000000 in
set_option maxRecDepth 100000 in
theorem pprint_no (k i n : Int) (L : Value) (ls : List Ln) (w : World) (hL : LinesAt w w.heap.size L ls) (hr : rightT ⟨k, i, n, ls⟩ = false) :
    Calls Tryd.prog 7 #[tv k i n L] w fun e w' => e = .returned (.tuple #[.string { data := #[] }, .int .i64 1]) ∧ Below w.heap.size w w' := by
  have hB := below_alloc1 w (tb k i n L)
  have HR := pright_any k i n L ls _ ((hL.below hB).more hB.size)
  rw [hr] at HR
  obtain ⟨A, c, rfl, hlen, -⟩ := hL
  unfold tv at *
  unfold tb at *
  clear hr
  go_enter Tryd.func7, Tryd.ntmps7
  go_wp2_with fail
  refine HR.mono ?_
  rintro e w1 ⟨rfl, hb1⟩
  go_wp2
  go_ret2
  exact ⟨rfl, hB.trans (hb1.mono hB.size)⟩
set_option maxHeartbeats 4000000 in
set_option maxRecDepth 100000 in
theorem pprint_yes (K I N : Nat) (L : Value) (ls : List Ln) (w : World) (hL : LinesAt w w.heap.size L ls) (hr : rightT ⟨K, I, N, ls⟩ = true) (hkw : KW w) :
    Calls Tryd.prog 7 #[tv K I N L] w fun e w' => e = .returned (.tuple #[.string (str (textT ⟨K, I, N, ls⟩)), .int .i64 0]) ∧ Below w.heap.size w w' := by
  have hmf : ∀ (fn : Fn) (first cap : Array Value) (w : World), (Instr.makeFunc fn first cap).run Tryd.prog w = .ok (.func fn first cap) w := fun _ _ _ _ => rfl
  have hB := below_alloc1 w (tb K I N L)
  have HR := pright_any K I N L ls _ ((hL.below hB).more hB.size)
  rw [hr] at HR
  have hln := textT_len hr
  obtain ⟨⟨⟨hk0, hk3⟩, ⟨hi0, hi8⟩, hn1, hn4⟩, h64, hlines⟩ := (rightT_iff _).1 hr
  dsimp only at hk0 hk3 hi0 hi8 hn1 hn4 h64
  obtain ⟨A, c, rfl, hlen, hA⟩ := hL
  unfold tv at *
  have ht0 := heap_alloc_new w (tb K I N (.slice A ls.length c))
  unfold tb at HR hB
  have hHl := Lib.hid hlines
  have HI := fun w => itoa_any I (by omega) w
  have HN := fun w => itoa_any N (by omega) w
  have HL := fun w => itoa_any ls.length (by omega) w
  clear hr hlines
  go_enter Tryd.func7, Tryd.ntmps7
  go_wp2_with fail
  refine HR.mono ?_
  rintro e w1 ⟨rfl, hb1⟩
  have hB1 : Below w.heap.size w w1 := hB.trans (hb1.mono hB.size)
  have ht1 := keep_blk hb1 ht0
  have hz1 := size_of_block ht1
  have hbl := Bld.new w1
  have hkw1 := hkw.below hB1
  clear HR hB hb1 ht0 hkw
  go_upto_region 5 with (fail)
  have hB2 : Below w1.heap.size w1 (w1.alloc (.cells #[.pointer none, .slice none 0 0] 43)) := below_alloc1 _ _
  generalize (w1.alloc (.cells #[.pointer none, .slice none 0 0] 43)) = w2 at *
  have ed1 := digL_len I
  have ed2 := digL_len N
  have ed3 := kindW_len K
  have ed4 := digL_len ls.length
  have ht2 := keep_low hB2 hz1 ht1
  obtain ⟨q0, q1, q2, q3⟩ := tb_now ht2
  have hp := put_any w1.heap.size w1.heap.size ([]) wordI (digL I) w2 hbl (by simp only [List.length_nil]; have := lenI; have := lenO; have := lenK; have := lenP; omega) hB2.size
  rw [show str wordI = { data := #[46, 105, 32] } from rfl] at hp
  go_wp2_with fail
  refine (HI _).mono ?_
  rintro e w_ ⟨rfl, rfl⟩
  go_wp2_with fail
  refine hp.mono ?_
  rintro e w3 ⟨rfl, hbl3, hbx3⟩
  have hB3 := hB2.trans hbx3
  clear hp hbl hbx3 ht2 q0 q1 q2 q3
  have hbl := hbl3
  clear hbl3
  have ht3 := keep_low hB3 hz1 ht1
  obtain ⟨q0, q1, q2, q3⟩ := tb_now ht3
  have hp := put_any w1.heap.size w1.heap.size ([] ++ (wordI ++ digL I ++ [10])) wordO (digL N) w3 hbl (by simp only [List.length_append, List.length_cons, List.length_nil]; have := lenI; have := lenO; have := lenK; have := lenP; omega) hB3.size
  rw [show str wordO = { data := #[46, 111, 32] } from rfl] at hp
  go_wp2_with fail
  refine (HN _).mono ?_
  rintro e w_ ⟨rfl, rfl⟩
  go_wp2_with fail
  refine hp.mono ?_
  rintro e w4 ⟨rfl, hbl4, hbx4⟩
  have hB4 := hB3.trans hbx4
  clear hp hbl hbx4 ht3 q0 q1 q2 q3
  have hbl := hbl4
  clear hbl4
  have ht4 := keep_low hB4 hz1 ht1
  obtain ⟨q0, q1, q2, q3⟩ := tb_now ht4
  have hkx := (hkw1.low hB4).at_ K (by omega)
  have hp := put_any w1.heap.size w1.heap.size (([] ++ (wordI ++ digL I ++ [10])) ++ (wordO ++ digL N ++ [10])) wordK (kindW K) w4 hbl (by simp only [List.length_append, List.length_cons, List.length_nil]; have := lenI; have := lenO; have := lenK; have := lenP; omega) hB4.size
  rw [show str wordK = { data := #[46, 116, 121, 112, 101, 32] } from rfl] at hp
  go_wp2_with fail
  refine hp.mono ?_
  rintro e w5 ⟨rfl, hbl5, hbx5⟩
  have hB5 := hB4.trans hbx5
  clear hp hbl hbx5 ht4 q0 q1 q2 q3 hkx
  have hbl := hbl5
  clear hbl5
  have ht5 := keep_low hB5 hz1 ht1
  obtain ⟨q0, q1, q2, q3⟩ := tb_now ht5
  have hp := put_any w1.heap.size w1.heap.size ((([] ++ (wordI ++ digL I ++ [10])) ++ (wordO ++ digL N ++ [10])) ++ (wordK ++ kindW K ++ [10])) wordP (digL ls.length) w5 hbl (by simp only [List.length_append, List.length_cons, List.length_nil]; have := lenI; have := lenO; have := lenK; have := lenP; omega) hB5.size
  rw [show str wordP = { data := #[46, 112, 32] } from rfl] at hp
  go_wp2_with fail
  refine (HL _).mono ?_
  rintro e w_ ⟨rfl, rfl⟩
  go_wp2_with fail
  refine hp.mono ?_
  rintro e w6 ⟨rfl, hbl6, hbx6⟩
  have hB6 := hB5.trans hbx6
  clear hp hbl hbx6 ht5 q0 q1 q2 q3
  have hbl := hbl6
  clear hbl6
  have hH : ((([] ++ (wordI ++ digL I ++ [10])) ++ (wordO ++ digL N ++ [10])) ++ (wordK ++ kindW K ++ [10])) ++ (wordP ++ digL ls.length ++ [10]) = headL ⟨K, I, N, ls⟩ := by
    unfold headL; simp
  rw [hH] at hbl
  clear hH
  have hlen2 : ∀ j, (headL ⟨K, I, N, ls⟩ ++ rowsL (ls.take j) I).length + 3 ≤ 1000 := fun j => by
    have := rows_le ls j I
    unfold textT at hln
    simp only [List.length_append, List.length_cons, List.length_nil, Int.toNat_natCast, wordE] at hln ⊢
    omega
  have hlen3 := Lib.hid hlen2
  clear hlen2 HI HN HL
  have ht6 := keep_low hB6 hz1 ht1
  obtain ⟨q0, q1, q2, q3⟩ := tb_now ht6
  go_wp2
  clear q0 q1 q2 q3 ht6
  go_loopw [7, 8, 9, 39] (fun _ _ _ s wr => ∃ j : Nat, j ≤ ls.length ∧ s = .int .i64 j ∧ Bld w1.heap.size w1.heap.size (headL ⟨K, I, N, ls⟩ ++ rowsL (ls.take j) I) wr ∧ Below w1.heap.size w1 wr) (fun _ _ _ s _ => ls.length - (intOf s).toNat)
  case atStart => exact ⟨0, by omega, rfl, by simpa [rowsL] using hbl, hB6⟩
  case round =>
    clear hB2 hB3 hB4 hB5 hB6 hbl
    obtain ⟨j, hj, rfl, hbl, hBr⟩ := hrel
    have htr := keep_low hBr hz1 ht1
    obtain ⟨q0, q1, q2, q3⟩ := tb_now htr
    have hWr : Below w.heap.size w wr := hB1.trans (hBr.mono (by omega))
    have hz := hBr.size
    by_cases hlt : j < ls.length
    · obtain ⟨g, off, rfl, gB, hc⟩ := hA (by omega)
      obtain ⟨l, hl⟩ : ∃ l, ls[j]? = some l := ⟨_, List.getElem?_eq_getElem hlt⟩
      obtain ⟨ov, c0, c1, c2, hO⟩ := hc j l hl
      obtain ⟨A2, m2, rfl, -, -⟩ := id hO
      have d0 := (hWr.cell (p := ⟨g, off + j * 3, none⟩) gB).trans c0
      have d1 := (hWr.cell (p := ⟨g, off + j * 3 + 1, none⟩) gB).trans c1
      have d2 := (hWr.cell (p := ⟨g, off + j * 3 + 2, none⟩) gB).trans c2
      have hll := (lineB_iff _ _ _).1 (hHl.out l (List.mem_of_getElem? hl))
      have HT := fun w => ctext_yes hll.1 w
      have hgl := Lib.hid (rows_succ hl I)
      have hl3 := hlen3.out (j + 1)
      rw [hgl.out] at hl3
      have hrl := row_len l I
      have hol := Lib.hid hll.2.2
      have hoN : l.o.length ≤ 4 := by have := hll.2.1; omega
      have q1' := fun o => (World.cell?_alloc_lt wr o ⟨w.heap.size, 1, none⟩ (Nat.lt_of_lt_of_le (hz1) hz)).trans q1
      clear hc hl c0 c1 c2 hll hA q0 q2 q3
      unfold cv bvv at *
      go_wp2_with fail
      refine (HT _).mono ?_
      rintro e wt ⟨rfl, hbt⟩
      have hWt : Below wr.heap.size wr wt := (below_alloc1 wr _).trans (hbt.mono (by simp))
      have hblt := hbl.below hWt
      have hlt3 := keep_blk hbt (heap_alloc_new _ _)
      obtain ⟨-, -, e2, -⟩ := now3 hlt3 rfl
      have hBt := hBr.trans (hWt.mono hz)
      have hOt := (hO.below (hWr.trans (hWt.mono (by omega)))).more (hWr.trans (hWt.mono (by omega))).size
      have HOt := outText_any _ l.o wt hOt hol.out (by omega)
      clear HT hbt hlt3 hO hOt hbl d0 d1 d2 hBr hWr htr q1 q1'
      have z1 : ¬ 9223372036854775807 < (str (txtL l.m l.v I)).size + 1 := by rw [size_str, txtL_len]; omega
      have hsum : str (txtL l.m l.v I) ++ { data := #[32] } = str (txtL l.m l.v I ++ [32]) := by
        apply ByteArray.ext
        apply Array.ext'
        rw [data_append]
        simp [str]
      have hgap := Lib.hid hsum
      generalize hG : str (txtL l.m l.v I ++ [32]) = G at *
      clear hgap
      go_wp2_with fail
      refine HOt.mono ?_
      rintro e wo ⟨rfl, hbo⟩
      have hblo := hblt.below hbo
      have hBo := hBt.trans (hbo.mono hBt.size)
      have HP := put_any w1.heap.size w1.heap.size _ (txtL l.m l.v I ++ [32]) (l.o.map outC) wo hblo (by simp only [List.length_append, List.length_cons, List.length_nil, List.length_map, txtL_len] at hl3 ⊢; omega) hBo.size
      rw [hG] at HP
      clear HOt hbo hblt e2 hBt hsum
      go_wp2_with fail
      refine HP.mono ?_
      rintro e wp ⟨rfl, hblp, hbp⟩
      have hBp := hBo.trans hbp
      clear HP hbp hblo hBo
      go_wp2
      go_roundw
      case rel => exact ⟨j + 1, by omega, by go_num, by rw [hgl.out]; simpa [rowL] using hblp, hBp⟩
      case measure => simp [intOf]; omega
    · have e : j = ls.length := by omega
      subst e
      have hl3 := hlen3.out ls.length
      rw [List.take_length] at hbl hl3
      have HP := put_any w1.heap.size w1.heap.size _ wordE [] wr hbl (by simp only [List.length_append, List.length_cons, List.length_nil, wordE] at hl3 ⊢; omega) hz
      rw [show str wordE = { data := #[46, 101] } from rfl, show str [] = { data := #[] } from rfl] at HP
      have htx : Hid (headL ⟨K, I, N, ls⟩ ++ rowsL ls I ++ (wordE ++ [] ++ [10]) = textT ⟨K, I, N, ls⟩) := Lib.hid (by unfold textT; simp)
      rw [htx.out] at HP
      clear hA q0 q1 q2 q3 hl3
      go_wp2_with fail
      refine HP.mono ?_
      rintro e wp ⟨rfl, hblp, hbp⟩
      have hBp := hBr.trans hbp
      have HS := Tryd.Builder_String_any w1.heap.size w1.heap.size _ wp hblp hBp.size
      clear HP hbp hblp
      go_wp2_with fail
      refine HS.mono ?_
      rintro e ws ⟨rfl, hbs⟩
      have hBs := hB1.trans ((hBp.trans hbs).mono (by omega))
      clear HS hbs
      go_wp2
      go_ret2
      exact ⟨rfl, hBs⟩
end Go.Proofs.YtpjjnafegngdkaaDoor
