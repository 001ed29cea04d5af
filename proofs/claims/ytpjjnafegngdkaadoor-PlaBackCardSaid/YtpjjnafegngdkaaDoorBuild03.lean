/- A Builder that the call has made is written: copyCheck, WriteString; what put of the package pla does; the decimal digits of a small number. -/
import Derived.Test.YtpjjnafegngdkaaDoorRight03c
import Derived.Test.YtpjjnafegngdkaaDoorShelf
import Derived.Lib.Builder
import Derived.Lib.AppendStr
import Derived.Lib.UnsafeStr
import Derived.Laws.Externs
namespace Go.Proofs.YtpjjnafegngdkaaDoor
open Go.RowKit Go.Joins

theorem Tryd.sizeBuilder : (Tryd.prog.info? 43).map (·.size) = some 2 := by kernel_rfl
theorem Tryd.liesBuilder : liesAt Tryd.prog Tryd.prog.depth 43 (2 / Tryd.prog.cellsOf 43) 0 43 1 = true := by kernel_rfl
abbrev Bld (B b : Nat) (l : List UInt8) (w : World) : Prop := Lib.IsBuilder 43 5 B b (Lib.byteCells l) w
set_option maxHeartbeats 1000000 in
set_option maxRecDepth 100000 in
theorem check_used (b : Nat) (w : World) (h0 : w.cell? ⟨b, 0, none⟩ = some (.pointer (some ⟨b, 0, none⟩))) :
    Calls Tryd.prog 35 #[.pointer (some ⟨b, 0, none⟩)] w fun e w' => e = .returned (.tuple #[]) ∧ w' = w := by
  obtain ⟨j, hj, _⟩ := Option.map_eq_some_iff.1 Tryd.sizeBuilder
  have hne := fun w => Lib.run_neq_ptr_same (P := Tryd.prog) w ⟨b, 0, none⟩ Tryd.underlying40 hj
  go_enter Tryd.func35, Tryd.ntmps35
  go_wp2
  go_end0
  exact ⟨rfl, rfl⟩
set_option maxHeartbeats 1000000 in
set_option maxRecDepth 100000 in
theorem check_fresh (b : Nat) (w : World) (h0 : w.cell? ⟨b, 0, none⟩ = some (.pointer none)) (hsh : w.shape? b = some (43, 2)) (hfz : w.frozen? ⟨b, 0, none⟩ = false) :
    Calls Tryd.prog 35 #[.pointer (some ⟨b, 0, none⟩)] w fun e w' => e = .returned (.tuple #[]) ∧ w' = w.setCell ⟨b, 0, none⟩ (.pointer (some ⟨b, 0, none⟩)) := by
  obtain ⟨j, hj, hjs⟩ := Option.map_eq_some_iff.1 Tryd.sizeBuilder
  have hto := Lib.run_to_unsafe (P := Tryd.prog) w ⟨b, 0, none⟩ Tryd.underlying40 Tryd.underlying84 hj (by rw [hjs]; decide) hsh (Nat.zero_lt_succ 1)
  have hfrom := Lib.run_from_unsafe (P := Tryd.prog) w ⟨b, 0, none⟩ Tryd.underlying84 Tryd.underlying40 hj hsh Tryd.liesBuilder
  go_enter Tryd.func35, Tryd.ntmps35
  go_wp2
  rw [run_callFunc_extern Tryd.func53 (by kernel_rfl) (by kernel_rfl) (by kernel_rfl) (e := Extern.AbiNoEscape.same) (by kernel_rfl)]
  rw [Lib.run_noEscape]
  simp only [Result.andThen]
  rw [Oper.upon_value]
  go_wp2
  go_end0
  exact ⟨rfl, rfl⟩
theorem check_any (B b : Nat) (l : List UInt8) (w : World) (h : Bld B b l w) :
    Calls Tryd.prog 35 #[.pointer (some ⟨b, 0, none⟩)] w fun e w' => e = .returned (.tuple #[]) ∧ Lib.BuilderAt 43 5 B b (.pointer (some ⟨b, 0, none⟩)) (Lib.byteCells l) w' ∧ Below B w w' := by
  rcases h with h | h
  · refine (check_fresh b w h.cell0 h.shape h.frozen0).mono ?_
    rintro e w' ⟨rfl, rfl⟩
    exact ⟨rfl, h.used _, (Below.refl B w).setCell (p := ⟨b, 0, none⟩) h.1 _⟩
  · refine (check_used b w h.cell0).mono ?_
    rintro e w' ⟨rfl, rfl⟩
    exact ⟨rfl, h, Below.refl B _⟩
theorem Tryd.neB : 43 ≠ 5 := by decide
set_option maxHeartbeats 2000000 in
set_option maxRecDepth 100000 in
theorem write_any (B b : Nat) (l : List UInt8) (s : ByteArray) (w : World) (h : Bld B b l w) (hlen : l.length + s.size ≤ 140737488355328) (hBw : B ≤ w.heap.size) :
    Calls Tryd.prog 15 #[.pointer (some ⟨b, 0, none⟩), .string s] w fun e w' => e = .returned (.tuple #[.int .i64 s.size, .nilIface]) ∧ Bld B b (l ++ s.data.toList) w' ∧ Below B w w' := by
  obtain ⟨i0, hi, hz0, hz1, hz2⟩ := info_parts Tryd.infoU8
  have HC := fun w h => check_any B b l w h
  go_enter Tryd.func15, Tryd.ntmps15
  go_wp2_with fail
  refine (HC _ h).mono ?_
  rintro e w1 ⟨rfl, h1, hb1⟩
  clear h HC
  obtain ⟨hB, v, hbk, hown, hne⟩ := h1
  rw [Lib.byteCells_length] at hown
  have hz := hb1.size
  have c1 : w1.cell? ⟨b, 1, none⟩ = some v := by rw [Lib.cell_of_heap hbk]; rfl
  go_wp2_with (at_builtin; refine Lib.wpList_append_own_string _ rfl _ _ 41 9 rfl B 5 i0 Tryd.underlying41 Tryd.underlying9 hi hz0 hz1 hz2 _ _ _ rfl hown s rfl ?c3 ?c4 ?c5 ?_)
  case c3 => unfold maxLen; omega
  case c4 => omega
  case c5 => omega
  intro v' w2 hown' hgrow _
  have hlt : b < w1.heap.size := size_of_block hbk
  have hb2 : w2.heap[b]? = some (.cells #[.pointer (some ⟨b, 0, none⟩), v] 43 (0, 0)) := by
    rw [hgrow.block b hlt (fun e => hne e.symm)]; exact hbk
  have f1 : w2.frozen? ⟨b, 1, none⟩ = false := Lib.frozen_of_heap hb2 1
  have d1 : w2.cell? ⟨b, 1, none⟩ = some v := by rw [Lib.cell_of_heap hb2]; rfl
  have d0 : w2.cell? ⟨b, 0, none⟩ = some (.pointer (some ⟨b, 0, none⟩)) := by rw [Lib.cell_of_heap hb2]; rfl
  have hB2 : Below B w w2 := hb1.grown hgrow (by omega) (fun k hk => (hown.lt k hk).1)
  have hfin : ∀ u : Value, u = v' → Bld B b (l ++ s.data.toList) (w2.setCell ⟨b, 1, none⟩ u) := by
    rintro u rfl
    refine Or.inr (Lib.BuilderAt.put (T := 43) (e := 5) hB hb2 ?_ Tryd.neB)
    rw [Lib.byteCells_length, Lib.byteCells_append, List.length_append, ← Lib.size_eq]
    exact hown'
  obtain ⟨ao, n', cap, rfl⟩ : ∃ ao n' cap, v' = .slice ao n' cap := by
    rcases hown'.2 with ⟨hv, _⟩ | ⟨g, cap, cur, hv, _⟩
    · exact ⟨_, _, _, hv⟩
    · exact ⟨_, _, _, hv⟩
  clear hgrow hown hown' hb1 hbk
  go_wp2
  go_ret2
  exact ⟨rfl, hfin _ rfl, hB2.setCell (p := ⟨b, 1, none⟩) hB _⟩
theorem data_append (a b : ByteArray) : (a ++ b).data.toList = a.data.toList ++ b.data.toList := by
  simp [ByteArray.data_append]
set_option maxHeartbeats 2000000 in
set_option maxRecDepth 100000 in
theorem put_any (B b : Nat) (l x y : List UInt8) (w : World) (h : Bld B b l w) (hlen : l.length + x.length + y.length ≤ 100000) (hBw : B ≤ w.heap.size) :
    Calls Tryd.prog 14 #[.string (str x), .string (str y), .pointer (some ⟨b, 0, none⟩)] w fun e w' => e = .returned (.tuple #[]) ∧ Bld B b (l ++ (x ++ y ++ [10])) w' ∧ Below B w w' := by
  have HW := write_any B b l (str (x ++ y ++ [10])) w h (by rw [size_str]; simp; omega) hBw
  have hsum : str x ++ str y ++ ⟨#[10]⟩ = str (x ++ y ++ [10]) := by
    apply ByteArray.ext
    apply Array.ext'
    rw [data_append, data_append]
    simp [str]
  have hx : (str (x ++ y ++ [10])).data.toList = x ++ y ++ [10] := by simp [str]
  rw [hx] at HW
  have z1 : ¬ 9223372036854775807 < (str x).size + (str y).size := by rw [size_str, size_str]; omega
  have z2 : ¬ 9223372036854775807 < (str x).size + (str y).size + 1 := by rw [size_str, size_str]; omega
  generalize str (x ++ y ++ [10]) = t at *
  generalize x ++ y ++ [10] = z at *
  clear hx h
  go_enter Tryd.func14, Tryd.ntmps14
  go_wp2_with fail
  refine HW.mono ?_
  rintro e w1 ⟨rfl, hb1, hB1⟩
  go_wp2
  go_end0
  exact ⟨rfl, hb1, hB1⟩
theorem dec_dig (n : Nat) (h : n < 100) : Lib.decDigits n = digL n := by
  have : ∀ k, k < 100 → Lib.decDigits k = digL k := by decide +kernel
  exact this n h
theorem itoa_any (n : Nat) (h : n < 100) (w : World) : Calls Tryd.prog 16 #[.int .i64 n] w fun e w' => e = .returned (.string (str (digL n))) ∧ w = w' := by
  have := Tryd.strconv_Itoa_small n h w
  rw [dec_dig n h] at this
  exact this.mono fun _ _ ⟨a, b⟩ => ⟨a, b.symm⟩
theorem byteV_snoc (l : List UInt8) (c : UInt8) : byteV (l ++ [c]) = byteV l ++ [.int .u8 (c.toNat : Int)] := by simp [byteV]
set_option maxHeartbeats 2000000 in
set_option maxRecDepth 1000000 in
theorem outText_any (O : Value) (o : List Int) (w : World) (hO : IntsAt w w.heap.size O o) (ho : ∀ x ∈ o, 0 ≤ x ∧ x ≤ 2) (h4 : o.length ≤ 100000) :
    Calls Tryd.prog 18 #[O] w fun e w' => e = .returned (.string (str (o.map outC))) ∧ Below w.heap.size w w' := by
  obtain ⟨i0, hi, hz0, hz1, hz2⟩ := info_parts Tryd.infoU8
  obtain ⟨A, c, rfl, hlen, hA⟩ := hO
  have ho' := Lib.hid ho
  clear ho
  go_enter Tryd.func18, Tryd.ntmps18
  go_wp2
  go_loopw [3, 5, 8] (fun r _ i wr => ∃ k : Nat, k ≤ o.length ∧ i = .int .i64 k ∧ wr.ownsRow w.heap.size 5 1 r k (byteV ((o.map outC).take k)) ∧ Below w.heap.size w wr) (fun _ _ i _ => o.length - (intOf i).toNat)
  case atStart => exact ⟨0, by omega, rfl, World.ownsRow_nil _ _ _ _, Below.refl _ _⟩
  case round =>
    obtain ⟨k, hk, rfl, hown, hb⟩ := hrel
    by_cases hlt : k < o.length
    · obtain ⟨b, off, rfl, hB, hc⟩ := hA (by omega)
      obtain ⟨x, hx⟩ : ∃ x, o[k]? = some x := ⟨_, List.getElem?_eq_getElem hlt⟩
      have d := (hb.cell (p := ⟨b, off + k, none⟩) hB).trans (hc k x hx)
      have hr := ho'.out x (List.mem_of_getElem? hx)
      have hsucc0 : Hid ((o.map outC).take (k + 1) = (o.map outC).take k ++ [outC x]) := Lib.hid (by
        have hlm : k < (o.map outC).length := by simpa using hlt
        rw [List.take_succ_eq_append_getElem hlm]
        have : o[k] = x := (List.getElem?_eq_some_iff.1 hx).2
        simp [this])
      have hz := hb.size
      have hx3 : x = 0 ∨ x = 1 ∨ x = 2 := by omega
      clear hc hx hA hr
      rcases hx3 with rfl | rfl | rfl
      · have hsucc : Hid ((o.map outC).take (k + 1) = (o.map outC).take k ++ [48]) := Lib.hid (hsucc0.out)
        clear hsucc0
        go_wp2_with (at_builtin; go_loud (refine wpList_append_own _ rfl _ _ 41 rfl w.heap.size 5 i0 (.int .u8 0) 1 1 Tryd.underlying41 hi hz0 hz1 hz2 rfl (by decide) _ _ _ rfl (hown.alloc _) ⟨wr.heap.size, 0, none⟩ 1 1 [.int .u8 48] rfl rfl ?c1 ?c2 ?c3 ?c4 ?c5 ?_))
        case c1 => exact cell_one_new _ _ _
        case c2 => intro u hu; simp at hu; subst hu; rfl
        case c3 => unfold maxLen; omega
        case c4 => omega
        case c5 => simp; omega
        intro v' w2 hown2 hgrow _
        have hR : Below w.heap.size w w2 := grown_below hown hgrow (hb.alloc (by omega) _) (by omega) (by simp; omega)
        clear hgrow hown hb d
        go_wp2
        go_roundw
        case rel => exact ⟨k + 1, by omega, by go_num, by rw [hsucc.out, byteV_snoc]; exact hown2, hR⟩
        case measure => simp [intOf]; omega
      · have hsucc : Hid ((o.map outC).take (k + 1) = (o.map outC).take k ++ [49]) := Lib.hid (hsucc0.out)
        clear hsucc0
        go_wp2_with (at_builtin; go_loud (refine wpList_append_own _ rfl _ _ 41 rfl w.heap.size 5 i0 (.int .u8 0) 1 1 Tryd.underlying41 hi hz0 hz1 hz2 rfl (by decide) _ _ _ rfl (hown.alloc _) ⟨wr.heap.size, 0, none⟩ 1 1 [.int .u8 49] rfl rfl ?c1 ?c2 ?c3 ?c4 ?c5 ?_))
        case c1 => exact cell_one_new _ _ _
        case c2 => intro u hu; simp at hu; subst hu; rfl
        case c3 => unfold maxLen; omega
        case c4 => omega
        case c5 => simp; omega
        intro v' w2 hown2 hgrow _
        have hR : Below w.heap.size w w2 := grown_below hown hgrow (hb.alloc (by omega) _) (by omega) (by simp; omega)
        clear hgrow hown hb d
        go_wp2
        go_roundw
        case rel => exact ⟨k + 1, by omega, by go_num, by rw [hsucc.out, byteV_snoc]; exact hown2, hR⟩
        case measure => simp [intOf]; omega
      · have hsucc : Hid ((o.map outC).take (k + 1) = (o.map outC).take k ++ [45]) := Lib.hid (hsucc0.out)
        clear hsucc0
        go_wp2_with (at_builtin; go_loud (refine wpList_append_own _ rfl _ _ 41 rfl w.heap.size 5 i0 (.int .u8 0) 1 1 Tryd.underlying41 hi hz0 hz1 hz2 rfl (by decide) _ _ _ rfl (hown.alloc _) ⟨wr.heap.size, 0, none⟩ 1 1 [.int .u8 45] rfl rfl ?c1 ?c2 ?c3 ?c4 ?c5 ?_))
        case c1 => exact cell_one_new _ _ _
        case c2 => intro u hu; simp at hu; subst hu; rfl
        case c3 => unfold maxLen; omega
        case c4 => omega
        case c5 => simp; omega
        intro v' w2 hown2 hgrow _
        have hR : Below w.heap.size w w2 := grown_below hown hgrow (hb.alloc (by omega) _) (by omega) (by simp; omega)
        clear hgrow hown hb d
        go_wp2
        go_roundw
        case rel => exact ⟨k + 1, by omega, by go_num, by rw [hsucc.out, byteV_snoc]; exact hown2, hR⟩
        case measure => simp [intOf]; omega
    · have e : k = o.length := by omega
      subst e
      rw [show (o.map outC).take o.length = o.map outC from List.take_of_length_le (by simp)] at hown
      have hcv := conv_row (l := o.map outC) (by simpa using hown)
      clear hA
      go_wp2
      go_ret
      exact ⟨rfl, hb⟩
end Go.Proofs.YtpjjnafegngdkaaDoor
