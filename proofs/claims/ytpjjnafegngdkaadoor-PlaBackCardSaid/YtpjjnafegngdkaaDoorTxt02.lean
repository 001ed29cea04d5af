/- What Text of the package cube answers, for every input. -/
import Derived.Test.YtpjjnafegngdkaaDoorPkg02b
import Derived.Lib.SlBytesRow
namespace Go.Proofs.YtpjjnafegngdkaaDoor
open Go.RowKit Go.Joins

/-- The byte of a literal. -/
def litC (x : Nat) : UInt8 := if x = 2 then 45 else if x = 1 then 49 else 48
/-- The text of the first n inputs. -/
def txtL (m v : BitVec 8) (n : Nat) : List UInt8 := (List.range n).map fun i => litC (lit m v i)
theorem txtL_succ (m v : BitVec 8) (n : Nat) : txtL m v (n + 1) = txtL m v n ++ [litC (lit m v n)] := by
  unfold txtL; rw [List.range_succ, List.map_append]; rfl
theorem txtL_len (m v : BitVec 8) (n : Nat) : (txtL m v n).length = n := by simp [txtL]
def str (l : List UInt8) : ByteArray := ⟨l.toArray⟩
def byteV (l : List UInt8) : List Value := l.map fun c => .int .u8 (c.toNat : Int)
theorem byteV_len (l : List UInt8) : (byteV l).length = l.length := by simp [byteV]
theorem conv_row {w : World} {base : Nat} {v : Value} {l : List UInt8} (h : w.ownsRow base 5 1 v l.length (byteV l)) : (convert 41 9 v).run Tryd.prog w = .ok (.string (str l)) w := by
  rcases ownsRow_forms h with ⟨rfl, h0⟩ | ⟨g, cap, rfl⟩
  · have e : l = [] := List.length_eq_zero_iff.1 h0
    subst e
    rw [run_convert_bytes_string (P := Tryd.prog) w 41 9 5 none 0 0 Tryd.underlying41 Tryd.underlying5 Tryd.underlying9]
    rfl
  · have hs : (str l).size = l.length := by simp [str, ByteArray.size]
    have hb : Lib.Bytes w g 0 (str l) := by
      intro i hi
      rw [Nat.zero_add, h.cellAt i (by omega)]
      have hi' : i < l.length := by omega
      simp [byteV, hi', str]
      rfl
    have := Lib.run_convert_whole (P := Tryd.prog) w 41 5 9 Tryd.underlying41 Tryd.underlying5 Tryd.underlying9 g 0 (str l) hb cap
    rw [hs] at this
    exact this
theorem Tryd.infoU8 : (Tryd.prog.info? 5).map (fun i => (i.zero, i.size, i.bytes)) = some (some (.int .u8 0), 1, 1) := by kernel_rfl
theorem ctext_no {m v : BitVec 8} {n : Int} (h : rightB m v n = false) (w : World) :
    Calls Tryd.prog 17 #[cv m v, .int .i64 n] w fun e w' => e = .returned (.tuple #[.string (str []), .int .i64 1]) ∧ Below w.heap.size w w' := by
  have HR := fun w => right_no h w
  unfold cv bvv at *
  clear h
  go_enter Tryd.func17, Tryd.ntmps17
  go_wp2_with fail
  refine (HR _).mono ?_
  rintro e w1 ⟨rfl, hb1⟩
  have hB : Below w.heap.size w w1 := (below_alloc1 w _).trans (hb1.mono (by simp))
  clear hb1
  go_wp2
  go_ret2
  exact ⟨rfl, hB⟩
set_option maxHeartbeats 1000000 in
set_option maxRecDepth 1000000 in
theorem ctext_yes {m v : BitVec 8} {n : Nat} (h : rightB m v n = true) (w : World) :
    Calls Tryd.prog 17 #[cv m v, .int .i64 n] w fun e w' => e = .returned (.tuple #[.string (str (txtL m v n)), .int .i64 0]) ∧ Below w.heap.size w w' := by
  obtain ⟨i0, hi, hz0, hz1, hz2⟩ := info_parts Tryd.infoU8
  have HR := fun w => right_yes h w
  have hn : n ≤ 8 := by have := ((rightB_iff m v n).1 h).2.1; omega
  clear h
  unfold cv bvv at *
  go_enter Tryd.func17, Tryd.ntmps17
  go_wp2_with fail
  refine (HR _).mono ?_
  rintro e w1 ⟨rfl, hb1⟩
  have hB : Below w.heap.size w w1 := (below_alloc1 w _).trans (hb1.mono (by simp))
  have ha := (keep_blk hb1 (heap_alloc_new _ _) : w1.heap[w.heap.size]? = some (cb m v))
  clear hb1 HR
  go_wp2
  go_loopw [6, 13] (fun r i wr => ∃ k : Nat, k ≤ n ∧ i = .int .i64 k ∧ wr.ownsRow (w.heap.size + 1) 5 1 r (txtL m v k).length (byteV (txtL m v k)) ∧ wr.heap[w.heap.size]? = some (cb m v) ∧ Below w.heap.size w wr) (fun _ i _ => n - (intOf i).toNat)
  case atStart => exact ⟨0, by omega, rfl, World.ownsRow_nil _ _ _ _, ha, hB⟩
  case round =>
    clear ha hB
    obtain ⟨k, hk, rfl, hown, hbox, hb⟩ := hrel
    obtain ⟨a0, a1, -⟩ := now2 hbox rfl
    have hz := size_of_block hbox
    have hlen := Lib.hid (txtL_len m v k)
    by_cases hlt : k < n
    · have hsucc := Lib.hid (txtL_succ m v k)
      cases hmk : m.getLsbD k
      · have HB := fun w => bit_no m k (by omega) hmk w
        have hl2 : Hid (litC (lit m v k) = 45) := Lib.hid (by unfold lit; rw [hmk]; rfl)
        unfold bvv at HB
        clear hmk
        go_wp2_with (first
          | (go_at_call 38; refine (HB _).mono ?_; rintro e w' ⟨rfl, rfl⟩)
          | (at_builtin; go_loud (refine wpList_append_own _ rfl _ _ 41 rfl (w.heap.size + 1) 5 i0 (.int .u8 0) 1 1 Tryd.underlying41 hi hz0 hz1 hz2 rfl (by decide) _ _ _ rfl (hown.alloc _) ⟨wr.heap.size, 0, none⟩ 1 1 [.int .u8 45] rfl rfl ?c1 ?c2 ?c3 ?c4 ?c5 ?_)))
        case c1 => exact cell_one_new _ _ _
        case c2 => intro u hu; simp at hu; subst hu; rfl
        case c3 => unfold maxLen; rw [hlen.out]; omega
        case c4 => rw [hlen.out]; omega
        case c5 => simp; omega
        intro v' w2 hown2 hgrow _
        have hR : w2.heap[w.heap.size]? = some (cb m v) ∧ Below w.heap.size w w2 :=
          ⟨((grown_low hown hgrow _ (by omega) (by simp; omega)).trans (Below.heap_alloc _ _ _ (by omega))).trans hbox, grown_below hown hgrow (hb.alloc (by omega) _) (by omega) (by simp; omega)⟩
        clear hgrow hown hbox hb a0 a1
        go_wp2
        go_roundw
        case rel => exact ⟨k + 1, by omega, by go_num, by rw [hsucc.out, hl2.out]; simpa [byteV] using hown2, hR.1, hR.2⟩
        case measure => simp [intOf]; omega
      · have HB := fun w => bit_yes m k (by omega) hmk w
        have HV := fun w => bit_any8 v k (by omega) w
        have hl2 : Hid (48 + bitI v k = ((litC (lit m v k)).toNat : Int)) := Lib.hid (by
          unfold lit bitI; rw [hmk]; cases v.getLsbD k <;> decide)
        have hb0 : 0 ≤ bitI v k := by unfold bitI; split <;> omega
        have hb1 : bitI v k ≤ 1 := by unfold bitI; split <;> omega
        unfold bvv at HB HV
        clear hmk
        generalize bitI v k = B at *
        generalize hC : litC (lit m v k) = C at *
        clear hC
        go_wp2_with fail
        refine (HB _).mono ?_
        rintro e w' ⟨rfl, rfl⟩
        go_wp2_with fail
        refine (HV _).mono ?_
        rintro e w' ⟨rfl, rfl⟩
        go_wp2_with (at_builtin; go_loud (refine wpList_append_own _ rfl _ _ 41 rfl (w.heap.size + 1) 5 i0 (.int .u8 0) 1 1 Tryd.underlying41 hi hz0 hz1 hz2 rfl (by decide) _ _ _ rfl (hown.alloc _) ⟨wr.heap.size, 0, none⟩ 1 1 [.int .u8 (48 + B)] rfl rfl ?c1 ?c2 ?c3 ?c4 ?c5 ?_))
        case c1 => exact cell_one_new _ _ _
        case c2 => intro u hu; simp at hu; subst hu; rfl
        case c3 => unfold maxLen; rw [hlen.out]; omega
        case c4 => rw [hlen.out]; omega
        case c5 => simp; omega
        intro v' w2 hown2 hgrow _
        have hR : w2.heap[w.heap.size]? = some (cb m v) ∧ Below w.heap.size w w2 :=
          ⟨((grown_low hown hgrow _ (by omega) (by simp; omega)).trans (Below.heap_alloc _ _ _ (by omega))).trans hbox, grown_below hown hgrow (hb.alloc (by omega) _) (by omega) (by simp; omega)⟩
        clear hgrow hown hbox hb a0 a1
        go_wp2
        go_roundw
        case rel => exact ⟨k + 1, by omega, by go_num, by rw [hsucc.out]; rw [hl2.out] at hown2; simpa [byteV] using hown2, hR.1, hR.2⟩
        case measure => simp [intOf]; omega
    · have e : k = n := by omega
      subst e
      have hcv := conv_row hown
      go_wp2
      go_ret2
      exact ⟨rfl, hb⟩
theorem ctext_any (m v : BitVec 8) (n : Int) (w : World) :
    Calls Tryd.prog 17 #[cv m v, .int .i64 n] w fun e w' => e = .returned (.tuple #[.string (str (if rightB m v n then txtL m v n.toNat else [])), .int .i64 (if rightB m v n then 0 else 1)]) ∧ Below w.heap.size w w' := by
  cases h : rightB m v n
  · simpa using ctext_no h w
  · obtain ⟨k, rfl⟩ := Int.eq_ofNat_of_zero_le ((rightB_iff m v n).1 h).1
    simpa using ctext_yes h w
end Go.Proofs.YtpjjnafegngdkaaDoor
