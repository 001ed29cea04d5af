/- The document's own text of a table: digits, kinds, a line, a table. -/
import Derived.Test.YtpjjnafegngdkaaDoorPrint03
import Derived.Test.YtpjjnafegngdkaaDoorRef02e
namespace Go.Proofs.YtpjjnafegngdkaaDoor
open Go.RowKit Go.Joins

theorem conv_one {w : World} {g : Nat} {c : UInt8} {x : Int} (hx : x = (c.toNat : Int)) (h : w.cell? ⟨g, 0, none⟩ = some (.int .u8 x)) :
    (convert 41 9 (.slice (some ⟨g, 0, none⟩) 1 1)).run Tryd.prog w = .ok (.string (str [c])) w := by
  subst hx
  have hb : Lib.Bytes w g 0 (str [c]) := by
    intro i hi
    have : i = 0 := by have h2 : i < 1 := hi; omega
    subst this
    rw [h]; rfl
  exact Lib.run_convert_whole (P := Tryd.prog) w 41 5 9 Tryd.underlying41 Tryd.underlying5 Tryd.underlying9 g 0 (str [c]) hb 1
theorem now1 {w : World} {b : Nat} {T : TypeId} {x0 : Value} (h : w.heap[b]? = some (.cells #[x0] T (0, 0))) : w.cell? ⟨b, 0, none⟩ = some x0 := by rw [cell_of_block h]; rfl
theorem byte_of_nat (x : Nat) (h : x < 256) : (x : Int) = ((UInt8.ofNat x).toNat : Int) := by
  rw [UInt8.toNat_ofNat']
  have : x % 2 ^ 8 = x := Nat.mod_eq_of_lt h
  rw [this]
set_option maxHeartbeats 1000000 in
set_option maxRecDepth 100000 in
theorem digits_any (n : Nat) (h : n < 100) (w : World) :
    Calls Tryd.prog 28 #[.int .i64 n] w fun e w' => e = .returned (.string (str (digL n))) ∧ Below w.heap.size w w' := by
  obtain ⟨c1, e1⟩ : ∃ c : UInt8, c = UInt8.ofNat (48 + n % 10) := ⟨_, rfl⟩
  obtain ⟨c2, e2⟩ : ∃ c : UInt8, c = UInt8.ofNat (48 + n / 10) := ⟨_, rfl⟩
  have hB1 := below_alloc1 w (.cells #[.int .u8 (48 + (n : Int) % 10)] 5)
  have hB2 := below_alloc2 w (.cells #[.int .u8 (48 + (n : Int) % 10)] 5) (.cells #[.int .u8 (48 + (n : Int) / 10)] 5)
  have hc1 := conv_one (c := c1) (x := 48 + (n : Int) % 10) (by rw [e1, ← byte_of_nat _ (by omega)]; simp) (now1 (heap_alloc_new w (.cells #[.int .u8 (48 + (n : Int) % 10)] 5)))
  have hc2 := conv_one (c := c2) (x := 48 + (n : Int) / 10) (by rw [e2, ← byte_of_nat _ (by omega)]; simp) (now1 (heap_alloc2_new w (.cells #[.int .u8 (48 + (n : Int) % 10)] 5) (.cells #[.int .u8 (48 + (n : Int) / 10)] 5)))
  have hlt : Hid (n < 10 → digL n = [c1]) := Lib.hid (fun h => by unfold digL; rw [if_pos h, e1, Nat.mod_eq_of_lt h])
  have hge : Hid (¬ n < 10 → digL n = [c2, c1]) := Lib.hid (fun h => by unfold digL; rw [if_neg h, e1, e2])
  have hsum : str [c2] ++ str [c1] = str [c2, c1] := rfl
  have hz : ¬ 9223372036854775807 < (str [c2]).size + (str [c1]).size := by rw [size_str, size_str]; simp
  clear e1 e2
  by_cases h10 : n < 10
  · have e := Lib.hid (hlt.out h10)
    clear hc2 hsum hz
    go_enter Tryd.func28, Tryd.ntmps28
    go_wp2
    go_ret
    exact ⟨by rw [e.out]; rfl, hB1⟩
  · have e := Lib.hid (hge.out h10)
    go_enter Tryd.func28, Tryd.ntmps28
    go_wp2
    go_ret
    exact ⟨by rw [e.out]; rfl, hB2⟩
/-- The words of the kinds, made by a call. -/
def kindsB : Obj := .cells #[.string { data := #[102] }, .string { data := #[102, 100] }, .string { data := #[102, 114] }, .string { data := #[102, 100, 114] }] 9 (0, 0)
theorem kinds_any (w : World) : Calls Tryd.prog 29 #[] w fun e w' => e = .returned (.slice (some ⟨w.heap.size, 0, none⟩) 4 4) ∧ w' = w.alloc kindsB := by
  go_enter Tryd.func29, Tryd.ntmps29
  go_wp2
  go_ret
  exact ⟨rfl, rfl⟩
def litB : Obj := .cells #[.string { data := #[48] }, .string { data := #[49] }, .string { data := #[45] }] 9 (0, 0)
set_option maxHeartbeats 2000000 in
set_option maxRecDepth 100000 in
theorem rline_any (m v : BitVec 8) (O : Value) (o : List Int) (I : Nat) (w : World) (hO : IntsAt w w.heap.size O o) (hr : I ≤ 8) (ho : ∀ x ∈ o, 0 ≤ x ∧ x ≤ 2) (h4 : o.length ≤ 4) :
    Calls Tryd.prog 30 #[lv m v O, .int .i64 I] w fun e w' => e = .returned (.string (str (rowL ⟨m, v, o⟩ I))) ∧ Below w.heap.size w w' := by
  obtain ⟨A, c, rfl, hlen, hA⟩ := hO
  have ho' := Lib.hid ho
  have HT := fun w => rtext_any m v I hr w
  have hfin : Hid (rowL ⟨m, v, o⟩ I = txtL m v I ++ [32] ++ (o.map outC).take o.length) := Lib.hid (by unfold rowL; rw [List.take_of_length_le (by simp)])
  have hs0 := str_snoc (txtL m v I) 32
  have hz0 : ¬ 9223372036854775807 < (str (txtL m v I)).size + 1 := by rw [size_str, txtL_len]; omega
  have htl := Lib.hid (txtL_len m v I)
  generalize hT : txtL m v I = T at *
  clear hT ho
  unfold lv
  unfold cv bvv at *
  go_enter Tryd.func30, Tryd.ntmps30
  go_wp2_with fail
  refine (HT _).mono ?_
  rintro e w1 ⟨rfl, hb1⟩
  have hB1 : Below w.heap.size w w1 := (below_alloc1 w _).trans (hb1.mono (by simp))
  have ht1 := keep_blk hb1 (heap_alloc_new _ _)
  clear hb1 HT
  go_wp2
  clear hs0 hz0
  go_loopw [5, 6] (fun s t wr => ∃ k : Nat, k ≤ o.length ∧ t = .int .i64 k ∧ s = .string (str (T ++ [32] ++ (o.map outC).take k)) ∧ Below w.heap.size w wr ∧ wr.heap[w.heap.size]? = some (.cells #[.int .u8 m.toNat, .int .u8 v.toNat, .slice A o.length c] 39 (0, 0))) (fun _ t _ => o.length - (intOf t).toNat)
  case atStart => exact ⟨0, by omega, rfl, by simp, hB1, ht1⟩
  case round =>
    clear hB1 ht1
    obtain ⟨k, hk, rfl, rfl, hb, ht⟩ := hrel
    obtain ⟨-, -, e2, -⟩ := now3 ht rfl
    have hz := hb.size
    have htz := size_of_block ht
    by_cases hlt : k < o.length
    · obtain ⟨b, off, rfl, hB, hc⟩ := hA (by omega)
      obtain ⟨x, hx⟩ : ∃ x, o[k]? = some x := ⟨_, List.getElem?_eq_getElem hlt⟩
      have d := (hb.cell (p := ⟨b, off + k, none⟩) hB).trans (hc k x hx)
      have d' := fun o => (World.cell?_alloc_lt wr o ⟨b, off + k, none⟩ (Nat.lt_of_lt_of_le hB hz)).trans d
      have e2' := fun o => (World.cell?_alloc_lt wr o ⟨w.heap.size, 2, none⟩ htz).trans e2
      have hr := ho'.out x (List.mem_of_getElem? hx)
      have hsucc : Hid ((o.map outC).take (k + 1) = (o.map outC).take k ++ [outC x]) := Lib.hid (by
        have hlm : k < (o.map outC).length := by simpa using hlt
        rw [List.take_succ_eq_append_getElem hlm]
        have : o[k] = x := (List.getElem?_eq_some_iff.1 hx).2
        simp [this])
      have hx3 : x = 0 ∨ x = 1 ∨ x = 2 := by omega
      have hs1 := Lib.hid (fun c => str_snoc (T ++ [32] ++ (o.map outC).take k) c)
      have hz1 : ¬ 9223372036854775807 < (str (T ++ [32] ++ (o.map outC).take k)).size + 1 := by
        rw [size_str]
        have := htl.out
        simp only [List.length_append, List.length_take, List.length_cons, List.length_nil]
        omega
      have hBa := Lib.hid (hb.alloc hz litB)
      have hta := Lib.hid (keep_alloc (x := litB) ht)
      unfold litB at hBa hta
      generalize hS : str (T ++ [32] ++ (o.map outC).take k) = S at *
      clear hc hx hA hr hS
      rcases hx3 with rfl | rfl | rfl
      · go_wp2
        go_roundw
        case rel => exact ⟨k + 1, by omega, by go_num, by rw [hs1.out, hsucc.out]; simp [outC], hBa.out, hta.out⟩
        case measure => simp [intOf]; omega
      · go_wp2
        go_roundw
        case rel => exact ⟨k + 1, by omega, by go_num, by rw [hs1.out, hsucc.out]; simp [outC], hBa.out, hta.out⟩
        case measure => simp [intOf]; omega
      · go_wp2
        go_roundw
        case rel => exact ⟨k + 1, by omega, by go_num, by rw [hs1.out, hsucc.out]; simp [outC], hBa.out, hta.out⟩
        case measure => simp [intOf]; omega
    · have e : k = o.length := by omega
      subst e
      clear hA
      go_wp2
      go_ret
      exact ⟨by rw [hfin.out]; rfl, hb⟩
end Go.Proofs.YtpjjnafegngdkaaDoor
