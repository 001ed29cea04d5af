/- What the document's Text and Parse of layer 2 come to. -/
import Derived.Test.YtpjjnafegngdkaaDoorRef02d
namespace Go.Proofs.YtpjjnafegngdkaaDoor
open Go.RowKit Go.Joins

theorem lit_cases (m v : BitVec 8) (i : Nat) : lit m v i = 0 ∨ lit m v i = 1 ∨ lit m v i = 2 := by
  have := lit_le m v i
  omega
theorem str_snoc (l : List UInt8) (c : UInt8) : str l ++ ⟨#[c]⟩ = str (l ++ [c]) := ByteArray.mk_append_mk l [c]
theorem str_size (l : List UInt8) : (str l).size = l.length := by simp [str, ByteArray.size]
set_option maxHeartbeats 1000000 in
set_option maxRecDepth 1000000 in
theorem rtext_any (m v : BitVec 8) (n : Nat) (hn : n ≤ 8) (w : World) :
    Calls Tryd.prog 44 #[cv m v, .int .i64 n] w fun e w' => e = .returned (.string (str (txtL m v n))) ∧ Below w.heap.size w w' := by
  have HL := fun w => lits_any m v w
  unfold cv bvv at *
  go_enter Tryd.func44, Tryd.ntmps44
  go_wp2_with fail
  refine (HL _).mono ?_
  rintro e w1 ⟨b, cap, rfl, hlo, hl, hb1⟩
  have hB : Below w.heap.size w w1 := (below_alloc1 w _).trans (hb1.mono (by simp))
  clear hb1 HL hlo
  go_wp2
  go_loopw [5, 7] (fun s i wr => ∃ k : Nat, k ≤ n ∧ i = .int .i64 k ∧ s = .string (str (txtL m v k)) ∧ LitsAt m v b wr ∧ Below w.heap.size w wr) (fun _ i _ => n - (intOf i).toNat)
  case atStart => exact ⟨0, by omega, rfl, rfl, hl, hB⟩
  case round =>
    clear hl hB
    obtain ⟨k, hk, rfl, rfl, hl, hB⟩ := hrel
    by_cases hlt : k < n
    · have hck : ∀ o, (wr.alloc o).cell? ⟨b, k, none⟩ = some (.int .i64 ((lit m v k : Nat) : Int)) := fun o =>
        After.cell ⟨wr.alloc o, (Below.refl _ _).alloc (Nat.le_refl _) _⟩ (hl.2 k (by omega))
      have hsc := Lib.hid (txtL_succ m v k)
      have hlen := txtL_len m v k
      rcases lit_cases m v k with h | h | h
      all_goals
        have hz : (str (txtL m v k)).size ≤ 8 := by rw [str_size]; omega
        rw [h] at hck hsc
        clear h hlen
        go_wp2
        go_roundw
        case rel => exact ⟨k + 1, by omega, by go_num, by rw [hsc.out, ← str_snoc]; rfl, hl.keep ((Below.refl _ _).alloc (Nat.le_refl _) _), hB.alloc hB.size _⟩
        case measure => simp [intOf]; omega
    · have e : k = n := by omega
      subst e
      go_wp2
      go_ret
      exact ⟨rfl, hB⟩
def gV (s : ByteArray) (k : Nat) : List Value := (List.range k).map fun i => Value.int .i64 (gS s i : Nat)
theorem gV_succ (s : ByteArray) (k : Nat) : gV s (k + 1) = gV s k ++ [.int .i64 (gS s k : Nat)] := by
  unfold gV; rw [List.range_succ, List.map_append]; rfl
theorem gS_le (s : ByteArray) (k : Nat) : gS s k ≤ 2 := by
  unfold gS litOf; split
  · omega
  · split <;> omega
end Go.Proofs.YtpjjnafegngdkaaDoor
