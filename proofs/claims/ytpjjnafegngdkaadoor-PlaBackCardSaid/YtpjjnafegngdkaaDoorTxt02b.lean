/- A text that is a cube's is the text of its cube, and a cube is what its text is parsed to. -/
import Derived.Test.YtpjjnafegngdkaaDoorPrs02
namespace Go.Proofs.YtpjjnafegngdkaaDoor
open Go.RowKit Go.Joins

theorem litC_litOf (c : UInt8) (h : okC c = true) : litC (litOf c) = c := by
  unfold okC at h
  simp only [Bool.or_eq_true, beq_iff_eq] at h
  rcases h with (h | h) | h <;> subst h <;> rfl
theorem litOf_litC (x : Nat) (h : x ≤ 2) : litOf (litC x) = x := by
  have : x = 0 ∨ x = 1 ∨ x = 2 := by omega
  rcases this with h | h | h <;> subst h <;> rfl
theorem okC_litC (x : Nat) : okC (litC x) = true := by
  unfold litC; split
  · rfl
  · split <;> rfl
theorem okT_size {s : ByteArray} (h : okT s = true) : s.size ≤ 8 := by
  unfold okT at h
  simp only [Bool.and_eq_true, decide_eq_true_eq] at h
  exact h.1
theorem okT_at {s : ByteArray} (h : okT s = true) (i : Nat) (hi : i < s.size) : okC s[i] = true := by
  unfold okT at h
  simp only [Bool.and_eq_true, List.all_eq_true] at h
  exact h.2 s[i] (List.mem_iff_getElem.2 ⟨i, by simpa using hi, rfl⟩)
theorem gS_le2 (s : ByteArray) (k : Nat) : gS s k ≤ 2 := by
  unfold gS litOf; split
  · omega
  · split <;> omega
theorem lit_mv (g : Nat → Nat) (n i : Nat) (hn : n ≤ 8) (hi : i < n) (hg : g i ≤ 2) : lit (mB g n) (vB g n) i = g i := by
  unfold lit
  rw [mB_bit, vB_bit]
  have h8 : i < 8 := by omega
  have : g i = 0 ∨ g i = 1 ∨ g i = 2 := by omega
  rcases this with h | h | h <;> simp [h, h8, hi]
theorem right_mv (g : Nat → Nat) (n : Nat) (hn : n ≤ 8) : rightB (mB g n) (vB g n) n = true := by
  rw [rightB_iff]
  refine ⟨by omega, by omega, fun i hi => ?_, ?_⟩
  · rw [mB_bit]
    have : ¬ i < n := by simp at hi; omega
    simp [this]
  · apply BitVec.eq_of_getLsbD_eq
    intro i _
    rw [BitVec.getLsbD_and, mB_bit, vB_bit]
    by_cases h : g i = 1
    · simp [h]
    · simp [h]
theorem parsed_right {s : ByteArray} (h : okT s = true) : rightB (pM s) (pV s) s.size = true := by
  unfold pM pV
  rw [if_pos h, if_pos h]
  exact right_mv _ _ (okT_size h)
theorem txtL_get (m v : BitVec 8) (n i : Nat) (h : i < (txtL m v n).length) : (txtL m v n)[i] = litC (lit m v i) := by simp [txtL]
theorem parsed_text {s : ByteArray} (h : okT s = true) : str (txtL (pM s) (pV s) s.size) = s := by
  unfold pM pV
  rw [if_pos h, if_pos h]
  have hn := okT_size h
  apply ByteArray.ext
  apply Array.ext'
  show txtL (mB (gS s) s.size) (vB (gS s) s.size) s.size = s.data.toList
  apply List.ext_getElem
  · rw [txtL_len]; simp
  · intro i h1 h2
    have hi : i < s.size := by simpa using h2
    rw [txtL_get, lit_mv _ _ _ hn hi (gS_le2 s i), gS_at s i hi, litC_litOf _ (okT_at h i hi)]
    rfl
theorem txt_at (m v : BitVec 8) (n i : Nat) (h : i < (str (txtL m v n)).size) : (str (txtL m v n))[i] = litC (lit m v i) := by
  have : i < n := by simpa [str, ByteArray.size, txtL] using h
  show (txtL m v n).toArray[i]'(by simpa [txtL] using this) = _
  simp [txtL]
theorem txt_size (m v : BitVec 8) (n : Nat) : (str (txtL m v n)).size = n := by simp [str, ByteArray.size, txtL]
theorem text_ok (m v : BitVec 8) (n : Nat) (hn : n ≤ 8) : okT (str (txtL m v n)) = true :=
  okT_yes (by rw [txt_size]; exact hn) (fun i hi _ => by rw [txt_at]; exact okC_litC _)
theorem gS_txt (m v : BitVec 8) (n i : Nat) (hi : i < n) : gS (str (txtL m v n)) i = lit m v i := by
  rw [gS_at _ i (by rw [txt_size]; exact hi), txt_at, litOf_litC _ (lit_le m v i)]
theorem text_parsed {m v : BitVec 8} {n : Nat} (h : rightB m v n = true) : pM (str (txtL m v n)) = m ∧ pV (str (txtL m v n)) = v ∧ pE (str (txtL m v n)) = 0 := by
  have h' := h
  rw [rightB_iff] at h'
  obtain ⟨_, h8, hm, hv⟩ := h'
  have hn : n ≤ 8 := by omega
  have hok := text_ok m v n hn
  unfold pM pV pE
  rw [if_pos hok, if_pos hok, if_pos hok, txt_size]
  refine ⟨?_, ?_, rfl⟩
  · apply BitVec.eq_of_getLsbD_eq
    intro i hi
    rw [mB_bit]
    by_cases hin : i < n
    · rw [gS_txt m v n i hin]
      unfold lit
      cases m.getLsbD i <;> cases v.getLsbD i <;> simp [hi, hin]
    · rw [hm i (by simp; omega)]
      simp [hin]
  · apply BitVec.eq_of_getLsbD_eq
    intro i hi
    rw [vB_bit]
    have hvi := congrArg (fun x => x.getLsbD i) hv
    simp only [BitVec.getLsbD_and] at hvi
    by_cases hin : i < n
    · rw [gS_txt m v n i hin]
      unfold lit
      cases hmi : m.getLsbD i <;> cases hvv : v.getLsbD i <;> rw [hmi, hvv] at hvi <;> simp [hi, hin] at hvi ⊢
    · rw [hm i (by simp; omega), Bool.and_false] at hvi
      rw [← hvi]
      simp [hin]
end Go.Proofs.YtpjjnafegngdkaaDoor
