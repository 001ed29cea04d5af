/- What the document's answers of layer 2 come to, for every input. -/
import Derived.Test.YtnddepijbbchiaaLaw01d
import Derived.Test.YtnddepijbbchiaaPrs02
namespace Go.Proofs.Ytnddepijbbchiaa
open Go.RowKit Go.Joins

def litV (m v : BitVec 8) (k : Nat) : List Value := (List.range k).map fun i => Value.int .i64 (lit m v i : Nat)
theorem litV_succ (m v : BitVec 8) (k : Nat) : litV m v (k + 1) = litV m v k ++ [.int .i64 (lit m v k : Nat)] := by
  unfold litV; rw [List.range_succ, List.map_append]; rfl
theorem litV_get (m v : BitVec 8) (n i : Nat) (h : i < n) : (litV m v n)[i]? = some (.int .i64 (lit m v i : Nat)) := by
  unfold litV; simp [h]
theorem bit_mod (x : BitVec 8) (k : Nat) : x.toNat / 2 ^ k % 2 = if x.getLsbD k then 1 else 0 := by
  simp only [BitVec.getLsbD, Nat.testBit_eq_decide_div_mod_eq]
  by_cases h : x.toNat / 2 ^ k % 2 = 1
  · simp [h]
  · have : x.toNat / 2 ^ k % 2 = 0 := by omega
    simp [this]
set_option maxHeartbeats 1000000 in
set_option maxRecDepth 1000000 in
theorem lits_own (m v : BitVec 8) (w : World) :
    Calls Try.prog 43 #[cv m v] w fun e w' => ∃ r, e = .returned r ∧ w'.ownsRow w.heap.size 3 1 r 8 (litV m v 8) ∧ Below w.heap.size w w' := by
  obtain ⟨i0, hi, hz0, hz1, hz2⟩ := info_parts Try.infoInt
  unfold cv bvv
  go_enter Try.func43, Try.ntmps43
  go_wp2
  generalize hW : w.alloc (cb m v) = W
  obtain ⟨a0, a1, -⟩ := box2 (by rw [← hW]; exact heap_alloc_new _ _ : W.heap[w.heap.size]? = _) rfl
  have hB : Below w.heap.size w W := by rw [← hW]; exact below_alloc1 _ _
  have hs : w.heap.size < W.heap.size := by rw [← hW]; simp
  clear hW
  refine wp_region_after (by kernel_rfl) (by kernel_rfl) ?_
  repeat (first | go_big_quiet_step (fail))
  refine wpQuiet_nil ?_
  intro x
  have hBx := hB.trans (x.2.mono hB.size)
  have hsx : w.heap.size < x.1.heap.size := Nat.lt_of_lt_of_le hs x.2.size
  clear a0 a1
  generalize x.1 = wx at *
  clear hB hs
  go_wp2
  go_loopw [3, 4, 5, 6] (fun r a b i wr => ∃ k : Nat, k ≤ 8 ∧ i = .int .i64 k ∧ a = .int .u8 (m.toNat / 2 ^ k : Nat) ∧ b = .int .u8 (v.toNat / 2 ^ k : Nat) ∧ wr.ownsRow (w.heap.size + 1) 3 1 r k (litV m v k) ∧ w.heap.size < wr.heap.size ∧ Below w.heap.size w wr) (fun _ _ _ i _ => 8 - (intOf i).toNat)
  case atStart => exact ⟨0, by omega, rfl, by simp, by simp, World.ownsRow_nil _ _ _ _, hsx, hBx⟩
  case round =>
    clear hBx hsx
    obtain ⟨k, hk, rfl, rfl, rfl, hown, hsz, hb⟩ := hrel
    by_cases hlt : k < 8
    · have hsucc := Lib.hid (litV_succ m v k)
      have hm1 := Lib.hid (half_step m.toNat k)
      have hv1 := Lib.hid (half_step v.toNat k)
      have hml : m.toNat / 2 ^ k < 256 := Nat.lt_of_le_of_lt (Nat.div_le_self _ _) m.isLt
      have hvl : v.toNat / 2 ^ k < 256 := Nat.lt_of_le_of_lt (Nat.div_le_self _ _) v.isLt
      have hmb := bit_mod m k
      have hvb := bit_mod v k
      cases hmk : m.getLsbD k
      · rw [hmk] at hmb
        have hlit : Hid (lit m v k = 2) := Lib.hid (by unfold lit; rw [hmk]; rfl)
        generalize hq : m.toNat / 2 ^ k = q at *
        generalize hp : v.toNat / 2 ^ k = p at *
        have hmq : ((q : Int) % 2 == 0) = true := by rw [beq_iff_eq]; simp at hmb; omega
        clear hmb hvb hmk hq hp
        go_wp2_with (at_builtin; go_loud (refine wpList_append_own _ rfl _ _ 46 rfl (w.heap.size + 1) 3 i0 (.int .i64 0) 1 8 Try.underlying46 hi hz0 hz1 hz2 rfl (by decide) _ _ _ rfl (hown.alloc _) ⟨wr.heap.size, 0, none⟩ 1 1 [.int .i64 2] rfl rfl ?c1 ?c2 ?c3 ?c4 ?c5 ?_))
        case c1 => exact cell_one_new _ _ _
        case c2 => intro u hu; simp at hu; subst hu; rfl
        case c3 => unfold maxLen; omega
        case c4 => omega
        case c5 => simp; omega
        intro v' w2 hown2 hgrow _
        have hR : w.heap.size < w2.heap.size ∧ Below w.heap.size w w2 :=
          ⟨by have := hgrow.size; simp at this; omega, grown_below hown hgrow (hb.alloc (by omega) _) (by omega) (by simp; omega)⟩
        clear hgrow hown hb
        go_wp2
        go_roundw
        case rel => exact ⟨k + 1, by omega, by go_num, by rw [← hm1.out]; rfl, by rw [← hv1.out]; rfl, by rw [hsucc.out, hlit.out]; exact hown2, hR.1, hR.2⟩
        case measure => simp [intOf]; omega
      · rw [hmk] at hmb
        have hlit : Hid (lit m v k = v.toNat / 2 ^ k % 2) := Lib.hid (by unfold lit; rw [hmk, hvb]; rfl)
        generalize hq : m.toNat / 2 ^ k = q at *
        generalize hp : v.toNat / 2 ^ k = p at *
        have hmq : ((q : Int) % 2 == 0) = false := by rw [beq_eq_false_iff_ne]; simp at hmb; omega
        clear hmb hvb hmk hq hp
        go_wp2_with (at_builtin; go_loud (refine wpList_append_own _ rfl _ _ 46 rfl (w.heap.size + 1) 3 i0 (.int .i64 0) 1 8 Try.underlying46 hi hz0 hz1 hz2 rfl (by decide) _ _ _ rfl (hown.alloc _) ⟨wr.heap.size, 0, none⟩ 1 1 [.int .i64 ((p : Int) % 2)] rfl rfl ?c1 ?c2 ?c3 ?c4 ?c5 ?_))
        case c1 => exact cell_one_new _ _ _
        case c2 => intro u hu; simp at hu; subst hu; rfl
        case c3 => unfold maxLen; omega
        case c4 => omega
        case c5 => simp; omega
        intro v' w2 hown2 hgrow _
        have hR : w.heap.size < w2.heap.size ∧ Below w.heap.size w w2 :=
          ⟨by have := hgrow.size; simp at this; omega, grown_below hown hgrow (hb.alloc (by omega) _) (by omega) (by simp; omega)⟩
        clear hgrow hown hb
        go_wp2
        go_roundw
        case rel => exact ⟨k + 1, by omega, by go_num, by rw [← hm1.out]; rfl, by rw [← hv1.out]; rfl, by rw [hsucc.out, hlit.out, show ((p % 2 : Nat) : Int) = (p : Int) % 2 by omega]; exact hown2, hR.1, hR.2⟩
        case measure => simp [intOf]; omega
    · have e : k = 8 := by omega
      subst e
      go_wp2
      go_ret
      exact ⟨_, rfl, ownsRow_le hown (by omega), hb⟩
/-- The literals lie in cells of their own. -/
def LitsAt (m v : BitVec 8) (b : Nat) (w : World) : Prop := b < w.heap.size ∧ ∀ i, i < 8 → w.cell? ⟨b, i, none⟩ = some (.int .i64 (lit m v i : Nat))
def LitsPost (m v : BitVec 8) (w : World) (e : Ending) (w' : World) : Prop := ∃ b cap : Nat, e = .returned (.slice (some ⟨b, 0, none⟩) 8 cap) ∧ w.heap.size ≤ b ∧ LitsAt m v b w' ∧ Below w.heap.size w w'
theorem lits_any (m v : BitVec 8) (w : World) : Calls Try.prog 43 #[cv m v] w (LitsPost m v w) := by
  refine (lits_own m v w).mono ?_
  rintro e w' ⟨r, rfl, hown, hb⟩
  obtain ⟨b, cap, rfl⟩ := ownsRow_form hown (by decide)
  have hl := hown.lt b rfl
  exact ⟨b, cap, rfl, hl.1, ⟨hl.2, fun i hi => by rw [hown.cellAt i (by omega), litV_get m v 8 i hi]⟩, hb⟩
theorem LitsAt.keep {m v : BitVec 8} {b : Nat} {w w1 : World} (h : LitsAt m v b w) (hb : Below w.heap.size w w1) : LitsAt m v b w1 :=
  ⟨Nat.lt_of_lt_of_le h.1 hb.size, fun i hi => After.cell ⟨w1, hb⟩ (h.2 i hi)⟩
end Go.Proofs.Ytnddepijbbchiaa
