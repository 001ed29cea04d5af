/- The document's functions of flags of layer 12: less, both, Side, empty, all, either. -/
import Derived.Test.YtnddepijbbchiaaLaw01d
namespace Go.Proofs.Ytnddepijbbchiaa
open Go.RowKit Go.Joins

/-- A block that reads as 256 flags. -/
def FlAt (w : World) (b : Nat) (F : Nat → Bool) : Prop := b < w.heap.size ∧ ∀ p, p < 256 → w.cell? ⟨b, p, none⟩ = some (.bool (F p))
theorem FlAt.below {w w1 : World} {b B : Nat} {F : Nat → Bool} (h : FlAt w b F) (hb : Below B w w1) (hB : b < B) : FlAt w1 b F :=
  ⟨Nat.lt_of_lt_of_le h.1 hb.size, fun p hp => by rw [hb.cell (p := ⟨b, p, none⟩) hB]; exact h.2 p hp⟩
theorem FlAt.of_block {w : World} {b : Nat} {F : Nat → Bool} (h : w.heap[b]? = some (.cells (flagsA F) 4 (0, 0))) : FlAt w b F :=
  ⟨size_of_block h, fun p hp => (cell_of_block h p).trans (flagsA_get F p hp)⟩
theorem FlAt.ext {w : World} {b : Nat} {F G : Nat → Bool} (h : FlAt w b F) (e : ∀ p, p < 256 → F p = G p) : FlAt w b G :=
  ⟨h.1, fun p hp => by rw [← e p hp]; exact h.2 p hp⟩
/-- What a function of flags hands back. -/
def GivesF (w : World) (F : Nat → Bool) (e : Ending) (w' : World) : Prop :=
  ∃ b : Nat, e = .returned (.slice (some ⟨b, 0, none⟩) 256 256) ∧ w.heap.size ≤ b ∧ FlAt w' b F ∧ Below w.heap.size w w'
theorem flags256 {f g : Nat → Bool} (h : ∀ p, p < 256 → f p = g p) : flagsA f = flagsA g := by
  apply Array.ext_getElem?
  intro p
  by_cases hp : p < 256
  · rw [flagsA_get f p hp, flagsA_get g p hp, h p hp]
  · have e : ∀ f, (flagsA f).size = 256 := fun f => by rw [show flagsA f = (boolsV f).toArray from rfl]; simp [boolsV]
    rw [Array.getElem?_eq_none (by rw [e]; omega), Array.getElem?_eq_none (by rw [e]; omega)]

set_option maxHeartbeats 1000000 in
set_option maxRecDepth 1000000 in
theorem less12_any (A B : Nat → Bool) (ba ca bb cb : Nat) (w : World) (hA : FlAt w ba A) (hB : FlAt w bb B) :
    Calls Try.prog 32 #[.slice (some ⟨ba, 0, none⟩) 256 ca, .slice (some ⟨bb, 0, none⟩) 256 cb] w fun e w' => GivesF w (fun p => A p && !B p) e w' := by
  have hmk := make256
  generalize hfa : flagsA (fun _ => false) = FA at hmk
  have hfa2 := Lib.hid hfa
  clear hfa
  go_enter Try.func32, Try.ntmps32
  go_wp2
  go_loopw [6] (fun i wr => ∃ k : Nat, k ≤ 256 ∧ i = .int .i64 k ∧ wr.heap[w.heap.size]? = some (.cells (flagsA (fun p => decide (p < k) && (A p && !B p))) 4 (0, 0)) ∧ Below w.heap.size w wr) (fun i _ => 256 - (intOf i).toNat)
  case atStart => exact ⟨0, by omega, rfl, by rw [flagsA_zero, hfa2.out]; exact heap_alloc_new _ _, below_alloc1 _ _⟩
  case round =>
    clear hfa2 hmk
    obtain ⟨k, hk, rfl, hblk, hb⟩ := hrel
    by_cases hlt : k < 256
    · have hc := (cell_of_block hblk k).trans (flagsA_get _ k hlt)
      have hf := unfrozen_of_block hblk k
      have h1 : wr.cell? ⟨ba, k, none⟩ = some (.bool (A k)) := by rw [hb.cell (p := ⟨ba, k, none⟩) hA.1]; exact hA.2 k hlt
      have h2 : wr.cell? ⟨bb, k, none⟩ = some (.bool (B k)) := by rw [hb.cell (p := ⟨bb, k, none⟩) hB.1]; exact hB.2 k hlt
      have hst2 := Lib.hid (step_flags (fun p => A p && !B p) k)
      cases hs : A k <;> cases ht : B k
      all_goals
        have hs2 := Lib.hid hs
        have ht2 := Lib.hid ht
        rw [hs] at h1
        rw [ht] at h2
        clear hs ht
        go_wp2
        go_roundw
        case rel =>
          refine ⟨k + 1, by omega, by go_num, ?_, hb.setCell (Nat.le_refl _) _⟩
          have q := hst2.out
          simp only [hs2.out, ht2.out] at q
          rw [block_setCell hblk]
          exact congrArg (fun z => some (Obj.cells z 4 (0, 0))) q
        case measure => simp [intOf]; omega
    · have e : k = 256 := by omega
      subst e
      go_wp2
      go_ret
      exact ⟨_, rfl, Nat.le_refl _, (FlAt.of_block hblk).ext fun p hp => by simp [hp], hb⟩

set_option maxHeartbeats 1000000 in
set_option maxRecDepth 1000000 in
theorem both12_any (A B : Nat → Bool) (ba ca bb cb : Nat) (w : World) (hA : FlAt w ba A) (hB : FlAt w bb B) :
    Calls Try.prog 36 #[.slice (some ⟨ba, 0, none⟩) 256 ca, .slice (some ⟨bb, 0, none⟩) 256 cb] w fun e w' => GivesF w (fun p => A p && B p) e w' := by
  have hmk := make256
  generalize hfa : flagsA (fun _ => false) = FA at hmk
  have hfa2 := Lib.hid hfa
  clear hfa
  go_enter Try.func36, Try.ntmps36
  go_wp2
  go_loopw [6] (fun i wr => ∃ k : Nat, k ≤ 256 ∧ i = .int .i64 k ∧ wr.heap[w.heap.size]? = some (.cells (flagsA (fun p => decide (p < k) && (A p && B p))) 4 (0, 0)) ∧ Below w.heap.size w wr) (fun i _ => 256 - (intOf i).toNat)
  case atStart => exact ⟨0, by omega, rfl, by rw [flagsA_zero, hfa2.out]; exact heap_alloc_new _ _, below_alloc1 _ _⟩
  case round =>
    clear hfa2 hmk
    obtain ⟨k, hk, rfl, hblk, hb⟩ := hrel
    by_cases hlt : k < 256
    · have hc := (cell_of_block hblk k).trans (flagsA_get _ k hlt)
      have hf := unfrozen_of_block hblk k
      have h1 : wr.cell? ⟨ba, k, none⟩ = some (.bool (A k)) := by rw [hb.cell (p := ⟨ba, k, none⟩) hA.1]; exact hA.2 k hlt
      have h2 : wr.cell? ⟨bb, k, none⟩ = some (.bool (B k)) := by rw [hb.cell (p := ⟨bb, k, none⟩) hB.1]; exact hB.2 k hlt
      have hst2 := Lib.hid (step_flags (fun p => A p && B p) k)
      cases hs : A k <;> cases ht : B k
      all_goals
        have hs2 := Lib.hid hs
        have ht2 := Lib.hid ht
        rw [hs] at h1
        rw [ht] at h2
        clear hs ht
        go_wp2
        go_roundw
        case rel =>
          refine ⟨k + 1, by omega, by go_num, ?_, hb.setCell (Nat.le_refl _) _⟩
          have q := hst2.out
          simp only [hs2.out, ht2.out] at q
          rw [block_setCell hblk]
          exact congrArg (fun z => some (Obj.cells z 4 (0, 0))) q
        case measure => simp [intOf]; omega
    · have e : k = 256 := by omega
      subst e
      go_wp2
      go_ret
      exact ⟨_, rfl, Nat.le_refl _, (FlAt.of_block hblk).ext fun p hp => by simp [hp], hb⟩

set_option maxHeartbeats 1000000 in
set_option maxRecDepth 1000000 in
theorem empty12_any (A : Nat → Bool) (ba ca : Nat) (w : World) (hA : FlAt w ba A) :
    Calls Try.prog 31 #[.slice (some ⟨ba, 0, none⟩) 256 ca] w fun e w' => e = .returned (.bool ((List.range 256).all fun p => !A p)) ∧ Below w.heap.size w w' := by
  generalize hr : ((List.range 256).all fun p => !A p) = r
  have hr2 := Lib.hid hr
  clear hr
  go_enter Try.func31, Try.ntmps31
  go_wp2
  go_loopw [3] (fun i wr => ∃ k : Nat, k ≤ 256 ∧ i = .int .i64 k ∧ Hid (∀ p, p < k → A p = false) ∧ Below w.heap.size w wr) (fun i _ => 256 - (intOf i).toNat)
  case atStart => exact ⟨0, by omega, rfl, Lib.hid fun p hp => absurd hp (by omega), Below.refl _ _⟩
  case round =>
    obtain ⟨k, hk, rfl, hall, hb⟩ := hrel
    by_cases hlt : k < 256
    · have h1 : wr.cell? ⟨ba, k, none⟩ = some (.bool (A k)) := by rw [hb.cell (p := ⟨ba, k, none⟩) hA.1]; exact hA.2 k hlt
      cases hs : A k
      · have hs2 := Lib.hid hs
        rw [hs] at h1
        clear hs
        go_wp2
        go_roundw
        case rel =>
          refine ⟨k + 1, by omega, by go_num, Lib.hid fun p hp => ?_, hb⟩
          by_cases e : p = k
          · rw [e]; exact hs2.out
          · exact hall.out p (by omega)
        case measure => simp [intOf]; omega
      · have hs2 := Lib.hid hs
        rw [hs] at h1
        clear hs
        go_wp2
        go_ret
        refine ⟨?_, hb⟩
        rw [← hr2.out, (show ((List.range 256).all fun p => !A p) = false by
          rw [List.all_eq_false]
          exact ⟨k, List.mem_range.2 hlt, by rw [hs2.out]; decide⟩)]
        rfl
    · have e : k = 256 := by omega
      subst e
      go_wp2
      go_ret
      refine ⟨?_, hb⟩
      rw [← hr2.out, (show ((List.range 256).all fun p => !A p) = true by
        rw [List.all_eq_true]
        exact fun p hp => by rw [hall.out p (List.mem_range.1 hp)]; rfl)]
      rfl
end Go.Proofs.Ytnddepijbbchiaa
