/- Ite, Not, And, Or and Some, as they are called. -/
import Derived.Test.YtfamdckaljniiaaSome06
namespace Go.Proofs.Ytfamdckaljniiaa
open Go.RowKit Go.Joins

theorem Kep.drop {w w' : World} {bm mm : Nat} (h : Kep (MM bm mm) w w') (hm : w.heap.size ≤ mm) : Kep (· = bm) w w' :=
  ⟨h.os, h.tape, h.output, h.size, h.cells, fun k es cl hk hn => h.maps k es cl hk fun hM => hM.elim hn fun e => by have := size_of_block hk; omega⟩
/-- Where an input stands; none: -1. -/
def idxB (o : List Nat) (x : Int) : Int := match o.findIdx? (fun i : Nat => decide ((i : Int) = x)) with
  | some j => (j : Int)
  | none => -1
theorem idxB_some {o : List Nat} (ho : OrdOk o) {L i : Nat} (h : o[L]? = some i) : idxB o i = L := by
  have hl := (List.getElem?_eq_some_iff.1 h)
  unfold idxB
  cases hx : o.findIdx? (fun j => decide (((j : Nat) : Int) = (i : Int))) with
  | none =>
    rw [List.findIdx?_eq_none_iff] at hx
    have := hx i (List.mem_of_getElem? h)
    simp at this
  | some j =>
    obtain ⟨h1, h2, _⟩ := List.findIdx?_eq_some_iff_getElem.1 hx
    have e : o[j] = i := by have := of_decide_eq_true h2; omega
    rcases Nat.lt_trichotomy j L with hlt | he | hgt
    · exact absurd (e.trans hl.2.symm) ((List.pairwise_iff_getElem.1 (List.nodup_iff_pairwise_ne.1 ho.nodup)) j L h1 hl.1 hlt)
    · show ((j : Nat) : Int) = (L : Int); omega
    · exact absurd (hl.2.trans e.symm) ((List.pairwise_iff_getElem.1 (List.nodup_iff_pairwise_ne.1 ho.nodup)) L j hl.1 h1 hgt)
theorem idxB_none {o : List Nat} {x : Int} (h : ∀ i ∈ o, (i : Int) ≠ x) : idxB o x = -1 := by
  unfold idxB
  cases hx : o.findIdx? (fun j => decide (((j : Nat) : Int) = x)) with
  | none => rfl
  | some j =>
    obtain ⟨h1, h2, _⟩ := List.findIdx?_eq_some_iff_getElem.1 hx
    exact absurd (of_decide_eq_true h2) (h _ (List.getElem_mem h1))
theorem index_any {w : World} {B : Nat} {ov : Value} {o : List Nat} (hr : w.ownsRow B 3 1 ov o.length (intsV o)) (h8 : o.length ≤ 8) (x : Int) :
    Calls Try.prog 40 #[ov, .int .i64 x] w fun e w' => e = .returned (.int .i64 (idxB o x)) ∧ Below w.heap.size w w' := by
  obtain ⟨A, c, rfl⟩ := own_form hr
  go_enter Try.func40, Try.ntmps40
  go_wp2
  go_loopw [5, 8] (fun _ t wr => ∃ k : Nat, k ≤ o.length ∧ t = .int .i64 k ∧ Hid (∀ j i, j < k → o[j]? = some i → (i : Int) ≠ x) ∧ Below w.heap.size w wr) (fun _ t _ => o.length - (intOf t).toNat)
  case atStart => exact ⟨0, by omega, rfl, Lib.hid (fun j i hj => by omega), Below.refl _ _⟩
  case round =>
    obtain ⟨k, hk, rfl, hno, hb⟩ := hrel
    by_cases hlt : k < o.length
    · obtain ⟨i, hi⟩ : ∃ i, o[k]? = some i := ⟨_, List.getElem?_eq_getElem hlt⟩
      obtain ⟨g, c', e, q⟩ := row_at (owns_below hr hb) hi
      obtain rfl : A = some ⟨g, 0, none⟩ := by injection e
      by_cases hx : x = (i : Int)
      · have hR : Hid (idxB o x = k) := Lib.hid (by
          unfold idxB
          have : o.findIdx? (fun j => decide (((j : Nat) : Int) = x)) = some k := List.findIdx?_eq_some_iff_getElem.2 ⟨hlt, by
            have := (List.getElem?_eq_some_iff.1 hi).2
            exact decide_eq_true (by rw [this]; exact hx.symm), fun j hj => by
            have := hno.out j _ hj (List.getElem?_eq_getElem (by omega))
            simpa using this⟩
          rw [this])
        have hb1 : (x == (i : Int)) = true := by simp [hx]
        clear hx hi e
        go_wp2
        go_ret
        exact ⟨by rw [hR.out]; rfl, hb⟩
      · have hb1 : (x == (i : Int)) = false := by simpa using hx
        have hno' : Hid (∀ j i, j < k + 1 → o[j]? = some i → (i : Int) ≠ x) := Lib.hid (fun j i' hj hji => by
          by_cases e : j = k
          · subst e; rw [hi] at hji; injection hji with hji; omega
          · exact hno.out j i' (by omega) hji)
        clear hx hi e
        go_wp2
        go_roundw
        case rel => exact ⟨k + 1, by omega, by go_num, hno', hb⟩
        case measure => simp [intOf]; omega
    · have hR : Hid (idxB o x = -1) := Lib.hid (idxB_none fun i hi => by
        obtain ⟨j, hj, e⟩ := List.mem_iff_getElem.1 hi
        exact hno.out j i (by omega) (by rw [List.getElem?_eq_getElem hj, e]))
      go_wp2
      go_ret
      exact ⟨by rw [hR.out]; rfl, hb⟩
end Go.Proofs.Ytfamdckaljniiaa
