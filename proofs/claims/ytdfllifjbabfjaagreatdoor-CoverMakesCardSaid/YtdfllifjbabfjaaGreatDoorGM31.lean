/- Coverings, plain: what solves one; rows that are chosen by flags. -/
import Derived.Test.YtdfllifjbabfjaaGreatDoorGM18
namespace Go.Proofs.YtdfllifjbabfjaaGreatDoor
open Go.RowKit Go.Joins

theorem solves_all {ls : List (List Int)} {cols : List Int} : solvesM ls cols = true ↔ ∀ x, x ∈ ls → ∃ c, c ∈ x ∧ c ∈ cols := by
  unfold solvesM hitR
  simp only [List.all_eq_true, List.any_eq_true, decide_eq_true_iff]
  exact ⟨fun h x hx => by
    obtain ⟨a, ha, b, hb, e⟩ := h x hx
    exact ⟨a, ha, e ▸ hb⟩, fun h x hx => by
    obtain ⟨c, h1, h2⟩ := h x hx
    exact ⟨c, h1, c, h2, rfl⟩⟩
theorem mem_colsR {rs : List Rw} {o p : Nat} {c : Int} : c ∈ colsR rs o p ↔ ∃ k : Nat, c = k ∧ hitC rs o p k = true := by
  unfold colsR colsN
  rw [List.mem_map]
  constructor
  · rintro ⟨k, hk, rfl⟩
    rw [List.mem_filter] at hk
    exact ⟨k, rfl, hk.2⟩
  · rintro ⟨k, rfl, hk⟩
    refine ⟨k, ?_, rfl⟩
    rw [List.mem_filter, List.mem_range]
    refine ⟨?_, hk⟩
    unfold hitC at hk
    split at hk
    · rename_i x hx; exact (List.getElem?_eq_some_iff.1 hx).1
    · cases hk
theorem mem_got {on : List (BitVec 256)} {rs : List Rw} {x : List Int} : x ∈ gotL on rs on.length 0 ↔ ∃ (j : Nat) (X : BitVec 256) (p : Nat), on[j]? = some X ∧ p ∈ pts X ∧ x = colsR rs j p := by
  unfold gotL
  rw [List.take_zero, List.map_nil, List.append_nil, List.mem_flatMap]
  constructor
  · rintro ⟨j, hj, hx⟩
    rw [List.mem_range] at hj
    obtain ⟨p, hp, rfl⟩ := List.mem_map.1 hx
    refine ⟨j, on[j], p, List.getElem?_eq_getElem hj, ?_, rfl⟩
    simpa [List.getD, hj] using hp
  · rintro ⟨j, X, p, hX, hp, rfl⟩
    refine ⟨j, List.mem_range.2 (List.getElem?_eq_some_iff.1 hX).1, ?_⟩
    rw [show on.getD j 0 = X by simp [List.getD, hX]]
    exact List.mem_map.2 ⟨p, hp, rfl⟩
theorem solves_iff {on : List (BitVec 256)} {rs : List Rw} {K : List (List Int)} {cols : List Int} (hK : ∀ x, x ∈ K ↔ x ∈ gotL on rs on.length 0) :
    solvesM K cols = true ↔ ∀ (j : Nat) (X : BitVec 256), on[j]? = some X → ∀ p, p ∈ pts X → ∃ c : Nat, hitC rs j p c = true ∧ (c : Int) ∈ cols := by
  rw [solves_all]
  constructor
  · intro h j X hX p hp
    obtain ⟨c, h1, h2⟩ := h _ ((hK _).2 (mem_got.2 ⟨j, X, p, hX, hp, rfl⟩))
    obtain ⟨k, rfl, hk⟩ := mem_colsR.1 h1
    exact ⟨k, hk, h2⟩
  · intro h x hx
    obtain ⟨j, X, p, hX, hp, rfl⟩ := mem_got.1 ((hK x).1 hx)
    obtain ⟨k, hk, hc⟩ := h j X hX p hp
    exact ⟨k, mem_colsR.2 ⟨k, rfl, hk⟩, hc⟩
/-- A covering that is made is right. -/
theorem made_right {on : List (BitVec 256)} {rs : List Rw} {K : List (List Int)} (hK : ∀ x, x ∈ K ↔ x ∈ gotL on rs on.length 0) (hl : rs.length ≤ 4000) : rightM rs.length K = true := by
  refine right_ok (by omega) (by omega) fun i l hl2 k hk => ?_
  obtain ⟨j, X, p, hX, hp, rfl⟩ := mem_got.1 ((hK l).1 (List.mem_of_getElem? hl2))
  have hn : (colsN rs j p rs.length).Pairwise (· < ·) := List.Pairwise.filter _ List.pairwise_lt_range
  have hlen : (colsR rs j p).length = (colsN rs j p rs.length).length := by unfold colsR; rw [List.length_map]
  have hget : ∀ q, q < (colsR rs j p).length → ∃ c : Nat, (colsR rs j p).getD q 0 = c ∧ (colsN rs j p rs.length)[q]? = some c ∧ c < rs.length := by
    intro q hq
    obtain ⟨c, hc⟩ : ∃ c, (colsN rs j p rs.length)[q]? = some c := ⟨_, List.getElem?_eq_getElem (by omega)⟩
    refine ⟨c, ?_, hc, ?_⟩
    · unfold colsR
      simp [List.getD, hc]
    · have := List.mem_of_getElem? hc
      unfold colsN at this
      exact List.mem_range.1 (List.mem_filter.1 this).1
  obtain ⟨c, e1, e2, e3⟩ := hget k hk
  unfold okR
  rw [e1, decide_eq_true (by omega), decide_eq_true (by omega)]
  cases k with
  | zero => simp
  | succ m =>
    obtain ⟨d, f1, f2, f3⟩ := hget m (by omega)
    rw [Nat.add_sub_cancel, f1]
    obtain ⟨h1, h2⟩ := List.getElem?_eq_some_iff.1 e2
    obtain ⟨h3, h4⟩ := List.getElem?_eq_some_iff.1 f2
    have := List.pairwise_iff_getElem.1 hn m (m + 1) h3 h1 (by omega)
    rw [h2, h4] at this
    rw [decide_eq_true (show (d : Int) < (c : Int) by omega)]
    simp
/-- The places that flags choose. -/
def chsN (fl : List Bool) (k : Nat) : List Nat := (List.range k).filter fun i => fl.getD i false
def chsR (rs : List Rw) (fl : List Bool) : List Rw := (chsN fl rs.length).filterMap fun i => rs[i]?
theorem chosen_cov {rs : List Rw} {fl : List Bool} {p j : Nat} : covB (chsR rs fl) p j = true ↔ ∃ c : Nat, hitC rs j p c = true ∧ (c : Int) ∈ (chsN fl rs.length).map fun i : Nat => (i : Int) := by
  unfold covB chsR
  rw [List.any_eq_true]
  constructor
  · rintro ⟨x, hx, h⟩
    obtain ⟨c, hc, e⟩ := List.mem_filterMap.1 hx
    exact ⟨c, by unfold hitC; rw [e]; exact h, List.mem_map.2 ⟨c, hc, rfl⟩⟩
  · rintro ⟨c, hc, hm⟩
    obtain ⟨c', hc', e⟩ := List.mem_map.1 hm
    have : c' = c := by omega
    subst this
    unfold hitC at hc
    split at hc
    · rename_i x hx
      exact ⟨x, List.mem_filterMap.2 ⟨c', hc', hx⟩, hc⟩
    · cases hc
end Go.Proofs.YtdfllifjbabfjaaGreatDoor
