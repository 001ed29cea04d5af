/- Grown cubes of a cover, plain: each once, in the order in which they come first; they are prime, and hold what the cover holds. -/
import Derived.Test.YtnddepijbbchiaaLaw12b
namespace Go.Proofs.Ytnddepijbbchiaa
open Go.RowKit Go.Joins

def eqC (c x : Cb) : Bool := decide (c.m = x.m ∧ c.v = x.v)
theorem eqC_iff {c x : Cb} : eqC c x = true ↔ c = x := by
  unfold eqC
  rw [decide_eq_true_iff]
  cases c; cases x
  simp
def grC (M : BitVec 256) (n : Nat) (c : Cb) : Cb := ⟨(growC M n c.m c.v).1, (growC M n c.m c.v).2⟩
def grwK (M : BitVec 256) (n : Nat) (L : List Cb) : Nat → List Cb
  | 0 => []
  | k + 1 => match L[k]? with
    | none => grwK M n L k
    | some c => if ((grwK M n L k).any fun y => eqC y (grC M n c)) = true then grwK M n L k else grwK M n L k ++ [grC M n c]
def grwL (M : BitVec 256) (n : Nat) (L : List Cb) : List Cb := grwK M n L L.length
theorem grw_some {M : BitVec 256} {n : Nat} {L : List Cb} {k : Nat} {c : Cb} (h : L[k]? = some c) : grwK M n L (k + 1) = if ((grwK M n L k).any fun y => eqC y (grC M n c)) = true then grwK M n L k else grwK M n L k ++ [grC M n c] := by
  show (match L[k]? with | none => _ | some c => _) = _
  rw [h]
theorem any_mem {l : List Cb} {x : Cb} : (l.any fun y => eqC y x) = true ↔ x ∈ l := by
  rw [List.any_eq_true]
  constructor
  · rintro ⟨y, hy, h⟩; rw [← eqC_iff.1 h]; exact hy
  · intro h; exact ⟨x, h, eqC_iff.2 rfl⟩
theorem grw_mem (M : BitVec 256) (n : Nat) (L : List Cb) (x : Cb) : ∀ k, k ≤ L.length → (x ∈ grwK M n L k ↔ ∃ j c, j < k ∧ L[j]? = some c ∧ x = grC M n c)
  | 0, _ => by
    constructor
    · intro h; exact absurd h List.not_mem_nil
    · rintro ⟨j, c, h, -⟩; exact absurd h (Nat.not_lt_zero _)
  | k + 1, hk => by
    have ih := grw_mem M n L x k (by omega)
    obtain ⟨c, hc⟩ : ∃ c, L[k]? = some c := ⟨_, List.getElem?_eq_getElem (by omega)⟩
    rw [grw_some hc]
    by_cases h : ((grwK M n L k).any fun y => eqC y (grC M n c)) = true
    · rw [if_pos h, ih]
      constructor
      · rintro ⟨j, d, h1, h2, h3⟩; exact ⟨j, d, by omega, h2, h3⟩
      · rintro ⟨j, d, h1, h2, h3⟩
        by_cases e : j = k
        · subst e
          rw [hc] at h2
          injection h2 with h2
          subst h2
          rw [any_mem, ← h3] at h
          exact ih.1 h
        · exact ⟨j, d, by omega, h2, h3⟩
    · rw [if_neg h, List.mem_append, ih, List.mem_singleton]
      constructor
      · rintro (⟨j, d, h1, h2, h3⟩ | rfl)
        · exact ⟨j, d, by omega, h2, h3⟩
        · exact ⟨k, c, by omega, hc, rfl⟩
      · rintro ⟨j, d, h1, h2, h3⟩
        by_cases e : j = k
        · subst e
          rw [hc] at h2
          injection h2 with h2
          subst h2
          exact .inr h3
        · exact .inl ⟨j, d, by omega, h2, h3⟩
theorem grw_nodup (M : BitVec 256) (n : Nat) (L : List Cb) : ∀ k, k ≤ L.length → (grwK M n L k).Nodup
  | 0, _ => List.nodup_nil
  | k + 1, hk => by
    have ih := grw_nodup M n L k (by omega)
    obtain ⟨c, hc⟩ : ∃ c, L[k]? = some c := ⟨_, List.getElem?_eq_getElem (by omega)⟩
    rw [grw_some hc]
    by_cases h : ((grwK M n L k).any fun y => eqC y (grC M n c)) = true
    · rw [if_pos h]; exact ih
    · rw [if_neg h, List.nodup_append]
      refine ⟨ih, by simp, fun a ha b hb => ?_⟩
      rw [List.mem_singleton.1 hb]
      intro e
      rw [any_mem, ← e] at h
      exact h ha
theorem grw_pre (M : BitVec 256) (n : Nat) (L : List Cb) (j : Nat) : ∀ d, j + d ≤ L.length → ∃ t, grwK M n L (j + d) = grwK M n L j ++ t
  | 0, _ => ⟨[], by simp⟩
  | d + 1, hd => by
    obtain ⟨t, ht⟩ := grw_pre M n L j d (by omega)
    obtain ⟨c, hc⟩ : ∃ c, L[j + d]? = some c := ⟨_, List.getElem?_eq_getElem (by omega)⟩
    rw [← Nat.add_assoc, grw_some hc]
    split
    · exact ⟨t, ht⟩
    · exact ⟨t ++ [grC M n c], by rw [ht, List.append_assoc]⟩
/-- What has been met lies at the head of all. -/
theorem grw_head {M : BitVec 256} {n : Nat} {L : List Cb} {j : Nat} (hj : j ≤ L.length) : ∃ t, grwL M n L = grwK M n L j ++ t := by
  obtain ⟨t, ht⟩ := grw_pre M n L j (L.length - j) (by omega)
  exact ⟨t, by unfold grwL; rw [← ht, show j + (L.length - j) = L.length by omega]⟩
theorem grw_at {M : BitVec 256} {n : Nat} {L : List Cb} {j k : Nat} (hj : j ≤ L.length) (hk : k < (grwK M n L j).length) : (grwL M n L)[k]? = (grwK M n L j)[k]? := by
  obtain ⟨t, ht⟩ := grw_head (M := M) (n := n) hj
  rw [ht, List.getElem?_append_left hk]
theorem grw_le {M : BitVec 256} {n : Nat} {L : List Cb} {j : Nat} (hj : j ≤ L.length) : (grwK M n L j).length ≤ (grwL M n L).length := by
  obtain ⟨t, ht⟩ := grw_head (M := M) (n := n) hj
  rw [ht, List.length_append]; omega
/-- A new one stands next. -/
theorem grw_new {M : BitVec 256} {n : Nat} {L : List Cb} {j : Nat} {c : Cb} (h : L[j]? = some c) (hn : ((grwK M n L j).any fun y => eqC y (grC M n c)) = false) : (grwK M n L (j + 1)).length = (grwK M n L j).length + 1 ∧ (grwK M n L j).length < (grwL M n L).length ∧ (grwL M n L)[(grwK M n L j).length]? = some (grC M n c) := by
  have hl := (List.getElem?_eq_some_iff.1 h).1
  have e : grwK M n L (j + 1) = grwK M n L j ++ [grC M n c] := by rw [grw_some h, hn]; rfl
  have e1 : (grwK M n L (j + 1)).length = (grwK M n L j).length + 1 := by rw [e, List.length_append]; rfl
  refine ⟨e1, ?_, ?_⟩
  · have := grw_le (M := M) (n := n) (L := L) (j := j + 1) hl
    omega
  · rw [grw_at (j := j + 1) hl (by omega), e, List.getElem?_append_right (Nat.le_refl _)]
    simp
theorem grw_old {M : BitVec 256} {n : Nat} {L : List Cb} {j : Nat} {c : Cb} (h : L[j]? = some c) (hn : ((grwK M n L j).any fun y => eqC y (grC M n c)) = true) : grwK M n L (j + 1) = grwK M n L j := by
  rw [grw_some h, hn]; rfl
theorem iso_in {S M : BitVec 256} {n : Nat} (h : mayB S M n = true) {c : Cb} (hc : c ∈ isoS S M n) : inB M n c.m c.v = true := by
  have hi := may_iso h
  have hr := (iso_isc h).right c hc
  refine (inB_iff _ _ _ _).2 ⟨hr, fun p hp hf => (iso_isc h).within p hp ?_⟩
  unfold heldF
  rw [List.any_eq_true]
  refine ⟨c, hc, (fits_iff _ _ _ _).2 fun i hi8 hb => ?_⟩
  by_cases hin : i < n
  · exact (fits_iff _ _ _ _).1 hf i hin hb
  · rw [((rightB_iff _ _ _).1 hr).2.2.1 i (by omega)] at hb; cases hb
theorem grw_prime {S M : BitVec 256} {n : Nat} (h : mayB S M n = true) {k : Nat} {x : Cb} (hx : (grwL M n (isoS S M n))[k]? = some x) : primB M n x.m x.v = true := by
  obtain ⟨j, c, -, hc, rfl⟩ := (grw_mem M n _ x _ (Nat.le_refl _)).1 (List.mem_of_getElem? hx)
  exact (growC_prime (iso_in h (List.mem_of_getElem? hc))).1
theorem grw_once {M : BitVec 256} {n : Nat} {L : List Cb} {i k : Nat} {x y : Cb} (hx : (grwL M n L)[i]? = some x) (hy : (grwL M n L)[k]? = some y) (hne : k < i) : eqC x y = false := by
  rw [Bool.eq_false_iff]
  intro e
  rw [eqC_iff] at e
  subst e
  obtain ⟨h1, e1⟩ := List.getElem?_eq_some_iff.1 hx
  obtain ⟨h2, e2⟩ := List.getElem?_eq_some_iff.1 hy
  have hn := grw_nodup M n L L.length (Nat.le_refl _)
  have := List.pairwise_iff_getElem.1 hn k i h2 h1 hne
  exact this (by show (grwL M n L)[k] = (grwL M n L)[i]; rw [e1, e2])
theorem grw_holds {S M : BitVec 256} {n : Nat} (h : mayB S M n = true) : S &&& ~~~(ptsU n (grwL M n (isoS S M n)) (-1) (grwL M n (isoS S M n)).length) = 0 :=
  sub_bits fun p hp => by
    have hi := may_iso h
    rw [pts_all n hi.n8, decide_eq_true (hi.low p (hi.sub p hp)), Bool.true_and]
    have h1 := (iso_isc h).holds p hp
    unfold heldF at h1 ⊢
    rw [List.any_eq_true] at h1 ⊢
    obtain ⟨c, hc, hf⟩ := h1
    obtain ⟨j, hj⟩ := List.mem_iff_getElem?.1 hc
    refine ⟨grC M n c, (grw_mem M n _ _ _ (Nat.le_refl _)).2 ⟨j, c, (List.getElem?_eq_some_iff.1 hj).1, hj, rfl⟩, ?_⟩
    exact fits_holds (growC_prime (iso_in h hc)).2 hf
theorem grw_within {S M : BitVec 256} {n : Nat} (h : mayB S M n = true) : ptsU n (grwL M n (isoS S M n)) (-1) (grwL M n (isoS S M n)).length &&& ~~~M = 0 :=
  sub_bits fun p hp => by
    have hi := may_iso h
    rw [pts_all n hi.n8, Bool.and_eq_true, decide_eq_true_iff] at hp
    obtain ⟨h1, h2⟩ := hp
    unfold heldF at h2
    rw [List.any_eq_true] at h2
    obtain ⟨x, hx, hf⟩ := h2
    obtain ⟨k, hk⟩ := List.mem_iff_getElem?.1 hx
    have := ((primB_iff _ _ _ _).1 (grw_prime h hk)).1
    exact ((inB_iff _ _ _ _).1 this).2 p h1 ((fits_iff _ _ _ _).2 fun i hi' hb => (fits_iff _ _ _ _).1 hf i (by have := hi.n8; omega) hb)
/-- What Grown of the package answers. -/
def GrownI : Prop := ∀ (S M : BitVec 256) (n : Int) (w : World), Calls Try.prog 19 #[sv S, sv M, .int .i64 n] w fun e w' =>
  ∃ v, e = .returned (.tuple #[v, .int .i64 (if mayB S M n = true then 0 else 1)]) ∧ CbsAt w' w'.heap.size v (if mayB S M n = true then grwL M n.toNat (isoS S M n.toNat) else []) ∧ Below w.heap.size w w'
theorem grown_yes (h : GrownI) {S M : BitVec 256} {n : Int} (ho : mayB S M n = true) (w : World) : Calls Try.prog 19 #[sv S, sv M, .int .i64 n] w fun e w' => ∃ v, e = .returned (.tuple #[v, .int .i64 0]) ∧ CbsAt w' w'.heap.size v (grwL M n.toNat (isoS S M n.toNat)) ∧ Below w.heap.size w w' := by
  have := h S M n w
  rwa [if_pos ho, if_pos ho] at this
theorem grown_no (h : GrownI) {S M : BitVec 256} {n : Int} (ho : mayB S M n = false) (w : World) : Calls Try.prog 19 #[sv S, sv M, .int .i64 n] w fun e w' => ∃ A c, e = .returned (.tuple #[.slice A 0 c, .int .i64 1]) ∧ Below w.heap.size w w' := by
  have := h S M n w
  rw [ho] at this
  refine this.mono ?_
  rintro e w' ⟨v, rfl, ⟨A, c, rfl, -⟩, hb⟩
  exact ⟨A, c, rfl, hb⟩
/- THE EXAMPLE. -/
theorem ex12_may : mayB 14#256 14#256 2 = true := by decide +kernel
theorem ex12_len : (isoS 14#256 14#256 2).length = 2 := by decide +kernel
theorem ex12_grw : (grwL 14#256 2 (isoS 14#256 14#256 2)).length = 2 := by decide +kernel
theorem ex12_sid : sidB 2#256 0 true = 3#256 := by decide +kernel
end Go.Proofs.Ytnddepijbbchiaa
