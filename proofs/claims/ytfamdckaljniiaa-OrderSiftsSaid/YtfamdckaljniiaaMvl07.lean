/- Orders with one of their inputs moved, the sizes of sets, and sifting, plain. -/
import Derived.Test.YtfamdckaljniiaaNew06
namespace Go.Proofs.Ytfamdckaljniiaa
open Go.RowKit Go.Joins

/-- A list without x. -/
def lessL {α : Type} [BEq α] (o : List α) (x : α) : List α := o.filter fun y => !(y == x)
/-- A list with x at place k. -/
def mvL {α : Type} [BEq α] (o : List α) (x : α) (k : Nat) : List α := (lessL o x).take k ++ x :: (lessL o x).drop k
theorem ofN_less (o : List Nat) (x : Nat) : ofN (lessL o x) = lessL (ofN o) (x : Int) := by
  unfold ofN lessL
  rw [List.filter_map]
  congr 1
  refine List.filter_congr fun y _ => ?_
  show (!(y == x)) = !(((y : Nat) : Int) == ((x : Nat) : Int))
  congr 1
  rw [Bool.eq_iff_iff, beq_iff_eq, beq_iff_eq]
  omega
theorem ofN_take (o : List Nat) (k : Nat) : ofN (o.take k) = (ofN o).take k := by unfold ofN; rw [List.map_take]
theorem ofN_drop (o : List Nat) (k : Nat) : ofN (o.drop k) = (ofN o).drop k := by unfold ofN; rw [List.map_drop]
theorem ofN_mv (o : List Nat) (x k : Nat) : ofN (mvL o x k) = mvL (ofN o) (x : Int) k := by
  unfold mvL
  rw [← ofN_less, ← ofN_take, ← ofN_drop]
  unfold ofN
  rw [List.map_append, List.map_cons]
theorem less_erase {o : List Nat} (h : o.Nodup) (x : Nat) : lessL o x = o.erase x := by
  rw [h.erase_eq_filter]
  rfl
theorem less_len {o : List Nat} (h : o.Nodup) {x : Nat} (hx : x ∈ o) : (lessL o x).length + 1 = o.length := by
  rw [less_erase h, List.length_erase_of_mem hx]
  have := List.length_pos_of_mem hx
  omega
theorem mv_perm {o : List Nat} (h : o.Nodup) {x : Nat} (hx : x ∈ o) (k : Nat) : (mvL o x k).Perm o := by
  unfold mvL
  refine List.perm_middle.trans ?_
  rw [List.take_append_drop, less_erase h]
  exact (List.perm_cons_erase hx).symm
theorem mv_len {o : List Nat} (h : o.Nodup) {x : Nat} (hx : x ∈ o) (k : Nat) : (mvL o x k).length = o.length := (mv_perm h hx k).length_eq
theorem mv_ord {o : List Nat} (h : OrdOk o) {x : Nat} (hx : x ∈ o) (k : Nat) : OrdOk (mvL o x k) := by
  have hp := mv_perm h.nodup hx k
  refine ⟨hp.nodup_iff.2 h.nodup, fun i hi => ?_⟩
  rw [hp.length_eq]
  exact h.lt i (hp.mem_iff.1 hi)
/-- Where each stands. -/
theorem ins_get {α : Type} (r : List α) (x : α) {k : Nat} (hk : k ≤ r.length) (j : Nat) :
    (r.take k ++ x :: r.drop k)[j]? = if j < k then r[j]? else if j = k then some x else r[j - 1]? := by
  have hl : (r.take k).length = k := by rw [List.length_take]; omega
  by_cases h1 : j < k
  · rw [if_pos h1, List.getElem?_append_left (by omega), List.getElem?_take, if_pos h1]
  · rw [if_neg h1, List.getElem?_append_right (by omega), hl]
    by_cases h2 : j = k
    · subst h2; rw [if_pos rfl]; simp
    · rw [if_neg h2]
      obtain ⟨d, hd⟩ : ∃ d, j - k = d + 1 := ⟨j - k - 1, by omega⟩
      rw [hd, List.getElem?_cons_succ, List.getElem?_drop]
      congr 1
      omega
theorem mv_get {α : Type} [BEq α] (o : List α) (x : α) {k : Nat} (hk : k ≤ (lessL o x).length) (j : Nat) :
    (mvL o x k)[j]? = if j < k then (lessL o x)[j]? else if j = k then some x else (lessL o x)[j - 1]? := ins_get (lessL o x) x hk j
theorem mv_at {α : Type} [BEq α] (o : List α) (x : α) {k : Nat} (hk : k ≤ (lessL o x).length) : (mvL o x k)[k]? = some x := by
  rw [mv_get o x hk, if_neg (by omega), if_pos rfl]
theorem mv_length {α : Type} [BEq α] (o : List α) (x : α) (k : Nat) : (mvL o x k).length = (lessL o x).length + 1 := by
  unfold mvL
  rw [List.length_append, List.length_cons, List.length_take, List.length_drop]
  omega
/-- Where x stands already. -/
theorem mv_self {o : List Nat} (h : o.Nodup) {x i : Nat} (hi : o[i]? = some x) : mvL o x i = o := by
  have hlt := (List.getElem?_eq_some_iff.1 hi).1
  have hxe := (List.getElem?_eq_some_iff.1 hi).2
  have hx : x ∈ o := List.mem_of_getElem? hi
  have hl := less_len h hx
  have hless : ∀ j, (lessL o x)[j]? = if j < i then o[j]? else o[j + 1]? := by
    intro j
    have hid : List.idxOf x o = i := by rw [← hxe]; exact h.idxOf_getElem i hlt
    rw [less_erase h, List.erase_eq_eraseIdx_of_idxOf hid, List.getElem?_eraseIdx]
  refine List.ext_getElem? fun j => ?_
  rw [mv_get o x (by omega)]
  by_cases h1 : j < i
  · rw [if_pos h1, hless, if_pos h1]
  · rw [if_neg h1]
    by_cases h2 : j = i
    · subst h2; rw [if_pos rfl, hi]
    · rw [if_neg h2, hless, if_neg (by omega)]
      congr 1
      omega
/-- One step to the right, and one to the left. -/
theorem mv_right {α : Type} [BEq α] (o : List α) (x : α) {k : Nat} (hk : k < (lessL o x).length) {y : α} (hy : (mvL o x k)[k + 1]? = some y) : ((mvL o x k).set k y).set (k + 1) x = mvL o x (k + 1) := by
  have hyl : (lessL o x)[k]? = some y := by
    rw [mv_get o x (by omega), if_neg (by omega), if_neg (by omega)] at hy
    exact hy
  have hlen := mv_length o x k
  refine List.ext_getElem? fun j => ?_
  rw [mv_get o x (by omega), List.getElem?_set, List.getElem?_set, List.length_set]
  by_cases h1 : j < k
  · rw [if_neg (by omega), if_neg (by omega), if_pos (by omega), mv_get o x (by omega), if_pos h1]
  · by_cases h2 : j = k
    · subst h2
      rw [if_neg (by omega), if_pos rfl, if_pos (by omega), if_pos (by omega), hyl]
    · by_cases h3 : j = k + 1
      · subst h3
        rw [if_pos rfl, if_pos (by omega), if_neg (by omega), if_pos rfl]
      · rw [if_neg (by omega), if_neg (by omega), if_neg (by omega), if_neg h3, mv_get o x (by omega), if_neg h1, if_neg h2]
theorem mv_left {α : Type} [BEq α] (o : List α) (x : α) {k : Nat} (hk : k + 1 ≤ (lessL o x).length) {y : α} (hy : (mvL o x (k + 1))[k]? = some y) : ((mvL o x (k + 1)).set (k + 1) y).set k x = mvL o x k := by
  have hyl : (lessL o x)[k]? = some y := by
    rw [mv_get o x (by omega), if_pos (by omega)] at hy
    exact hy
  have hlen := mv_length o x (k + 1)
  refine List.ext_getElem? fun j => ?_
  rw [mv_get o x (by omega), List.getElem?_set, List.getElem?_set, List.length_set]
  by_cases h1 : j < k
  · rw [if_neg (by omega), if_neg (by omega), if_pos h1, mv_get o x (by omega), if_pos (by omega)]
  · by_cases h2 : j = k
    · subst h2
      rw [if_pos rfl, if_pos (by omega), if_neg (by omega), if_pos rfl]
    · by_cases h3 : j = k + 1
      · subst h3
        rw [if_neg (by omega), if_pos rfl, if_pos (by omega), if_neg (by omega), if_neg (by omega)]
        simpa using hyl.symm
      · rw [if_neg (by omega), if_neg (by omega), if_neg h1, if_neg h2, mv_get o x (by omega), if_neg (by omega), if_neg h3]

/-! ### Sizes -/
theorem metB_le (F : (Nat → Bool) → Bool) (n k : Nat) : ∀ A, (metB F n k A).length ≤ A
  | 0 => Nat.le_refl 0
  | A + 1 => by
    have := metB_le F n k A
    unfold metB
    split
    · simp; omega
    · omega
theorem sizeB_le (F : (Nat → Bool) → Bool) (n : Nat) : ∀ K, sizeB F n K + 1 ≤ 2 ^ K
  | 0 => Nat.le_refl 1
  | K + 1 => by
    have h1 := sizeB_le F n K
    have h2 := metB_le F n K (2 ^ K)
    unfold sizeB
    rw [Nat.pow_succ]
    omega
/-- How many nodes the sets need in an order. -/
def szs (Ss : List (BitVec 256)) (o : List Nat) : Nat := (Ss.map fun X => sizeB (setF o X) o.length o.length).sum
theorem szs_le (Ss : List (BitVec 256)) {o : List Nat} (h8 : o.length ≤ 8) : szs Ss o ≤ Ss.length * 255 := by
  unfold szs
  induction Ss with
  | nil => simp
  | cons X r ih =>
    have h1 := sizeB_le (setF o X) o.length o.length
    have h2 := two_eight h8
    rw [List.map_cons, List.sum_cons, List.length_cons]
    omega
theorem szs_step {Ss : List (BitVec 256)} {k : Nat} {X : BitVec 256} (h : Ss[k]? = some X) (o : List Nat) : szs (Ss.take (k + 1)) o = szs (Ss.take k) o + sizeB (setF o X) o.length o.length := by
  unfold szs
  rw [List.take_add_one, h, List.map_append, List.sum_append]
  simp
theorem szs_take_le (Ss : List (BitVec 256)) (k : Nat) {o : List Nat} (h8 : o.length ≤ 8) (h4 : Ss.length ≤ 4) : szs (Ss.take k) o ≤ 1020 := by
  have h1 := szs_le (Ss.take k) h8
  have h2 : (Ss.take k).length ≤ Ss.length := by rw [List.length_take]; omega
  omega
/-- Have the sets no other points than those of so many inputs? -/
def fitS (Ss : List (BitVec 256)) (n : Nat) : Bool := Ss.all fun X => decide (X &&& ~~~(allB n) = 0)
theorem fitS_get {Ss : List (BitVec 256)} {n k : Nat} {X : BitVec 256} (h : fitS Ss n = true) (hk : Ss[k]? = some X) : X &&& ~~~(allB n) = 0 := by
  unfold fitS at h
  exact of_decide_eq_true (List.all_eq_true.1 h X (List.mem_of_getElem? hk))
theorem fitS_no {Ss : List (BitVec 256)} {n k : Nat} {X : BitVec 256} (hk : Ss[k]? = some X) (h : ¬ (X &&& ~~~(allB n) = 0)) : fitS Ss n = false := by
  unfold fitS
  rw [List.all_eq_false]
  exact ⟨X, List.mem_of_getElem? hk, by simpa using h⟩

/-! ### Sifting -/
/-- Behind k places that were tried: the best order, and its size. -/
def bestK (Ss : List (BitVec 256)) (o : List Nat) (x : Nat) : Nat → List Nat × Int
  | 0 => (o, 9223372036854775807)
  | k + 1 => if (szs Ss (mvL o x k) : Int) < (bestK Ss o x k).2 then (mvL o x k, (szs Ss (mvL o x k) : Int)) else bestK Ss o x k
/-- An input at its best place. -/
def settleN (Ss : List (BitVec 256)) (o : List Nat) (x : Nat) : List Nat := (bestK Ss o x o.length).1
/-- Behind the inputs 0 to j - 1. -/
def stepsN (Ss : List (BitVec 256)) (o : List Nat) : Nat → List Nat
  | 0 => o
  | j + 1 => settleN Ss (stepsN Ss o j) j
/-- Behind r rounds. -/
def siftN (Ss : List (BitVec 256)) (o : List Nat) : Nat → List Nat
  | 0 => o
  | r + 1 => stepsN Ss (siftN Ss o r) o.length
theorem bestK_ord (Ss : List (BitVec 256)) {o : List Nat} (h : OrdOk o) {x : Nat} (hx : x ∈ o) : ∀ k, OrdOk (bestK Ss o x k).1 ∧ (bestK Ss o x k).1.length = o.length
  | 0 => ⟨h, rfl⟩
  | k + 1 => by
    unfold bestK
    split
    · exact ⟨mv_ord h hx k, mv_len h.nodup hx k⟩
    · exact bestK_ord Ss h hx k
theorem bestK_first (Ss : List (BitVec 256)) {o : List Nat} (h : OrdOk o) (h8 : o.length ≤ 8) (h4 : Ss.length ≤ 4) {x : Nat} (hx : x ∈ o) : bestK Ss o x 1 = (mvL o x 0, (szs Ss (mvL o x 0) : Int)) := by
  have h1 := szs_le Ss (o := mvL o x 0) (by rw [mv_len h.nodup hx]; exact h8)
  unfold bestK
  rw [if_pos]
  show (szs Ss (mvL o x 0) : Int) < 9223372036854775807
  omega
theorem bestK_size (Ss : List (BitVec 256)) {o : List Nat} (h : OrdOk o) (h8 : o.length ≤ 8) (h4 : Ss.length ≤ 4) {x : Nat} (hx : x ∈ o) : ∀ k, (bestK Ss o x (k + 1)).2 = (szs Ss (bestK Ss o x (k + 1)).1 : Int)
  | 0 => by rw [bestK_first Ss h h8 h4 hx]
  | k + 1 => by
    have ih := bestK_size Ss h h8 h4 hx k
    rw [bestK]
    split
    · rfl
    · exact ih
theorem bestK_le (Ss : List (BitVec 256)) (o : List Nat) (x : Nat) : ∀ k j, j < k → (bestK Ss o x k).2 ≤ (szs Ss (mvL o x j) : Int)
  | 0, j, h => absurd h (Nat.not_lt_zero j)
  | k + 1, j, h => by
    unfold bestK
    by_cases e : j = k
    · subst e
      split
      · exact Int.le_refl _
      · rename_i hn; omega
    · have ih := bestK_le Ss o x k j (by omega)
      split
      · rename_i hlt; show (szs Ss (mvL o x k) : Int) ≤ _; omega
      · exact ih
theorem settle_ok (Ss : List (BitVec 256)) {o : List Nat} (h : OrdOk o) (h8 : o.length ≤ 8) (h4 : Ss.length ≤ 4) {x : Nat} (hx : x < o.length) :
    OrdOk (settleN Ss o x) ∧ (settleN Ss o x).length = o.length ∧ szs Ss (settleN Ss o x) ≤ szs Ss o := by
  have hm := h.mem hx
  obtain ⟨h1, h2⟩ := bestK_ord Ss h hm o.length
  refine ⟨h1, h2, ?_⟩
  obtain ⟨i, hi, hxe⟩ := List.mem_iff_getElem.1 hm
  have h3 := bestK_le Ss o x o.length i hi
  rw [mv_self h.nodup (List.getElem?_eq_some_iff.2 ⟨hi, hxe⟩)] at h3
  obtain ⟨n, hn⟩ : ∃ n, o.length = n + 1 := ⟨o.length - 1, by omega⟩
  unfold settleN
  rw [hn] at h3 ⊢
  rw [bestK_size Ss h h8 h4 hm n] at h3
  omega
theorem steps_ok (Ss : List (BitVec 256)) {o : List Nat} (h : OrdOk o) (h8 : o.length ≤ 8) (h4 : Ss.length ≤ 4) : ∀ j, j ≤ o.length →
    OrdOk (stepsN Ss o j) ∧ (stepsN Ss o j).length = o.length ∧ szs Ss (stepsN Ss o j) ≤ szs Ss o
  | 0, _ => ⟨h, rfl, Nat.le_refl _⟩
  | j + 1, hj => by
    obtain ⟨i1, i2, i3⟩ := steps_ok Ss h h8 h4 j (by omega)
    obtain ⟨s1, s2, s3⟩ := settle_ok Ss i1 (by omega) h4 (x := j) (by omega)
    exact ⟨s1, s2.trans i2, Nat.le_trans s3 i3⟩
theorem sift_ok (Ss : List (BitVec 256)) {o : List Nat} (h : OrdOk o) (h8 : o.length ≤ 8) (h4 : Ss.length ≤ 4) : ∀ r,
    OrdOk (siftN Ss o r) ∧ (siftN Ss o r).length = o.length ∧ szs Ss (siftN Ss o r) ≤ szs Ss o
  | 0 => ⟨h, rfl, Nat.le_refl _⟩
  | r + 1 => by
    obtain ⟨i1, i2, i3⟩ := sift_ok Ss h h8 h4 r
    obtain ⟨s1, s2, s3⟩ := steps_ok Ss i1 (by omega) h4 o.length (by omega)
    exact ⟨s1, s2.trans i2, Nat.le_trans s3 i3⟩
end Go.Proofs.Ytfamdckaljniiaa
