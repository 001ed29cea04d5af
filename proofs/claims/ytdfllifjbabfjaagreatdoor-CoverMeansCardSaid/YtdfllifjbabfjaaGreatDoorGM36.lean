/- Rows of all rows, by their keys; what a row grows to; all primes cover. A slice of cubes in memory; the document's own All and Same of layer 9. The document's own Holds of rows, power, Rows of layer 10. The document's own Rows of layer 10. -/
import Derived.Test.YtdfllifjbabfjaaGreatDoorGM34
import Derived.Test.YtdfllifjbabfjaaGreatDoorGM35
import Derived.Deep.AppendLies
namespace Go.Proofs.YtdfllifjbabfjaaGreatDoor
open Go.RowKit

theorem allK_is : ∃ n : Nat, n = 16777216 := ⟨16777216, rfl⟩
/-- So many keys there are; told so that nothing counts them out. -/
noncomputable def allK : Nat := Classical.choose allK_is
theorem allK_eq : allK = 16777216 := Classical.choose_spec allK_is
def rwK (k : Nat) : Rw := ⟨kM k, kV k, BitVec.ofNat 8 (k / 65536)⟩
def keyR (x : Rw) : Nat := 65536 * x.o.toNat + keyC x.m x.v
theorem keyR_lt (x : Rw) : keyR x < allK := by rw [allK_eq]; unfold keyR; have := keyC_lt x.m x.v; have := x.o.isLt; omega
theorem rwK_key (x : Rw) : rwK (keyR x) = x := by
  have hm := x.m.isLt
  have hv := x.v.isLt
  have ho := x.o.isLt
  unfold rwK keyR keyC kM kV
  cases x with
  | mk m v o =>
    simp only at *
    congr 1
    · apply BitVec.eq_of_toNat_eq; rw [BitVec.toNat_ofNat]; omega
    · apply BitVec.eq_of_toNat_eq; rw [BitVec.toNat_ofNat]; omega
    · apply BitVec.eq_of_toNat_eq; rw [BitVec.toNat_ofNat]; omega
theorem key_rwK {k : Nat} (h : k < allK) : keyR (rwK k) = k := by
  rw [allK_eq] at h
  unfold rwK keyR keyC kM kV
  simp only [BitVec.toNat_ofNat]
  omega
/-- The rows that are so, with keys below u. -/
def rwU (P : Rw → Bool) (u : Nat) : List Nat := (List.range u).filter fun k => P (rwK k)
theorem rwU_succ (P : Rw → Bool) (u : Nat) : rwU P (u + 1) = rwU P u ++ (if P (rwK u) = true then [u] else []) := by
  unfold rwU
  rw [List.range_succ, List.filter_append]
  congr 1
  cases h : P (rwK u) <;> simp [h]
theorem rwU_mem (P : Rw → Bool) (u k : Nat) : k ∈ rwU P u ↔ k < u ∧ P (rwK k) = true := by
  unfold rwU; rw [List.mem_filter, List.mem_range]
theorem rwU_srt (P : Rw → Bool) (u : Nat) : (rwU P u).Pairwise (· < ·) := List.Pairwise.filter _ (List.pairwise_lt_range)
theorem rwU_len (P : Rw → Bool) (u : Nat) : (rwU P u).length ≤ u := by
  have := List.length_filter_le (fun k => P (rwK k)) (List.range u)
  rwa [List.length_range] at this
theorem rwU_gap {P : Rw → Bool} {u u' : Nat} (h : u ≤ u') (hn : ∀ k, u ≤ k → k < u' → P (rwK k) = false) : rwU P u' = rwU P u := by
  obtain ⟨d, rfl⟩ := Nat.exists_eq_add_of_le h
  clear h
  induction d with
  | zero => rfl
  | succ d ih =>
    rw [show u + (d + 1) = u + d + 1 by omega, rwU_succ, ih (fun k h1 h2 => hn k h1 (by omega)), hn (u + d) (by omega) (by omega)]
    simp
/-- All rows that are so, rising. -/
noncomputable def rwL (P : Rw → Bool) : List Rw := (rwU P allK).map rwK
theorem rwL_mem {P : Rw → Bool} {x : Rw} : x ∈ rwL P ↔ P x = true := by
  unfold rwL
  rw [List.mem_map]
  constructor
  · rintro ⟨k, hk, rfl⟩
    exact ((rwU_mem P allK k).1 hk).2
  · intro h
    exact ⟨keyR x, (rwU_mem P allK _).2 ⟨keyR_lt x, by rw [rwK_key]; exact h⟩, rwK_key x⟩
theorem rwL_rise {P : Rw → Bool} {i j : Nat} {x y : Rw} (hx : (rwL P)[i]? = some x) (hy : (rwL P)[j]? = some y) (hij : i < j) : keyR x < keyR y := by
  unfold rwL at hx hy
  rw [List.getElem?_map] at hx hy
  obtain ⟨a, ha, rfl⟩ := Option.map_eq_some_iff.1 hx
  obtain ⟨b, hb, rfl⟩ := Option.map_eq_some_iff.1 hy
  rw [key_rwK ((rwU_mem P allK a).1 (List.mem_of_getElem? ha)).1, key_rwK ((rwU_mem P allK b).1 (List.mem_of_getElem? hb)).1]
  obtain ⟨h1, e1⟩ := List.getElem?_eq_some_iff.1 ha
  obtain ⟨h2, e2⟩ := List.getElem?_eq_some_iff.1 hb
  rw [← e1, ← e2]
  exact List.pairwise_iff_getElem.1 (rwU_srt P allK) i j h1 h2 hij
theorem rwL_inj {P : Rw → Bool} {i j : Nat} {x : Rw} (hx : (rwL P)[i]? = some x) (hy : (rwL P)[j]? = some x) : i = j := by
  rcases Nat.lt_trichotomy i j with h | h | h
  · have := rwL_rise hx hy h; omega
  · exact h
  · have := rwL_rise hy hx h; omega
theorem rwL_len (P : Rw → Bool) : (rwL P).length ≤ 16777216 := by
  unfold rwL
  rw [List.length_map]
  exact Nat.le_trans (rwU_len P allK) (Nat.le_of_eq allK_eq)
/-- Those of a row that are so, too. -/
theorem rwL_filter {P Q : Rw → Bool} (h : ∀ x, Q x = true → P x = true) : (rwL P).filter Q = rwL Q := by
  unfold rwL rwU
  rw [List.filter_map, List.filter_filter]
  congr 1
  refine List.filter_congr fun k _ => ?_
  simp only [Function.comp_apply]
  cases hq : Q (rwK k)
  · rfl
  · rw [h _ hq]; rfl
/-- One row more. -/
theorem rwU_key (P : Rw → Bool) (x : Rw) : (rwU P (keyR x + 1)).map rwK = (rwU P (keyR x)).map rwK ++ (if P x = true then [x] else []) := by
  rw [rwU_succ, rwK_key, List.map_append]
  congr 1
  cases P x
  · rfl
  · show [rwK (keyR x)] = _
    rw [rwK_key]; rfl
/-- Rows within lie low. -/
theorem rowin_low {s : Sp} {x : Rw} {n : Nat} (hn : s.i = n) (h : rowIn s x = true) : x.m.toNat < 2 ^ n ∧ x.v.toNat < 2 ^ n ∧ x.o.toNat < 2 ^ s.on.length ∧ 0 < x.o.toNat := by
  obtain ⟨h0, h1, h2⟩ := rwB_iff.1 (rowin_right h)
  rw [hn] at h2
  obtain ⟨-, hm, hv, -, -⟩ := right_lows h2
  refine ⟨hm, hv, Nat.lt_pow_two_of_testBit _ fun q hq => h1 q hq, ?_⟩
  rcases Nat.eq_zero_or_pos x.o.toNat with e | e
  · exact absurd (BitVec.eq_of_toNat_eq (by simpa using e)) h0
  · exact e
theorem rwK_at {o m v : Nat} (ho : o < 256) (hm : m < 256) (hv : v < 256) : (rwK (65536 * o + (256 * m + v))).m.toNat = m ∧ (rwK (65536 * o + (256 * m + v))).v.toNat = v ∧ (rwK (65536 * o + (256 * m + v))).o.toNat = o := by
  unfold rwK kM kV
  simp only [BitVec.toNat_ofNat]
  omega
theorem split_key (k : Nat) : ∃ o m v, k = 65536 * o + (256 * m + v) ∧ m < 256 ∧ v < 256 := ⟨k / 65536, k / 256 % 256, k % 256, by omega, by omega, by omega⟩
section
variable {s : Sp} {n : Nat} (hn : s.i = n) (h8 : n ≤ 8) (h4 : s.on.length ≤ 8)
include hn h8
theorem rwU_mask {o m : Nat} (ho : o < 256) (hm : m < 256) : rwU (rowIn s) (65536 * o + 256 * (m + 1)) = rwU (rowIn s) (65536 * o + (256 * m + 2 ^ n)) := by
  have h2 : 2 ^ n ≤ 2 ^ 8 := Nat.pow_le_pow_right (by decide) h8
  refine rwU_gap (by omega) fun k h1 h3 => ?_
  cases hp : rowIn s (rwK k)
  · rfl
  · have hl := rowin_low hn hp
    obtain ⟨d, rfl⟩ := Nat.exists_eq_add_of_le (show 65536 * o + 256 * m ≤ k by omega)
    rw [Nat.add_assoc] at hl
    have := rwK_at ho hm (show d < 256 by omega)
    omega
theorem rwU_outs {o : Nat} (ho : o < 256) : rwU (rowIn s) (65536 * (o + 1)) = rwU (rowIn s) (65536 * o + 256 * 2 ^ n) := by
  have h2 : 2 ^ n ≤ 2 ^ 8 := Nat.pow_le_pow_right (by decide) h8
  refine rwU_gap (by omega) fun k h1 h3 => ?_
  cases hp : rowIn s (rwK k)
  · rfl
  · obtain ⟨a, m, v, rfl, hm, hv⟩ := split_key k
    have hl := rowin_low hn hp
    have e1 : a = o := by omega
    subst e1
    rw [(rwK_at ho hm hv).1] at hl
    have h9 := hl.1
    have : 256 * (m + 1) ≤ 256 * 2 ^ n := Nat.mul_le_mul_left _ h9
    omega
omit h8 in
include h4 in
theorem rwU_end : rwU (rowIn s) (65536 * 2 ^ s.on.length) = rwU (rowIn s) allK := by
  have h2 : 2 ^ s.on.length ≤ 2 ^ 8 := Nat.pow_le_pow_right (by decide) h4
  refine (rwU_gap (by rw [allK_eq]; omega) fun k h1 h3 => ?_).symm
  rw [allK_eq] at h3
  cases hp : rowIn s (rwK k)
  · rfl
  · obtain ⟨a, m, v, rfl, hm, hv⟩ := split_key k
    have hl := rowin_low hn hp
    rw [(rwK_at (show a < 256 by omega) hm hv).2.2] at hl
    have h9 := hl.2.2.1
    have : 65536 * (a + 1) ≤ 65536 * 2 ^ s.on.length := Nat.mul_le_mul_left _ h9
    omega
omit h8 in
theorem rwU_start : rwU (rowIn s) 65536 = [] := by
  have : rwU (rowIn s) 65536 = rwU (rowIn s) 0 := by
    refine rwU_gap (u := 0) (u' := 65536) (Nat.zero_le _) fun k h1 h3 => ?_
    cases hp : rowIn s (rwK k)
    · rfl
    · obtain ⟨a, m, v, rfl, hm, hv⟩ := split_key k
      have hl := rowin_low hn hp
      have e1 : a = 0 := by omega
      subst e1
      rw [(rwK_at (show 0 < 256 by omega) hm hv).2.2] at hl
      omega
  rw [this]; rfl
end
/-- Prime is that no other one of all within holds it. -/
theorem prime_at {s : Sp} (h4 : s.on.length ≤ 8) {i : Nat} {x : Rw} (hx : (rwL (rowIn s))[i]? = some x) : primR s x = true ↔ ∀ k y, (rwL (rowIn s))[k]? = some y → k ≠ i → rhB y x = false := by
  rw [prim_max_iff h4]
  constructor
  · rintro ⟨-, h⟩ k y hy hne
    rw [Bool.eq_false_iff]
    intro hh
    have e := h y (rwL_mem.1 (List.mem_of_getElem? hy)) hh
    subst e
    exact hne (rwL_inj hy hx)
  · intro h
    refine ⟨rwL_mem.1 (List.mem_of_getElem? hx), fun y hy hh => ?_⟩
    obtain ⟨k, hk⟩ := List.mem_iff_getElem?.1 (rwL_mem (P := rowIn s).2 hy)
    by_cases e : k = i
    · subst e
      rw [hx] at hk
      injection hk with hk
      exact hk.symm
    · rw [h k y hk e] at hh; cases hh

/- WHAT A ROW GROWS TO. -/
def dropStep (s : Sp) (x : Rw) (i : Nat) : Rw := if rowIn s (dropR x i) = true then dropR x i else x
def addStep (s : Sp) (x : Rw) (j : Nat) : Rw := if (!x.o.getLsbD j && rowIn s (addR x j)) = true then addR x j else x
def dropsR (s : Sp) (x : Rw) (k : Nat) : Rw := (List.range k).foldl (dropStep s) x
def addsR (s : Sp) (x : Rw) (k : Nat) : Rw := (List.range k).foldl (addStep s) x
theorem dropsR_succ (s : Sp) (x : Rw) (k : Nat) : dropsR s x (k + 1) = dropStep s (dropsR s x k) k := by
  unfold dropsR; rw [List.range_succ, List.foldl_append]; rfl
theorem addsR_succ (s : Sp) (x : Rw) (k : Nat) : addsR s x (k + 1) = addStep s (addsR s x k) k := by
  unfold addsR; rw [List.range_succ, List.foldl_append]; rfl
def growR (s : Sp) (x : Rw) : Rw := addsR s (dropsR s x s.i.toNat) s.on.length
theorem rhB_dd (x : Rw) (i k : Nat) : rhB (dropR (dropR x k) i) (dropR x i) = true := by
  refine rhB_iff.2 ⟨fun _ h => h, (holdsB_iff _ _ _ _).2 fun j hj => ?_⟩
  unfold dropR at *
  simp only [drM_bit] at *
  cases hm : x.m.getLsbD j
  · rw [hm] at hj; cases hj
  · rw [hm] at hj
    cases hk : decide (j = k)
    · cases hi : decide (j = i)
      · simp
      · rw [hi] at hj; simp at hj
    · rw [hk] at hj; simp at hj
theorem rhB_ad (x : Rw) (i k : Nat) : rhB (dropR (addR x k) i) (dropR x i) = true := by
  refine rhB_iff.2 ⟨fun q h => ?_, holds_self _ _⟩
  show (addR x k).o.getLsbD q = true
  rw [addR_bit, show x.o.getLsbD q = true from h]; rfl
theorem rhB_aa (x : Rw) (j k : Nat) : rhB (addR (addR x k) j) (addR x j) = true := by
  refine rhB_iff.2 ⟨fun q h => ?_, holds_self _ _⟩
  rw [addR_bit] at *
  rw [addR_bit]
  rw [Bool.or_eq_true] at *
  rcases h with h | h
  · rw [h]; exact .inl rfl
  · exact .inr h
theorem drops_inv {s : Sp} {x : Rw} (h : rowIn s x = true) : ∀ k, rowIn s (dropsR s x k) = true ∧ rhB (dropsR s x k) x = true ∧ ∀ i, i < k → (dropsR s x k).m.getLsbD i = true → rowIn s (dropR (dropsR s x k) i) = false
  | 0 => ⟨h, rhB_self x, fun i hi => absurd hi (Nat.not_lt_zero _)⟩
  | k + 1 => by
    obtain ⟨h1, h2, h3⟩ := drops_inv h k
    rw [dropsR_succ]
    generalize dropsR s x k = y at *
    unfold dropStep
    by_cases hd : rowIn s (dropR y k) = true
    · rw [if_pos hd]
      refine ⟨hd, rhB_trans (rhB_drop y k) h2, fun i hi hb => ?_⟩
      have hb' : y.m.getLsbD i = true ∧ i ≠ k := by
        unfold dropR at hb
        simp only [drM_bit] at hb
        rw [Bool.and_eq_true] at hb
        exact ⟨hb.1, fun e => by subst e; simp at hb⟩
      rw [Bool.eq_false_iff]
      intro hin
      have := rowin_down hin (rhB_dd y i k) (rwB_drop (rowin_right h1))
      rw [h3 i (by omega) hb'.1] at this; cases this
    · rw [if_neg hd]
      refine ⟨h1, h2, fun i hi hb => ?_⟩
      by_cases e : i = k
      · subst e; exact Bool.eq_false_iff.2 hd
      · exact h3 i (by omega) hb
theorem add_right {s : Sp} {y : Rw} {j k : Nat} (h1 : rwB y s.i s.on.length = true) (h2 : rwB (addR (addR y k) j) s.i s.on.length = true) : rwB (addR y j) s.i s.on.length = true := by
  obtain ⟨q1, q2, q3⟩ := rwB_iff.1 h1
  obtain ⟨-, r2, -⟩ := rwB_iff.1 h2
  refine rwB_iff.2 ⟨fun e => q1 ?_, fun q hq => ?_, q3⟩
  · apply BitVec.eq_of_getLsbD_eq
    intro q _
    have := congrArg (fun z => z.getLsbD q) e
    simp only [addR_bit] at this
    have h0 : (0 : BitVec 8).getLsbD q = false := by simp
    rw [h0, Bool.or_eq_false_iff] at this
    rw [this.1, h0]
  · have := r2 q hq
    rw [addR_bit, Bool.or_eq_false_iff] at this
    rw [addR_bit, q2 q hq, this.2]; rfl
theorem adds_inv {s : Sp} {x : Rw} {n : Nat} (h : rowIn s x = true) (hd : ∀ i, i < n → x.m.getLsbD i = true → rowIn s (dropR x i) = false) : ∀ k, k ≤ 8 → rowIn s (addsR s x k) = true ∧ rhB (addsR s x k) x = true ∧ (∀ i, i < n → (addsR s x k).m.getLsbD i = true → rowIn s (dropR (addsR s x k) i) = false) ∧ ∀ j, j < k → (addsR s x k).o.getLsbD j = false → rowIn s (addR (addsR s x k) j) = false
  | 0, _ => ⟨h, rhB_self x, hd, fun i hi => absurd hi (Nat.not_lt_zero _)⟩
  | k + 1, hk8 => by
    obtain ⟨h1, h2, h3, h4⟩ := adds_inv h hd k (by omega)
    rw [addsR_succ]
    generalize addsR s x k = y at *
    unfold addStep
    by_cases ha : (!y.o.getLsbD k && rowIn s (addR y k)) = true
    · rw [if_pos ha]
      rw [Bool.and_eq_true, Bool.not_eq_true'] at ha
      refine ⟨ha.2, rhB_trans (rhB_add y k) h2, fun i hi hb => ?_, fun j hj hb => ?_⟩
      · rw [Bool.eq_false_iff]
        intro hin
        have := rowin_down hin (rhB_ad y i k) (rwB_drop (rowin_right h1))
        rw [h3 i hi hb] at this; cases this
      · rw [addR_bit, Bool.or_eq_false_iff] at hb
        have hne : j ≠ k := fun e => by
          subst e
          have := hb.2
          simp at this
          omega
        rw [Bool.eq_false_iff]
        intro hin
        have := rowin_down hin (rhB_aa y j k) (add_right (rowin_right h1) (rowin_right hin))
        rw [h4 j (by omega) hb.1] at this; cases this
    · rw [if_neg ha]
      refine ⟨h1, h2, h3, fun j hj hb => ?_⟩
      by_cases e : j = k
      · subst e
        rw [Bool.eq_false_iff]
        intro hin
        exact ha (by rw [hb, hin]; rfl)
      · exact h4 j (by omega) hb
end Go.Proofs.YtdfllifjbabfjaaGreatDoor
namespace Go.Proofs.YtdfllifjbabfjaaGreatDoor
open Go.RowKit Go.Joins

/-- The slice v reads as the cubes cs; what it reads lies below block B. -/
def CbsAt (w : World) (B : Nat) (v : Value) (cs : List Cb) : Prop :=
  ∃ A c, v = .slice A cs.length c ∧ cs.length ≤ 9223372036854775807 ∧
    (0 < cs.length → ∃ b off, A = some ⟨b, off, none⟩ ∧ b < B ∧ ∀ j x, cs[j]? = some x → w.cell? ⟨b, off + j * 2, none⟩ = some (bvv x.m) ∧ w.cell? ⟨b, off + j * 2 + 1, none⟩ = some (bvv x.v))
theorem CbsAt.below {w w' : World} {B : Nat} {v : Value} {cs : List Cb} (h : CbsAt w B v cs) (hb : Below B w w') : CbsAt w' B v cs := by
  obtain ⟨A, c, e, hl, h⟩ := h
  refine ⟨A, c, e, hl, fun h0 => ?_⟩
  obtain ⟨b, off, eA, hB, hc⟩ := h h0
  refine ⟨b, off, eA, hB, fun j X hx => ?_⟩
  obtain ⟨a0, a1⟩ := hc j X hx
  exact ⟨(hb.cell (p := ⟨b, off + j * 2, none⟩) hB).trans a0, (hb.cell (p := ⟨b, off + j * 2 + 1, none⟩) hB).trans a1⟩
theorem CbsAt.more {w : World} {B B' : Nat} {v : Value} {cs : List Cb} (h : CbsAt w B v cs) (hB : B ≤ B') : CbsAt w B' v cs := by
  obtain ⟨A, c, e, hl, h⟩ := h
  refine ⟨A, c, e, hl, fun h0 => ?_⟩
  obtain ⟨b, off, eA, hb, hc⟩ := h h0
  exact ⟨b, off, eA, by omega, hc⟩
theorem cbs_nil (w : World) (B : Nat) : CbsAt w B (.slice none 0 0) [] := ⟨none, 0, rfl, by decide, fun h => absurd h (by simp)⟩
def cbsV (cs : List Cb) : List Value := cs.flatMap fun x => [bvv x.m, bvv x.v]
theorem cbsV_snoc (cs : List Cb) (x : Cb) : cbsV (cs ++ [x]) = cbsV cs ++ [bvv x.m, bvv x.v] := by unfold cbsV; simp
theorem cbsV_at : ∀ (cs : List Cb) (j : Nat) (x : Cb), cs[j]? = some x → (cbsV cs)[j * 2]? = some (bvv x.m) ∧ (cbsV cs)[j * 2 + 1]? = some (bvv x.v)
  | [], _, _, h => by simp at h
  | a :: cs, 0, x, h => by
    simp at h
    subst h
    exact ⟨rfl, rfl⟩
  | a :: cs, j + 1, x, h => by
    obtain ⟨x1, y⟩ := cbsV_at cs j x (by simpa using h)
    have e : cbsV (a :: cs) = bvv a.m :: bvv a.v :: cbsV cs := rfl
    rw [e, show (j + 1) * 2 = j * 2 + 2 by omega]
    exact ⟨x1, y⟩
theorem own_cellq {w : World} {base size n : Nat} {e : TypeId} {v : Value} {xs : List Value} (h : w.ownsRow base e size v n xs) (hn : 0 < n) :
    ∃ g c, v = .slice (some ⟨g, 0, none⟩) n c ∧ base ≤ g ∧ g < w.heap.size ∧ n ≤ 9223372036854775807 ∧ ∀ i x, xs[i]? = some x → w.cell? ⟨g, i, none⟩ = some x := by
  obtain ⟨g, cap, rfl⟩ := ownsRow_form h hn
  have hl := h.lt g rfl
  refine ⟨g, cap, rfl, hl.1, hl.2, ?_, fun i x hx => ?_⟩
  · rcases h.2 with ⟨-, h0⟩ | ⟨g', cap', cur, e', hg, hgg, h1, h2, h3, h4⟩
    · omega
    · injection e' with _ _ ec
      subst ec
      unfold maxLen at *
      omega
  · have hi := (List.getElem?_eq_some_iff.1 hx).1
    rw [h.cellAt i (by rw [← h.1]; exact hi)]
    exact hx
theorem own_cbs {w : World} {bd : Nat} {v : Value} {cs : List Cb} (h : w.ownsRow bd 42 2 v cs.length (cbsV cs)) : CbsAt w w.heap.size v cs := by
  rcases Nat.eq_zero_or_pos cs.length with h0 | h0
  · obtain ⟨A, c, rfl⟩ := own_form h
    exact ⟨A, c, rfl, by omega, fun h => by omega⟩
  · obtain ⟨g, c, rfl, -, hg, hlen, hc⟩ := own_cellq h h0
    refine ⟨_, c, rfl, hlen, fun _ => ⟨g, 0, rfl, hg, fun j x hx => ?_⟩⟩
    obtain ⟨a, b⟩ := cbsV_at cs j x hx
    rw [Nat.zero_add]
    exact ⟨hc _ _ a, hc _ _ b⟩
theorem Tryz.infoCube9 : (Tryz.prog.info? 42).map (fun i => (i.zero, i.size, i.bytes)) = some (some (.agg #[.int .u8 0, .int .u8 0]), 2, 2) := by kernel_rfl
theorem prmU_key (S : BitVec 256) (n : Int) (M V : BitVec 8) : (prmU S n (256 * M.toNat + (V.toNat + 1))).map cbK = (prmU S n (256 * M.toNat + V.toNat)).map cbK ++ (if primB S n M V = true then [⟨M, V⟩] else []) := by
  rw [show 256 * M.toNat + (V.toNat + 1) = keyC M V + 1 from rfl, prmU_succ, kM_key, kV_key, List.map_append]
  show _ = (prmU S n (keyC M V)).map cbK ++ _
  congr 1
  cases primB S n M V
  · rfl
  · show [cbK (keyC M V)] = _
    unfold cbK
    rw [kM_key, kV_key]
    rfl
end Go.Proofs.YtdfllifjbabfjaaGreatDoor
namespace Go.Proofs.YtdfllifjbabfjaaGreatDoor
open Go.RowKit Go.Joins

theorem rh_hit {a b : Rw} {j : Nat} (h1 : b.o.getLsbD j = true) (h2 : a.o.getLsbD j = false) : rhB a b = false := by
  rw [Bool.eq_false_iff]
  intro h
  rw [(rhB_iff.1 h).1 j h1] at h2; cases h2
theorem rh_end {a b : Rw} (h : ∀ j, j < 8 → b.o.getLsbD j = true → a.o.getLsbD j = true) : rhB a b = holdsB a.m a.v b.m b.v := by
  rw [Bool.eq_iff_iff, rhB_iff]
  refine ⟨fun h => h.2, fun hh => ⟨fun j hj => ?_, hh⟩⟩
  rcases Nat.lt_or_ge j 8 with k | k
  · exact h j k hj
  · rw [BitVec.getLsbD_of_ge _ j k] at hj; cases hj
end Go.Proofs.YtdfllifjbabfjaaGreatDoor
namespace Go.Proofs.YtdfllifjbabfjaaGreatDoor
open Go.RowKit Go.Joins

def rzV (rs : List Rw) : List Value := rs.flatMap fun x => [bvv x.m, bvv x.v, bvv x.o]
theorem rzV_snoc (rs : List Rw) (x : Rw) : rzV (rs ++ [x]) = rzV rs ++ [bvv x.m, bvv x.v, bvv x.o] := by unfold rzV; simp
theorem rzV_at : ∀ (rs : List Rw) (j : Nat) (x : Rw), rs[j]? = some x → (rzV rs)[j * 3]? = some (bvv x.m) ∧ (rzV rs)[j * 3 + 1]? = some (bvv x.v) ∧ (rzV rs)[j * 3 + 2]? = some (bvv x.o)
  | [], _, _, h => by simp at h
  | a :: rs, 0, x, h => by
    simp at h
    subst h
    exact ⟨rfl, rfl, rfl⟩
  | a :: rs, j + 1, x, h => by
    obtain ⟨x1, y, z⟩ := rzV_at rs j x (by simpa using h)
    have e : rzV (a :: rs) = bvv a.m :: bvv a.v :: bvv a.o :: rzV rs := rfl
    rw [e, show (j + 1) * 3 = j * 3 + 3 by omega]
    exact ⟨x1, y, z⟩
theorem own_rz {w : World} {bd : Nat} {v : Value} {rs : List Rw} (h : w.ownsRow bd 44 3 v rs.length (rzV rs)) : RwsAt w w.heap.size v rs := by
  rcases Nat.eq_zero_or_pos rs.length with h0 | h0
  · obtain ⟨A, c, rfl⟩ := own_form h
    exact ⟨A, c, rfl, by omega, fun h => by omega⟩
  · obtain ⟨g, c, rfl, -, hg, hlen, hc⟩ := own_cellq h h0
    refine ⟨_, c, rfl, hlen, fun _ => ⟨g, 0, rfl, hg, fun j x hx => ?_⟩⟩
    obtain ⟨a, b, d⟩ := rzV_at rs j x hx
    rw [Nat.zero_add]
    exact ⟨hc _ _ a, hc _ _ b, hc _ _ d⟩
theorem Tryz.infoRow10 : (Tryz.prog.info? 44).map (fun i => (i.zero, i.size, i.bytes)) = some (some (.agg #[.int .u8 0, .int .u8 0, .int .u8 0]), 3, 3) := by kernel_rfl
theorem rwU_keyz (P : Rw → Bool) (M V O : BitVec 8) : (rwU P (65536 * O.toNat + (256 * M.toNat + (V.toNat + 1)))).map rwK = (rwU P (65536 * O.toNat + (256 * M.toNat + V.toNat))).map rwK ++ (if P ⟨M, V, O⟩ = true then [⟨M, V, O⟩] else []) :=
  rwU_key P ⟨M, V, O⟩
end Go.Proofs.YtdfllifjbabfjaaGreatDoor
