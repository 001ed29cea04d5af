/- What Has, With and List of the package set answer, for every input. Rows of rows that a call owns: a slice of slices that grows. Rows in their order, plain. -/
import Derived.Test.YtdfllifjbabfjaaGreatDoorGM02
import Derived.Test.YtdfllifjbabfjaaGreatDoorGM04
import Derived.Test.YtdfllifjbabfjaaGreatDoorGM05
import Derived.Maps.AppendAt
namespace Go.Proofs.YtdfllifjbabfjaaGreatDoor
open Go.RowKit Go.Joins

/-- Is point p in a set? -/
def hasB (S : BitVec 256) (p : Int) : Bool := decide (0 ≤ p) && S.getLsbD p.toNat
theorem wd_test (S : BitVec 256) (p : Nat) : (((wd S (p / 64)).toNat : Int) / 2 ^ (p % 64)) % 2 = if S.getLsbD p then 1 else 0 := by
  have hb := wd_bit S (p / 64) (p % 64)
  have e : 64 * (p / 64) + p % 64 = p := by omega
  rw [e] at hb
  have hm : p % 64 < 64 := by omega
  simp only [hm, decide_true, Bool.true_and, BitVec.getLsbD, Nat.testBit_eq_decide_div_mod_eq] at hb
  have hd : (((wd S (p / 64)).toNat : Int) / 2 ^ (p % 64)) = (((wd S (p / 64)).toNat / 2 ^ (p % 64) : Nat) : Int) := by
    rw [Int.natCast_ediv]; simp
  rw [hd]
  simp only [BitVec.getLsbD, Nat.testBit_eq_decide_div_mod_eq]
  rw [← hb]
  by_cases h1 : (wd S (p / 64)).toNat / 2 ^ (p % 64) % 2 = 1
  · simp [h1]; omega
  · simp [h1]; omega
set_option maxHeartbeats 400000 in
theorem has_no (S : BitVec 256) (p : Int) (h : p < 0 ∨ 256 ≤ p) (w : World) :
    Calls Tryz.prog 53 #[sv S, .int .i64 p] w fun e w' => e = .returned (.bool false) ∧ Below w.heap.size w w' := by
  unfold sv wv
  go_enter Tryz.func53, Tryz.ntmps53
  go_wp2_with (go_at_call 76; refine (isPoint_no p _ h).mono ?_; rintro e w' ⟨rfl, rfl⟩)
  go_ret
  exact ⟨rfl, below_alloc1 _ _⟩
set_option maxHeartbeats 400000 in
theorem has_any (S : BitVec 256) (p : Nat) (h : p < 256) (w : World) :
    Calls Tryz.prog 53 #[sv S, .int .i64 p] w fun e w' => e = .returned (.bool (S.getLsbD p)) ∧ Below w.heap.size w w' := by
  have hc : (w.alloc (.cells (sa S) 50)).cell? ⟨w.heap.size, p / 64, none⟩ = some (wv (wd S (p / 64))) := by
    rw [cell_of_block (heap_alloc_new w _), sa_get S _ (by omega)]
  unfold sa wv at hc
  unfold sv wv
  go_enter Tryz.func53, Tryz.ntmps53
  go_wp2_with (go_at_call 76; refine (isPoint_yes p _ (by omega) (by omega)).mono ?_; rintro e w' ⟨rfl, rfl⟩)
  go_ret
  refine ⟨ret_bool ?_, below_alloc1 _ _⟩
  have hn : ((wd S (p / 64)).toNat : Int) / 2 ^ (p % 64) = (((wd S (p / 64)).toNat / 2 ^ (p % 64) : Nat) : Int) := by rw [Int.natCast_ediv]; simp
  have hl : (wd S (p / 64)).toNat / 2 ^ (p % 64) ≤ (wd S (p / 64)).toNat := Nat.div_le_self _ _
  have hl2 := (wd S (p / 64)).isLt
  rw [and_one_u64 _ (by rw [hn]; exact Int.natCast_nonneg _) (by rw [hn]; generalize (wd S (p / 64)).toNat / 2 ^ (p % 64) = q at *; omega), wd_test S p]
  cases S.getLsbD p <;> rfl
theorem wd_twoPow (p k : Nat) (hp : p < 256) : wd (BitVec.twoPow 256 p) k = if k = p / 64 then BitVec.twoPow 64 (p % 64) else 0 := by
  apply BitVec.eq_of_getLsbD_eq
  intro j hj
  rw [wd_bit, BitVec.getLsbD_twoPow]
  simp only [hj, decide_true, Bool.true_and, hp]
  by_cases e : k = p / 64
  · rw [if_pos e, BitVec.getLsbD_twoPow]
    have hm : p % 64 < 64 := by omega
    simp only [hm, decide_true, Bool.true_and]
    have : (p = 64 * k + j) ↔ (p % 64 = j) := by omega
    simp only [this]
  · rw [if_neg e]
    have : ¬ (p = 64 * k + j) := by omega
    simp [this]
theorem with_word (S : BitVec 256) (p : Nat) (hp : p < 256) : bits .or .u64 ((wd S (p / 64)).toNat : Int) (IntKind.u64.wrap (2 ^ (p % 64))) = ((wd (S ||| BitVec.twoPow 256 p) (p / 64)).toNat : Int) := by
  have hm : p % 64 < 64 := by omega
  have e : IntKind.u64.wrap (2 ^ (p % 64)) = ((BitVec.twoPow 64 (p % 64)).toNat : Int) := by
    have hl : 2 ^ (p % 64) < 2 ^ 64 := Nat.pow_lt_pow_right (by decide) hm
    rw [BitVec.toNat_twoPow_of_lt hm]
    have h2 : ((2 ^ (p % 64) : Nat) : Int) = 2 ^ (p % 64) := by simp
    rw [h2]
    exact wrap_u64_id _ (by rw [← h2]; exact Int.natCast_nonneg _) (by rw [← h2]; generalize 2 ^ (p % 64) = q at *; omega)
  rw [e, bits_or_bv, wd_or, wd_twoPow p _ hp, if_pos rfl]
theorem with_cells (S : BitVec 256) (p : Nat) (hp : p < 256) :
    [Value.int IntKind.u64 ↑(wd S 0).toNat, Value.int IntKind.u64 ↑(wd S 1).toNat, Value.int IntKind.u64 ↑(wd S 2).toNat, Value.int IntKind.u64 ↑(wd S 3).toNat].set (p / 64)
      (Value.int IntKind.u64 (bits BinOp.or IntKind.u64 (↑(wd S (p / 64)).toNat) (IntKind.u64.wrap (2 ^ (p % 64))))) =
    [Value.int IntKind.u64 ↑(wd (S ||| BitVec.twoPow 256 p) 0).toNat, Value.int IntKind.u64 ↑(wd (S ||| BitVec.twoPow 256 p) 1).toNat, Value.int IntKind.u64 ↑(wd (S ||| BitVec.twoPow 256 p) 2).toNat, Value.int IntKind.u64 ↑(wd (S ||| BitVec.twoPow 256 p) 3).toNat] := by
  rw [with_word S p hp]
  have same : ∀ k, k ≠ p / 64 → wd (S ||| BitVec.twoPow 256 p) k = wd S k := by
    intro k hne
    rw [wd_or, wd_twoPow p k hp, if_neg hne]
    exact BitVec.or_zero
  have hk : p / 64 = 0 ∨ p / 64 = 1 ∨ p / 64 = 2 ∨ p / 64 = 3 := by omega
  rcases hk with e | e | e | e <;> rw [e] at same ⊢ <;>
    simp [same]
theorem grown_low {w w1 w2 : World} {base size n : Nat} {e : TypeId} {v : Value} {xs : List Value} (hown : w.ownsRow base e size v n xs) (hg : w1.grownBy w2 v.ownBlock) (b : Nat) (h : b < base) (hs : b < w1.heap.size) : w2.heap[b]? = w1.heap[b]? :=
  hg.block _ hs (fun e => by have := (hown.lt b e.symm).1; omega)
theorem grown_below {w w1 w2 a : World} {base size n B : Nat} {e : TypeId} {v : Value} {xs : List Value} (hown : w.ownsRow base e size v n xs) (hg : w1.grownBy w2 v.ownBlock) (hB : Below B a w1) (hle : B ≤ base) (hs : B ≤ w1.heap.size) : Below B a w2 :=
  hB.grown hg hs (fun k e => by have := (hown.lt k e).1; omega)
def ptsK (S : BitVec 256) (k : Nat) : List Nat := (List.range k).filter (fun p => S.getLsbD p)
def intsV (l : List Nat) : List Value := l.map (fun p : Nat => Value.int .i64 (p : Int))
theorem ptsK_succ (S : BitVec 256) (k : Nat) : ptsK S (k + 1) = if S.getLsbD k then ptsK S k ++ [k] else ptsK S k := by
  unfold ptsK
  rw [List.range_succ, List.filter_append]
  by_cases h : S.getLsbD k <;> simp [h]
theorem ptsK_len (S : BitVec 256) (k : Nat) : (ptsK S k).length ≤ k := by
  unfold ptsK
  exact Nat.le_trans (List.length_filter_le _ _) (by simp)
theorem Tryz.infoInt : (Tryz.prog.info? 3).map (fun i => (i.zero, i.size, i.bytes)) = some (some (.int .i64 0), 1, 8) := by kernel_rfl
theorem Tryz.infoBool : (Tryz.prog.info? 4).map (fun i => (i.zero, i.size, i.bytes)) = some (some (.bool false), 1, 1) := by kernel_rfl

set_option maxHeartbeats 1000000 in
set_option maxRecDepth 1000000 in
theorem list_any (S : BitVec 256) (w : World) :
    Calls Tryz.prog 22 #[sv S] w fun e w' => ∃ v, e = .returned v ∧ w'.ownsRow w.heap.size 3 1 v (pts S).length (intsV (pts S)) ∧ Below w.heap.size w w' := by
  obtain ⟨i0, hi, hz0, hz1, hz2⟩ := info_parts Tryz.infoInt
  unfold sv wv
  go_enter Tryz.func22, Tryz.ntmps22
  go_wp2
  go_loopw [3, 4, 5] (fun v _ i wr => ∃ k : Nat, k ≤ 256 ∧ i = .int .i64 k ∧ wr.ownsRow (w.heap.size + 1) 3 1 v (ptsK S k).length (intsV (ptsK S k)) ∧ wr.heap[w.heap.size]? = some (.cells (sa S) 50 (0, 0)) ∧ Below w.heap.size w wr) (fun _ _ i _ => 256 - (intOf i).toNat)
  case atStart => exact ⟨0, by omega, rfl, World.ownsRow_nil _ _ _ _, heap_alloc_new _ _, below_alloc1 _ _⟩
  case round =>
    obtain ⟨k, hk, rfl, hown, hblk, hb⟩ := hrel
    have hlen := ptsK_len S k
    by_cases hlt : k < 256
    · have hz : w.heap.size < wr.heap.size := size_of_block hblk
      have d0 : wr.cell? ⟨w.heap.size, 0, none⟩ = some (.int .u64 (wd S 0).toNat) := by rw [cell_of_block hblk]; rfl
      have d1 : wr.cell? ⟨w.heap.size, 1, none⟩ = some (.int .u64 (wd S 1).toNat) := by rw [cell_of_block hblk]; rfl
      have d2 : wr.cell? ⟨w.heap.size, 2, none⟩ = some (.int .u64 (wd S 2).toNat) := by rw [cell_of_block hblk]; rfl
      have d3 : wr.cell? ⟨w.heap.size, 3, none⟩ = some (.int .u64 (wd S 3).toNat) := by rw [cell_of_block hblk]; rfl
      by_cases hbit : S.getLsbD k
      · have H := has_any S k hlt wr
        rw [hbit] at H
        go_wp2_with fail
        refine H.mono ?_
        rintro e w1 ⟨rfl, hb1⟩
        have hown1 := owns_below hown hb1
        have hblk1 : w1.heap[w.heap.size]? = some (.cells (sa S) 50 (0, 0)) := by rw [hb1.block _ hz]; exact hblk
        have hb2 : Below w.heap.size w w1 := hb.trans (hb1.mono (by omega))
        have hsz1 : w.heap.size < w1.heap.size := size_of_block hblk1
        clear H d0 d1 d2 d3 hown hblk hb hb1
        go_wp2_with (at_builtin; go_loud (refine wpList_append_own _ rfl _ _ 45 rfl (w.heap.size + 1) 3 i0 (.int .i64 0) 1 8 Tryz.underlying45 hi hz0 hz1 hz2 rfl (by decide) _ _ _ rfl (hown1.alloc _) ⟨w1.heap.size, 0, none⟩ 1 1 [.int .i64 k] rfl rfl ?c1 ?c2 ?c3 ?c4 ?c5 ?_))
        case c1 => exact cell_one_new _ _ _
        case c2 => intro u hu; simp at hu; subst hu; rfl
        case c3 => unfold maxLen; omega
        case c4 => omega
        case c5 => simp; omega
        intro v' w2 hown2 hgrow _
        have hR : w2.heap[w.heap.size]? = some (.cells (sa S) 50 (0, 0)) ∧ Below w.heap.size w w2 := by
          exact ⟨((grown_low hown1 hgrow _ (by omega) (by simp; omega)).trans (Below.heap_alloc _ _ _ (by omega))).trans hblk1, grown_below hown1 hgrow (hb2.alloc (by omega) _) (by omega) (by simp; omega)⟩
        clear hgrow hown1 hblk1 hb2
        go_wp2
        go_roundw
        case rel => exact ⟨k + 1, by omega, by go_num, by rw [ptsK_succ, if_pos hbit]; simpa [intsV] using hown2, hR.1, hR.2⟩
        case measure => simp [intOf]; omega
      · have H := has_any S k hlt wr
        rw [show S.getLsbD k = false by simpa using hbit] at H
        go_wp2_with fail
        refine H.mono ?_
        rintro e w1 ⟨rfl, hb1⟩
        have hown1 := owns_below hown hb1
        have hblk1 : w1.heap[w.heap.size]? = some (.cells (sa S) 50 (0, 0)) := by rw [hb1.block _ hz]; exact hblk
        have hb2 : Below w.heap.size w w1 := hb.trans (hb1.mono (by omega))
        clear H d0 d1 d2 d3 hown hblk hb hb1
        go_wp2
        go_roundw
        case rel => exact ⟨k + 1, by omega, by go_num, by rw [ptsK_succ, if_neg hbit]; exact hown1, hblk1, hb2⟩
        case measure => simp [intOf]; omega
    · have e : k = 256 := by omega
      subst e
      go_wp2
      go_ret
      exact ⟨_, rfl, ownsRow_le hown (by omega), hb⟩
end Go.Proofs.YtdfllifjbabfjaaGreatDoor
namespace Go.Proofs.YtdfllifjbabfjaaGreatDoor
open Go.RowKit Go.Joins

/-- The slice v reads as l; the block it lies in is one of N. -/
def IntsN (w : World) (N : Nat → Prop) (v : Value) (l : List Int) : Prop :=
  ∃ A c, v = .slice A l.length c ∧ l.length ≤ 9223372036854775807 ∧
    (0 < l.length → ∃ b off, A = some ⟨b, off, none⟩ ∧ N b ∧ ∀ j x, l[j]? = some x → w.cell? ⟨b, off + j, none⟩ = some (.int .i64 x))
theorem IntsN.ints {w : World} {N : Nat → Prop} {v : Value} {l : List Int} {B : Nat} (h : IntsN w N v l) (hN : ∀ b, N b → b < B) : IntsAt w B v l := by
  obtain ⟨A, c, e, hl, h⟩ := h
  refine ⟨A, c, e, hl, fun h0 => ?_⟩
  obtain ⟨b, off, eA, hb, hc⟩ := h h0
  exact ⟨b, off, eA, hN b hb, hc⟩
theorem IntsN.keep {w w' : World} {N N' : Nat → Prop} {v : Value} {l : List Int} (h : IntsN w N v l) (hk : ∀ b, N b → w'.heap[b]? = w.heap[b]?) (hN : ∀ b, N b → N' b) : IntsN w' N' v l := by
  obtain ⟨A, c, e, hl, h⟩ := h
  refine ⟨A, c, e, hl, fun h0 => ?_⟩
  obtain ⟨b, off, eA, hb, hc⟩ := h h0
  refine ⟨b, off, eA, hN b hb, fun j x hx => ?_⟩
  rw [World.cell?_of_block (w := w) (a := ⟨b, off + j, none⟩) (hk b hb)]
  exact hc j x hx
theorem IntsN.one {w : World} {N : Nat → Prop} {v : Value} {l : List Int} (h : IntsN w N v l) : v.oneCell' = true := by
  obtain ⟨A, c, rfl, -⟩ := h
  rfl
theorem IntsAt.intsN {w : World} {N : Nat → Prop} {v : Value} {l : List Int} {B : Nat} (h : IntsAt w B v l) (hN : ∀ b off n c, v = .slice (some ⟨b, off, none⟩) n c → 0 < n → b < B → N b) : IntsN w N v l := by
  obtain ⟨A, c, rfl, hl, h⟩ := h
  refine ⟨A, c, rfl, hl, fun h0 => ?_⟩
  obtain ⟨b, off, rfl, hb, hc⟩ := h h0
  exact ⟨b, off, rfl, hN b off _ _ rfl h0 hb, hc⟩
/-- The values vs, which the row V holds, read as the rows K; none of them lies in V's own block. -/
def RowsIn (w : World) (V : Value) (K : List (List Int)) (vs : List Value) : Prop :=
  ∀ (j : Nat) (l : List Int), K[j]? = some l → ∃ v, vs[j]? = some v ∧ IntsN w (fun b => b < w.heap.size ∧ V.ownBlock ≠ some b) v l
theorem RowsIn.nil (w : World) (V : Value) : RowsIn w V [] [] := fun j l h => by simp at h
theorem RowsIn.below {w w' : World} {V : Value} {K : List (List Int)} {vs : List Value} (h : RowsIn w V K vs) (hb : Below w.heap.size w w') : RowsIn w' V K vs := by
  intro j l hj
  obtain ⟨v, hv, hi⟩ := h j l hj
  exact ⟨v, hv, hi.keep (fun b hN => hb.block b hN.1) (fun b hN => ⟨Nat.lt_of_lt_of_le hN.1 hb.size, hN.2⟩)⟩
theorem RowsIn.push {w w1 w2 : World} {V V' v : Value} {K : List (List Int)} {vs : List Value} {l : List Int} (h : RowsIn w V K vs) (hlen : vs.length = K.length) (hv : IntsN w (fun b => b < w.heap.size ∧ V.ownBlock ≠ some b) v l)
    (h1 : Below w.heap.size w w1) (hg : w1.grownBy w2 V.ownBlock) (hloc : V'.ownBlock = V.ownBlock ∨ V'.ownBlock = some w1.heap.size) : RowsIn w2 V' (K ++ [l]) (vs ++ [v]) := by
  have hk : ∀ b, (b < w.heap.size ∧ V.ownBlock ≠ some b) → w2.heap[b]? = w.heap[b]? := fun b hN =>
    (hg.block b (Nat.lt_of_lt_of_le hN.1 h1.size) (fun e => hN.2 e.symm)).trans (h1.block b hN.1)
  have hN : ∀ b, (b < w.heap.size ∧ V.ownBlock ≠ some b) → (b < w2.heap.size ∧ V'.ownBlock ≠ some b) := fun b hN => by
    refine ⟨Nat.lt_of_lt_of_le hN.1 (Nat.le_trans h1.size hg.size), fun e => ?_⟩
    rcases hloc with h2 | h2
    · exact hN.2 (h2.symm.trans e)
    · rw [h2] at e
      injection e with e
      have := h1.size
      omega
  intro j l' hj
  rcases Nat.lt_trichotomy j K.length with hlt | heq | hgt
  · rw [List.getElem?_append_left hlt] at hj
    obtain ⟨u, hu, hi⟩ := h j l' hj
    exact ⟨u, by rw [List.getElem?_append_left (by omega)]; exact hu, hi.keep hk hN⟩
  · subst heq
    rw [List.getElem?_append_right (Nat.le_refl _), Nat.sub_self] at hj
    injection hj with hj
    subst hj
    exact ⟨v, by rw [← hlen, List.getElem?_append_right (Nat.le_refl _), Nat.sub_self]; rfl, hv.keep hk hN⟩
  · rw [List.getElem?_eq_none (by simp; omega)] at hj
    cases hj
theorem RowsIn.mat {w : World} {B : Nat} {V : Value} {K : List (List Int)} {vs : List Value} (h : RowsIn w V K vs) (ho : w.ownsRow B 45 1 V K.length vs) : MatAt w w.heap.size V K := by
  rcases ho.2 with ⟨rfl, h0⟩ | ⟨g, cap, cur, rfl, hg, hgg, h1, h2, h3, h4⟩
  · have : K = [] := List.eq_nil_of_length_eq_zero h0
    subst this
    exact mat_nil _ _
  · have hm : maxLen = 9223372036854775807 := rfl
    refine ⟨_, cap, rfl, by omega, fun _ => ⟨g, 0, rfl, size_of_block hgg, fun j l hj => ?_⟩⟩
    obtain ⟨v, hv, hi⟩ := h j l hj
    refine ⟨v, ?_, hi.ints (fun b hN => hN.1)⟩
    rw [cell_of_block hgg]
    rw [← h4, List.getElem?_take] at hv
    split at hv
    · simpa using hv
    · cases hv
theorem Tryz.infoInts : (Tryz.prog.info? 45).map (fun i => (i.zero, i.size, i.bytes)) = some (some (.slice none 0 0), 1, 24) := by kernel_rfl
theorem one_new13 {w : World} {x : Value} {T : TypeId} (j : Nat) (u : Value) (hj : [x][j]? = some u) : (w.alloc (.cells #[x] T (0, 0))).cell? ((⟨w.heap.size, 0, none⟩ : Addr).add j) = some u := by
  match j, hj with
  | 0, hj => rw [Addr.add_lit, cell_of_block (heap_alloc_new _ _)]; exact hj

/-! ### Rows in their order -/
theorem lexL_irr : ∀ a : List Int, lexL a a = false
  | [] => rfl
  | x :: a => by rw [lexL, if_pos rfl]; exact lexL_irr a
theorem lexL_asym : ∀ {a b : List Int}, lexL a b = true → lexL b a = false
  | [], _, h => by simp [lexL] at h
  | _ :: _, [], h => by simp [lexL] at h
  | x :: a, y :: b, h => by
    unfold lexL at h ⊢
    by_cases e : x = y
    · rw [if_pos e] at h
      rw [if_pos e.symm]
      exact lexL_asym h
    · rw [if_neg e] at h
      rw [if_neg (fun e' => e e'.symm)]
      have := of_decide_eq_true h
      exact decide_eq_false (by omega)
theorem lexL_trans : ∀ {a b c : List Int}, lexL a b = true → lexL b c = true → lexL a c = true
  | [], _, _, h, _ => by simp [lexL] at h
  | _ :: _, [], _, h, _ => by simp [lexL] at h
  | _ :: _, _ :: _, [], _, h => by simp [lexL] at h
  | x :: a, y :: b, z :: c, h1, h2 => by
    unfold lexL at h1 h2 ⊢
    by_cases e : x = y
    · rw [if_pos e] at h1
      subst e
      by_cases e2 : x = z
      · rw [if_pos e2] at h2 ⊢
        exact lexL_trans h1 h2
      · rw [if_neg e2] at h2 ⊢
        exact h2
    · rw [if_neg e] at h1
      have := of_decide_eq_true h1
      by_cases e2 : y = z
      · subst e2
        rw [if_neg e]
        exact h1
      · rw [if_neg e2] at h2
        have := of_decide_eq_true h2
        rw [if_neg (by omega)]
        exact decide_eq_true (by omega)
theorem lexL_total : ∀ {a b : List Int}, a.length = b.length → a ≠ b → lexL a b = true ∨ lexL b a = true
  | [], [], _, h => absurd rfl h
  | [], _ :: _, h, _ => by simp at h
  | _ :: _, [], h, _ => by simp at h
  | x :: a, y :: b, h, hne => by
    unfold lexL
    by_cases e : x = y
    · rw [if_pos e, if_pos e.symm]
      subst e
      exact lexL_total (by simpa using h) (fun e => hne (by rw [e]))
    · rw [if_neg e, if_neg (fun e' => e e'.symm)]
      rcases Int.lt_or_lt_of_ne e with h | h
      · exact .inl (decide_eq_true h)
      · exact .inr (decide_eq_true h)
theorem ahead_iff {a b : List Int} : aheadL a b = true ↔ a.length < b.length ∨ a.length = b.length ∧ lexL a b = true := by
  unfold aheadL
  simp
theorem ahead_irr (a : List Int) : ¬ aheadL a a = true := by
  rw [ahead_iff, lexL_irr]
  simp
theorem ahead_asym {a b : List Int} (h : aheadL a b = true) : ¬ aheadL b a = true := by
  rw [ahead_iff] at h ⊢
  rcases h with h | ⟨h, h2⟩
  · intro h3
    rcases h3 with h3 | ⟨h3, -⟩ <;> omega
  · intro h3
    rcases h3 with h3 | ⟨h3, h4⟩
    · omega
    · rw [lexL_asym h2] at h4
      cases h4
theorem ahead_trans {a b c : List Int} (h1 : aheadL a b = true) (h2 : aheadL b c = true) : aheadL a c = true := by
  rw [ahead_iff] at h1 h2 ⊢
  rcases h1 with h1 | ⟨h1, g1⟩
  · rcases h2 with h2 | ⟨h2, -⟩
    · exact .inl (by omega)
    · exact .inl (by omega)
  · rcases h2 with h2 | ⟨h2, g2⟩
    · exact .inl (by omega)
    · exact .inr ⟨by omega, lexL_trans g1 g2⟩
theorem ahead_total {a b : List Int} (h : a ≠ b) : aheadL a b = true ∨ aheadL b a = true := by
  rw [ahead_iff, ahead_iff]
  rcases Nat.lt_trichotomy a.length b.length with h1 | h1 | h1
  · exact .inl (.inl h1)
  · rcases lexL_total h1 h with h2 | h2
    · exact .inl (.inr ⟨h1, h2⟩)
    · exact .inr (.inr ⟨h1.symm, h2⟩)
  · exact .inr (.inl h1)
/-- Two rising rows of the same members are one. -/
theorem ahead_ext : ∀ {l m : List (List Int)}, l.Pairwise (fun a b => aheadL a b = true) → m.Pairwise (fun a b => aheadL a b = true) → (∀ x, x ∈ l ↔ x ∈ m) → l = m
  | [], [], _, _, _ => rfl
  | [], y :: m, _, _, h => absurd ((h y).2 (List.mem_cons_self ..)) (by simp)
  | x :: l, [], _, _, h => absurd ((h x).1 (List.mem_cons_self ..)) (by simp)
  | x :: l, y :: m, hl, hm, h => by
    rw [List.pairwise_cons] at hl hm
    have e : x = y := by
      rcases List.mem_cons.1 ((h x).1 (List.mem_cons_self ..)) with e | hx
      · exact e
      · rcases List.mem_cons.1 ((h y).2 (List.mem_cons_self ..)) with e | hy
        · exact e.symm
        · exact absurd (hm.1 x hx) (ahead_asym (hl.1 y hy))
    subst e
    have : l = m := ahead_ext hl.2 hm.2 fun z => by
      constructor
      · intro hz
        rcases List.mem_cons.1 ((h z).1 (List.mem_cons_of_mem _ hz)) with e | h2
        · subst e; exact absurd (hl.1 z hz) (ahead_irr z)
        · exact h2
      · intro hz
        rcases List.mem_cons.1 ((h z).2 (List.mem_cons_of_mem _ hz)) with e | h2
        · subst e; exact absurd (hm.1 z hz) (ahead_irr z)
        · exact h2
    rw [this]
end Go.Proofs.YtdfllifjbabfjaaGreatDoor
