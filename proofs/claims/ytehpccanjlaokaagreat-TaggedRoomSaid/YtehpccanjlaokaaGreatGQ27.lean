/- A family of members: part, of. Of: a family of members, as it is called. -/
import Derived.Test.YtehpccanjlaokaaGreatGQ26
namespace Go.Proofs.YtehpccanjlaokaaGreat
open Go.RowKit Go.Joins

theorem bitz_of (p i : Nat) (hp : p < 16777216) : (bits BinOp.and IntKind.i64 ((p : Int) / 2 ^ i) 1 == 0) = !p.testBit i := by
  have e : ((p : Int) / 2 ^ i) = ((p / 2 ^ i : Nat) : Int) := by simp
  have hlt : p / 2 ^ i ≤ p := Nat.div_le_self _ _
  have h := i64_nat false (p / 2 ^ i) 1 (by omega) (by decide)
  simp only [Bool.false_eq_true, if_false] at h
  rw [e, show (1 : Int) = ((1 : Nat) : Int) from rfl, h, Nat.and_one_is_mod, Nat.testBit_eq_decide_div_mod_eq, Bool.eq_iff_iff]
  simp
  omega
/-- Two places of a row changed for one another. -/
def swap2 (l : List Nat) (i n : Nat) : List Nat := (l.set i (l.getD n 0)).set n (l.getD i 0)
theorem swap2_len (l : List Nat) (i n : Nat) : (swap2 l i n).length = l.length := by unfold swap2; simp
theorem swap2_get {l : List Nat} {i n : Nat} (hi : i < l.length) (hn : n < l.length) (j : Nat) : (swap2 l i n)[j]? = if j = n then l[i]? else if j = i then l[n]? else l[j]? := by
  unfold swap2
  rw [List.getElem?_set, List.getElem?_set]
  by_cases e : n = j
  · subst e
    rw [if_pos rfl, if_pos (by simpa using hn), if_pos rfl, List.getD_eq_getElem?_getD, List.getElem?_eq_getElem hi]; rfl
  · rw [if_neg e, if_neg (Ne.symm e)]
    by_cases e2 : i = j
    · subst e2
      rw [if_pos rfl, if_pos hi, if_pos rfl, List.getD_eq_getElem?_getD, List.getElem?_eq_getElem hn]; rfl
    · rw [if_neg e2, if_neg (Ne.symm e2)]
theorem swap2_mem {l : List Nat} {i n : Nat} (hi : i < l.length) (hn : n < l.length) (x : Nat) : x ∈ swap2 l i n ↔ x ∈ l := by
  simp only [List.mem_iff_getElem?, swap2_get hi hn]
  constructor
  · rintro ⟨j, hj⟩
    by_cases e : j = n
    · rw [if_pos e] at hj; exact ⟨_, hj⟩
    · rw [if_neg e] at hj
      by_cases e2 : j = i
      · rw [if_pos e2] at hj; exact ⟨_, hj⟩
      · rw [if_neg e2] at hj; exact ⟨_, hj⟩
  · rintro ⟨j, hj⟩
    by_cases e : j = n
    · refine ⟨i, ?_⟩
      by_cases e2 : i = n
      · rw [if_pos e2, e2]; rw [e] at hj; exact hj
      · rw [if_neg e2, if_pos rfl]; rw [e] at hj; exact hj
    · by_cases e2 : j = i
      · refine ⟨n, ?_⟩
        rw [if_pos rfl]; rw [e2] at hj; exact hj
      · refine ⟨j, ?_⟩
        rw [if_neg e, if_neg e2]; exact hj
/-- A block's cells from off on hold these numbers. -/
def Nums (X : Array Value) (off : Nat) (l : List Nat) : Prop := ∀ (j x : Nat), l[j]? = some x → X[off + j]? = some (.int .i64 (x : Int))
/-- .. and are the same beside. -/
def Beside (X X' : Array Value) (off n : Nat) : Prop := ∀ p, p < off ∨ off + n ≤ p → X'[p]? = X[p]?
theorem Nums.swap {X : Array Value} {off : Nat} {l : List Nat} (h : Nums X off l) {i n x y : Nat} (hi : l[i]? = some x) (hn : l[n]? = some y) :
    Nums ((X.setIfInBounds (off + i) (.int .i64 (y : Int))).setIfInBounds (off + n) (.int .i64 (x : Int))) off (swap2 l i n) := by
  have li := (List.getElem?_eq_some_iff.1 hi).1
  have ln := (List.getElem?_eq_some_iff.1 hn).1
  have si := (Array.getElem?_eq_some_iff.1 (h i x hi)).1
  have sn := (Array.getElem?_eq_some_iff.1 (h n y hn)).1
  intro j z hj
  rw [swap2_get li ln] at hj
  rw [Array.getElem?_setIfInBounds, Array.getElem?_setIfInBounds]
  by_cases e : j = n
  · subst e
    rw [if_pos rfl] at hj
    rw [if_pos rfl, if_pos (by simpa using sn)]
    rw [hi] at hj; injection hj with hj; rw [hj]
  · rw [if_neg e] at hj
    rw [if_neg (by omega)]
    by_cases e2 : j = i
    · subst e2
      rw [if_pos rfl] at hj
      rw [if_pos rfl, if_pos si]
      rw [hn] at hj; injection hj with hj; rw [hj]
    · rw [if_neg e2] at hj
      rw [if_neg (by omega)]
      exact h j z hj
theorem Beside.swap {X X' : Array Value} {off n i k : Nat} {u v : Value} (h : Beside X X' off n) (hi : i < n) (hk : k < n) : Beside X ((X'.setIfInBounds (off + i) u).setIfInBounds (off + k) v) off n := by
  intro p hp
  rw [Array.getElem?_setIfInBounds, Array.getElem?_setIfInBounds, if_neg (by omega), if_neg (by omega)]
  exact h p hp
/-- What part leaves behind. -/
def PartDone (w : World) (g off i : Nat) (X : Array Value) (l : List Nat) (e : Ending) (w' : World) : Prop :=
  ∃ (m : Nat) (X' : Array Value) (l' : List Nat), e = .returned (.int .i64 m) ∧ w'.heap[g]? = some (.cells X' 3 (0, 0)) ∧ Nums X' off l' ∧ l'.length = l.length ∧ Beside X X' off l.length ∧ (∀ x, x ∈ l' ↔ x ∈ l) ∧ m ≤ l.length ∧ (∀ (j x : Nat), l'[j]? = some x → x.testBit i = decide (m ≤ j)) ∧ Off (· = g) w w'
theorem Kz.of_one {M N : Nat → Prop} {w w' : World} {g : Nat} {X : Array Value} {z : Nat × Nat} (ho : Off (· = g) w w') (h : w.heap[g]? = some (.cells X 3 z)) (hN : ¬ N g) : Kz (· = g) M N w w' :=
  ⟨ho.os, ho.tape, ho.output, ho.size, fun k A T z hk _ _ hn => (ho.block k (size_of_block hk) hn).trans hk, fun k es cl hk _ => (ho.block k (size_of_block hk) (fun e => by rw [e, h] at hk; injection hk with hk; cases hk)).trans hk, fun k hk hl => ho.block k hl (fun e => hN (e ▸ hk))⟩
theorem ZdAt.one {N : Nat → Prop} {w w' : World} {zb ab bm g : Nat} {v : Value} {room full : Nat} {S : St} {X : Array Value} {z : Nat × Nat} (hd : ZdAt w N zb ab bm v room full S) (ho : Off (· = g) w w') (h : w.heap[g]? = some (.cells X 3 z)) : ZdAt w' N zb ab bm v room full S := by
  have hnf := hd.ar.not_fp h (by decide) (by decide)
  refine ⟨(ho.block zb (size_of_block hd.head) (fun e => by have := hd.head; rw [e, h] at this; injection this with this; injection this with _ this _; exact absurd this (by decide))).trans hd.head, hd.ar.same (fun q hq hl => ho.block q hl (fun e => hnf (e ▸ hq))), hd.ok, hd.zst, hd.gap, fun q hq => ⟨Nat.lt_of_lt_of_le (hd.off q hq).1 ho.size, (hd.off q hq).2⟩⟩
set_option maxHeartbeats 1000000 in
theorem zpart_any {w : World} {g off c i : Nat} {X : Array Value} {l : List Nat} (hg : w.heap[g]? = some (.cells X 3 (0, 0))) (hX : Nums X off l) (hi : i < 24) (hm : ∀ x ∈ l, x < 16777216) (hlen : l.length ≤ 1000000) :
    Calls Tryz.prog 85 #[.slice (some ⟨g, off, none⟩) l.length c, .int .i64 i] w (PartDone w g off i X l) := by
  go_enter Tryz.func85, Tryz.ntmps85
  go_wp2
  go_loopw [5, 10] (fun s t wr => ∃ (K n : Nat) (X' : Array Value) (l' : List Nat), K ≤ l.length ∧ n ≤ K ∧ s = .int .i64 n ∧ t = .int .i64 K ∧ wr.heap[g]? = some (.cells X' 3 (0, 0)) ∧ Nums X' off l' ∧ Hid (l'.length = l.length) ∧ Beside X X' off l.length ∧ (∀ x, x ∈ l' ↔ x ∈ l) ∧ (∀ (j x : Nat), j < K → l'[j]? = some x → x.testBit i = decide (n ≤ j)) ∧ Off (· = g) w wr) (fun _ t _ => l.length - (intOf t).toNat)
  case atStart => exact ⟨0, 0, X, l, by omega, by omega, rfl, rfl, hg, hX, Lib.hid rfl, fun _ _ => rfl, fun _ => Iff.rfl, fun j x hj => by omega, Off.refl _ _⟩
  case round =>
    obtain ⟨K, n, X', l', hK, hnK, rfl, rfl, hg', hX', hl', hbs, hmem, hbit, hk⟩ := hrel
    clear hg hX
    by_cases hlt : K < l.length
    · obtain ⟨x, hx⟩ : ∃ x, l'[K]? = some x := ⟨_, List.getElem?_eq_getElem (by have := hl'.out; omega)⟩
      obtain ⟨y, hy⟩ : ∃ y, l'[n]? = some y := ⟨_, List.getElem?_eq_getElem (by have := hl'.out; omega)⟩
      have hxm : x < 16777216 := hm x ((hmem x).1 (List.mem_of_getElem? hx))
      have c0 : wr.cell? ⟨g, off + K, none⟩ = some (.int .i64 (x : Int)) := by rw [cell_of_block hg']; exact hX' K x hx
      have c1 : wr.cell? ⟨g, off + n, none⟩ = some (.int .i64 (y : Int)) := by rw [cell_of_block hg']; exact hX' n y hy
      have cf : ∀ j : Nat, wr.frozen? ⟨g, j, none⟩ = false := unfrozen_of_block hg'
      have hbz := bitz_of x i hxm
      have hnl : (n : Int) < l.length := by omega
      cases hb : x.testBit i
      · rw [hb] at hbz
        have hKl : K < l'.length := by have := hl'.out; omega
        have hnl' : n < l'.length := by have := hl'.out; omega
        have hg2 : ((wr.setCell ⟨g, off + K, none⟩ (.int .i64 (y : Int))).setCell ⟨g, off + n, none⟩ (.int .i64 (x : Int))).heap[g]? = some (.cells ((X'.setIfInBounds (off + K) (.int .i64 (y : Int))).setIfInBounds (off + n) (.int .i64 (x : Int))) 3 (0, 0)) := by
          rw [block_setCell (block_setCell hg' _)]
        have hk2 := (hk.setCell (b := g) (o := off + K) (.inl rfl) (.int .i64 (y : Int))).setCell (b := g) (o := off + n) (.inl rfl) (.int .i64 (x : Int))
        have hX2 := hX'.swap hx hy
        have hbs2 := hbs.swap (i := K) (k := n) (u := .int .i64 (y : Int)) (v := .int .i64 (x : Int)) hlt (by omega)
        have hmem2 : ∀ z, z ∈ swap2 l' K n ↔ z ∈ l := fun z => (swap2_mem hKl hnl' z).trans (hmem z)
        have hbit2 : ∀ (j z : Nat), j < K + 1 → (swap2 l' K n)[j]? = some z → z.testBit i = decide (n + 1 ≤ j) := fun j z hj hz => by
          rw [swap2_get hKl hnl'] at hz
          by_cases e : j = n
          · rw [if_pos e, hx] at hz
            injection hz with hz
            rw [← hz, hb, decide_eq_false (by omega)]
          · rw [if_neg e] at hz
            by_cases e2 : j = K
            · rw [if_pos e2] at hz
              rw [hbit n z (by omega) hz, decide_eq_true (by omega), decide_eq_true (by omega)]
            · rw [if_neg e2] at hz
              rw [hbit j z (by omega) hz]
              by_cases h3 : n ≤ j
              · rw [decide_eq_true h3, decide_eq_true (by omega)]
              · rw [decide_eq_false h3, decide_eq_false (by omega)]
        have hl2 := Lib.hid ((swap2_len l' K n).trans hl'.out)
        have c2 : (wr.setCell ⟨g, off + K, none⟩ (.int .i64 (y : Int))).cell? ⟨g, off + n, none⟩ = some (.int .i64 (y : Int)) := by
          rw [cell_of_block (block_setCell hg' _)]
          show (X'.setIfInBounds (off + K) (.int .i64 (y : Int)))[off + n]? = _
          by_cases e : off + K = off + n
          · rw [← e, Array.getElem?_setIfInBounds, if_pos rfl, if_pos (Array.getElem?_eq_some_iff.1 (hX' K x hx)).1]
          · rw [Array.getElem?_setIfInBounds, if_neg e]
            exact hX' n y hy
        have cf2 : ∀ j : Nat, (wr.setCell ⟨g, off + K, none⟩ (.int .i64 (y : Int))).frozen? ⟨g, j, none⟩ = false := unfrozen_of_block (block_setCell hg' _)
        clear hx hy hX' hbs hmem hbit hg' hb hk hKl hnl'
        go_wp2
        go_roundw
        case rel => exact ⟨K + 1, n + 1, _, _, by omega, by omega, by go_num, by go_num, hg2, hX2, hl2, hbs2, hmem2, hbit2, hk2⟩
        case measure => simp [intOf]; omega
      · rw [hb] at hbz
        have hbit2 : ∀ (j z : Nat), j < K + 1 → l'[j]? = some z → z.testBit i = decide (n ≤ j) := fun j z hj hz => by
          by_cases e : j = K
          · rw [e, hx] at hz
            injection hz with hz
            rw [← hz, hb, decide_eq_true (by omega)]
          · exact hbit j z (by omega) hz
        clear hx hy hbit hb
        go_wp2
        go_roundw
        case rel => exact ⟨K + 1, n, X', l', by omega, by omega, rfl, by go_num, hg', hX', hl', hbs, hmem, hbit2, hk⟩
        case measure => simp [intOf]; omega
    · have hh : Hid (PartDone w g off i X l (.returned (.int .i64 n)) wr) := Lib.hid ⟨n, X', l', rfl, hg', hX', hl'.out, hbs, hmem, by omega, fun j x hx => hbit j x (by have := (List.getElem?_eq_some_iff.1 hx).1; have := hl'.out; omega) hx, hk⟩
      go_wp2
      go_ret
      exact hh.out

/-! ### of -/
/-- The family of the members of l, without the items before i. -/
def rowI (i : Nat) (l : List Nat) : Nat → Bool := fun n => decide (∃ x, x ∈ l ∧ x / 2 ^ i = n)
theorem rowI_iff {i : Nat} {l : List Nat} {n : Nat} : rowI i l n = true ↔ ∃ x, x ∈ l ∧ x / 2 ^ i = n := by unfold rowI; exact decide_eq_true_iff
theorem rowI_mem {i : Nat} {l l' : List Nat} (h : ∀ x, x ∈ l' ↔ x ∈ l) : rowI i l' = rowI i l := by
  funext n
  rw [Bool.eq_iff_iff, rowI_iff, rowI_iff]
  exact ⟨fun ⟨x, hx, e⟩ => ⟨x, (h x).1 hx, e⟩, fun ⟨x, hx, e⟩ => ⟨x, (h x).2 hx, e⟩⟩
theorem testBit_mod (x i : Nat) : x.testBit i = decide (x / 2 ^ i % 2 = 1) := Nat.testBit_eq_decide_div_mod_eq
theorem div_succ (x i : Nat) : x / 2 ^ (i + 1) = x / 2 ^ i / 2 := by rw [Nat.pow_succ, Nat.div_div_eq_div_mul]
theorem rowI_half {i m : Nat} {l' : List Nat} (hb : ∀ (j x : Nat), l'[j]? = some x → x.testBit i = decide (m ≤ j)) :
    half0 (rowI i l') = rowI (i + 1) (l'.take m) ∧ half1 (rowI i l') = rowI (i + 1) (l'.drop m) := by
  have h0 : ∀ (x : Nat), x ∈ l'.take m ↔ x ∈ l' ∧ x.testBit i = false := fun x => by
    constructor
    · intro h
      obtain ⟨j, hj⟩ := List.mem_iff_getElem?.1 h
      have hjm : j < m := by have := (List.getElem?_eq_some_iff.1 hj).1; rw [List.length_take] at this; omega
      rw [List.getElem?_take, if_pos hjm] at hj
      exact ⟨List.mem_of_getElem? hj, by rw [hb j x hj, decide_eq_false (by omega)]⟩
    · rintro ⟨h, hx⟩
      obtain ⟨j, hj⟩ := List.mem_iff_getElem?.1 h
      rw [hb j x hj] at hx
      have hjm : j < m := by have := of_decide_eq_false hx; omega
      exact List.mem_of_getElem? (i := j) (by rw [List.getElem?_take, if_pos hjm]; exact hj)
  have h1 : ∀ (x : Nat), x ∈ l'.drop m ↔ x ∈ l' ∧ x.testBit i = true := fun x => by
    constructor
    · intro h
      obtain ⟨j, hj⟩ := List.mem_iff_getElem?.1 h
      rw [List.getElem?_drop] at hj
      exact ⟨List.mem_of_getElem? hj, by rw [hb _ x hj, decide_eq_true (by omega)]⟩
    · rintro ⟨h, hx⟩
      obtain ⟨j, hj⟩ := List.mem_iff_getElem?.1 h
      rw [hb j x hj] at hx
      have hjm : m ≤ j := of_decide_eq_true hx
      exact List.mem_of_getElem? (i := j - m) (by rw [List.getElem?_drop, show m + (j - m) = j by omega]; exact hj)
  refine ⟨funext fun n => ?_, funext fun n => ?_⟩
  · rw [Bool.eq_iff_iff]
    show rowI i l' (2 * n) = true ↔ _
    rw [rowI_iff, rowI_iff]
    constructor
    · rintro ⟨x, hx, e⟩
      exact ⟨x, (h0 x).2 ⟨hx, by rw [testBit_mod]; exact decide_eq_false (by omega)⟩, by rw [div_succ]; omega⟩
    · rintro ⟨x, hx, e⟩
      obtain ⟨hx, hbx⟩ := (h0 x).1 hx
      rw [testBit_mod] at hbx
      rw [div_succ] at e
      have := of_decide_eq_false hbx
      exact ⟨x, hx, by omega⟩
  · rw [Bool.eq_iff_iff]
    show rowI i l' (2 * n + 1) = true ↔ _
    rw [rowI_iff, rowI_iff]
    constructor
    · rintro ⟨x, hx, e⟩
      exact ⟨x, (h1 x).2 ⟨hx, by rw [testBit_mod]; exact decide_eq_true (by omega)⟩, by rw [div_succ]; omega⟩
    · rintro ⟨x, hx, e⟩
      obtain ⟨hx, hbx⟩ := (h1 x).1 hx
      rw [testBit_mod] at hbx
      rw [div_succ] at e
      have := of_decide_eq_true hbx
      exact ⟨x, hx, by omega⟩
/-- The block of the members, beside these places as it was. -/
def BlkAt (w : World) (g : Nat) (X : Array Value) (off n : Nat) : Prop := ∃ X', w.heap[g]? = some (.cells X' 3 (0, 0)) ∧ Beside X X' off n
def ZofOk (D : Nat) : Prop := ∀ {N : Nat → Prop} {w : World} {zb ab bm g off c i : Nat} {A : Option Addr} {v : Value} {room full : Nat} {S : St} {X : Array Value} {l : List Nat}, ZdAt w N zb ab bm v room full S → w.heap[g]? = some (.cells X 3 (0, 0)) → (l ≠ [] → A = some ⟨g, off, none⟩ ∧ Nums X off l) → ¬ N g → l.length ≤ c → i + D = 24 → (∀ x ∈ l, x < 16777216) → l.length ≤ 1000000 →
  Calls Tryz.prog 56 #[.pointer (some ⟨zb, 0, none⟩), .slice A l.length c, .int .i64 i] w
    (MadeZ (· = g) (· = bm) N w zb ab bm room fun w' T id er => OutZ D room S (rowI i l) (tB D (rowI i l) (D * l.length)) T id er ∧ BlkAt w' g X off l.length)
structure OBox (w : World) (x n : Nat) (zb : Nat) (sl : Value) (i m : Nat) : Prop where
  z : w.heap[x]? = some (.cells #[.pointer (some ⟨zb, 0, none⟩)] 25 (0, 0))
  l : w.heap[x + 1]? = some (.cells #[sl] 36 (0, 0))
  i : w.heap[x + 1 + 1]? = some (.cells #[.int .i64 i] 3 (0, 0))
  m : w.heap[n]? = some (.cells #[.int .i64 m] 3 (0, 0))
theorem OBox.kz {C M N : Nat → Prop} {w w' : World} {x n zb : Nat} {sl : Value} {i m : Nat} (k : OBox w x n zb sl i m) (h : Kz C M N w w') (h0 : ¬ C x) (h1 : ¬ C (x + 1)) (h2 : ¬ C (x + 1 + 1)) (h3 : ¬ C n) : OBox w' x n zb sl i m :=
  ⟨h.cells _ _ _ _ k.z (by decide) (by decide) h0, h.cells _ _ _ _ k.l (by decide) (by decide) h1, h.cells _ _ _ _ k.i (by decide) (by decide) h2, h.cells _ _ _ _ k.m (by decide) (by decide) h3⟩
set_option maxHeartbeats 2000000 in
set_option maxRecDepth 100000 in
/-- The first half's members. -/
theorem zof10_any {C M N : Nat → Prop} {w : World} {zb ab bm room x n m c : Nat} {i : Nat} {A : Option Addr} {l : List Nat} {P : World → St → Int → Int → Prop} (hb : OBox w x n zb (.slice A l.length c) i m) (hm : m ≤ l.length) (hc : l.length ≤ c) (hi : i < 24)
    (H : ∀ y : After w, Calls Tryz.prog 56 #[.pointer (some ⟨zb, 0, none⟩), .slice A m c, .int .i64 ((i : Int) + 1)] y.1 (MadeZ C M N y.1 zb ab bm room P)) :
    Calls Tryz.prog 87 (#[.bool false] ++ #[.pointer (some ⟨x, 0, none⟩), .pointer (some ⟨x + 1, 0, none⟩), .pointer (some ⟨n, 0, none⟩), .pointer (some ⟨x + 1 + 1, 0, none⟩)]) w (MadeZ C M N w zb ab bm room P) := by
  obtain ⟨z0, -⟩ := boxz1 hb.z rfl
  obtain ⟨l0, -⟩ := boxz1 hb.l rfl
  obtain ⟨i0, -⟩ := boxz1 hb.i rfl
  obtain ⟨m0, -⟩ := boxz1 hb.m rfl
  have hmc : m ≤ c := by omega
  have hmi : (m : Int) ≤ c := by omega
  have hm0 : (0 : Int) ≤ m := by omega
  clear hb
  show Calls Tryz.prog _ #[.bool false, .pointer (some ⟨x, 0, none⟩), .pointer (some ⟨x + 1, 0, none⟩), .pointer (some ⟨n, 0, none⟩), .pointer (some ⟨x + 1 + 1, 0, none⟩)] w _
  go_enter Tryz.func87, Tryz.ntmps87
  go_wp2
  refine wp_region_mid_after 6 _ rfl rfl (by kernel_rfl) (by kernel_rfl) ?_
  simp only [List.take_succ_cons, List.take_zero, List.drop_succ_cons, List.drop_zero]
  repeat (first | go_big_quiet_step (fail))
  refine wpQuiet_nil ?_
  intro y K hK
  have Hy := H y
  have hKy : Kz C M N w y.1 := Kz.of_below y.2
  clear H z0 l0 i0 m0
  go_simp
  refine Hy.mono ?_
  rintro e w2 ⟨v2, full2, T, id, er, rfl, hd8, hk8, hP8⟩
  clear Hy
  refine hK.out _ _ ?_
  clear hK
  repeat (first | go_big_quiet_step (fail))
  refine wpQuiet_nil ?_
  go_wp2
  go_ret2
  exact ⟨v2, full2, T, id, er, rfl, hd8, hKy.trans hk8, hP8⟩
set_option maxHeartbeats 2000000 in
set_option maxRecDepth 100000 in
/-- The second half's members. -/
theorem zof11_any {C M N : Nat → Prop} {w : World} {zb ab bm room x n m c g off : Nat} {i : Nat} {l : List Nat} {P : World → St → Int → Int → Prop} (hb : OBox w x n zb (.slice (some ⟨g, off, none⟩) l.length c) i m) (hm : m ≤ l.length) (hc : l.length ≤ c) (hi : i < 24)
    (H : ∀ (y : After w), Calls Tryz.prog 56 #[.pointer (some ⟨zb, 0, none⟩), .slice (if c = m then some ⟨g, off, none⟩ else some ⟨g, off + m, none⟩) (l.length - m) (c - m), .int .i64 ((i : Int) + 1)] y.1 (MadeZ C M N y.1 zb ab bm room P)) :
    Calls Tryz.prog 87 (#[.bool true] ++ #[.pointer (some ⟨x, 0, none⟩), .pointer (some ⟨x + 1, 0, none⟩), .pointer (some ⟨n, 0, none⟩), .pointer (some ⟨x + 1 + 1, 0, none⟩)]) w (MadeZ C M N w zb ab bm room P) := by
  obtain ⟨z0, -⟩ := boxz1 hb.z rfl
  obtain ⟨l0, -⟩ := boxz1 hb.l rfl
  obtain ⟨i0, -⟩ := boxz1 hb.i rfl
  obtain ⟨m0, -⟩ := boxz1 hb.m rfl
  have hmc : m ≤ c := by omega
  have hmi : (m : Int) ≤ l.length := by omega
  have hmi2 : (m : Int) ≤ c := by omega
  have hci : (l.length : Int) ≤ c := by omega
  have hm0 : (0 : Int) ≤ m := by omega
  clear hb
  show Calls Tryz.prog _ #[.bool true, .pointer (some ⟨x, 0, none⟩), .pointer (some ⟨x + 1, 0, none⟩), .pointer (some ⟨n, 0, none⟩), .pointer (some ⟨x + 1 + 1, 0, none⟩)] w _
  go_enter Tryz.func87, Tryz.ntmps87
  go_wp2
  refine wp_region_mid_after 6 _ rfl rfl (by kernel_rfl) (by kernel_rfl) ?_
  simp only [List.take_succ_cons, List.take_zero, List.drop_succ_cons, List.drop_zero]
  repeat (first | go_big_quiet_step (fail))
  refine wpQuiet_nil ?_
  intro y K hK
  have Hy := H y
  have hKy : Kz C M N w y.1 := Kz.of_below y.2
  clear H z0 l0 i0 m0
  go_simp
  generalize (if c = m then some (⟨g, off, none⟩ : Addr) else some ⟨g, off + m, none⟩) = A' at *
  refine Hy.mono ?_
  rintro e w2 ⟨v2, full2, T, id, er, rfl, hd8, hk8, hP8⟩
  clear Hy
  refine hK.out _ _ ?_
  clear hK
  repeat (first | go_big_quiet_step (fail))
  refine wpQuiet_nil ?_
  go_wp2
  go_ret2
  exact ⟨v2, full2, T, id, er, rfl, hd8, hKy.trans hk8, hP8⟩
theorem Beside.trans {X Y Z : Array Value} {off n o m : Nat} (h : Beside X Y off n) (k : Beside Y Z o m) (h1 : off ≤ o) (h2 : o + m ≤ off + n) : Beside X Z off n := fun p hp => (k p (by omega)).trans (h p hp)
set_option maxHeartbeats 4000000 in
set_option maxRecDepth 100000 in
theorem zof_step (D : Nat) (IH : ∀ k, D = k + 1 → ZofOk k) : ZofOk D := by
    intro N w zb ab bm g off c i A v room full S X l hd hg hA hN hlc hiD hm hlen
    have hgl := size_of_block hg
    have hB3 := below_alloc3 w (.cells #[.pointer (some ⟨zb, 0, none⟩)] 25 (0, 0)) (.cells #[.slice A l.length c] 36 (0, 0)) (.cells #[.int .i64 i] 3 (0, 0))
    have ba := heap_alloc3_a w (.cells #[.pointer (some ⟨zb, 0, none⟩)] 25 (0, 0)) (.cells #[.slice A l.length c] 36 (0, 0)) (.cells #[.int .i64 i] 3 (0, 0))
    have bb := heap_alloc3_b w (.cells #[.pointer (some ⟨zb, 0, none⟩)] 25 (0, 0)) (.cells #[.slice A l.length c] 36 (0, 0)) (.cells #[.int .i64 i] 3 (0, 0))
    have bc := heap_alloc3_c w (.cells #[.pointer (some ⟨zb, 0, none⟩)] 25 (0, 0)) (.cells #[.slice A l.length c] 36 (0, 0)) (.cells #[.int .i64 i] 3 (0, 0))
    have hd3 := hd.below hB3
    have hg3 := keep_blk hB3 hg
    have hself : Beside X X off l.length := fun _ _ => rfl
    by_cases hl0 : l = []
    · have hO : Hid (OutZ D room S (rowI i l) (tB D (rowI i l) (D * l.length)) S 0 0) := Lib.hid (OutZ.stay hd.zst (by rw [lvl_end (.inl rfl)]; decide) (by rw [lvl_end (.inl rfl)]; omega) (funext fun n => by
        rw [zf_zero S D n (by omega), hl0]
        symm
        rw [Bool.eq_false_iff]
        intro h
        obtain ⟨x, hx, -⟩ := rowI_iff.1 h
        cases hx) _)
      have hlen0 : l.length = 0 := by rw [hl0]; rfl
      have hln := Lib.hid hlen0
      have hbk : BlkAt (((w.alloc (.cells #[.pointer (some ⟨zb, 0, none⟩)] 25 (0, 0))).alloc (.cells #[.slice A l.length c] 36 (0, 0))).alloc (.cells #[.int .i64 i] 3 (0, 0))) g X off l.length := ⟨X, hg3, hself⟩
      subst hl0
      clear hlen0 hA hd hg hg3 ba bb bc hself
      go_enter Tryz.func56, Tryz.ntmps56
      go_wp2_with fail
      go_ret2
      exact ⟨v, full, S, 0, 0, rfl, hd3, Kz.of_below hB3, hO.out, hbk⟩
    obtain ⟨rfl, hX⟩ := hA hl0
    have hn1 : 0 < l.length := List.length_pos_iff.2 hl0
    have hne0 : ((l.length : Int) == 0) = false := by rw [beq_eq_false_iff_ne]; omega
    cases D with
    | zero =>
      have hO : Hid (OutZ 0 room S (rowI i l) (tB 0 (rowI i l) (0 * l.length)) S 1 0) := Lib.hid (OutZ.stay hd.zst (by rw [lvl_end (.inr rfl)]; decide) (by rw [lvl_end (.inr rfl)]; omega) (funext fun n => by
        rw [zf_one S 0 n (by omega), Bool.eq_iff_iff, decide_eq_true_iff, rowI_iff]
        obtain rfl : i = 24 := by omega
        obtain ⟨x, hx⟩ := List.exists_mem_of_ne_nil l hl0
        constructor
        · rintro rfl
          exact ⟨x, hx, Nat.div_eq_of_lt (hm x hx)⟩
        · rintro ⟨y, hy, e⟩
          rw [← e]; exact Nat.div_eq_of_lt (hm y hy)) _)
      obtain rfl : i = 24 := by omega
      have hbk : BlkAt (((w.alloc (.cells #[.pointer (some ⟨zb, 0, none⟩)] 25 (0, 0))).alloc (.cells #[.slice (some ⟨g, off, none⟩) l.length c] 36 (0, 0))).alloc (.cells #[.int .i64 ((24 : Nat) : Int)] 3 (0, 0))) g X off l.length := ⟨X, hg3, hself⟩
      clear hA hd hg hg3 ba bb bc hself hX hl0
      go_enter Tryz.func56, Tryz.ntmps56
      go_wp2_with fail
      go_ret2
      exact ⟨v, full, S, 1, 0, rfl, hd3, Kz.of_below hB3, hO.out, hbk⟩
    | succ k =>
      replace IH : ZofOk k := IH k rfl
      have hi24 : i < 24 := by omega
      have hii : ((i : Int) == 24) = false := by rw [beq_eq_false_iff_ne]; omega
      have HP := zpart_any (c := c) hg3 hX hi24 hm hlen
      go_enter Tryz.func56, Tryz.ntmps56
      go_upto_region 5 with (fail)
      generalize ((w.alloc (.cells #[.pointer (some ⟨zb, 0, none⟩)] 25 (0, 0))).alloc (.cells #[.slice (some ⟨g, off, none⟩) l.length c] 36 (0, 0))).alloc (.cells #[.int .i64 i] 3 (0, 0)) = W at *
      obtain ⟨z0, -⟩ := nowz1 ba rfl
      obtain ⟨l0, -⟩ := nowz1 bb rfl
      obtain ⟨i0, -⟩ := nowz1 bc rfl
      go_wp2_with fail
      refine HP.mono ?_
      rintro e w2 ⟨m, X', l', rfl, hg2, hX2, hl2, hbs, hmem, hml, hbit, hk2⟩
      clear HP z0 l0 i0
      obtain ⟨h0, h1⟩ := rowI_half hbit
      have hrow := rowI_mem (i := i) hmem
      have lt' : (l'.take m).length = m := by rw [List.length_take]; omega
      have ld' : (l'.drop m).length = l.length - m := by rw [List.length_drop]; omega
      have hB5 := below_alloc1 w2 (.cells #[.int .i64 m] 3 (0, 0))
      have n5 := heap_alloc_new w2 (.cells #[.int .i64 m] 3 (0, 0))
      have hz3 : w.heap.size + 1 + 1 < W.heap.size := size_of_block bc
      have hK2 := Kz.of_one (M := (· = bm)) hk2 hg3 hN
      have hd2 := hd3.one hk2 hg3
      have hzW := hk2.size
      have ho : OBox (w2.alloc (.cells #[.int .i64 m] 3 (0, 0))) w.heap.size w2.heap.size zb (.slice (some ⟨g, off, none⟩) l.length c) i m :=
        ⟨keep_blk hB5 (hK2.cells _ _ _ _ ba (by decide) (by decide) (by omega)), keep_blk hB5 (hK2.cells _ _ _ _ bb (by decide) (by decide) (by omega)), keep_blk hB5 (hK2.cells _ _ _ _ bc (by decide) (by decide) (by omega)), n5⟩
      have hd5 := hd2.below hB5
      have hg5 := keep_blk hB5 hg2
      have hK5 : Kz (· = g) (· = bm) N w (w2.alloc (.cells #[.int .i64 m] 3 (0, 0))) := ((Kz.of_below hB3).trans hK2).more hB5
      clear hK2 hd2 hk2 hd3 hg3 ba bb bc hB5 n5 hd hg hg2 hB3
      go_upto_region 6 with (fail)
      have hzz : w2.heap.size < (w2.alloc (.cells #[.int .i64 m] 3 (0, 0))).heap.size := by simp
      generalize w2.alloc (.cells #[.int .i64 m] 3 (0, 0)) = W5 at *
      have hcast : (((i + 1 : Nat)) : Int) = (i : Int) + 1 := by omega
      have hcf2 : ∀ (args : Array Value) (w1 : World), (Sem.run Tryz.prog (callFunc 87 args) w1) = .ok (.enter 87 args) w1 := fun _ _ => by kernel_rfl
      have ngs : ∀ q, w.heap.size ≤ q → ¬ q = g := fun q hq e => by omega
      have hB : k * m + k * (l.length - m) + 1 ≤ (k + 1) * l.length := by
        rw [← Nat.mul_add, show m + (l.length - m) = l.length by omega, Nat.add_mul, Nat.one_mul]
        omega
      have HBd := zbuildT_any (C := (· = g)) (M := (· = bm)) (N := N) (w := W5) (zb := zb) (ab := ab) (bm := bm) (room := room) (S := S) (F := rowI i l') (F0 := rowI (i + 1) (l'.take m)) (F1 := rowI (i + 1) (l'.drop m))
        (fun w' _ => BlkAt w' g X' off m) (fun w' _ => BlkAt w' g X off l.length) (fun w' _ => BlkAt w' g X off l.length) 87 #[.pointer (some ⟨w.heap.size, 0, none⟩), .pointer (some ⟨w.heap.size + 1, 0, none⟩), .pointer (some ⟨w2.heap.size, 0, none⟩), .pointer (some ⟨w.heap.size + 1 + 1, 0, none⟩)] hcf2
        rfl (i : Int) k (tB k (rowI (i + 1) (l'.take m)) (k * m)) (tB k (rowI (i + 1) (l'.drop m)) (k * (l.length - m))) (tB (k + 1) (rowI i l') ((k + 1) * l.length)) (by omega) (by omega) h0 h1 (tB_both h0 h1 hB) (fun hc1 => tB_node h0 h1 hB hc1)
        (zof10_any ho hml hlc hi24 (fun y => by
          have HI := IH (c := c) (hd5.below y.2) (keep_blk y.2 hg5) (l := l'.take m) (A := some ⟨g, off, none⟩) (off := off) (i := i + 1) (fun _ => ⟨rfl, fun j x hj => by
            have hjm : j < m := by have := (List.getElem?_eq_some_iff.1 hj).1; rw [lt'] at this; exact this
            rw [List.getElem?_take, if_pos hjm] at hj
            exact hX2 j x hj⟩) hN (by rw [lt']; omega) (by omega) (fun x hx => hm x ((hmem x).1 (List.mem_of_mem_take hx))) (by rw [lt']; omega)
          rw [lt', hcast] at HI
          exact HI))
        (fun w1 v1 full1 T a hd6 hk6 hO6 hr6 => by
          obtain ⟨X2, hgX, hbX⟩ := hr6
          refine zof11_any (ho.kz hk6 (ngs _ (Nat.le_refl _)) (ngs _ (by omega)) (ngs _ (by omega)) (ngs _ (by omega))) hml hlc hi24 (fun y => ?_)
          have HI := IH (c := c - m) (hd6.below y.2) (keep_blk y.2 hgX) (l := l'.drop m) (A := if c = m then some ⟨g, off, none⟩ else some ⟨g, off + m, none⟩) (off := off + m) (i := i + 1) (fun hne => ⟨if_neg (fun e => hne (List.drop_eq_nil_of_le (by omega))), fun j x hj => by
            rw [List.getElem?_drop] at hj
            rw [hbX (off + m + j) (.inr (by omega)), Nat.add_assoc]
            exact hX2 (m + j) x hj⟩) hN (by rw [ld']; omega) (by omega) (fun x hx => hm x ((hmem x).1 (List.mem_of_mem_drop hx))) (by rw [ld']; omega)
          rw [ld', hcast] at HI
          exact HI.mono fun e w' hm' => hm'.mono fun U id er ho' => ⟨ho'.1, by
            obtain ⟨X3, hg3, hb3⟩ := ho'.2
            exact ⟨X3, hg3, (hbs.trans hbX (Nat.le_refl _) (by omega)).trans hb3 (by omega) (by omega)⟩⟩)
        (fun w' T hh => by obtain ⟨X3, hg3, hb3⟩ := hh; exact ⟨X3, hg3, hbs.trans hb3 (Nat.le_refl _) (by omega)⟩) (fun _ _ hh => hh)
        (fun w1 w2 U V hh hk _ _ _ => by obtain ⟨X3, hg3, hb3⟩ := hh; exact ⟨X3, hk.cells _ _ _ _ hg3 (by decide) (by decide) (fun h => h), hb3⟩)
      obtain ⟨z0, -⟩ := nowz1 ho.z rfl
      obtain ⟨i0, -⟩ := nowz1 ho.i rfl
      have hrowH := Lib.hid hrow
      clear IH hcf2 ho hd5 hg5 hX hX2 hbs hbit hmem h0 h1 hrow hself
      go_wp2_with fail
      refine HBd.mono ?_
      rintro e w6 ⟨v6, full6, T, id, er, rfl, hd8, hk8, hO8, hb8⟩
      have hO9 := Lib.hid (by have h9 := hO8.same hrowH.out; rw [hrowH.out] at h9; exact h9)
      clear HBd hO8
      go_wp2
      go_ret2
      exact ⟨v6, full6, T, id, er, rfl, hd8, hK5.trans hk8, hO9.out, hb8⟩
theorem zof_any (D : Nat) : ZofOk D := by
  induction D with
  | zero => exact zof_step 0 (fun k h => by omega)
  | succ k ih => exact zof_step (k + 1) (fun j h => by obtain rfl : j = k := by omega
                                                       exact ih)

def inmB (x : Int) : Bool := decide (0 ≤ x) && decide (x < 16777216)
theorem znomem_any (x : Int) (w : World) : Calls Tryz.prog 52 #[.int .i64 x] w fun e w' => e = .returned (.bool (!inmB x)) ∧ w = w' := by
  unfold inmB
  by_cases h : 0 ≤ x
  · have h' : ¬ x < 0 := by omega
    by_cases h2 : x < 16777216
    · have h3 : ¬ 16777216 ≤ x := by omega
      rw [decide_eq_true h, decide_eq_true h2]
      go_enter Tryz.func52, Tryz.ntmps52
      go_wp2
      go_ret
      exact ⟨rfl, rfl⟩
    · have h3 : 16777216 ≤ x := by omega
      rw [decide_eq_true h, decide_eq_false h2]
      go_enter Tryz.func52, Tryz.ntmps52
      go_wp2
      go_ret
      exact ⟨rfl, rfl⟩
  · have h' : x < 0 := by omega
    rw [decide_eq_false h]
    go_enter Tryz.func52, Tryz.ntmps52
    go_wp2
    go_ret
    exact ⟨rfl, rfl⟩
theorem zindexf_any {w : World} {v : Value} {zs : List Int} (hz : IntsAt w w.heap.size v zs) :
    Calls Tryz.prog 82 #[v, .func (.func 52) #[] #[]] w fun e w' => ∃ r : Int, e = .returned (.int .i64 r) ∧ decide (0 ≤ r) = zs.any (fun x => !inmB x) ∧ Below w.heap.size w w' := by
  obtain ⟨A, c, rfl, hl, hc⟩ := hz
  have HM := fun x w => znomem_any x w
  go_enter Tryz.func82, Tryz.ntmps82
  go_wp2
  go_loopw [8] (fun t wr => ∃ k : Nat, k ≤ zs.length ∧ t = .int .i64 k ∧ Hid ((zs.take k).any (fun x => !inmB x) = false) ∧ Below w.heap.size w wr) (fun t _ => zs.length - (intOf t).toNat)
  case atStart => exact ⟨0, by omega, rfl, Lib.hid rfl, Below.refl _ _⟩
  case round =>
    obtain ⟨k, hk, rfl, hno, hb⟩ := hrel
    by_cases hlt : k < zs.length
    · obtain ⟨b, off, rfl, hbl, hcell⟩ := hc (by omega)
      obtain ⟨x, hx⟩ : ∃ x, zs[k]? = some x := ⟨_, List.getElem?_eq_getElem hlt⟩
      have q := After.cell ⟨wr, hb⟩ (hcell k x hx)
      dsimp only at q
      have HMx := HM x wr
      have hsucc : Hid (∀ u, (!inmB x) = u → (zs.take (k + 1)).any (fun x => !inmB x) = u) := Lib.hid (fun u hu => by rw [List.take_add_one, hx, List.any_append, hno.out]; simp [hu])
      have hyes : Hid ((!inmB x) = true → zs.any (fun x => !inmB x) = true) := Lib.hid (fun hu => List.any_eq_true.2 ⟨x, List.mem_of_getElem? hx, hu⟩)
      clear hx hcell hc HM
      generalize hbx : (!inmB x) = bb at *
      cases bb
      · go_wp2_with fail
        refine HMx.mono ?_
        rintro e w1 ⟨rfl, rfl⟩
        go_wp2
        go_roundw
        case rel => exact ⟨k + 1, by omega, by go_num, Lib.hid (hsucc.out false rfl), hb⟩
        case measure => simp [intOf]; omega
      · have hyy := Lib.hid (hyes.out rfl)
        clear hyes
        go_wp2_with fail
        refine HMx.mono ?_
        rintro e w1 ⟨rfl, rfl⟩
        go_wp2
        go_ret
        exact ⟨k, rfl, by rw [hyy.out]; exact decide_eq_true (by omega), hb⟩
    · have hR : Hid (zs.any (fun x => !inmB x) = false) := Lib.hid (by have h := hno.out; rw [List.take_of_length_le (by omega)] at h; exact h)
      clear hno
      go_wp2
      go_ret
      exact ⟨-1, rfl, by rw [hR.out]; rfl, hb⟩
theorem zcontains_any {w : World} {v : Value} {zs : List Int} (hz : IntsAt w w.heap.size v zs) :
    Calls Tryz.prog 51 #[v, .func (.func 52) #[] #[]] w fun e w' => e = .returned (.bool (zs.any (fun x => !inmB x))) ∧ Below w.heap.size w w' := by
  have HI := zindexf_any hz
  obtain ⟨A, c, rfl, -, -⟩ := hz
  go_enter Tryz.func51, Tryz.ntmps51
  go_wp2_with fail
  refine HI.mono ?_
  rintro e w1 ⟨r, rfl, hr, hb⟩
  clear HI
  have hrH := Lib.hid hr
  clear hr
  go_wp2
  go_ret
  exact ⟨by rw [← hrH.out]; rfl, hb⟩
theorem intsV_nI (o : List Nat) : intsV o = (nI o).map (Value.int .i64) := by unfold intsV nI; rw [List.map_map]; rfl
set_option maxRecDepth 100000 in
theorem zclone_any (w : World) (v : Value) (o : List Nat) (h8 : o.length ≤ 1000) (hz : IntsAt w w.heap.size v (nI o)) :
    Calls Tryz.prog 53 #[v] w fun e w' => ∃ v', e = .returned v' ∧ w'.ownsRow w.heap.size 3 1 v' o.length (intsV o) ∧ Below w.heap.size w w' := by
  obtain ⟨A, c, rfl, hzl, hc⟩ := hz
  obtain ⟨i0, hi, hz0, hz1, hz2⟩ := info_parts Tryz.infoInt
  have q22 : ∀ (w : World) (a : Option Addr) (n c n' c' : Nat), (binOp .eql 36 (.slice a n c) (.slice none n' c')).run Tryz.prog w = .ok (.bool a.isNone) w := fun w a n c n' c' => Lib.run_eql_slice_nil w _ _ a n c n' c' Tryz.underlying36
  rw [nI_len] at hzl hc ⊢
  cases A with
  | none =>
    have h0 : o = [] := by
      cases o with
      | nil => rfl
      | cons x r => obtain ⟨b, off, e, _⟩ := hc (by simp); cases e
    subst h0
    clear hc
    go_enter Tryz.func53, Tryz.ntmps53
    go_wp2
    go_ret
    exact ⟨_, rfl, World.ownsRow_nil _ _ _ _, Below.refl _ _⟩
  | some a =>
    have A : Aside (0 < o.length → ∃ b off, some a = some (⟨b, off, none⟩ : Addr) ∧ b < w.heap.size ∧ ∀ j x, (nI o)[j]? = some x → w.cell? ⟨b, off + j, none⟩ = some (.int .i64 x)) := hc
    clear hc
    go_enter Tryz.func53, Tryz.ntmps53
    go_wp2_with (at_builtin; refine wpList_append_own _ rfl _ _ 36 rfl w.heap.size 3 i0 (.int .i64 0) 1 8 Tryz.underlying36 hi hz0 hz1 hz2 rfl (by decide) _ _ _ rfl (World.ownsRow_made w #[] 0 (Nat.le_refl _) (Nat.zero_le _) rfl) a o.length c (intsV o) rfl ?qc1 ?qc2 ?qc3 ?qc4 ?qc5 ?qc6 ?_)
    case qc1 => unfold intsV; simp
    case qc2 =>
      intro j u hj
      rw [intsV_nI, List.getElem?_map] at hj
      cases hx : (nI o)[j]? with
      | none => rw [hx] at hj; cases hj
      | some x =>
        rw [hx] at hj
        have hjl := (List.getElem?_eq_some_iff.1 hx).1
        rw [nI_len] at hjl
        obtain ⟨b, off, e, hb, hcell⟩ := A.out (by omega)
        injection e with e
        subst e
        rw [Addr.add_lit]
        refine Lib.cell?_alloc_some _ ?_
        rw [hcell j x hx]
        simpa using hj
    case qc3 => intro u hu; rw [intsV_nI] at hu; obtain ⟨x, _, rfl⟩ := List.mem_map.1 hu; rfl
    case qc4 => unfold maxLen; omega
    case qc5 => omega
    case qc6 => simp
    intro v' w1 hown hgrow hnil
    go_wp2
    go_ret
    refine ⟨v', rfl, by simpa using hown, ?_⟩
    exact ((Below.refl _ w).alloc (Nat.le_refl _) _).grown hgrow (by simp) (by intro k hk; simp [Value.ownBlock] at hk; omega)
/-- No members. -/
theorem zof_nil {N : Nat → Prop} {w : World} {zb ab bm c : Nat} {A : Option Addr} {v : Value} {room full : Nat} {S : St} (hd : ZdAt w N zb ab bm v room full S) :
    Calls Tryz.prog 56 #[.pointer (some ⟨zb, 0, none⟩), .slice A 0 c, .int .i64 0] w (MadeZ no8 (· = bm) N w zb ab bm room fun _ T id er => OutZ 24 room S (rowF []) (tB 24 (rowF []) (24 * ([] : List Nat).length)) T id er) := by
  have hB3 := below_alloc3 w (.cells #[.pointer (some ⟨zb, 0, none⟩)] 25 (0, 0)) (.cells #[.slice A 0 c] 36 (0, 0)) (.cells #[.int .i64 0] 3 (0, 0))
  have hd3 := hd.below hB3
  have hO : Hid (OutZ 24 room S (rowF []) (tB 24 (rowF []) (24 * ([] : List Nat).length)) S 0 0) := Lib.hid (OutZ.stay hd.zst (by rw [lvl_end (.inl rfl)]; decide) (by rw [lvl_end (.inl rfl)]; omega) (funext fun n => by
    rw [zf_zero S 24 n (by omega)]
    unfold rowF
    simp) _)
  clear hd
  go_enter Tryz.func56, Tryz.ntmps56
  go_wp2_with fail
  go_ret2
  exact ⟨v, full, S, 0, 0, rfl, hd3, Kz.of_below hB3, hO.out⟩
theorem rowI_zero (l : List Nat) : rowI 0 l = rowF l := by
  funext n
  rw [Bool.eq_iff_iff, rowI_iff]
  unfold rowF
  rw [decide_eq_true_iff]
  exact ⟨fun ⟨x, hx, e⟩ => by rw [Nat.pow_zero, Nat.div_one] at e; rw [← e]; exact hx, fun h => ⟨n, h, by rw [Nat.pow_zero, Nat.div_one]⟩⟩
theorem zOf1_any {C M N : Nat → Prop} {w : World} {zb ab bm room x y : Nat} {sl : Value} {P : World → St → Int → Int → Prop}
    (hz : w.heap[x]? = some (.cells #[.pointer (some ⟨zb, 0, none⟩)] 25 (0, 0))) (hs : w.heap[y]? = some (.cells #[sl] 36 (0, 0)))
    (H : Calls Tryz.prog 56 #[.pointer (some ⟨zb, 0, none⟩), sl, .int .i64 0] w (MadeZ C M N w zb ab bm room P)) :
    Calls Tryz.prog 55 #[.pointer (some ⟨x, 0, none⟩), .pointer (some ⟨y, 0, none⟩)] w (MadeZ C M N w zb ab bm room P) := by
  obtain ⟨z0, -⟩ := nowz1 hz rfl
  obtain ⟨s0, -⟩ := nowz1 hs rfl
  clear hz hs
  go_enter Tryz.func55, Tryz.ntmps55
  go_wp2_with fail
  refine H.mono ?_
  rintro e w2 ⟨v2, full2, T, id, er, rfl, hd8, hk8, hP8⟩
  clear H
  go_wp2
  go_ret2
  exact ⟨v2, full2, T, id, er, rfl, hd8, hk8, hP8⟩
theorem any_good {l : List Nat} (h : ∀ x ∈ l, x < 16777216) : (nI l).any (fun x => !inmB x) = false := by
  rw [List.any_eq_false]
  intro x hx
  unfold nI at hx
  obtain ⟨y, hy, rfl⟩ := List.mem_map.1 hx
  have := h y hy
  unfold inmB
  simp
  omega
set_option maxHeartbeats 2000000 in
theorem zOfT_any {N : Nat → Prop} {w : World} {zb ab bm : Nat} {v va : Value} {room full : Nat} {S : St} {l : List Nat} (h : ZdAt w N zb ab bm va room full S) (hz : IntsAt w w.heap.size v (nI l)) (hm : ∀ x ∈ l, x < 16777216) (hl : l.length ≤ 1000) :
    Calls Tryz.prog 24 #[.pointer (some ⟨zb, 0, none⟩), v] w (MadeZ no8 (· = bm) N w zb ab bm room (DoneZ (room ≤ cnt S + tB 24 (rowF l) (24 * l.length)) S (GoodT S (rowF l) (tB 24 (rowF l) (24 * l.length))))) := by
  have hB1 := below_alloc1 w (.cells #[.pointer (some ⟨zb, 0, none⟩)] 25 (0, 0))
  have b1 := heap_alloc_new w (.cells #[.pointer (some ⟨zb, 0, none⟩)] 25 (0, 0))
  have hz1 := (hz.below hB1).more hB1.size
  have HC := zcontains_any hz1
  rw [any_good hm] at HC
  have HCl := fun w1 (hb : Below (w.alloc (.cells #[.pointer (some ⟨zb, 0, none⟩)] 25 (0, 0))).heap.size (w.alloc (.cells #[.pointer (some ⟨zb, 0, none⟩)] 25 (0, 0))) w1) => zclone_any w1 v l hl ((hz1.below hb).more hb.size)
  have hd1 := h.below hB1
  obtain ⟨A, c, rfl, -, -⟩ := hz
  go_enter Tryz.func24, Tryz.ntmps24
  go_wp2_with fail
  refine HC.mono ?_
  rintro e w2 ⟨rfl, hb2⟩
  have HC2 := HCl w2 hb2
  have b2 := keep_blk hb2 b1
  have hB2 := hB1.trans (hb2.mono hB1.size)
  have hd2 := hd1.below hb2
  clear HC HCl b1 hd1 hz1
  obtain ⟨z0, -⟩ := nowz1 b2 rfl
  go_wp2_with fail
  refine HC2.mono ?_
  rintro e w3 ⟨v3, rfl, hrow, hb3⟩
  clear HC2 z0
  have b3 := keep_blk hb3 b2
  have hB3 := hB2.trans (hb3.mono hB2.size)
  have hd3 := hd2.below hb3
  have hB4 := below_alloc1 w3 (.cells #[v3] 36 (0, 0))
  have s4 := heap_alloc_new w3 (.cells #[v3] 36 (0, 0))
  have b4 := keep_blk hB4 b3
  have hd4 := hd3.below hB4
  have hcf : ∀ (args : Array Value) (w1 : World), (Sem.run Tryz.prog (callFunc 55 args) w1) = .ok (.enter 55 args) w1 := fun _ _ => by kernel_rfl
  have hNs := h.off
  have key : Calls Tryz.prog 54 #[.pointer (some ⟨zb, 0, none⟩), .func (.func 55) #[] #[.pointer (some ⟨w.heap.size, 0, none⟩), .pointer (some ⟨w3.heap.size, 0, none⟩)]] (w3.alloc (.cells #[v3] 36 (0, 0))) fun e w' => MadeZ no8 (· = bm) N w zb ab bm room (DoneZ (room ≤ cnt S + tB 24 (rowF l) (24 * l.length)) S (GoodT S (rowF l) (tB 24 (rowF l) (24 * l.length)))) e w' := by
    by_cases hl0 : l = []
    · subst hl0
      have hv3 : v3 = .slice none 0 0 ∨ ∃ g cap, v3 = .slice (some ⟨g, 0, none⟩) 0 cap := by
        rcases hrow.2 with ⟨e, _⟩ | ⟨g, cap, cur, e, _⟩
        · exact .inl e
        · exact .inr ⟨g, cap, e⟩
      obtain ⟨A3, c3, rfl⟩ : ∃ A3 c3, v3 = .slice A3 0 c3 := by
        rcases hv3 with e | ⟨g, cap, e⟩
        · exact ⟨_, _, e⟩
        · exact ⟨_, _, e⟩
      refine (zattempt_any (C := no8) (M := (· = bm)) (E := room ≤ cnt S + tB 24 (rowF []) (24 * ([] : List Nat).length)) (G := GoodT S (rowF []) (tB 24 (rowF []) (24 * ([] : List Nat).length))) 55 _ hcf hd4 rfl (zOf1_any b4 s4 ((zof_nil hd4).mono fun e w' hm => hm.mono fun T id er ho => ho.tried w'))).mono fun e w' hm => ?_
      exact hm.from (Kz.of_below (hB3.trans (hB4.mono hB3.size)))
    · have hn : 0 < l.length := List.length_pos_iff.2 hl0
      rcases hrow.2 with ⟨e, e0⟩ | ⟨g, cap, cur, e, hgb, hgc, hcap, hrest⟩
      · exact absurd e0 (by omega)
      · subst e
        have hX : Nums cur 0 l := fun j x hj => by
          have h1 := hrow.cellAt j (by have := (List.getElem?_eq_some_iff.1 hj).1; omega)
          rw [cell_of_block hgc] at h1
          rw [Nat.zero_add]
          refine Eq.trans h1 ?_
          exact intsV_at hj
        have hNg : ¬ N g := fun hn => by have := (hNs g hn).1; have := hB2.size; omega
        have HO := zof_any 24 (c := cap) hd4 (keep_blk hB4 hgc) (l := l) (A := some ⟨g, 0, none⟩) (off := 0) (i := 0) (fun _ => ⟨rfl, hX⟩) hNg hcap (by omega) hm (by omega)
        rw [rowI_zero] at HO
        refine (zattempt_any (C := (· = g)) (M := (· = bm)) (E := room ≤ cnt S + tB 24 (rowF l) (24 * l.length)) (G := GoodT S (rowF l) (tB 24 (rowF l) (24 * l.length))) 55 _ hcf hd4 rfl (zOf1_any b4 s4 (HO.mono fun e w' hm => hm.mono fun T id er ho => ho.1.tried w'))).mono fun e w' hm => ?_
        obtain ⟨v', f', T, id, er, q1, q2, q3, q4⟩ := hm
        exact ⟨v', f', T, id, er, q1, q2, ((Kz.of_below (C := (· = g)) (M := (· = bm)) (N := N) (hB3.trans (hB4.mono hB3.size))).trans q3).fresh (fun k hk => .inr (by rw [hk]; have := hB2.size; omega)) (fun k hk => .inl hk), q4⟩
  obtain ⟨z0, -⟩ := nowz1 b4 rfl
  obtain ⟨A3, c3, rfl⟩ := own_form8 hrow
  clear hrow b2 b3 hd2 hd3 hd4 hcf s4 hB3 hB2 hB1 hb2 hb3 hB4 b4 hm
  go_wp2_with fail
  refine key.mono ?_
  rintro e w6 ⟨v6, full6, T, id, er, rfl, hd6, hk6, hP6⟩
  clear key
  go_wp2
  go_ret2
  exact ⟨v6, full6, T, id, er, rfl, hd6, hk6, hP6⟩
theorem zOf_any {N : Nat → Prop} {w : World} {zb ab bm : Nat} {v va : Value} {room full : Nat} {S : St} {l : List Nat} (h : ZdAt w N zb ab bm va room full S) (hz : IntsAt w w.heap.size v (nI l)) (hm : ∀ x ∈ l, x < 16777216) (hl : l.length ≤ 1000) :
    Calls Tryz.prog 24 #[.pointer (some ⟨zb, 0, none⟩), v] w (MadeZ no8 (· = bm) N w zb ab bm room (DoneZ (room ≤ cnt S + 24 * l.length) S (GoodT S (rowF l) (24 * l.length)))) :=
  (zOfT_any h hz hm hl).mono fun _ _ hm => hm.mono fun _ _ _ ho => ho.less (tB_le _ _ _)
end Go.Proofs.YtehpccanjlaokaaGreat
