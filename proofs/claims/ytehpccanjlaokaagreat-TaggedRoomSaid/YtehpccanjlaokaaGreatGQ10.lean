/- An arena in memory: its own cells, its places, its map; what stays while only these are written. -/
import Derived.Test.YtehpccanjlaokaaGreatGQ06
import Derived.Test.YtehpccanjlaokaaGreatGQ09
import Derived.Maps.OwnSet
import Derived.DeepKeys4
namespace Go.Proofs.YtehpccanjlaokaaGreat
open Go.RowKit Go.Joins
open Go.Maps (Keyed)

/-- w' is w but for the blocks of F, and new ones. -/
structure Off (F : Nat → Prop) (w w' : World) : Prop where
  os : w'.os = w.os
  tape : w'.tape = w.tape
  output : w'.output = w.output
  size : w.heap.size ≤ w'.heap.size
  block : ∀ k, k < w.heap.size → ¬ F k → w'.heap[k]? = w.heap[k]?
theorem Off.refl (F : Nat → Prop) (w : World) : Off F w w := ⟨rfl, rfl, rfl, Nat.le_refl _, fun _ _ _ => rfl⟩
theorem Off.trans {F G : Nat → Prop} {a b c : World} (h : Off F a b) (k : Off G b c) (hF : ∀ x, x < a.heap.size → G x → F x) : Off F a c :=
  ⟨k.os.trans h.os, k.tape.trans h.tape, k.output.trans h.output, Nat.le_trans h.size k.size, fun i hi hn => (k.block i (Nat.lt_of_lt_of_le hi h.size) (fun g => hn (hF i hi g))).trans (h.block i hi hn)⟩
theorem Off.then {F : Nat → Prop} {a b c : World} (h : Off F a b) (k : Off F b c) : Off F a c := h.trans k fun _ _ g => g
theorem Off.of_below {F : Nat → Prop} {w w' : World} (h : Below w.heap.size w w') : Off F w w' := ⟨h.os, h.tape, h.output, h.size, fun k hk _ => h.block k hk⟩
theorem Off.mono {F G : Nat → Prop} {w w' : World} (h : Off F w w') (hF : ∀ x, F x → G x) : Off G w w' := ⟨h.os, h.tape, h.output, h.size, fun k hk hn => h.block k hk fun f => hn (hF k f)⟩
theorem Off.drew {F : Nat → Prop} {a w : World} (h : Off F a w) : Off F a w.drew := ⟨h.os, h.tape, h.output, h.size, h.block⟩
theorem Off.alloc {F : Nat → Prop} {a w : World} (h : Off F a w) (o : Obj) : Off F a (w.alloc o) :=
  ⟨h.os, h.tape, h.output, Nat.le_trans h.size (by simp), fun k hk hn => (Below.heap_alloc _ _ _ (Nat.lt_of_lt_of_le hk h.size)).trans (h.block k hk hn)⟩
theorem Off.more {F : Nat → Prop} {a w w' : World} (h : Off F a w) (k : Below w.heap.size w w') : Off F a w' := h.then (Off.of_below k)
theorem Off.setCell {F : Nat → Prop} {a w : World} (h : Off F a w) {b o : Nat} (hb : F b ∨ a.heap.size ≤ b) (u : Value) : Off F a (w.setCell ⟨b, o, none⟩ u) :=
  ⟨h.os, h.tape, h.output, by simpa [World.setCell] using h.size, fun k hk hn => (Below.heap_setCell _ _ _ _ (by rintro rfl; rcases hb with hb | hb; exact hn hb; exact absurd hk (Nat.not_lt.2 hb))).trans (h.block k hk hn)⟩
theorem Off.grown {F : Nat → Prop} {a w w' : World} {b : Nat} (h : Off F a w) (hg : w.grownBy w' (some b)) (hb : F b ∨ a.heap.size ≤ b) : Off F a w' :=
  ⟨hg.os.trans h.os, hg.tape.trans h.tape, hg.output.trans h.output, Nat.le_trans h.size hg.size, fun k hk hn => (hg.block k (Nat.lt_of_lt_of_le hk h.size) (by intro e; injection e with e; subst e; rcases hb with hb | hb; exact hn hb; exact absurd hk (Nat.not_lt.2 hb))).trans (h.block k hk hn)⟩
theorem Off.grownNew {F : Nat → Prop} {a w w' : World} {r : Option Nat} (h : Off F a w) (hg : w.grownBy w' r) (hb : ∀ b, r = some b → F b ∨ a.heap.size ≤ b) : Off F a w' :=
  ⟨hg.os.trans h.os, hg.tape.trans h.tape, hg.output.trans h.output, Nat.le_trans h.size hg.size, fun k hk hn => (hg.block k (Nat.lt_of_lt_of_le hk h.size) (by intro e; rcases hb k e.symm with hb | hb; exact hn hb; exact absurd hk (Nat.not_lt.2 hb))).trans (h.block k hk hn)⟩
theorem Off.below {F : Nat → Prop} {w w' : World} {B : Nat} (h : Off F w w') (hB : B ≤ w.heap.size) (hF : ∀ k, F k → B ≤ k) : Below B w w' :=
  ⟨h.os, h.tape, h.output, h.size, fun k hk => h.block k (Nat.lt_of_lt_of_le hk hB) fun f => absurd hk (Nat.not_lt.2 (hF k f))⟩

theorem flat4_get {α : Type} (f : α → List Value) (hf : ∀ x, (f x).length = 4) : ∀ (l : List α) (i k : Nat) (x : α), l[i]? = some x → k < 4 → (l.flatMap f)[i * 4 + k]? = (f x)[k]?
  | [], i, k, x, h, _ => by simp at h
  | y :: l, 0, k, x, h, hk => by
    simp at h
    subst h
    rw [List.flatMap_cons, List.getElem?_append_left (by rw [hf]; omega)]
    congr 1
    omega
  | y :: l, i + 1, k, x, h, hk => by
    rw [List.flatMap_cons, List.getElem?_append_right (by rw [hf]; omega), hf, show (i + 1) * 4 + k - 4 = i * 4 + k by omega]
    exact flat4_get f hf l i k x (by simpa using h) hk
theorem flat4_set {α : Type} (f : α → List Value) (hf : ∀ x, (f x).length = 4) (y : α) {v0 v1 v2 v3 : Value} (hy : f y = [v0, v1, v2, v3]) : ∀ (l : List α) (i : Nat), i < l.length →
    ((((l.flatMap f).set (i * 4) v0).set (i * 4 + 1) v1).set (i * 4 + 2) v2).set (i * 4 + 3) v3 = (l.set i y).flatMap f
  | [], i, h => by simp at h
  | x :: l, 0, _ => by
    obtain ⟨a, b, c, d, hx⟩ : ∃ a b c d, f x = [a, b, c, d] := by
      match hfx : f x, hf x with
      | [a, b, c, d], _ => exact ⟨a, b, c, d, rfl⟩
    simp [List.flatMap_cons, hx, hy]
  | x :: l, i + 1, h => by
    obtain ⟨a, b, c, d, hx⟩ : ∃ a b c d, f x = [a, b, c, d] := by
      match hfx : f x, hf x with
      | [a, b, c, d], _ => exact ⟨a, b, c, d, rfl⟩
    have ih := flat4_set f hf y hy l i (by simpa using h)
    have e : (i + 1) * 4 = i * 4 + 1 + 1 + 1 + 1 := by omega
    rw [List.flatMap_cons, hx, e]
    simp only [List.cons_append, List.nil_append, List.set_cons_succ, List.flatMap_cons, hx]
    rw [ih]
/-- A struct of four cells is stored into a row that is owned. -/
theorem own_put4 {w : World} {base g n cap i : Nat} {e : TypeId} {α : Type} {f : α → List Value} {l : List α} (h : w.ownsRow base e 4 (.slice (some ⟨g, 0, none⟩) n cap) n (l.flatMap f)) (hf : ∀ x, (f x).length = 4) (y : α)
    {v0 v1 v2 v3 : Value} (hy : f y = [v0, v1, v2, v3]) (hi : i < l.length) :
    ((((w.setCell ⟨g, i * 4, none⟩ v0).setCell ⟨g, i * 4 + 1, none⟩ v1).setCell ⟨g, i * 4 + 2, none⟩ v2).setCell ⟨g, i * 4 + 3, none⟩ v3).ownsRow base e 4 (.slice (some ⟨g, 0, none⟩) n cap) n ((l.set i y).flatMap f) ∧
    w.grownBy ((((w.setCell ⟨g, i * 4, none⟩ v0).setCell ⟨g, i * 4 + 1, none⟩ v1).setCell ⟨g, i * 4 + 2, none⟩ v2).setCell ⟨g, i * 4 + 3, none⟩ v3) (some g) := by
  obtain ⟨o0, g0⟩ := h.stored (i * 4) v0
  obtain ⟨o1, g1⟩ := o0.stored (i * 4 + 1) v1
  obtain ⟨o2, g2⟩ := o1.stored (i * 4 + 2) v2
  obtain ⟨o3, g3⟩ := o2.stored (i * 4 + 3) v3
  rw [flat4_set f hf y hy l i hi] at o3
  exact ⟨o3, grown_set (grown_set (grown_set g0))⟩

/-! ### Places -/
def ndV (n : Nd) : Value := .agg #[.int .i64 n.1, .int .i64 n.2.1, .int .i64 n.2.2]
def slotL : Option Nd → List Value
  | none => [.int .i64 0, .int .i64 0, .int .i64 0, .bool false]
  | some n => [.int .i64 n.1, .int .i64 n.2.1, .int .i64 n.2.2, .bool true]
theorem slotL_len (o : Option Nd) : (slotL o).length = 4 := by cases o <;> rfl
def slotsV (S : St) : List Value := S.flatMap slotL
theorem slots_at {w : World} {base g cap : Nat} {S : St} {i : Nat} {o : Option Nd} (h : w.ownsRow base 170 4 (.slice (some ⟨g, 0, none⟩) S.length cap) S.length (slotsV S)) (hi : S[i]? = some o) :
    w.cell? ⟨g, i * 4, none⟩ = (slotL o)[0]? ∧ w.cell? ⟨g, i * 4 + 1, none⟩ = (slotL o)[1]? ∧ w.cell? ⟨g, i * 4 + 2, none⟩ = (slotL o)[2]? ∧ w.cell? ⟨g, i * 4 + 3, none⟩ = (slotL o)[3]? := by
  have hl := (List.getElem?_eq_some_iff.1 hi).1
  refine ⟨?_, ?_, ?_, ?_⟩
  · rw [h.cellAt (i * 4) (by omega)]; exact flat4_get slotL slotL_len S i 0 o hi (by omega)
  · rw [h.cellAt (i * 4 + 1) (by omega)]; exact flat4_get slotL slotL_len S i 1 o hi (by omega)
  · rw [h.cellAt (i * 4 + 2) (by omega)]; exact flat4_get slotL slotL_len S i 2 o hi (by omega)
  · rw [h.cellAt (i * 4 + 3) (by omega)]; exact flat4_get slotL slotL_len S i 3 o hi (by omega)

/-! ### The map -/
def klN (n : Nd) : Lit := .string (keyBytes [.int .i64 n.1, .int .i64 n.2.1, .int .i64 n.2.2])
def wfN (n : Nd) : Prop := (Lit.int .i64 n.1).wf = true ∧ (Lit.int .i64 n.2.1).wf = true ∧ (Lit.int .i64 n.2.2).wf = true
theorem Tryz.keyNode : Tryz.prog.keyType 145 = true := by kernel_rfl
theorem Tryz.cellsNode : Tryz.prog.cellsOf 145 = 3 := by kernel_rfl
theorem Tryz.cellsInt1 : Tryz.prog.cellsOf 3 = 1 := by kernel_rfl
theorem key_nd {n : Nd} (h : wfN n) : keyOf Tryz.prog 145 (ndV n) = some (klN n) := by
  obtain ⟨h0, h1, h2⟩ := h
  have hm : ∃ m, Tryz.prog.types.size = m + 1 := ⟨Tryz.prog.types.size - 1, by have : 0 < Tryz.prog.types.size := of_decide_eq_true (by kernel_rfl); omega⟩
  obtain ⟨m, hm⟩ := hm
  unfold keyOf ndV
  simp only [Tryz.underlying145]
  rw [if_pos (by simp [Tryz.keyNode, Value.formed, Tryz.underlying145, Tryz.cellsNode]), hm]
  unfold Program.keyLits
  simp [Tryz.underlying145, Tryz.cellsNode, Value.cells, Program.keyLits, Tryz.underlying3, Tryz.cellsInt1, h0, h1, h2, klN]
theorem Tryz.nodeKeyed : Keyed Tryz.prog 145 := Keyed.of_law (deep_law_laid Tryz.laidOut (m := 3) (by omega) (of_decide_eq_true (by kernel_rfl)) (by kernel_rfl) (by kernel_rfl))
theorem kl_inj {a b : Nd} (ha : wfN a) (hb : wfN b) (h : klN a = klN b) : a = b := by
  have e := Tryz.nodeKeyed.inj (key_nd ha) (h ▸ key_nd hb)
  unfold ndV at e
  simp at e
  obtain ⟨h0, h1, h2⟩ := e
  exact Prod.ext h0 (Prod.ext h1 h2)
theorem isKey_nd {a : Nd} (ha : wfN a) : WideAt.IsKeyLit (klN a) := Tryz.nodeKeyed.key (key_nd ha)
/-- The map's datum has the places' nodes, each with its id. -/
structure Tie (D : DataW Unit) (S : St) : Prop where
  size : Maps.size D = cnt S
  has : ∀ n, wfN n → Maps.has D (klN n) = (whereN S n).isSome
  at_ : ∀ (i : Nat) (n : Nd), S[i]? = some (some n) → D.atKey (klN n) (.lit (.int .i64 0)) = .lit (.int .i64 ((i : Int) + 2))
def MapIs (w : World) (bm : Nat) (S : St) : Prop := ∃ D, w.ownsMap Tryz.prog 145 (plainElem Tryz.prog 3) bm (Maps.size D) D ∧ Tie D S
theorem wfN_ok {S : St} {n : Nd} (hl : S.length ≤ 20000) (h : okN S n = true) : wfN n := by
  obtain ⟨h0, h1, h2, h3⟩ := (okN_iff _ _).1 h
  have hid : ∀ id : Int, n.1 < lvl S id → (Lit.int .i64 id).wf = true := fun id hlt => by
    rcases lvl_kind (S := S) (id := id) (by omega) with he | ⟨j, m, e, hm, _⟩
    · rcases he with rfl | rfl <;> decide
    · have := (List.getElem?_eq_some_iff.1 hm).1
      exact WalkArith.wf_i64 (by omega)
  exact ⟨WalkArith.wf_i64 (by omega), hid _ h2, hid _ h3⟩
/-- A map is as large as its datum. -/
theorem own_size {w : World} {b n : Nat} {D : DataW Unit} (h : w.ownsMap Tryz.prog 145 (plainElem Tryz.prog 3) b n D) : w.ownsMap Tryz.prog 145 (plainElem Tryz.prog 3) b (Maps.size D) D := by
  obtain ⟨es, clock, hb, F, hs, rfl⟩ := h
  exact ⟨es, clock, hb, F, by simp [Maps.size, length_sorted], rfl⟩
theorem MapIs.made (w : World) : MapIs (w.alloc (.map #[] 0)) w.heap.size [] :=
  ⟨.map [], World.ownsMap_made w _ _ _, ⟨rfl, fun _ _ => rfl, fun i n h => by simp at h⟩⟩
theorem MapIs.keep {w w' : World} {bm : Nat} {S : St} (h : MapIs w bm S) (hb : w'.heap[bm]? = w.heap[bm]?) : MapIs w' bm S := by
  obtain ⟨D, ⟨es, clock, hm, r⟩, ht⟩ := h
  exact ⟨D, ⟨es, clock, hb.trans hm, r⟩, ht⟩
theorem MapIs.lt {w : World} {bm : Nat} {S : St} (h : MapIs w bm S) : bm < w.heap.size := by
  obtain ⟨D, h, _⟩ := h; exact h.lt
theorem MapIs.obj {w : World} {bm : Nat} {S : St} (h : MapIs w bm S) : ∃ es clock, w.heap[bm]? = some (.map es clock) := by
  obtain ⟨D, ⟨es, clock, hm, _⟩, _⟩ := h; exact ⟨es, clock, hm⟩
theorem MapIs.ne {w : World} {bm : Nat} {S : St} (h : MapIs w bm S) {k : Nat} {C : Array Value} {T : TypeId} {z : Nat × Nat} (hk : w.heap[k]? = some (.cells C T z)) : bm ≠ k := by
  intro e
  subst e
  obtain ⟨es, clock, hm⟩ := h.obj
  rw [hm] at hk
  injection hk with hk
  cases hk
theorem MapIs.ne_own {w : World} {bm : Nat} {S : St} (h : MapIs w bm S) {base size n : Nat} {e : TypeId} {v : Value} {xs : List Value} (hr : w.ownsRow base e size v n xs) : v.ownBlock ≠ some bm := by
  rcases hr.2 with ⟨rfl, _⟩ | ⟨g, cap, cur, rfl, _, hg, _⟩
  · simp [Value.ownBlock]
  · intro e
    have e2 : g = bm := by simpa [Value.ownBlock] using e
    exact h.ne hg e2.symm
theorem Tie.put {D : DataW Unit} {S : St} (h : Tie D S) (hT : Maps.Tidy D) {i : Nat} {n : Nd} (hi : i ≤ S.length) (hf : ∀ m, S[i]? ≠ some (some m)) (hn : wfN n) (hw : whereN S n = none) (hV : ∀ (j : Nat) (m : Nd), S[j]? = some (some m) → wfN m) (hV' : VSt (putS S i n)) :
    Tie (D.put (klN n) (.lit (.int .i64 ((i : Int) + 2)))) (putS S i n) := by
  refine ⟨?_, fun m hm => ?_, fun j m hj => ?_⟩
  · rw [Maps.size_put hT, h.has n hn, hw, cnt_put hi hf, h.size]; rfl
  · by_cases e : m = n
    · subst e
      rw [Maps.has_put_same hT.isMap (isKey_nd hm), whereN_eq hV' (putS_get hi)]; rfl
    · have hne : klN m ≠ klN n := fun x => e (kl_inj hm hn x)
      rw [Maps.has_put_other hne, h.has m hm]
      cases hx : whereN S m with
      | some j =>
        have hj := whereN_some hx
        have hji : j ≠ i := fun x => hf m (x ▸ hj)
        rw [whereN_eq hV' ((putS_other hji hi).trans hj)]
      | none =>
        cases hy : whereN (putS S i n) m with
        | none => rfl
        | some j =>
          have hj := whereN_some hy
          by_cases hji : j = i
          · subst hji
            rw [putS_get hi] at hj
            injection hj with hj; injection hj with hj
            exact absurd hj.symm e
          · rw [putS_other hji hi] at hj
            exact absurd hj (whereN_none hx j)
  · by_cases hji : j = i
    · subst hji
      rw [putS_get hi] at hj
      injection hj with hj; injection hj with hj
      subst hj
      exact Maps.atKey_put_same hT.isMap (isKey_nd hn) _ _
    · rw [putS_other hji hi] at hj
      have hne : klN m ≠ klN n := fun x => by
        have := kl_inj (hV j m hj) hn x
        subst this
        exact absurd hj (whereN_none hw j)
      rw [Maps.atKey_put_other hne]
      exact h.at_ j m hj
theorem Tie.del {D : DataW Unit} {S : St} (h : Tie D S) (hT : Maps.Tidy D) {i : Nat} {n : Nd} (hi : S[i]? = some (some n)) (hn : wfN n) (hV : ∀ (j : Nat) (m : Nd), S[j]? = some (some m) → wfN m) (h1 : ∀ (i j : Nat) (n : Nd), S[i]? = some (some n) → S[j]? = some (some n) → i = j) :
    Tie (D.del (klN n)) (S.set i none) := by
  have hl := (List.getElem?_eq_some_iff.1 hi).1
  have hw : ∀ m : Nd, m ≠ n → whereN (S.set i none) m = whereN S m := fun m hm => by
    cases hx : whereN S m with
    | some j =>
      have hj := whereN_some hx
      have hji : j ≠ i := fun x => hm (by subst x; rw [hi] at hj; injection hj with hj; injection hj with hj; exact hj.symm)
      cases hy : whereN (S.set i none) m with
      | none => exact absurd ((List.getElem?_set_ne (Ne.symm hji)).trans hj) (whereN_none hy j)
      | some k =>
        have hk := whereN_some hy
        have hki : k ≠ i := fun x => by subst x; rw [List.getElem?_set_self hl] at hk; injection hk with hk; cases hk
        rw [List.getElem?_set_ne (Ne.symm hki)] at hk
        rw [h1 j k m hj hk]
    | none =>
      cases hy : whereN (S.set i none) m with
      | none => rfl
      | some k =>
        have hk := whereN_some hy
        have hki : k ≠ i := fun x => by subst x; rw [List.getElem?_set_self hl] at hk; injection hk with hk; cases hk
        rw [List.getElem?_set_ne (Ne.symm hki)] at hk
        exact absurd hk (whereN_none hx k)
  refine ⟨?_, fun m hm => ?_, fun j m hj => ?_⟩
  · have h2 := Maps.size_del (k := klN n) hT
    have h3 := h.has n hn
    have h4 : (whereN S n).isSome = true := by
      cases hx : whereN S n with
      | none => exact absurd hi (whereN_none hx i)
      | some _ => rfl
    rw [h3, h4, if_pos rfl, h.size] at h2
    have h5 := cnt_unset hi
    omega
  · by_cases e : m = n
    · subst e
      rw [Maps.has_del_same]
      cases hy : whereN (S.set i none) m with
      | none => rfl
      | some k =>
        have hk := whereN_some hy
        have hki : k ≠ i := fun x => by subst x; rw [List.getElem?_set_self hl] at hk; injection hk with hk; cases hk
        rw [List.getElem?_set_ne (Ne.symm hki)] at hk
        exact absurd (h1 k i m hk hi) hki
    · rw [Maps.has_del_other (fun x => e (kl_inj hm hn x)), h.has m hm, hw m e]
  · have hji : j ≠ i := fun x => by subst x; rw [List.getElem?_set_self hl] at hj; injection hj with hj; cases hj
    rw [List.getElem?_set_ne (Ne.symm hji)] at hj
    have hne : klN m ≠ klN n := fun x => by
      have := kl_inj (hV j m hj) hn x
      subst this
      exact hji (h1 j i m hj hi)
    rw [Maps.atKey_del_other hne]
    exact h.at_ j m hj
set_option maxRecDepth 100000 in
/-- What is asked of the map. -/
theorem MapIs.look {w : World} {bm : Nat} {S : St} (h : MapIs w bm S) {n : Nd} (hn : wfN n) (hz : (zeroValue 3).run Tryz.prog w = .ok (.int .i64 0) w) :
    ∃ c : Int, (Instr.lookup 80 (.map (some bm)) (ndV n) true).run Tryz.prog w = .ok (.tuple #[.int .i64 c, .bool (whereN S n).isSome]) w ∧ ∀ i, whereN S n = some i → c = (i : Int) + 2 := by
  obtain ⟨D, h, ht⟩ := h
  obtain ⟨v, ps, hrun, hv⟩ := h.look_ok Tryz.nodeKeyed Tryz.underlying80 hz (plainElem_int Tryz.underlying3 (by decide)) (key_nd hn)
  obtain ⟨c, rfl, hc, _⟩ := plainElem_int_inv Tryz.underlying3 hv
  rw [ht.has n hn] at hrun
  refine ⟨c, hrun, fun i hi => ?_⟩
  have h1 := ht.at_ i n (whereN_some hi)
  simp only [Prod.mk.injEq] at hc
  rw [h1] at hc
  have := hc.1
  injection this with this
  injection this with _ this
  exact this.symm
theorem MapIs.len {w : World} {bm : Nat} {S : St} (h : MapIs w bm S) (ty : TypeId) : (Builtin.len_ #[80] ty #[.map (some bm)]).run Tryz.prog w = .ok (.int .i64 (cnt S)) w := by
  obtain ⟨D, h, ht⟩ := h
  rw [← ht.size]
  exact h.len Tryz.underlying80 ty
theorem MapIs.store {w : World} {bm : Nat} {S : St} (h : MapIs w bm S) {i : Nat} {n : Nd} (hl : S.length ≤ 20000) (hi : i ≤ S.length) (hf : ∀ m, S[i]? ≠ some (some m)) (hn : wfN n) (hw : whereN S n = none) (hV : ∀ (j : Nat) (m : Nd), S[j]? = some (some m) → wfN m) (hV' : VSt (putS S i n)) :
    ∃ w', (Instr.mapUpdate 80 (.map (some bm)) (ndV n) (.int .i64 ((i : Int) + 2))).run Tryz.prog w = .ok () w' ∧ MapIs w' bm (putS S i n) ∧ w.mapTurned w' bm := by
  obtain ⟨D, h, ht⟩ := h
  have hc := cnt_le S
  have hz := ht.size
  obtain ⟨w', hrun, hown, hturn⟩ := h.store Tryz.nodeKeyed Tryz.underlying80 (by unfold maxLen; omega) (key_nd hn) (plainElem_int Tryz.underlying3 (WalkArith.wf_i64 (n := (i : Int) + 2) (by omega)))
  exact ⟨w', hrun, ⟨_, own_size hown, ht.put (h.tidy Tryz.nodeKeyed) hi hf hn hw hV hV'⟩, hturn⟩
theorem MapIs.drop {w : World} {bm : Nat} {S : St} (h : MapIs w bm S) {i : Nat} {n : Nd} (hi : S[i]? = some (some n)) (hn : wfN n) (hV : ∀ (j : Nat) (m : Nd), S[j]? = some (some m) → wfN m) (h1 : ∀ (i j : Nat) (n : Nd), S[i]? = some (some n) → S[j]? = some (some n) → i = j) (ty : TypeId) :
    ∃ w', (Builtin.delete_ #[80, 145] ty #[.map (some bm), ndV n]).run Tryz.prog w = .ok (.tuple #[]) w' ∧ MapIs w' bm (S.set i none) ∧ w.mapTurned w' bm := by
  obtain ⟨D, h, ht⟩ := h
  obtain ⟨w', hrun, hown, hturn⟩ := h.drop Tryz.nodeKeyed Tryz.underlying80 (key_nd hn) ty
  exact ⟨w', hrun, ⟨_, own_size hown, ht.del (h.tidy Tryz.nodeKeyed) hi hn hV h1⟩, hturn⟩
theorem turned_block {w w' : World} {b k : Nat} (h : w.mapTurned w' b) (hk : k ≠ b) : w'.heap[k]? = w.heap[k]? := by
  obtain ⟨es, clock, es', clock', hb, rfl⟩ := h
  exact Go.ChangeMaps.heap_setBlock_other hb _ hk

/-! ### The arena -/
def arV (room : Nat) (bm : Nat) (v : Value) (full : Nat) : Obj := .cells #[.int .i64 room, .map (some bm), v, .int .i64 full] 83 (0, 0)
/-- The blocks that are the arena's. -/
def Fp (ab bm : Nat) (v : Value) (k : Nat) : Prop := k = ab ∨ k = bm ∨ v.ownBlock = some k
structure ArAt (w : World) (B ab bm : Nat) (v : Value) (room full : Nat) (S : St) : Prop where
  base : B ≤ ab ∧ B ≤ bm
  head : w.heap[ab]? = some (arV room bm v full)
  rows : w.ownsRow B 170 4 v S.length (slotsV S)
  ids : MapIs w bm S
structure ArOk (room full : Nat) (S : St) : Prop where
  vst : VSt S
  len : S.length ≤ room
  max : room ≤ 20000
  low : full ≤ S.length
  used : ∀ j : Nat, j < full → ∃ n, S[j]? = some (some n)
theorem ArOk.wf {room full : Nat} {S : St} (h : ArOk room full S) (j : Nat) (m : Nd) (hj : S[j]? = some (some m)) : wfN m := wfN_ok (by have := h.len; have := h.max; omega) (h.vst.ok j m hj)
theorem ArAt.below {w w' : World} {B ab bm : Nat} {v : Value} {room full : Nat} {S : St} (h : ArAt w B ab bm v room full S) (hb : Below w.heap.size w w') : ArAt w' B ab bm v room full S :=
  ⟨h.base, keep_blk hb h.head, owns_below h.rows hb, h.ids.keep (hb.block _ h.ids.lt)⟩
theorem ArAt.drew {w : World} {B ab bm : Nat} {v : Value} {room full : Nat} {S : St} (h : ArAt w B ab bm v room full S) : ArAt w.drew B ab bm v room full S := ⟨h.base, h.head, h.rows, h.ids⟩
theorem ArAt.lt {w : World} {B ab bm : Nat} {v : Value} {room full : Nat} {S : St} (h : ArAt w B ab bm v room full S) : B < w.heap.size ∧ ab < w.heap.size ∧ bm < w.heap.size := by
  have h1 := size_of_block h.head
  have h2 := h.base
  exact ⟨by omega, h1, h.ids.lt⟩
/-- What is the arena's lies from B on. -/
theorem ArAt.fp {w : World} {B ab bm : Nat} {v : Value} {room full : Nat} {S : St} (h : ArAt w B ab bm v room full S) (k : Nat) (hk : Fp ab bm v k) : B ≤ k := by
  rcases hk with rfl | rfl | hk
  · exact h.base.1
  · exact h.base.2
  · exact (h.rows.lt k hk).1
/-- A block of another kind is none of the arena's. -/
theorem ArAt.not_fp {w : World} {B ab bm : Nat} {v : Value} {room full : Nat} {S : St} (h : ArAt w B ab bm v room full S) {k : Nat} {C : Array Value} {T : TypeId} {z : Nat × Nat} (hk : w.heap[k]? = some (.cells C T z)) (h1 : T ≠ 83) (h2 : T ≠ 170) : ¬ Fp ab bm v k := by
  rintro (rfl | rfl | hv)
  · rw [h.head] at hk
    unfold arV at hk
    injection hk with hk; injection hk with _ hk _
    exact h1 hk.symm
  · obtain ⟨es, clock, hm⟩ := h.ids.obj
    rw [hm] at hk
    injection hk with hk; cases hk
  · exact own_ne h.rows hk (Ne.symm h2) hv
theorem ArAt.keep {w w' : World} {B ab bm : Nat} {v : Value} {room full : Nat} {S : St} (h : ArAt w B ab bm v room full S) (ho : Off (Fp ab bm v) w w') {k : Nat} {C : Array Value} {T : TypeId} {z : Nat × Nat} (hk : w.heap[k]? = some (.cells C T z)) (h1 : T ≠ 83) (h2 : T ≠ 170) : w'.heap[k]? = some (.cells C T z) :=
  (ho.block k (size_of_block hk) (h.not_fp hk h1 h2)).trans hk
/-- The four cells. -/
theorem ArAt.cells {w : World} {B ab bm : Nat} {v : Value} {room full : Nat} {S : St} (h : ArAt w B ab bm v room full S) :
    w.cell? ⟨ab, 0, none⟩ = some (.int .i64 room) ∧ w.cell? ⟨ab, 1, none⟩ = some (.map (some bm)) ∧ w.cell? ⟨ab, 2, none⟩ = some v ∧ w.cell? ⟨ab, 3, none⟩ = some (.int .i64 full) ∧ (∀ j : Nat, w.frozen? ⟨ab, j, none⟩ = false) :=
  now4 h.head rfl
end Go.Proofs.YtehpccanjlaokaaGreat
