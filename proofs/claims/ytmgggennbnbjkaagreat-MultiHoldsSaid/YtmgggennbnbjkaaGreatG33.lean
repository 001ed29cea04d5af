/- A set that comes in reads as 256 bits. An arena in memory: its own cells, its places, its map; what stays while only these are written. -/
import Derived.Test.YtmgggennbnbjkaaGreatRows
import Derived.Test.YtmgggennbnbjkaaGreatG01
import Derived.Test.YtmgggennbnbjkaaGreatG13
import Derived.Test.YtmgggennbnbjkaaGreatG32
import Derived.ProofKit
import Derived.OpenShut
import Derived.Lib.SmallJoins
import Derived.Maps.OwnSet
import Derived.DeepKeys4
namespace Go.Proofs.YtmgggennbnbjkaaGreat
open Go.ChangeShapes Go.WideShapes Go.ChangeAt Go.RowKit Go.Joins

theorem Tryz.own : ownKnob Tryz.prog.godebug = none := by kernel_rfl
theorem Tryz.laidOut : laidOutB Tryz.prog = true := by kernel_rfl
theorem Tryz.cellsSet : Tryz.prog.cellsOf 41 = 4 := by kernel_rfl
theorem Tryz.cellsWord : Tryz.prog.cellsOf 39 = 1 := by kernel_rfl

set_option maxRecDepth 100000 in
theorem word_of {H : Type} {enc : TypeId × Value → H} {w : World} {base m : Nat} {sp : Nat → Bool} {held : Bool} {c : Value} {y : DataW H × List MemPlace}
    (h : DataW.trod enc Tryz.prog w base sp held m 39 [c] = some y) : ∃ x : BitVec 64, c = wv x := by
  obtain ⟨a, e0, _, wa⟩ := DataW.trod_int Tryz.underlying39 h
  simp at e0
  subst e0
  have hb : 0 ≤ a ∧ a ≤ 18446744073709551615 := by
    simp [Lit.wf, IntKind.min, IntKind.max, IntKind.signed, IntKind.bits] at wa
    omega
  obtain ⟨n, rfl⟩ := Int.eq_ofNat_of_zero_le hb.1
  refine ⟨BitVec.ofNat 64 n, ?_⟩
  unfold wv
  rw [BitVec.toNat_ofNat, Nat.mod_eq_of_lt (by omega)]

set_option maxRecDepth 100000 in
theorem open_set {H : Type} {enc : TypeId × Value → H} {w W : World} {r : Reach} {b0 base : Nat} {sp : Nat → Bool} {held : Bool} {v : Value} {d : DataW H} {p : List MemPlace}
    (hv : Value.okWide Tryz.prog W r b0 41 v) (h : DataW.Trod enc Tryz.prog w base sp held 41 v d p) : ∃ S : BitVec 256, v = sv S := by
  have hv' : ∃ cs, v = .agg cs ∧ cs.size = Tryz.prog.cellsOf 41 := by
    unfold Value.okWide at hv
    rw [Tryz.underlying41] at hv
    obtain ⟨cs, h1, h2, _⟩ := hv
    exact ⟨cs, h1, h2⟩
  obtain ⟨cs, rfl, hsz⟩ := hv'
  obtain ⟨c0, c1, c2, c3, rfl⟩ := array4 (hsz.trans Tryz.cellsSet)
  obtain ⟨fuel, hf⟩ := h
  obtain ⟨xs, m, _, _, _, hx, he⟩ := DataW.trod_array Tryz.underlying41 hf
  rw [Tryz.cellsWord] at he
  obtain ⟨y0, y1, y2, y3, rfl⟩ : ∃ y0 y1 y2 y3, xs = [y0, y1, y2, y3] := by
    match xs, hx with
    | [y0, y1, y2, y3], _ => exact ⟨y0, y1, y2, y3, rfl⟩
  have h0 := he 0 (by omega)
  have h1 := he 1 (by omega)
  have h2 := he 2 (by omega)
  have h3 := he 3 (by omega)
  obtain ⟨x0, rfl⟩ := word_of h0
  obtain ⟨x1, rfl⟩ := word_of h1
  obtain ⟨x2, rfl⟩ := word_of h2
  obtain ⟨x3, rfl⟩ := word_of h3
  obtain ⟨S, e0, e1, e2, e3⟩ := of_words x0 x1 x2 x3
  exact ⟨S, by unfold sv; rw [e0, e1, e2, e3]⟩
end Go.Proofs.YtmgggennbnbjkaaGreat
namespace Go.Proofs.YtmgggennbnbjkaaGreat
open Go.RowKit Go.Joins
open Go.Maps (Keyed)

/-- w' is w but for the blocks of F, and new ones. -/
structure Off (F : Nat → Prop) (w w' : World) : Prop where
  os : w'.os = w.os
  tape : w'.tape = w.tape
  output : w'.output = w.output
  size : w.heap.size ≤ w'.heap.size
  block : ∀ k, k < w.heap.size → ¬ F k → w'.heap[k]? = w.heap[k]?
theorem Off.refl (F : Nat → Prop) (w : World) : Off F w w := ⟨rfl, rfl, rfl, Nat.le_refl _, fun _ _ _ => rfl⟩
theorem Off.trans {F G : Nat → Prop} {a b c : World} (h : Off F a b) (k : Off G b c) (hF : ∀ x, x < a.heap.size → G x → F x) : Off F a c :=
  ⟨k.os.trans h.os, k.tape.trans h.tape, k.output.trans h.output, Nat.le_trans h.size k.size, fun i hi hn => (k.block i (Nat.lt_of_lt_of_le hi h.size) (fun g => hn (hF i hi g))).trans (h.block i hi hn)⟩
theorem Off.then {F : Nat → Prop} {a b c : World} (h : Off F a b) (k : Off F b c) : Off F a c := h.trans k fun _ _ g => g
theorem Off.of_below {F : Nat → Prop} {w w' : World} (h : Below w.heap.size w w') : Off F w w' := ⟨h.os, h.tape, h.output, h.size, fun k hk _ => h.block k hk⟩
theorem Off.mono {F G : Nat → Prop} {w w' : World} (h : Off F w w') (hF : ∀ x, F x → G x) : Off G w w' := ⟨h.os, h.tape, h.output, h.size, fun k hk hn => h.block k hk fun f => hn (hF k f)⟩
theorem Off.drew {F : Nat → Prop} {a w : World} (h : Off F a w) : Off F a w.drew := ⟨h.os, h.tape, h.output, h.size, h.block⟩
theorem Off.alloc {F : Nat → Prop} {a w : World} (h : Off F a w) (o : Obj) : Off F a (w.alloc o) :=
  ⟨h.os, h.tape, h.output, Nat.le_trans h.size (by simp), fun k hk hn => (Below.heap_alloc _ _ _ (Nat.lt_of_lt_of_le hk h.size)).trans (h.block k hk hn)⟩
theorem Off.more {F : Nat → Prop} {a w w' : World} (h : Off F a w) (k : Below w.heap.size w w') : Off F a w' := h.then (Off.of_below k)
theorem Off.setCell {F : Nat → Prop} {a w : World} (h : Off F a w) {b o : Nat} (hb : F b ∨ a.heap.size ≤ b) (u : Value) : Off F a (w.setCell ⟨b, o, none⟩ u) :=
  ⟨h.os, h.tape, h.output, by simpa [World.setCell] using h.size, fun k hk hn => (Below.heap_setCell _ _ _ _ (by rintro rfl; rcases hb with hb | hb; exact hn hb; exact absurd hk (Nat.not_lt.2 hb))).trans (h.block k hk hn)⟩
theorem Off.grown {F : Nat → Prop} {a w w' : World} {b : Nat} (h : Off F a w) (hg : w.grownBy w' (some b)) (hb : F b ∨ a.heap.size ≤ b) : Off F a w' :=
  ⟨hg.os.trans h.os, hg.tape.trans h.tape, hg.output.trans h.output, Nat.le_trans h.size hg.size, fun k hk hn => (hg.block k (Nat.lt_of_lt_of_le hk h.size) (by intro e; injection e with e; subst e; rcases hb with hb | hb; exact hn hb; exact absurd hk (Nat.not_lt.2 hb))).trans (h.block k hk hn)⟩
theorem Off.grownNew {F : Nat → Prop} {a w w' : World} {r : Option Nat} (h : Off F a w) (hg : w.grownBy w' r) (hb : ∀ b, r = some b → F b ∨ a.heap.size ≤ b) : Off F a w' :=
  ⟨hg.os.trans h.os, hg.tape.trans h.tape, hg.output.trans h.output, Nat.le_trans h.size hg.size, fun k hk hn => (hg.block k (Nat.lt_of_lt_of_le hk h.size) (by intro e; rcases hb k e.symm with hb | hb; exact hn hb; exact absurd hk (Nat.not_lt.2 hb))).trans (h.block k hk hn)⟩
theorem Off.below {F : Nat → Prop} {w w' : World} {B : Nat} (h : Off F w w') (hB : B ≤ w.heap.size) (hF : ∀ k, F k → B ≤ k) : Below B w w' :=
  ⟨h.os, h.tape, h.output, h.size, fun k hk => h.block k (Nat.lt_of_lt_of_le hk hB) fun f => absurd hk (Nat.not_lt.2 (hF k f))⟩

/-! ### Lists of four cells each -/
theorem flat4_len {α : Type} (f : α → List Value) (hf : ∀ x, (f x).length = 4) : ∀ l : List α, (l.flatMap f).length = l.length * 4
  | [] => rfl
  | x :: l => by rw [List.flatMap_cons, List.length_append, hf, flat4_len f hf l, List.length_cons]; omega
theorem flat4_get {α : Type} (f : α → List Value) (hf : ∀ x, (f x).length = 4) : ∀ (l : List α) (i k : Nat) (x : α), l[i]? = some x → k < 4 → (l.flatMap f)[i * 4 + k]? = (f x)[k]?
  | [], i, k, x, h, _ => by simp at h
  | y :: l, 0, k, x, h, hk => by
    simp at h
    subst h
    rw [List.flatMap_cons, List.getElem?_append_left (by rw [hf]; omega)]
    congr 1
    omega
  | y :: l, i + 1, k, x, h, hk => by
    rw [List.flatMap_cons, List.getElem?_append_right (by rw [hf]; omega), hf, show (i + 1) * 4 + k - 4 = i * 4 + k by omega]
    exact flat4_get f hf l i k x (by simpa using h) hk
theorem flat4_set {α : Type} (f : α → List Value) (hf : ∀ x, (f x).length = 4) (y : α) {v0 v1 v2 v3 : Value} (hy : f y = [v0, v1, v2, v3]) : ∀ (l : List α) (i : Nat), i < l.length →
    ((((l.flatMap f).set (i * 4) v0).set (i * 4 + 1) v1).set (i * 4 + 2) v2).set (i * 4 + 3) v3 = (l.set i y).flatMap f
  | [], i, h => by simp at h
  | x :: l, 0, _ => by
    obtain ⟨a, b, c, d, hx⟩ : ∃ a b c d, f x = [a, b, c, d] := by
      match hfx : f x, hf x with
      | [a, b, c, d], _ => exact ⟨a, b, c, d, rfl⟩
    simp [List.flatMap_cons, hx, hy]
  | x :: l, i + 1, h => by
    obtain ⟨a, b, c, d, hx⟩ : ∃ a b c d, f x = [a, b, c, d] := by
      match hfx : f x, hf x with
      | [a, b, c, d], _ => exact ⟨a, b, c, d, rfl⟩
    have ih := flat4_set f hf y hy l i (by simpa using h)
    have e : (i + 1) * 4 = i * 4 + 1 + 1 + 1 + 1 := by omega
    rw [List.flatMap_cons, hx, e]
    simp only [List.cons_append, List.nil_append, List.set_cons_succ, List.flatMap_cons, hx]
    rw [ih]
/-- A struct of four cells is stored into a row that is owned. -/
theorem own_put4 {w : World} {base g n cap i : Nat} {e : TypeId} {α : Type} {f : α → List Value} {l : List α} (h : w.ownsRow base e 4 (.slice (some ⟨g, 0, none⟩) n cap) n (l.flatMap f)) (hf : ∀ x, (f x).length = 4) (y : α)
    {v0 v1 v2 v3 : Value} (hy : f y = [v0, v1, v2, v3]) (hi : i < l.length) :
    ((((w.setCell ⟨g, i * 4, none⟩ v0).setCell ⟨g, i * 4 + 1, none⟩ v1).setCell ⟨g, i * 4 + 2, none⟩ v2).setCell ⟨g, i * 4 + 3, none⟩ v3).ownsRow base e 4 (.slice (some ⟨g, 0, none⟩) n cap) n ((l.set i y).flatMap f) ∧
    w.grownBy ((((w.setCell ⟨g, i * 4, none⟩ v0).setCell ⟨g, i * 4 + 1, none⟩ v1).setCell ⟨g, i * 4 + 2, none⟩ v2).setCell ⟨g, i * 4 + 3, none⟩ v3) (some g) := by
  obtain ⟨o0, g0⟩ := h.stored (i * 4) v0
  obtain ⟨o1, g1⟩ := o0.stored (i * 4 + 1) v1
  obtain ⟨o2, g2⟩ := o1.stored (i * 4 + 2) v2
  obtain ⟨o3, g3⟩ := o2.stored (i * 4 + 3) v3
  rw [flat4_set f hf y hy l i hi] at o3
  exact ⟨o3, grown_set (grown_set (grown_set g0))⟩

/-! ### Places -/
def ndV (n : Nd) : Value := .agg #[.int .i64 n.1, .int .i64 n.2.1, .int .i64 n.2.2]
def slotL : Option Nd → List Value
  | none => [.int .i64 0, .int .i64 0, .int .i64 0, .bool false]
  | some n => [.int .i64 n.1, .int .i64 n.2.1, .int .i64 n.2.2, .bool true]
theorem slotL_len (o : Option Nd) : (slotL o).length = 4 := by cases o <;> rfl
def slotsV (S : St) : List Value := S.flatMap slotL
/-! ### The map -/
def klN (n : Nd) : Lit := .string (keyBytes [.int .i64 n.1, .int .i64 n.2.1, .int .i64 n.2.2])
def wfN (n : Nd) : Prop := (Lit.int .i64 n.1).wf = true ∧ (Lit.int .i64 n.2.1).wf = true ∧ (Lit.int .i64 n.2.2).wf = true
theorem Tryz.cellsInt1 : Tryz.prog.cellsOf 3 = 1 := by kernel_rfl
/-- The map's datum has the places' nodes, each with its id. -/
structure Tie (D : DataW Unit) (S : St) : Prop where
  size : Maps.size D = cnt S
  has : ∀ n, wfN n → Maps.has D (klN n) = (whereN S n).isSome
  at_ : ∀ (i : Nat) (n : Nd), S[i]? = some (some n) → D.atKey (klN n) (.lit (.int .i64 0)) = .lit (.int .i64 ((i : Int) + 2))
theorem wfN_ok {S : St} {n : Nd} (hl : S.length ≤ 20000) (h : okN S n = true) : wfN n := by
  obtain ⟨h0, h1, h2, h3⟩ := (okN_iff _ _).1 h
  have hid : ∀ id : Int, n.1 < lvl S id → (Lit.int .i64 id).wf = true := fun id hlt => by
    rcases lvl_kind (S := S) (id := id) (by omega) with he | ⟨j, m, e, hm, _⟩
    · rcases he with rfl | rfl <;> decide
    · have := (List.getElem?_eq_some_iff.1 hm).1
      exact WalkArith.wf_i64 (by omega)
  exact ⟨WalkArith.wf_i64 (by omega), hid _ h2, hid _ h3⟩
theorem turned_block {w w' : World} {b k : Nat} (h : w.mapTurned w' b) (hk : k ≠ b) : w'.heap[k]? = w.heap[k]? := by
  obtain ⟨es, clock, es', clock', hb, rfl⟩ := h
  exact Go.ChangeMaps.heap_setBlock_other hb _ hk

/-- The blocks that are the arena's. -/
def Fp (ab bm : Nat) (v : Value) (k : Nat) : Prop := k = ab ∨ k = bm ∨ v.ownBlock = some k
structure ArOk (room full : Nat) (S : St) : Prop where
  vst : VSt S
  len : S.length ≤ room
  max : room ≤ 20000
  low : full ≤ S.length
  used : ∀ j : Nat, j < full → ∃ n, S[j]? = some (some n)
theorem ArOk.wf {room full : Nat} {S : St} (h : ArOk room full S) (j : Nat) (m : Nd) (hj : S[j]? = some (some m)) : wfN m := wfN_ok (by have := h.len; have := h.max; omega) (h.vst.ok j m hj)
end Go.Proofs.YtmgggennbnbjkaaGreat
