/- What each function of the package set answers, for every input: its words are those of the set that the document names; nothing that was there before a call turns. A region that draws its order, whose operations read and whose callees make memory of their own but hand back one value whatever that memory is: one walk in the order of the text serves every order. -/
import Derived.Test.YtjjpobpcpgcbaaaRows
import Derived.Test.YtjjpobpcpgcbaaaGJ01
import Derived.WalkKit
import Derived.WalkSpells
import Derived.WalkLawsBesides
import Derived.Deep.QuietTactic
import Derived.BigQuiet
import Derived.Deep.RegionWith
import Derived.Lib.Hide
import Derived.Lib.SmallJoins
import Derived.Outline
namespace Go.Proofs.Ytjjpobpcpgcbaaa
open Go.RowKit Go.Joins

/-- The words of a set, as cells. -/
def sa (S : BitVec 256) : Array Value := #[wv (wd S 0), wv (wd S 1), wv (wd S 2), wv (wd S 3)]
theorem sa_get (S : BitVec 256) (k : Nat) (hk : k < 4) : (sa S)[k]? = some (wv (wd S k)) := by
  match k, hk with
  | 0, _ => rfl
  | 1, _ => rfl
  | 2, _ => rfl
  | 3, _ => rfl

def stq (f : Nat → BitVec 64) (k j : Nat) : Value := if j < k then wv (f j) else .int .u64 0
def st4 (f : Nat → BitVec 64) (k : Nat) : Array Value := #[stq f k 0, stq f k 1, stq f k 2, stq f k 3]
theorem st4_get (f : Nat → BitVec 64) (k : Nat) (hk : k < 4) : (st4 f k)[k]? = some (.int .u64 0) := by
  match k, hk with
  | 0, _ => simp [st4, stq]
  | 1, _ => simp [st4, stq]
  | 2, _ => simp [st4, stq]
  | 3, _ => simp [st4, stq]
theorem st4_set (f : Nat → BitVec 64) (k : Nat) (hk : k < 4) : (st4 f k).setIfInBounds k (wv (f k)) = st4 f (k + 1) := by
  match k, hk with
  | 0, _ => simp [st4, stq]
  | 1, _ => simp [st4, stq]
  | 2, _ => simp [st4, stq]
  | 3, _ => simp [st4, stq]
theorem size_of_block {w : World} {b : Nat} {o : Obj} (h : w.heap[b]? = some o) : b < w.heap.size := by
  rcases Nat.lt_or_ge b w.heap.size with k | k
  · exact k
  · rw [Array.getElem?_eq_none k] at h; cases h

/-- A result's four cells, ready to be written. -/
theorem res4 {w : World} {b : Nat} {C : Array Value} {T : TypeId} (h : w.heap[b]? = some (.cells C T (0, 0))) (hC : C = #[Value.int IntKind.u64 0, Value.int IntKind.u64 0, Value.int IntKind.u64 0, Value.int IntKind.u64 0]) :
    w.cell? ⟨b, 0, none⟩ = some (.int .u64 0) ∧ w.cell? ⟨b, 1, none⟩ = some (.int .u64 0) ∧ w.cell? ⟨b, 2, none⟩ = some (.int .u64 0) ∧ w.cell? ⟨b, 3, none⟩ = some (.int .u64 0) ∧ (∀ j, w.frozen? ⟨b, j, none⟩ = false) := by
  subst hC
  refine ⟨?_, ?_, ?_, ?_, unfrozen_of_block h⟩ <;> rw [cell_of_block h] <;> rfl

theorem le2 (w : World) : w.heap.size ≤ w.heap.size + 2 := by omega
/-- '==' of two sets, word by word. -/
def eq4B (a0 a1 a2 a3 b0 b1 b2 b3 : Int) : Bool := a0 == b0 && a1 == b1 && a2 == b2 && a3 == b3
theorem Try.infoU64 : (Try.prog.info? 90).map (fun i => (i.zero, i.size, i.bytes)) = some (some (.int .u64 0), 1, 8) := by kernel_rfl
theorem Try.cellsU64 : Try.prog.cellsOf 90 = 1 := by kernel_rfl
/-- The word in which those points are on whose bit i is 1. -/
def stripe (i : Nat) : BitVec 64 := BitVec.ofNat 64 (wsum (fun j => j.testBit i) 64)
/-- All points whose bit i is 1. -/
def onesB (i : Nat) : BitVec 256 := bvOf (fun p => p.testBit i)
theorem onesB_low (i k : Nat) (hi : i < 6) (hk : k < 4) : wd (onesB i) k = stripe i := by
  have h : ∀ i : Fin 6, ∀ k : Fin 4, wd (onesB i.val) k.val = stripe i.val := by decide +kernel
  exact h ⟨i, hi⟩ ⟨k, hk⟩
theorem onesB_high (i k : Nat) (hi : i < 8) (h6 : 6 ≤ i) (hk : k < 4) : wd (onesB i) k = if k / 2 ^ (i - 6) % 2 = 1 then 18446744073709551615#64 else 0#64 := by
  have h : ∀ i : Fin 8, 6 ≤ i.val → ∀ k : Fin 4, wd (onesB i.val) k.val = if k.val / 2 ^ (i.val - 6) % 2 = 1 then 18446744073709551615#64 else 0#64 := by decide +kernel
  exact h ⟨i, hi⟩ h6 ⟨k, hk⟩

/-- The points of n inputs. -/
def allB (n : Nat) : BitVec 256 := bvOf (fun p => decide (p < 2 ^ n))
theorem le1 (w : World) : w.heap.size ≤ w.heap.size + 1 := by omega

theorem and127 (c : Int) (h0 : 0 ≤ c) (h1 : c < 9223372036854775808) : bits .and .i64 (wrap64 c) 127 = c % 128 := by
  have e : wrap64 c = c := by unfold wrap64; omega
  rw [e]
  exact bits_mask .i64 63 (by decide) (fun n h0 h1 => by rw [IntKind.wrap_i64]; omega) 7 (by decide) c h0 (by omega)
set_option maxHeartbeats 400000 in
theorem ret_int {k : IntKind} {a b : Int} (h : a = b) : Ending.returned (.int k a) = .returned (.int k b) := by rw [h]
theorem ret_bool {a b : Bool} (h : a = b) : Ending.returned (.bool a) = .returned (.bool b) := by rw [h]
theorem pop64_le (x : Nat) : pop64 x ≤ 64 := by
  unfold pop64
  have := List.countP_le_length (p := fun j => x.testBit j) (l := List.range 64)
  simpa using this
theorem bcell {w w1 : World} {B : Nat} (hb : Below B w w1) : (∀ b o, b < B → w1.cell? ⟨b, o, none⟩ = w.cell? ⟨b, o, none⟩) ∧ (∀ b o, b < B → w1.frozen? ⟨b, o, none⟩ = w.frozen? ⟨b, o, none⟩) :=
  ⟨fun b o h => hb.cell (p := ⟨b, o, none⟩) h, fun b o h => hb.frozen (p := ⟨b, o, none⟩) h⟩

/-- The half of a set. -/
def halfB (S : BitVec 256) (i : Int) (one : Bool) : BitVec 256 := if 0 ≤ i ∧ i < 8 then (if one then S &&& onesB i.toNat else S &&& ~~~(onesB i.toNat)) else 0
end Go.Proofs.Ytjjpobpcpgcbaaa
namespace Go.Proofs.Ytjjpobpcpgcbaaa
open Go.RowKit Go.Joins

/-- A world in which all that was there in w is as it was. -/
def After (w : World) : Type := { W : World // Below w.heap.size w W }
def After.here (w : World) : After w := ⟨w, Below.refl _ _⟩
instance (w : World) : Nonempty (After w) := ⟨After.here w⟩
theorem After.cell {w : World} (x : After w) {b o : Nat} {v : Value} (h : w.cell? ⟨b, o, none⟩ = some v) : x.1.cell? ⟨b, o, none⟩ = some v := by
  rw [x.2.cell (p := ⟨b, o, none⟩) (block_lt_of_cell h)]; exact h
theorem wp_region_after {P : Program} {id : Nat} {Q : Exit → Act → World → Prop} {a : Act} {w : World} {l : List Oper} (hm : P.follows .mixedOrders = true) (hB : Region.lexB .any l.toArray = true)
    (h : wpQuiet P l.toArray (fun W => ∃ x : After w, W = x.1) (fun a' => ∀ x : After w, Q .normal a' x.1) l a) : (Code.region id l.toArray true).wp P Q a w := by
  refine wp_region_quiet (C := fun W => ∃ x : After w, W = x.1) hm hB ⟨⟨_, (Below.refl _ _).drew⟩, rfl⟩ ?_
  have e : (fun a' : Act => ∀ w', (∃ x : After w, w' = x.1) → Q .normal a' w') = fun a' => ∀ x : After w, Q .normal a' x.1 := by
    funext a'
    apply propext
    exact ⟨fun H x => H _ ⟨x, rfl⟩, fun H w' ⟨x, hx⟩ => by rw [hx]; exact H x⟩
  rw [e]
  simpa using h
/-- A callee's contract, met in such a world. -/
theorem Calls.after_of {P : Program} {f : FuncId} {args : Array Value} {w : World} {x : After w} {v : Value}
    (h : Calls P f args x.1 fun e w' => e = .returned v ∧ Below x.1.heap.size x.1 w') : Calls P f args x.1 fun e w'' => e = .returned v ∧ ∃ y : After w, w'' = y.1 :=
  h.mono fun _ w' ⟨he, hb⟩ => ⟨he, ⟨w', x.2.trans (hb.mono x.2.size)⟩, rfl⟩
theorem Calls.after_same {P : Program} {f : FuncId} {args : Array Value} {w : World} {x : After w} {v : Value}
    (h : Calls P f args x.1 fun e w' => e = .returned v ∧ x.1 = w') : Calls P f args x.1 fun e w'' => e = .returned v ∧ ∃ y : After w, w'' = y.1 :=
  h.mono fun _ _ ⟨he, hb⟩ => ⟨he, x, hb.symm⟩
theorem carry4 {w w1 : World} {b : Nat} {x0 x1 x2 x3 : Value} (hb : Below w.heap.size w w1) (d0 : w.cell? ⟨b, 0, none⟩ = some x0) (d1 : w.cell? ⟨b, 1, none⟩ = some x1) (d2 : w.cell? ⟨b, 2, none⟩ = some x2) (d3 : w.cell? ⟨b, 3, none⟩ = some x3) :
    w1.cell? ⟨b, 0, none⟩ = some x0 ∧ w1.cell? ⟨b, 1, none⟩ = some x1 ∧ w1.cell? ⟨b, 2, none⟩ = some x2 ∧ w1.cell? ⟨b, 3, none⟩ = some x3 :=
  ⟨After.cell ⟨w1, hb⟩ d0, After.cell ⟨w1, hb⟩ d1, After.cell ⟨w1, hb⟩ d2, After.cell ⟨w1, hb⟩ d3⟩
theorem grown_set {w wr : World} {b j : Nat} {u : Value} (h : w.grownBy wr (some b)) : w.grownBy (wr.setCell ⟨b, j, none⟩ u) (some b) :=
  ⟨h.os, h.tape, h.output, by simpa [World.setCell] using h.size, fun k hk hne => (Below.heap_setCell _ _ _ _ (by intro e; exact hne (by rw [e]))).trans (h.block k hk hne)⟩
theorem grown_at {w wr : World} {b g : Nat} (h : w.grownBy wr (some b)) (hg : g < w.heap.size) (hne : g ≠ b) : wr.heap[g]? = w.heap[g]? :=
  h.block g hg (by intro e; injection e with e; exact hne e)
theorem below_of_grown {w wr a : World} {b B : Nat} (h : w.grownBy wr (some b)) (hB : Below B a w) (hb : B ≤ b) (hs : B ≤ w.heap.size) : Below B a wr :=
  hB.grown h hs (fun k e => by injection e with e; omega)
/-- A set's four cells, out of its block. -/
theorem cells_sa {w : World} {b : Nat} {T : TypeId} {C : Array Value} {x0 x1 x2 x3 : Value} (h : w.heap[b]? = some (.cells C T (0, 0))) (hC : C = #[x0, x1, x2, x3]) :
    w.cell? ⟨b, 0, none⟩ = some x0 ∧ w.cell? ⟨b, 1, none⟩ = some x1 ∧ w.cell? ⟨b, 2, none⟩ = some x2 ∧ w.cell? ⟨b, 3, none⟩ = some x3 := by
  subst hC
  refine ⟨?_, ?_, ?_, ?_⟩ <;> rw [cell_of_block h] <;> rfl
/-- 256 flags, as cells. -/
def boolsV (g : Nat → Bool) : List Value := (List.range 256).map (fun p => Value.bool (g p))
theorem boolsV_get (g : Nat → Bool) (p : Nat) (h : p < 256) : (boolsV g)[p]? = some (.bool (g p)) := by unfold boolsV; simp [h]
theorem boolsV_set (g g' : Nat → Bool) (q : Nat) (u : Bool) (hq : g' q = u) (hne : ∀ p, p ≠ q → g' p = g p) : (boolsV g).set q (.bool u) = boolsV g' := by
  apply List.ext_getElem?
  intro p
  rw [List.getElem?_set]
  by_cases hp : p < 256
  · rw [boolsV_get g' p hp]
    by_cases e : q = p
    · subst e
      rw [if_pos rfl, hq]
      have : q < (boolsV g).length := by simp [boolsV, hp]
      simp [this]
    · rw [if_neg e, boolsV_get g p hp, hne p (Ne.symm e)]
  · have h1 : (boolsV g')[p]? = none := by simp [boolsV]; omega
    have h2 : (boolsV g)[p]? = none := by simp [boolsV]; omega
    have h3 : ¬ p < (boolsV g).length := by simp [boolsV]; omega
    rw [h1]
    by_cases e : q = p
    · subst e; simp [h3]
    · rw [if_neg e, h2]
theorem boolsV_made : (madeCells #[Value.bool false] 256).toList = boolsV (fun _ => false) := by
  rw [toList_madeCells_one]
  apply List.ext_getElem?
  intro p
  rw [List.getElem?_replicate]
  by_cases hp : p < 256
  · rw [if_pos hp, boolsV_get _ p hp]
  · have h1 : (boolsV (fun _ => false))[p]? = none := by simp [boolsV]; omega
    rw [if_neg hp, h1]
end Go.Proofs.Ytjjpobpcpgcbaaa
