/- The statement SetBoth, walked. The statement SetPoints, walked: its pieces. What the document's answers of layer 2 come to, for every input. What the document's Cube and Right of layer 2 come to. What the document's Right and Has of layer 2 come to. What the document's Points and Text of layer 2 come to. A slice of sets in memory. Rows and specs: what they are in memory, and what is said of them, plain. -/
import Derived.Test.YtjjpobpcpgcbaaaGJ09
import Derived.Test.YtjjpobpcpgcbaaaGJ08
import Derived.Test.YtjjpobpcpgcbaaaGJ03
import Derived.Deep.RegionHeld3
import Derived.Deep.DeepCutAuto
namespace Go.Proofs.Ytjjpobpcpgcbaaa
open Go.RowKit Go.Joins

/-- 256 flags in a block. -/
def flagsA (g : Nat → Bool) : Array Value := (boolsV g).toArray
theorem flagsA_get (g : Nat → Bool) (p : Nat) (h : p < 256) : (flagsA g)[p]? = some (.bool (g p)) := by unfold flagsA; simpa using boolsV_get g p h
theorem flagsA_set (g g' : Nat → Bool) (q : Nat) (u : Bool) (hq : g' q = u) (hne : ∀ p, p ≠ q → g' p = g p) : (flagsA g).setIfInBounds q (.bool u) = flagsA g' := by
  unfold flagsA
  rw [List.setIfInBounds_toArray, boolsV_set g g' q u hq hne]
theorem flagsA_made : madeCells #[Value.bool false] 256 = flagsA (fun _ => false) := by
  unfold flagsA
  rw [← boolsV_made]
theorem make256 (w : World) : (Instr.makeSlice 49 (.int .i64 256) (.int .i64 256)).run Try.prog w = .ok (.slice (some ⟨w.heap.size, 0, none⟩) 256 256) (w.alloc (.cells (flagsA (fun _ => false)) 4)) := by
  obtain ⟨ib, jb, kb0, kb1, kb2⟩ := info_parts Try.infoBool
  have h := run_makeSlice (P := Try.prog) w 49 4 ib (.bool false) Try.underlying49 jb kb0 .i64 .i64 256 256 (by decide) (by decide) (by rw [kb1]; decide) (by rw [kb2]; decide) (by decide)
  rw [kb1] at h
  rw [h, ← flagsA_made]
  rfl

theorem step_flags (f : Nat → Bool) (k : Nat) : (flagsA (fun p => decide (p < k) && f p)).setIfInBounds k (.bool (f k)) = flagsA (fun p => decide (p < k + 1) && f p) :=
  flagsA_set _ _ k (f k) (by simp) (fun p hp => by
    by_cases h : p < k
    · have : p < k + 1 := by omega
      simp [h, this]
    · have : ¬ p < k + 1 := by omega
      simp [h, this])
theorem heap_set3 (w : World) (b1 b2 b3 j : Nat) (u1 u2 u3 : Value) (b : Nat) (h1 : b ≠ b1) (h2 : b ≠ b2) (h3 : b ≠ b3) : (((w.setCell ⟨b1, j, none⟩ u1).setCell ⟨b2, j, none⟩ u2).setCell ⟨b3, j, none⟩ u3).heap[b]? = w.heap[b]? := by
  rw [Below.heap_setCell _ _ _ _ h3, Below.heap_setCell _ _ _ _ h2, Below.heap_setCell _ _ _ _ h1]
theorem three_new (w : World) (o : Obj) (b : Nat) (h0 : w.heap.size ≤ b) (h1 : b < w.heap.size + 3) : (((w.alloc o).alloc o).alloc o).drew.heap[b]? = some o := by
  show (((w.alloc o).alloc o).alloc o).heap[b]? = some o
  have h : b = w.heap.size ∨ b = w.heap.size + 1 ∨ b = w.heap.size + 2 := by omega
  rcases h with rfl | rfl | rfl
  · rw [Below.heap_alloc _ _ _ (by simp; omega), heap_alloc2_old]
  · rw [Below.heap_alloc _ _ _ (by simp), heap_alloc2_new]
  · have e : w.heap.size + 2 = ((w.alloc o).alloc o).heap.size := by simp
    rw [e, heap_alloc_new]
theorem three_old (w : World) (o : Obj) (b : Nat) (h : b < w.heap.size) : (((w.alloc o).alloc o).alloc o).drew.heap[b]? = w.heap[b]? := by
  show (((w.alloc o).alloc o).alloc o).heap[b]? = w.heap[b]?
  rw [Below.heap_alloc _ _ _ (by simp; omega), Below.heap_alloc _ _ _ (by simp; omega), Below.heap_alloc _ _ _ h]
theorem flagsA_zero (f : Nat → Bool) : flagsA (fun p => decide (p < 0) && f p) = flagsA (fun _ => false) := by
  have e : (fun p => decide (p < 0) && f p) = fun _ => false := funext fun p => by simp
  rw [e]
theorem less_zero (S T : BitVec 256) : S &&& ~~~T = 0 ↔ ∀ p, p < 256 → (S.getLsbD p && !T.getLsbD p) = false := by
  constructor
  · intro h p hp
    have h1 := congrArg (fun x => x.getLsbD p) h
    simp only [BitVec.getLsbD_and, BitVec.getLsbD_not, hp, decide_true, Bool.true_and] at h1
    rw [h1]
    exact BitVec.getLsbD_zero
  · intro h
    apply BitVec.eq_of_getLsbD_eq
    intro p hp
    rw [BitVec.getLsbD_and, BitVec.getLsbD_not]
    have := h p hp
    simp only [hp, decide_true, Bool.true_and, this]
    exact BitVec.getLsbD_zero.symm
end Go.Proofs.Ytjjpobpcpgcbaaa
namespace Go.Proofs.Ytjjpobpcpgcbaaa
open Go.RowKit Go.Joins

theorem blk_below {w w1 : World} {b : Nat} {o : Obj} (hb : Below w.heap.size w w1) (h : w.heap[b]? = some o) : w1.heap[b]? = some o := by
  rw [hb.block _ (size_of_block h)]; exact h
theorem blk_alloc {w : World} {b : Nat} {o x : Obj} (h : w.heap[b]? = some o) : (w.alloc x).heap[b]? = some o := by
  rw [Below.heap_alloc _ _ _ (size_of_block h)]; exact h
theorem blk_set {w : World} {a : Addr} {b : Nat} {o : Obj} {u : Value} (hne : b ≠ a.block) (h : w.heap[b]? = some o) : (w.setCell a u).heap[b]? = some o := by
  rw [Below.heap_setCell _ _ _ _ hne]; exact h

/-- The flags of a set with one more. -/
def addF (S : BitVec 256) (p : Int) (q : Nat) : Bool := S.getLsbD q || (decide (0 ≤ p) && decide (q = p.toNat))
def addB (S : BitVec 256) (p : Int) : BitVec 256 := if 0 ≤ p ∧ p < 256 then S ||| BitVec.twoPow 256 p.toNat else S
theorem addB_bit (S : BitVec 256) (p : Int) : bvOf (addF S p) = addB S p := by
  refine bvOf_eq _ _ fun q hq => ?_
  unfold addF addB
  by_cases h : 0 ≤ p ∧ p < 256
  · rw [if_pos h, BitVec.getLsbD_or, BitVec.getLsbD_twoPow]
    have h1 : p.toNat < 256 := by omega
    have h2 : decide (q = p.toNat) = decide (p.toNat = q) := by simp [eq_comm]
    simp [h.1, h1, h2]
  · rw [if_neg h]
    have : ¬ (0 ≤ p ∧ q = p.toNat) := by omega
    by_cases h0 : 0 ≤ p
    · have h3 : ¬ q = p.toNat := by omega
      simp [h3]
    · simp [h0]
end Go.Proofs.Ytjjpobpcpgcbaaa
namespace Go.Proofs.Ytjjpobpcpgcbaaa
open Go.RowKit Go.Joins

def litV (m v : BitVec 8) (k : Nat) : List Value := (List.range k).map fun i => Value.int .i64 (lit m v i : Nat)
theorem litV_succ (m v : BitVec 8) (k : Nat) : litV m v (k + 1) = litV m v k ++ [.int .i64 (lit m v k : Nat)] := by
  unfold litV; rw [List.range_succ, List.map_append]; rfl
theorem litV_get (m v : BitVec 8) (n i : Nat) (h : i < n) : (litV m v n)[i]? = some (.int .i64 (lit m v i : Nat)) := by
  unfold litV; simp [h]
theorem bit_mod (x : BitVec 8) (k : Nat) : x.toNat / 2 ^ k % 2 = if x.getLsbD k then 1 else 0 := by
  simp only [BitVec.getLsbD, Nat.testBit_eq_decide_div_mod_eq]
  by_cases h : x.toNat / 2 ^ k % 2 = 1
  · simp [h]
  · have : x.toNat / 2 ^ k % 2 = 0 := by omega
    simp [this]
/-- The literals lie in cells of their own. -/
def LitsAt (m v : BitVec 8) (b : Nat) (w : World) : Prop := b < w.heap.size ∧ ∀ i, i < 8 → w.cell? ⟨b, i, none⟩ = some (.int .i64 (lit m v i : Nat))
def LitsPost (m v : BitVec 8) (w : World) (e : Ending) (w' : World) : Prop := ∃ b cap : Nat, e = .returned (.slice (some ⟨b, 0, none⟩) 8 cap) ∧ w.heap.size ≤ b ∧ LitsAt m v b w' ∧ Below w.heap.size w w'
theorem LitsAt.keep {m v : BitVec 8} {b : Nat} {w w1 : World} (h : LitsAt m v b w) (hb : Below w.heap.size w w1) : LitsAt m v b w1 :=
  ⟨Nat.lt_of_lt_of_le h.1 hb.size, fun i hi => After.cell ⟨w1, hb⟩ (h.2 i hi)⟩
end Go.Proofs.Ytjjpobpcpgcbaaa
namespace Go.Proofs.Ytjjpobpcpgcbaaa
open Go.RowKit Go.Joins

/-- The first n literals lie behind an address. -/
def GAt (g : Nat → Nat) (n : Nat) (ad : Option Addr) (w : World) : Prop := ∀ i, i < n → ∃ b : Nat, ad = some ⟨b, 0, none⟩ ∧ w.cell? ⟨b, i, none⟩ = some (.int .i64 (g i : Nat))
theorem mB_step (g : Nat → Nat) (k : Nat) (hk : k < 8) (h : g k < 2) : (mB g (k + 1)).toNat = (mB g k).toNat + 2 ^ k := by
  rw [mB_nat g (k + 1) (by omega), mB_nat g k (by omega), wsum, if_pos (by simp [h])]
theorem vB_step (g : Nat → Nat) (k : Nat) (hk : k < 8) (h : g k = 1) : (vB g (k + 1)).toNat = (vB g k).toNat + 2 ^ k := by
  rw [vB_nat g (k + 1) (by omega), vB_nat g k (by omega), wsum, if_pos (by simp [h])]
def pw (k : Nat) : Nat := 2 ^ k % 256
theorem pw_step (k : Nat) : pw k * 2 % 256 = pw (k + 1) := by unfold pw; rw [Nat.pow_succ]; omega
theorem pw_low (k : Nat) (h : k < 8) : pw k = 2 ^ k := Nat.mod_eq_of_lt (Nat.pow_lt_pow_right (n := 8) (by decide) h)
end Go.Proofs.Ytjjpobpcpgcbaaa
namespace Go.Proofs.Ytjjpobpcpgcbaaa
open Go.RowKit Go.Joins

theorem rightB_bad {m v : BitVec 8} {n i : Nat} (h : n ≤ i) (hi : m.getLsbD i = true) : rightB m v n = false := by
  rw [Bool.eq_false_iff]
  intro hr
  rw [rightB_iff] at hr
  have := hr.2.2.1 i (by simpa using h)
  rw [hi] at this; cases this
theorem lit_two {m v : BitVec 8} {i : Nat} : lit m v i = 2 ↔ m.getLsbD i = false := by
  unfold lit
  cases m.getLsbD i <;> cases v.getLsbD i <;> simp
theorem bitlit (m v : BitVec 8) (i : Nat) (h : m.getLsbD i = true) : ((lit m v i : Nat) : Int) = if v.getLsbD i then 1 else 0 := by
  unfold lit; rw [h]; cases v.getLsbD i <;> rfl
end Go.Proofs.Ytjjpobpcpgcbaaa
namespace Go.Proofs.Ytjjpobpcpgcbaaa
open Go.RowKit Go.Joins

/-- The flags when the first k points are asked. -/
def pf (m v : BitVec 8) (n k p : Nat) : Bool := decide (p < 2 ^ n) && (!decide (p < k) || fits m v 8 p)
theorem pf_step (m v : BitVec 8) (n k : Nat) : (flagsA (pf m v n k)).setIfInBounds k (.bool (decide (k < 2 ^ n) && fits m v 8 k)) = flagsA (pf m v n (k + 1)) :=
  flagsA_set _ _ k _ (by unfold pf; simp) (fun p hp => by
    unfold pf
    have e : (p < k + 1) ↔ (p < k) := by omega
    simp [e])
theorem pf_at (m v : BitVec 8) (n k : Nat) : pf m v n k k = decide (k < 2 ^ n) := by unfold pf; simp
theorem pf_zero (m v : BitVec 8) (n : Nat) : pf m v n 0 = fun p => decide (p < 2 ^ n) := by funext p; unfold pf; simp
theorem pf_all (m v : BitVec 8) (n : Nat) : bvOf (pf m v n 256) = cpts m v n 8 := by
  apply BitVec.eq_of_getLsbD_eq
  intro p hp
  unfold cpts
  rw [bvOf_bit, bvOf_bit]
  unfold pf
  simp [hp]
theorem cpts_right {m v : BitVec 8} {n : Nat} (h : rightB m v n = true) : cpts m v n 8 = cpts m v n n := by
  rw [rightB_iff] at h
  obtain ⟨_, h8, hm, _⟩ := h
  unfold cpts
  congr 1
  funext p
  congr 1
  rw [Bool.eq_iff_iff, fits_iff, fits_iff]
  constructor
  · intro h i hi h1; exact h i (by omega) h1
  · intro h i hi h1
    rcases Nat.lt_or_ge i n with k | k
    · exact h i k h1
    · rw [hm i (by simpa using k)] at h1; cases h1
end Go.Proofs.Ytjjpobpcpgcbaaa
namespace Go.Proofs.Ytjjpobpcpgcbaaa
open Go.RowKit Go.Joins

/-- The slice v reads as the sets Ss; what it reads lies below block B. -/
def SetsAt (w : World) (B : Nat) (v : Value) (Ss : List (BitVec 256)) : Prop :=
  ∃ A c, v = .slice A Ss.length c ∧ Ss.length ≤ 9223372036854775807 ∧
    (0 < Ss.length → ∃ b off, A = some ⟨b, off, none⟩ ∧ b < B ∧ ∀ j X, Ss[j]? = some X → w.cell? ⟨b, off + j * 4, none⟩ = some (wv (wd X 0)) ∧ w.cell? ⟨b, off + j * 4 + 1, none⟩ = some (wv (wd X 1)) ∧
      w.cell? ⟨b, off + j * 4 + 2, none⟩ = some (wv (wd X 2)) ∧ w.cell? ⟨b, off + j * 4 + 3, none⟩ = some (wv (wd X 3)))
theorem SetsAt.below {w w' : World} {B : Nat} {v : Value} {Ss : List (BitVec 256)} (h : SetsAt w B v Ss) (hb : Below B w w') : SetsAt w' B v Ss := by
  obtain ⟨A, c, e, hl, h⟩ := h
  refine ⟨A, c, e, hl, fun h0 => ?_⟩
  obtain ⟨b, off, eA, hB, hc⟩ := h h0
  refine ⟨b, off, eA, hB, fun j X hx => ?_⟩
  obtain ⟨a0, a1, a2, a3⟩ := hc j X hx
  exact ⟨(hb.cell (p := ⟨b, off + j * 4, none⟩) hB).trans a0, (hb.cell (p := ⟨b, off + j * 4 + 1, none⟩) hB).trans a1, (hb.cell (p := ⟨b, off + j * 4 + 2, none⟩) hB).trans a2, (hb.cell (p := ⟨b, off + j * 4 + 3, none⟩) hB).trans a3⟩
theorem SetsAt.more {w : World} {B B' : Nat} {v : Value} {Ss : List (BitVec 256)} (h : SetsAt w B v Ss) (hB : B ≤ B') : SetsAt w B' v Ss := by
  obtain ⟨A, c, e, hl, h⟩ := h
  refine ⟨A, c, e, hl, fun h0 => ?_⟩
  obtain ⟨b, off, eA, hb, hc⟩ := h h0
  exact ⟨b, off, eA, by omega, hc⟩
theorem SetsAt.form {w : World} {B : Nat} {v : Value} {Ss : List (BitVec 256)} (h : SetsAt w B v Ss) : ∃ A c, v = .slice A Ss.length c := by
  obtain ⟨A, c, e, -, -⟩ := h
  exact ⟨A, c, e⟩
theorem sts_nil (w : World) (B : Nat) : SetsAt w B (.slice none 0 0) [] := ⟨none, 0, rfl, by decide, fun h => absurd h (by simp)⟩
end Go.Proofs.Ytjjpobpcpgcbaaa
namespace Go.Proofs.Ytjjpobpcpgcbaaa
open Go.RowKit Go.Joins

/-- A row: a cube, and the bits of its outputs. -/
structure Rw where
  m : BitVec 8
  v : BitVec 8
  o : BitVec 8
/-- What is asked for. -/
structure Sp where
  i : Int
  on : List (BitVec 256)
  may : List (BitVec 256)
/-- The slice v reads as the rows rs. -/
def RwsAt (w : World) (B : Nat) (v : Value) (rs : List Rw) : Prop :=
  ∃ A c, v = .slice A rs.length c ∧ rs.length ≤ 9223372036854775807 ∧
    (0 < rs.length → ∃ b off, A = some ⟨b, off, none⟩ ∧ b < B ∧ ∀ j x, rs[j]? = some x → w.cell? ⟨b, off + j * 3, none⟩ = some (bvv x.m) ∧ w.cell? ⟨b, off + j * 3 + 1, none⟩ = some (bvv x.v) ∧
      w.cell? ⟨b, off + j * 3 + 2, none⟩ = some (bvv x.o))
def spv (i : Int) (A C : Value) : Value := .agg #[.int .i64 i, A, C]
def rwv (x : Rw) : Value := .agg #[bvv x.m, bvv x.v, bvv x.o]

theorem RwsAt.below {w w' : World} {B : Nat} {v : Value} {rs : List Rw} (h : RwsAt w B v rs) (hb : Below B w w') : RwsAt w' B v rs := by
  obtain ⟨A, c, e, hl, h⟩ := h
  refine ⟨A, c, e, hl, fun h0 => ?_⟩
  obtain ⟨b, off, eA, hB, hc⟩ := h h0
  refine ⟨b, off, eA, hB, fun j X hx => ?_⟩
  obtain ⟨a0, a1, a2⟩ := hc j X hx
  exact ⟨(hb.cell (p := ⟨b, off + j * 3, none⟩) hB).trans a0, (hb.cell (p := ⟨b, off + j * 3 + 1, none⟩) hB).trans a1, (hb.cell (p := ⟨b, off + j * 3 + 2, none⟩) hB).trans a2⟩
theorem RwsAt.more {w : World} {B B' : Nat} {v : Value} {rs : List Rw} (h : RwsAt w B v rs) (hB : B ≤ B') : RwsAt w B' v rs := by
  obtain ⟨A, c, e, hl, h⟩ := h
  refine ⟨A, c, e, hl, fun h0 => ?_⟩
  obtain ⟨b, off, eA, hb, hc⟩ := h h0
  exact ⟨b, off, eA, by omega, hc⟩

/-! ### Points of rows and of lines -/
/-- Does a row that has the output's bit have the point? -/
def covB (rs : List Rw) (p out : Nat) : Bool := rs.any fun x => x.o.getLsbD out && fits x.m x.v 8 p
def ptsR (rs : List Rw) (n out : Nat) : BitVec 256 := bvOf fun p => decide (p < 2 ^ n) && covB rs p out
/-- Has a line that says x of the output the point? -/
def markB (ls : List Ln) (p out : Nat) (x : Int) : Bool := ls.any fun l => decide (l.o.getD out 9 = x) && fits l.m l.v 8 p
def ptsM (ls : List Ln) (n out : Nat) (x : Int) : BitVec 256 := bvOf fun p => decide (p < 2 ^ n) && markB ls p out x
theorem two_pow_8 {n p : Nat} (hn : n ≤ 8) (hp : p < 2 ^ n) : p < 256 := Nat.lt_of_lt_of_le hp (Nat.le_trans (Nat.pow_le_pow_right (by decide) hn) (by decide : (2 : Nat) ^ 8 ≤ 256))
theorem lowB_bit (g : Nat → Bool) (n p : Nat) (hn : n ≤ 8) : (bvOf fun p => decide (p < 2 ^ n) && g p).getLsbD p = (decide (p < 2 ^ n) && g p) := by
  rw [bvOf_bit]
  by_cases h : p < 2 ^ n
  · simp [h, two_pow_8 hn h]
  · simp [h]
theorem ptsR_bit (rs : List Rw) (n out p : Nat) (hn : n ≤ 8) : (ptsR rs n out).getLsbD p = (decide (p < 2 ^ n) && covB rs p out) := lowB_bit (fun p => covB rs p out) n p hn
theorem ptsM_bit (ls : List Ln) (n out p : Nat) (x : Int) (hn : n ≤ 8) : (ptsM ls n out x).getLsbD p = (decide (p < 2 ^ n) && markB ls p out x) := lowB_bit (fun p => markB ls p out x) n p hn
theorem any_append_one {α : Type} (p : α → Bool) (l : List α) (k : Nat) (x : α) (h : l[k]? = some x) : (l.take (k + 1)).any p = ((l.take k).any p || p x) := by
  have hk : k < l.length := (List.getElem?_eq_some_iff.1 h).1
  have : l[k] = x := (List.getElem?_eq_some_iff.1 h).2
  rw [List.take_succ_eq_append_getElem hk, List.any_append, this]
  simp
theorem low_or (g g' : Nat → Bool) (n : Nat) (hn : n ≤ 8) (S : BitVec 256) (hS : ∀ p, p < 256 → S.getLsbD p = (decide (p < 2 ^ n) && g' p)) :
    (bvOf fun p => decide (p < 2 ^ n) && (g p || g' p)) = (bvOf fun p => decide (p < 2 ^ n) && g p) ||| S := by
  refine bvOf_eq _ _ fun p hp => ?_
  rw [BitVec.getLsbD_or, lowB_bit g n p hn, hS p hp]
  cases decide (p < 2 ^ n) <;> simp
theorem ptsR_skip {rs : List Rw} {k : Nat} {x : Rw} (h : rs[k]? = some x) {out : Nat} (ho : x.o.getLsbD out = false) (n : Nat) : ptsR (rs.take (k + 1)) n out = ptsR (rs.take k) n out := by
  unfold ptsR covB
  congr 1
  funext p
  rw [any_append_one _ rs k x h, ho]
  simp
theorem ptsR_step {rs : List Rw} {k : Nat} {x : Rw} (h : rs[k]? = some x) {out : Nat} (ho : x.o.getLsbD out = true) {n : Nat} (hx : rightB x.m x.v n = true) : ptsR (rs.take (k + 1)) n out = ptsR (rs.take k) n out ||| cpts x.m x.v n n := by
  have hn : n ≤ 8 := by have := (rightB_iff x.m x.v n).1 hx; omega
  rw [← cpts_right hx]
  have hS : ∀ p, p < 256 → (cpts x.m x.v n 8).getLsbD p = (decide (p < 2 ^ n) && fits x.m x.v 8 p) := fun p _ => cpts_bit _ _ _ _ _ hn
  refine Eq.trans ?_ (low_or (fun p => covB (rs.take k) p out) _ n hn _ hS)
  unfold ptsR covB
  congr 1
  funext p
  rw [any_append_one _ rs k x h, ho]
  simp
theorem ptsM_skip {ls : List Ln} {k : Nat} {l : Ln} (h : ls[k]? = some l) {out : Nat} {x : Int} (ho : l.o.getD out 9 ≠ x) (n : Nat) : ptsM (ls.take (k + 1)) n out x = ptsM (ls.take k) n out x := by
  unfold ptsM markB
  congr 1
  funext p
  rw [any_append_one _ ls k l h, decide_eq_false ho]
  simp
theorem ptsM_step {ls : List Ln} {k : Nat} {l : Ln} (h : ls[k]? = some l) {out : Nat} {x : Int} (ho : l.o.getD out 9 = x) {n : Nat} (hx : rightB l.m l.v n = true) : ptsM (ls.take (k + 1)) n out x = ptsM (ls.take k) n out x ||| cpts l.m l.v n n := by
  have hn : n ≤ 8 := by have := (rightB_iff l.m l.v n).1 hx; omega
  rw [← cpts_right hx]
  have hS : ∀ p, p < 256 → (cpts l.m l.v n 8).getLsbD p = (decide (p < 2 ^ n) && fits l.m l.v 8 p) := fun p _ => cpts_bit _ _ _ _ _ hn
  refine Eq.trans ?_ (low_or (fun p => markB (ls.take k) p out x) _ n hn _ hS)
  unfold ptsM markB
  congr 1
  funext p
  rw [any_append_one _ ls k l h, decide_eq_true ho]
  simp
theorem ptsR_zero (rs : List Rw) (n out : Nat) : ptsR (rs.take 0) n out = 0 := by
  refine bvOf_eq _ _ fun p _ => ?_
  simp [covB]
theorem ptsM_zero (ls : List Ln) (n out : Nat) (x : Int) : ptsM (ls.take 0) n out x = 0 := by
  refine bvOf_eq _ _ fun p _ => ?_
  simp [markB]

/-! ### What is right, and what covers -/
def outsB (o : BitVec 8) (k : Nat) : Bool := decide (o ≠ 0) && decide (o.toNat / 2 ^ k = 0)
def rwB (x : Rw) (i : Int) (k : Nat) : Bool := outsB x.o k && rightB x.m x.v i
/-- Of one output: on within may, may within all points. -/
def sideB (s : Sp) (j : Nat) : Bool := decide (s.on.getD j 0 &&& ~~~(s.may.getD j 0) = 0) && decide (s.may.getD j 0 &&& ~~~(allB s.i.toNat) = 0)
def headS (s : Sp) : Bool := decide (0 ≤ s.i) && decide (s.i ≤ 8) && (decide (1 ≤ s.on.length) && decide (s.on.length ≤ 4)) && decide (s.on.length = s.may.length)
def spB (s : Sp) : Bool := headS s && (List.range s.on.length).all (sideB s)
def mayB (s : Sp) (rs : List Rw) : Bool := (rs.all fun x => rightB x.m x.v s.i) && rs.all fun x => outsB x.o s.on.length
/-- Of one output: what is on is covered, what is covered may be on. -/
def coB (s : Sp) (rs : List Rw) (j : Nat) : Bool := decide (s.on.getD j 0 &&& ~~~(ptsR rs s.i.toNat j) = 0) && decide (ptsR rs s.i.toNat j &&& ~~~(s.may.getD j 0) = 0)
def coversB (s : Sp) (rs : List Rw) : Bool := mayB s rs && (List.range s.on.length).all (coB s rs)
theorem headS_iff (s : Sp) : headS s = true ↔ (0 ≤ s.i ∧ s.i ≤ 8) ∧ (1 ≤ s.on.length ∧ s.on.length ≤ 4) ∧ s.on.length = s.may.length := by
  unfold headS; simp [and_assoc]
theorem range_all {n : Nat} {P : Nat → Bool} : (List.range n).all P = true ↔ ∀ j, j < n → P j = true := by
  simp [List.all_eq_true]
theorem range_not {n j : Nat} {P : Nat → Bool} (h : j < n) (hp : P j = false) : (List.range n).all P = false := by
  rw [List.all_eq_false]
  exact ⟨j, by simpa using h, by simp [hp]⟩

/-! ### What a table asks for -/
def mayK (t : Tb) (o : Nat) : BitVec 256 :=
  if t.k = 0 then ptsM t.ls t.i.toNat o 1 else if t.k = 1 then ptsM t.ls t.i.toNat o 1 ||| ptsM t.ls t.i.toNat o 2 else allB t.i.toNat &&& ~~~(ptsM t.ls t.i.toNat o 0)
def bothK (t : Tb) (o : Nat) : Bool := decide (2 ≤ t.k) && decide (ptsM t.ls t.i.toNat o 1 &&& ptsM t.ls t.i.toNat o 0 ≠ 0)
def ofE (t : Tb) : Int := if rightT t = true then (if (List.range t.n.toNat).any (bothK t) = true then 4 else 0) else 1
def ofS (t : Tb) : Sp := ⟨t.i, (List.range t.n.toNat).map fun o => ptsM t.ls t.i.toNat o 1, (List.range t.n.toNat).map (mayK t)⟩
end Go.Proofs.Ytjjpobpcpgcbaaa
