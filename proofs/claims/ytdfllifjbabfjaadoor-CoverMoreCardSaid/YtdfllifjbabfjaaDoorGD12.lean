/- The statement SetBoth, walked. The statement SetPoints, walked: its pieces. What the document's answers of layer 2 come to, for every input. What the document's Cube and Right of layer 2 come to. What the document's Right and Has of layer 2 come to. What the document's Points and Text of layer 2 come to. A slice of sets in memory. -/
import Derived.Test.YtdfllifjbabfjaaDoorGD11
import Derived.Test.YtdfllifjbabfjaaDoorGD09
import Derived.Test.YtdfllifjbabfjaaDoorGD04
import Derived.Deep.RegionHeld3
import Derived.Deep.DeepCutAuto
namespace Go.Proofs.YtdfllifjbabfjaaDoor
open Go.RowKit Go.Joins

/-- 256 flags in a block. -/
def flagsA (g : Nat → Bool) : Array Value := (boolsV g).toArray
theorem flagsA_get (g : Nat → Bool) (p : Nat) (h : p < 256) : (flagsA g)[p]? = some (.bool (g p)) := by unfold flagsA; simpa using boolsV_get g p h
theorem flagsA_set (g g' : Nat → Bool) (q : Nat) (u : Bool) (hq : g' q = u) (hne : ∀ p, p ≠ q → g' p = g p) : (flagsA g).setIfInBounds q (.bool u) = flagsA g' := by
  unfold flagsA
  rw [List.setIfInBounds_toArray, boolsV_set g g' q u hq hne]
theorem flagsA_made : madeCells #[Value.bool false] 256 = flagsA (fun _ => false) := by
  unfold flagsA
  rw [← boolsV_made]
theorem make256 (w : World) : (Instr.makeSlice 50 (.int .i64 256) (.int .i64 256)).run Tryd.prog w = .ok (.slice (some ⟨w.heap.size, 0, none⟩) 256 256) (w.alloc (.cells (flagsA (fun _ => false)) 4)) := by
  obtain ⟨ib, jb, kb0, kb1, kb2⟩ := info_parts Tryd.infoBool
  have h := run_makeSlice (P := Tryd.prog) w 50 4 ib (.bool false) Tryd.underlying50 jb kb0 .i64 .i64 256 256 (by decide) (by decide) (by rw [kb1]; decide) (by rw [kb2]; decide) (by decide)
  rw [kb1] at h
  rw [h, ← flagsA_made]
  rfl

/-- What stands in the round: the flags of both sets, three rows of flags that are made up to k, and the sets themselves. -/
structure BothInv (S T : BitVec 256) (w wr : World) (bx by' bo ba bl k : Nat) : Prop where
  x : ∀ p, p < 256 → wr.cell? ⟨bx, p, none⟩ = some (.bool (S.getLsbD p))
  y : ∀ p, p < 256 → wr.cell? ⟨by', p, none⟩ = some (.bool (T.getLsbD p))
  o : wr.heap[bo]? = some (.cells (flagsA (fun p => decide (p < k) && (S.getLsbD p || T.getLsbD p))) 4 (0, 0))
  a : wr.heap[ba]? = some (.cells (flagsA (fun p => decide (p < k) && (S.getLsbD p && T.getLsbD p))) 4 (0, 0))
  l : wr.heap[bl]? = some (.cells (flagsA (fun p => decide (p < k) && (S.getLsbD p && !T.getLsbD p))) 4 (0, 0))
  box1 : wr.heap[w.heap.size]? = some (.cells (sa S) 34 (0, 0))
  box2 : wr.heap[w.heap.size + 1]? = some (.cells (sa T) 34 (0, 0))
  below : Below w.heap.size w wr
  hx : bx ≠ bo ∧ bx ≠ ba ∧ bx ≠ bl
  hy : by' ≠ bo ∧ by' ≠ ba ∧ by' ≠ bl
  ho : bo ≠ ba ∧ bo ≠ bl ∧ ba ≠ bl
  hb : w.heap.size + 2 ≤ bo ∧ w.heap.size + 2 ≤ ba ∧ w.heap.size + 2 ≤ bl
theorem step_flags (f : Nat → Bool) (k : Nat) : (flagsA (fun p => decide (p < k) && f p)).setIfInBounds k (.bool (f k)) = flagsA (fun p => decide (p < k + 1) && f p) :=
  flagsA_set _ _ k (f k) (by simp) (fun p hp => by
    by_cases h : p < k
    · have : p < k + 1 := by omega
      simp [h, this]
    · have : ¬ p < k + 1 := by omega
      simp [h, this])
theorem heap_set3 (w : World) (b1 b2 b3 j : Nat) (u1 u2 u3 : Value) (b : Nat) (h1 : b ≠ b1) (h2 : b ≠ b2) (h3 : b ≠ b3) : (((w.setCell ⟨b1, j, none⟩ u1).setCell ⟨b2, j, none⟩ u2).setCell ⟨b3, j, none⟩ u3).heap[b]? = w.heap[b]? := by
  rw [Below.heap_setCell _ _ _ _ h3, Below.heap_setCell _ _ _ _ h2, Below.heap_setCell _ _ _ _ h1]
theorem BothInv.next {S T : BitVec 256} {w wr : World} {bx by' bo ba bl k : Nat} (h : BothInv S T w wr bx by' bo ba bl k) :
    BothInv S T w (((wr.setCell ⟨bo, k, none⟩ (.bool (S.getLsbD k || T.getLsbD k))).setCell ⟨ba, k, none⟩ (.bool (S.getLsbD k && T.getLsbD k))).setCell ⟨bl, k, none⟩ (.bool (S.getLsbD k && !T.getLsbD k))) bx by' bo ba bl (k + 1) where
  x := fun p hp => by rw [World.cell?_of_block (w := wr) (a := ⟨bx, p, none⟩) (heap_set3 _ _ _ _ _ _ _ _ _ h.hx.1 h.hx.2.1 h.hx.2.2)]; exact h.x p hp
  y := fun p hp => by rw [World.cell?_of_block (w := wr) (a := ⟨by', p, none⟩) (heap_set3 _ _ _ _ _ _ _ _ _ h.hy.1 h.hy.2.1 h.hy.2.2)]; exact h.y p hp
  o := by
    rw [Below.heap_setCell _ _ _ _ h.ho.2.1, Below.heap_setCell _ _ _ _ h.ho.1, block_setCell h.o, step_flags]
  a := by
    rw [Below.heap_setCell _ _ _ _ h.ho.2.2, block_setCell ((Below.heap_setCell _ _ _ _ (Ne.symm h.ho.1)).trans h.a), step_flags]
  l := by
    rw [block_setCell ((Below.heap_setCell _ _ _ _ (Ne.symm h.ho.2.2)).trans ((Below.heap_setCell _ _ _ _ (Ne.symm h.ho.2.1)).trans h.l)), step_flags]
  box1 := by rw [heap_set3 _ _ _ _ _ _ _ _ _ (by have := h.hb; omega) (by have := h.hb; omega) (by have := h.hb; omega)]; exact h.box1
  box2 := by rw [heap_set3 _ _ _ _ _ _ _ _ _ (by have := h.hb; omega) (by have := h.hb; omega) (by have := h.hb; omega)]; exact h.box2
  below := ((h.below.setCell (by have := h.hb; show w.heap.size ≤ bo; omega) _).setCell (by have := h.hb; show w.heap.size ≤ ba; omega) _).setCell (by have := h.hb; show w.heap.size ≤ bl; omega) _
  hx := h.hx
  hy := h.hy
  ho := h.ho
  hb := h.hb

theorem three_new (w : World) (o : Obj) (b : Nat) (h0 : w.heap.size ≤ b) (h1 : b < w.heap.size + 3) : (((w.alloc o).alloc o).alloc o).drew.heap[b]? = some o := by
  show (((w.alloc o).alloc o).alloc o).heap[b]? = some o
  have h : b = w.heap.size ∨ b = w.heap.size + 1 ∨ b = w.heap.size + 2 := by omega
  rcases h with rfl | rfl | rfl
  · rw [Below.heap_alloc _ _ _ (by simp; omega), heap_alloc2_old]
  · rw [Below.heap_alloc _ _ _ (by simp), heap_alloc2_new]
  · have e : w.heap.size + 2 = ((w.alloc o).alloc o).heap.size := by simp
    rw [e, heap_alloc_new]
theorem three_old (w : World) (o : Obj) (b : Nat) (h : b < w.heap.size) : (((w.alloc o).alloc o).alloc o).drew.heap[b]? = w.heap[b]? := by
  show (((w.alloc o).alloc o).alloc o).heap[b]? = w.heap[b]?
  rw [Below.heap_alloc _ _ _ (by simp; omega), Below.heap_alloc _ _ _ (by simp; omega), Below.heap_alloc _ _ _ h]
theorem flagsA_zero (f : Nat → Bool) : flagsA (fun p => decide (p < 0) && f p) = flagsA (fun _ => false) := by
  have e : (fun p => decide (p < 0) && f p) = fun _ => false := funext fun p => by simp
  rw [e]
theorem both_start {S T : BitVec 256} {w wc : World} {bx by' : Nat} (hbx : bx < wc.heap.size) (hby : by' < wc.heap.size) (hsz : w.heap.size + 2 ≤ wc.heap.size)
    (hX : ∀ p, p < 256 → wc.cell? ⟨bx, p, none⟩ = some (.bool (S.getLsbD p))) (hY : ∀ p, p < 256 → wc.cell? ⟨by', p, none⟩ = some (.bool (T.getLsbD p)))
    (hbox1 : wc.heap[w.heap.size]? = some (.cells (sa S) 34 (0, 0))) (hbox2 : wc.heap[w.heap.size + 1]? = some (.cells (sa T) 34 (0, 0))) (hB : Below w.heap.size w wc)
    (bo ba bl : Nat) (h1 : wc.heap.size ≤ bo ∧ bo < wc.heap.size + 3) (h2 : wc.heap.size ≤ ba ∧ ba < wc.heap.size + 3) (h3 : wc.heap.size ≤ bl ∧ bl < wc.heap.size + 3) (h4 : bo ≠ ba ∧ bo ≠ bl ∧ ba ≠ bl) :
    BothInv S T w (((wc.alloc (.cells (flagsA (fun _ => false)) 4)).alloc (.cells (flagsA (fun _ => false)) 4)).alloc (.cells (flagsA (fun _ => false)) 4)).drew bx by' bo ba bl 0 where
  x := fun p hp => by rw [World.cell?_of_block (w := wc) (a := ⟨bx, p, none⟩) (three_old wc _ _ hbx)]; exact hX p hp
  y := fun p hp => by rw [World.cell?_of_block (w := wc) (a := ⟨by', p, none⟩) (three_old wc _ _ hby)]; exact hY p hp
  o := by rw [flagsA_zero]; exact three_new wc _ bo h1.1 h1.2
  a := by rw [flagsA_zero]; exact three_new wc _ ba h2.1 h2.2
  l := by rw [flagsA_zero]; exact three_new wc _ bl h3.1 h3.2
  box1 := by rw [three_old wc _ _ (by omega)]; exact hbox1
  box2 := by rw [three_old wc _ _ (by omega)]; exact hbox2
  below := (((hB.alloc (by omega) _).alloc (by simp; omega) _).alloc (by simp; omega) _).drew
  hx := by omega
  hy := by omega
  ho := h4
  hb := by omega
theorem less_zero (S T : BitVec 256) : S &&& ~~~T = 0 ↔ ∀ p, p < 256 → (S.getLsbD p && !T.getLsbD p) = false := by
  constructor
  · intro h p hp
    have h1 := congrArg (fun x => x.getLsbD p) h
    simp only [BitVec.getLsbD_and, BitVec.getLsbD_not, hp, decide_true, Bool.true_and] at h1
    rw [h1]
    exact BitVec.getLsbD_zero
  · intro h
    apply BitVec.eq_of_getLsbD_eq
    intro p hp
    rw [BitVec.getLsbD_and, BitVec.getLsbD_not]
    have := h p hp
    simp only [hp, decide_true, Bool.true_and, this]
    exact BitVec.getLsbD_zero.symm
end Go.Proofs.YtdfllifjbabfjaaDoor
namespace Go.Proofs.YtdfllifjbabfjaaDoor
open Go.RowKit Go.Joins

theorem blk_below {w w1 : World} {b : Nat} {o : Obj} (hb : Below w.heap.size w w1) (h : w.heap[b]? = some o) : w1.heap[b]? = some o := by
  rw [hb.block _ (size_of_block h)]; exact h
theorem blk_alloc {w : World} {b : Nat} {o x : Obj} (h : w.heap[b]? = some o) : (w.alloc x).heap[b]? = some o := by
  rw [Below.heap_alloc _ _ _ (size_of_block h)]; exact h
theorem blk_set {w : World} {a : Addr} {b : Nat} {o : Obj} {u : Value} (hne : b ≠ a.block) (h : w.heap[b]? = some o) : (w.setCell a u).heap[b]? = some o := by
  rw [Below.heap_setCell _ _ _ _ hne]; exact h

/-- The flags of a set with one more. -/
def addF (S : BitVec 256) (p : Int) (q : Nat) : Bool := S.getLsbD q || (decide (0 ≤ p) && decide (q = p.toNat))
def addB (S : BitVec 256) (p : Int) : BitVec 256 := if 0 ≤ p ∧ p < 256 then S ||| BitVec.twoPow 256 p.toNat else S
theorem addB_bit (S : BitVec 256) (p : Int) : bvOf (addF S p) = addB S p := by
  refine bvOf_eq _ _ fun q hq => ?_
  unfold addF addB
  by_cases h : 0 ≤ p ∧ p < 256
  · rw [if_pos h, BitVec.getLsbD_or, BitVec.getLsbD_twoPow]
    have h1 : p.toNat < 256 := by omega
    have h2 : decide (q = p.toNat) = decide (p.toNat = q) := by simp [eq_comm]
    simp [h.1, h1, h2]
  · rw [if_neg h]
    have : ¬ (0 ≤ p ∧ q = p.toNat) := by omega
    by_cases h0 : 0 ≤ p
    · have h3 : ¬ q = p.toNat := by omega
      simp [h3]
    · simp [h0]
theorem hasAny (S : BitVec 256) (p : Int) (w : World) :
    Calls Tryd.prog 37 #[sv S, .int .i64 p] w fun e w' => e = .returned (.bool (decide (0 ≤ p) && S.getLsbD p.toNat)) ∧ Below w.heap.size w w' := by
  by_cases h : 0 ≤ p ∧ p < 256
  · obtain ⟨n, rfl⟩ := Int.eq_ofNat_of_zero_le h.1
    have := has_any S n (by omega) w
    simpa [h.1] using this
  · have := has_no S p (by omega) w
    have e : (decide (0 ≤ p) && S.getLsbD p.toNat) = false := by
      by_cases h0 : 0 ≤ p
      · rw [BitVec.getLsbD_of_ge _ _ (by omega)]; simp
      · simp [h0]
    rw [e]; exact this
end Go.Proofs.YtdfllifjbabfjaaDoor
namespace Go.Proofs.YtdfllifjbabfjaaDoor
open Go.RowKit Go.Joins

def litV (m v : BitVec 8) (k : Nat) : List Value := (List.range k).map fun i => Value.int .i64 (lit m v i : Nat)
theorem litV_succ (m v : BitVec 8) (k : Nat) : litV m v (k + 1) = litV m v k ++ [.int .i64 (lit m v k : Nat)] := by
  unfold litV; rw [List.range_succ, List.map_append]; rfl
theorem litV_get (m v : BitVec 8) (n i : Nat) (h : i < n) : (litV m v n)[i]? = some (.int .i64 (lit m v i : Nat)) := by
  unfold litV; simp [h]
theorem bit_mod (x : BitVec 8) (k : Nat) : x.toNat / 2 ^ k % 2 = if x.getLsbD k then 1 else 0 := by
  simp only [BitVec.getLsbD, Nat.testBit_eq_decide_div_mod_eq]
  by_cases h : x.toNat / 2 ^ k % 2 = 1
  · simp [h]
  · have : x.toNat / 2 ^ k % 2 = 0 := by omega
    simp [this]
/-- The literals lie in cells of their own. -/
def LitsAt (m v : BitVec 8) (b : Nat) (w : World) : Prop := b < w.heap.size ∧ ∀ i, i < 8 → w.cell? ⟨b, i, none⟩ = some (.int .i64 (lit m v i : Nat))
def LitsPost (m v : BitVec 8) (w : World) (e : Ending) (w' : World) : Prop := ∃ b cap : Nat, e = .returned (.slice (some ⟨b, 0, none⟩) 8 cap) ∧ w.heap.size ≤ b ∧ LitsAt m v b w' ∧ Below w.heap.size w w'
theorem LitsAt.keep {m v : BitVec 8} {b : Nat} {w w1 : World} (h : LitsAt m v b w) (hb : Below w.heap.size w w1) : LitsAt m v b w1 :=
  ⟨Nat.lt_of_lt_of_le h.1 hb.size, fun i hi => After.cell ⟨w1, hb⟩ (h.2 i hi)⟩
end Go.Proofs.YtdfllifjbabfjaaDoor
namespace Go.Proofs.YtdfllifjbabfjaaDoor
open Go.RowKit Go.Joins

/-- The first n literals lie behind an address. -/
def GAt (g : Nat → Nat) (n : Nat) (ad : Option Addr) (w : World) : Prop := ∀ i, i < n → ∃ b : Nat, ad = some ⟨b, 0, none⟩ ∧ w.cell? ⟨b, i, none⟩ = some (.int .i64 (g i : Nat))
theorem mB_step (g : Nat → Nat) (k : Nat) (hk : k < 8) (h : g k < 2) : (mB g (k + 1)).toNat = (mB g k).toNat + 2 ^ k := by
  rw [mB_nat g (k + 1) (by omega), mB_nat g k (by omega), wsum, if_pos (by simp [h])]
theorem vB_step (g : Nat → Nat) (k : Nat) (hk : k < 8) (h : g k = 1) : (vB g (k + 1)).toNat = (vB g k).toNat + 2 ^ k := by
  rw [vB_nat g (k + 1) (by omega), vB_nat g k (by omega), wsum, if_pos (by simp [h])]
def pw (k : Nat) : Nat := 2 ^ k % 256
theorem pw_step (k : Nat) : pw k * 2 % 256 = pw (k + 1) := by unfold pw; rw [Nat.pow_succ]; omega
theorem pw_low (k : Nat) (h : k < 8) : pw k = 2 ^ k := Nat.mod_eq_of_lt (Nat.pow_lt_pow_right (n := 8) (by decide) h)
structure CInv (g : Nat → Nat) (w wr : World) (k : Nat) : Prop where
  box : wr.heap[w.heap.size + 1]? = some (cb (mB g k) (vB g k))
  res : wr.heap[w.heap.size]? = some cb0
  below : Below w.heap.size w wr
structure CMid (w wr : World) (m v : BitVec 8) : Prop where
  box : wr.heap[w.heap.size + 1]? = some (cb m v)
  res : wr.heap[w.heap.size]? = some cb0
  below : Below w.heap.size w wr
theorem CMid.mask {w wr : World} {m v : BitVec 8} (I : CMid w wr m v) (m' : BitVec 8) (p : Nat) (h : m'.toNat = m.toNat + p) : CMid w (wr.setCell ⟨w.heap.size + 1, 0, none⟩ (.int .u8 ((m.toNat : Int) + p))) m' v := by
  refine ⟨?_, keep_set (by simp) I.res, I.below.setCell (by simp) _⟩
  rw [show ((m.toNat : Int) + p) = ((m'.toNat : Nat) : Int) by omega, block_setCell I.box]; rfl
theorem CMid.val {w wr : World} {m v : BitVec 8} (I : CMid w wr m v) (v' : BitVec 8) (p : Nat) (h : v'.toNat = v.toNat + p) : CMid w (wr.setCell ⟨w.heap.size + 1, 1, none⟩ (.int .u8 ((v.toNat : Int) + p))) m v' := by
  refine ⟨?_, keep_set (by simp) I.res, I.below.setCell (by simp) _⟩
  rw [show ((v.toNat : Int) + p) = ((v'.toNat : Nat) : Int) by omega, block_setCell I.box]; rfl
theorem CMid.after {w wr : World} {m v : BitVec 8} (I : CMid w wr m v) (x : After wr) : CMid w x.1 m v :=
  ⟨After.same x I.box, After.same x I.res, I.below.trans (x.2.mono I.below.size)⟩
end Go.Proofs.YtdfllifjbabfjaaDoor
namespace Go.Proofs.YtdfllifjbabfjaaDoor
open Go.RowKit Go.Joins

theorem rightB_bad {m v : BitVec 8} {n i : Nat} (h : n ≤ i) (hi : m.getLsbD i = true) : rightB m v n = false := by
  rw [Bool.eq_false_iff]
  intro hr
  rw [rightB_iff] at hr
  have := hr.2.2.1 i (by simpa using h)
  rw [hi] at this; cases this
theorem lit_two {m v : BitVec 8} {i : Nat} : lit m v i = 2 ↔ m.getLsbD i = false := by
  unfold lit
  cases m.getLsbD i <;> cases v.getLsbD i <;> simp
theorem bitlit (m v : BitVec 8) (i : Nat) (h : m.getLsbD i = true) : ((lit m v i : Nat) : Int) = if v.getLsbD i then 1 else 0 := by
  unfold lit; rw [h]; cases v.getLsbD i <;> rfl
end Go.Proofs.YtdfllifjbabfjaaDoor
namespace Go.Proofs.YtdfllifjbabfjaaDoor
open Go.RowKit Go.Joins

/-- The flags when the first k points are asked. -/
def pf (m v : BitVec 8) (n k p : Nat) : Bool := decide (p < 2 ^ n) && (!decide (p < k) || fits m v 8 p)
theorem pf_step (m v : BitVec 8) (n k : Nat) : (flagsA (pf m v n k)).setIfInBounds k (.bool (decide (k < 2 ^ n) && fits m v 8 k)) = flagsA (pf m v n (k + 1)) :=
  flagsA_set _ _ k _ (by unfold pf; simp) (fun p hp => by
    unfold pf
    have e : (p < k + 1) ↔ (p < k) := by omega
    simp [e])
theorem pf_at (m v : BitVec 8) (n k : Nat) : pf m v n k k = decide (k < 2 ^ n) := by unfold pf; simp
theorem pf_zero (m v : BitVec 8) (n : Nat) : pf m v n 0 = fun p => decide (p < 2 ^ n) := by funext p; unfold pf; simp
theorem pf_all (m v : BitVec 8) (n : Nat) : bvOf (pf m v n 256) = cpts m v n 8 := by
  apply BitVec.eq_of_getLsbD_eq
  intro p hp
  unfold cpts
  rw [bvOf_bit, bvOf_bit]
  unfold pf
  simp [hp]
theorem cpts_right {m v : BitVec 8} {n : Nat} (h : rightB m v n = true) : cpts m v n 8 = cpts m v n n := by
  rw [rightB_iff] at h
  obtain ⟨_, h8, hm, _⟩ := h
  unfold cpts
  congr 1
  funext p
  congr 1
  rw [Bool.eq_iff_iff, fits_iff, fits_iff]
  constructor
  · intro h i hi h1; exact h i (by omega) h1
  · intro h i hi h1
    rcases Nat.lt_or_ge i n with k | k
    · exact h i k h1
    · rw [hm i (by simpa using k)] at h1; cases h1
end Go.Proofs.YtdfllifjbabfjaaDoor
namespace Go.Proofs.YtdfllifjbabfjaaDoor
open Go.RowKit Go.Joins

/-- The slice v reads as the sets Ss; what it reads lies below block B. -/
def SetsAt (w : World) (B : Nat) (v : Value) (Ss : List (BitVec 256)) : Prop :=
  ∃ A c, v = .slice A Ss.length c ∧ Ss.length ≤ 9223372036854775807 ∧
    (0 < Ss.length → ∃ b off, A = some ⟨b, off, none⟩ ∧ b < B ∧ ∀ j X, Ss[j]? = some X → w.cell? ⟨b, off + j * 4, none⟩ = some (wv (wd X 0)) ∧ w.cell? ⟨b, off + j * 4 + 1, none⟩ = some (wv (wd X 1)) ∧
      w.cell? ⟨b, off + j * 4 + 2, none⟩ = some (wv (wd X 2)) ∧ w.cell? ⟨b, off + j * 4 + 3, none⟩ = some (wv (wd X 3)))
theorem SetsAt.below {w w' : World} {B : Nat} {v : Value} {Ss : List (BitVec 256)} (h : SetsAt w B v Ss) (hb : Below B w w') : SetsAt w' B v Ss := by
  obtain ⟨A, c, e, hl, h⟩ := h
  refine ⟨A, c, e, hl, fun h0 => ?_⟩
  obtain ⟨b, off, eA, hB, hc⟩ := h h0
  refine ⟨b, off, eA, hB, fun j X hx => ?_⟩
  obtain ⟨a0, a1, a2, a3⟩ := hc j X hx
  exact ⟨(hb.cell (p := ⟨b, off + j * 4, none⟩) hB).trans a0, (hb.cell (p := ⟨b, off + j * 4 + 1, none⟩) hB).trans a1, (hb.cell (p := ⟨b, off + j * 4 + 2, none⟩) hB).trans a2, (hb.cell (p := ⟨b, off + j * 4 + 3, none⟩) hB).trans a3⟩
theorem SetsAt.more {w : World} {B B' : Nat} {v : Value} {Ss : List (BitVec 256)} (h : SetsAt w B v Ss) (hB : B ≤ B') : SetsAt w B' v Ss := by
  obtain ⟨A, c, e, hl, h⟩ := h
  refine ⟨A, c, e, hl, fun h0 => ?_⟩
  obtain ⟨b, off, eA, hb, hc⟩ := h h0
  exact ⟨b, off, eA, by omega, hc⟩
theorem SetsAt.form {w : World} {B : Nat} {v : Value} {Ss : List (BitVec 256)} (h : SetsAt w B v Ss) : ∃ A c, v = .slice A Ss.length c := by
  obtain ⟨A, c, e, -, -⟩ := h
  exact ⟨A, c, e⟩
theorem sts_nil (w : World) (B : Nat) : SetsAt w B (.slice none 0 0) [] := ⟨none, 0, rfl, by decide, fun h => absurd h (by simp)⟩
end Go.Proofs.YtdfllifjbabfjaaDoor
