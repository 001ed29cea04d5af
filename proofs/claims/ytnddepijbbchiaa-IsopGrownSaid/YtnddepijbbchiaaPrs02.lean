/- What Parse of the package cube answers, for every text. -/
import Derived.Test.YtnddepijbbchiaaTxt02
import Derived.Lib.OthersKept
namespace Go.Proofs.Ytnddepijbbchiaa
open Go.RowKit Go.Joins

/-- Is a byte a literal's? -/
def okC (c : UInt8) : Bool := c == 48 || c == 49 || c == 45
/-- The literal of a byte. -/
def litOf (c : UInt8) : Nat := if c = 48 then 0 else if c = 49 then 1 else 2
/-- The literal of byte i of a text. -/
def gS (s : ByteArray) (i : Nat) : Nat := litOf (s.data.toList.getD i 0)
def okTo (s : ByteArray) (k : Nat) : Prop := ∀ i (h : i < s.size), i < k → okC s[i] = true
def okT (s : ByteArray) : Bool := decide (s.size ≤ 8) && s.data.toList.all okC
/-- What a text is parsed to. -/
def pM (s : ByteArray) : BitVec 8 := if okT s then mB (gS s) s.size else 0
def pV (s : ByteArray) : BitVec 8 := if okT s then vB (gS s) s.size else 0
def pE (s : ByteArray) : Int := if okT s then 0 else 2
theorem gS_at (s : ByteArray) (k : Nat) (h : k < s.size) : gS s k = litOf s[k] := by
  unfold gS
  have e : s.data.toList.getD k 0 = s[k] := by simp [List.getD, h]; rfl
  rw [e]
theorem okT_yes {s : ByteArray} (h8 : s.size ≤ 8) (h : okTo s s.size) : okT s = true := by
  unfold okT
  simp only [h8, decide_true, Bool.true_and, List.all_eq_true]
  intro c hc
  obtain ⟨i, hi, rfl⟩ := List.mem_iff_getElem.1 hc
  have hi' : i < s.size := by simpa using hi
  exact h i hi' hi'
theorem okT_bad {s : ByteArray} {k : Nat} (hk : k < s.size) (h : okC s[k] = false) : okT s = false := by
  unfold okT
  rw [Bool.and_eq_false_iff]
  right
  rw [List.all_eq_false]
  refine ⟨s[k], ?_, by rw [h]; simp⟩
  exact List.mem_iff_getElem.2 ⟨k, by simpa using hk, rfl⟩
theorem okT_long {s : ByteArray} (h : 8 < s.size) : okT s = false := by
  unfold okT
  have : ¬ s.size ≤ 8 := by omega
  simp [this]
theorem mB_zero (g : Nat → Nat) : mB g 0 = 0 := rfl
theorem vB_zero (g : Nat → Nat) : vB g 0 = 0 := rfl
theorem twoPow8 (k : Nat) (hk : k < 8) : (BitVec.twoPow 8 k).toNat = 2 ^ k := BitVec.toNat_twoPow_of_lt hk
theorem mB_succ (g : Nat → Nat) (k : Nat) (h : g k < 2) : mB g (k + 1) = mB g k ||| BitVec.twoPow 8 k := by
  apply BitVec.eq_of_getLsbD_eq
  intro i hi
  rw [BitVec.getLsbD_or, mB_bit, mB_bit, BitVec.getLsbD_twoPow]
  by_cases e : i = k
  · subst e; simp [hi, h]
  · have a : (i < k + 1) ↔ (i < k) := by omega
    have b : ¬ k = i := fun x => e x.symm
    simp [a, b, hi]
theorem mB_same (g : Nat → Nat) (k : Nat) (h : ¬ g k < 2) : mB g (k + 1) = mB g k := by
  apply BitVec.eq_of_getLsbD_eq
  intro i hi
  rw [mB_bit, mB_bit]
  by_cases e : i = k
  · subst e; simp [h]
  · have a : (i < k + 1) ↔ (i < k) := by omega
    simp [a]
theorem vB_succ (g : Nat → Nat) (k : Nat) (h : g k = 1) : vB g (k + 1) = vB g k ||| BitVec.twoPow 8 k := by
  apply BitVec.eq_of_getLsbD_eq
  intro i hi
  rw [BitVec.getLsbD_or, vB_bit, vB_bit, BitVec.getLsbD_twoPow]
  by_cases e : i = k
  · subst e; simp [hi, h]
  · have a : (i < k + 1) ↔ (i < k) := by omega
    have b : ¬ k = i := fun x => e x.symm
    simp [a, b, hi]
theorem vB_same (g : Nat → Nat) (k : Nat) (h : ¬ g k = 1) : vB g (k + 1) = vB g k := by
  apply BitVec.eq_of_getLsbD_eq
  intro i hi
  rw [vB_bit, vB_bit]
  by_cases e : i = k
  · subst e; simp [h]
  · have a : (i < k + 1) ↔ (i < k) := by omega
    simp [a]
/-- What holds at the loop's head. -/
structure PInv (s : ByteArray) (w wr : World) (k : Nat) : Prop where
  it : wr.heap[w.heap.size + 2]? = some (.stringIter s k)
  box : wr.heap[w.heap.size + 1]? = some (cb (mB (gS s) k) (vB (gS s) k))
  res : wr.heap[w.heap.size]? = some cb0
  below : Below w.heap.size w wr
  ok : okTo s k
/-- The next byte is read. -/
structure PMid (s : ByteArray) (w wr : World) (k : Nat) (m v : BitVec 8) : Prop where
  it : wr.heap[w.heap.size + 2]? = some (.stringIter s (k + 1))
  box : wr.heap[w.heap.size + 1]? = some (cb m v)
  res : wr.heap[w.heap.size]? = some cb0
  below : Below w.heap.size w wr
  ok : okTo s (k + 1)
theorem PInv.next {s : ByteArray} {w wr : World} {k : Nat} (I : PInv s w wr k) (h : k < s.size) (hc : okC s[k] = true) : PMid s w (wr.iterAt (w.heap.size + 2) s (k + 1)) k (mB (gS s) k) (vB (gS s) k) :=
  ⟨Lib.iterAt_heap _ _ _ _ _ I.it, (Lib.iterAt_other _ _ _ _ _ (by omega)).trans I.box, (Lib.iterAt_other _ _ _ _ _ (by omega)).trans I.res, Lib.below_iterAt I.below (by omega) _ _,
    fun i hi hk => by
      by_cases e : i = k
      · subst e; exact hc
      · exact I.ok i hi (by omega)⟩
theorem or_one (x : BitVec 8) (k : Nat) (hk : k < 8) : bits .or .u8 (x.toNat : Int) (2 ^ k % 256) = ((x ||| BitVec.twoPow 8 k).toNat : Int) := by
  have h : (2 : Int) ^ k % 256 = ((BitVec.twoPow 8 k).toNat : Int) := by
    rw [twoPow8 k hk]
    have : 2 ^ k < 256 := Nat.pow_lt_pow_right (n := 8) (by decide) hk
    have e : ((2 ^ k : Nat) : Int) = 2 ^ k := by simp
    rw [← e]
    clear e
    generalize 2 ^ k = q at *
    omega
  rw [h, or8]
theorem PMid.mask {s : ByteArray} {w wx : World} {k : Nat} {m v : BitVec 8} (J : PMid s w wx k m v) (hk : k < 8) (x : After wx) :
    PMid s w (x.1.setCell ⟨w.heap.size + 1, 0, none⟩ (.int .u8 (bits .or .u8 (m.toNat : Int) (2 ^ k % 256)))) k (m ||| BitVec.twoPow 8 k) v := by
  rw [or_one m k hk]
  refine ⟨keep_set (by simp) (After.same x J.it), ?_, keep_set (by simp) (After.same x J.res), (J.below.trans (x.2.mono J.below.size)).setCell (by simp) _, J.ok⟩
  rw [block_setCell (After.same x J.box)]; rfl
theorem PMid.val {s : ByteArray} {w wx : World} {k : Nat} {m v : BitVec 8} (J : PMid s w wx k m v) (hk : k < 8) (x : After wx) :
    PMid s w (x.1.setCell ⟨w.heap.size + 1, 1, none⟩ (.int .u8 (bits .or .u8 (v.toNat : Int) (2 ^ k % 256)))) k m (v ||| BitVec.twoPow 8 k) := by
  rw [or_one v k hk]
  refine ⟨keep_set (by simp) (After.same x J.it), ?_, keep_set (by simp) (After.same x J.res), (J.below.trans (x.2.mono J.below.size)).setCell (by simp) _, J.ok⟩
  rw [block_setCell (After.same x J.box)]; rfl
theorem PMid.done {s : ByteArray} {w wx : World} {k : Nat} {m v : BitVec 8} (J : PMid s w wx k m v) (hm : mB (gS s) (k + 1) = m) (hv : vB (gS s) (k + 1) = v) : PInv s w wx (k + 1) :=
  ⟨J.it, by rw [hm, hv]; exact J.box, J.res, J.below, J.ok⟩
theorem PMid.left {s : ByteArray} {w wx : World} {k : Nat} {m v : BitVec 8} (J : PMid s w wx k m v) : wx.iterPos (w.heap.size + 2) = k + 1 := by
  simp [World.iterPos, J.it]
theorem PInv.left {s : ByteArray} {w wx : World} {k : Nat} (J : PInv s w wx k) : wx.iterPos (w.heap.size + 2) = k := by
  simp [World.iterPos, J.it]
end Go.Proofs.Ytnddepijbbchiaa
