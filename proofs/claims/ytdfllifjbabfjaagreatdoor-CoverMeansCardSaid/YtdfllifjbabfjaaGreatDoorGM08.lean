/- What Right and Points of the package cube answer, for every input. What Text of the package cube answers, for every input. What Parse of the package cube answers, for every text. A text that is a cube's is the text of its cube, and a cube is what its text is parsed to. -/
import Derived.Test.YtdfllifjbabfjaaGreatDoorGM07
import Derived.Lib.SlBytesRow
import Derived.Lib.OthersKept
namespace Go.Proofs.YtdfllifjbabfjaaGreatDoor
open Go.RowKit Go.Joins

theorem right_low (m v : BitVec 8) (n : Int) (h : n < 0) (w : World) :
    Calls Tryz.prog 20 #[cv m v, .int .i64 n] w fun e w' => e = .returned (.bool false) ∧ Below w.heap.size w w' := by
  unfold cv bvv
  have h1 : decide (0 ≤ n) = false := decide_eq_false (by omega)
  go_enter Tryz.func20, Tryz.ntmps20
  go_wp2_with fail
  refine wp_region_after (by kernel_rfl) (by kernel_rfl) ?_
  repeat (first | go_big_quiet_step (fail))
  refine wpQuiet_nil ?_
  intro x
  go_wp2
  go_ret
  exact ⟨rfl, (below_alloc1 w _).trans (x.2.mono (by simp))⟩
theorem right_high (m v : BitVec 8) (n : Int) (h : 8 < n) (w : World) :
    Calls Tryz.prog 20 #[cv m v, .int .i64 n] w fun e w' => e = .returned (.bool false) ∧ Below w.heap.size w w' := by
  unfold cv bvv
  have h1 : decide (0 ≤ n) = true := decide_eq_true (by omega)
  have h2 : decide (n ≤ 8) = false := decide_eq_false (by omega)
  go_enter Tryz.func20, Tryz.ntmps20
  go_wp2_with fail
  refine wp_region_after (by kernel_rfl) (by kernel_rfl) ?_
  repeat (first | go_big_quiet_step (fail))
  refine wpQuiet_nil ?_
  intro x
  go_wp2
  go_ret
  exact ⟨rfl, (below_alloc1 w _).trans (x.2.mono (by simp))⟩
theorem right_mid (m v : BitVec 8) (n : Nat) (h : n ≤ 8) (w : World) :
    Calls Tryz.prog 20 #[cv m v, .int .i64 n] w fun e w' => e = .returned (.bool (rightB m v n)) ∧ Below w.heap.size w w' := by
  have HT := fun w => tidy_any m v w
  have hr : rightB m v n = (decide (m.toNat / 2 ^ n = 0) && decide (v &&& m = v)) := by
    unfold rightB
    have e1 : (0 : Int) ≤ n := by omega
    have e2 : (n : Int) ≤ 8 := by omega
    simp [e1, e2]
  rw [hr]
  clear hr
  have hq : (m.toNat : Int) / 2 ^ n = ((m.toNat / 2 ^ n : Nat) : Int) := by rw [Int.natCast_ediv]; simp
  have h1 : decide (0 ≤ (n : Int)) = true := decide_eq_true (by omega)
  have h2 : decide ((n : Int) ≤ 8) = true := decide_eq_true (by omega)
  by_cases hz : m.toNat / 2 ^ n = 0
  · have hz2 : (m.toNat : Int) / 2 ^ n = 0 := by rw [hq, hz]; rfl
    rw [decide_eq_true hz]
    clear hq hz
    unfold cv bvv at *
    by_cases hv : v &&& m = v
    · rw [hv] at HT
      rw [decide_eq_true hv]
      clear hv
      go_enter Tryz.func20, Tryz.ntmps20
      go_wp2_with fail
      generalize hW : w.alloc (cb m v) = W
      obtain ⟨a0, a1, -⟩ := box2 (by rw [← hW]; exact heap_alloc_new _ _ : W.heap[w.heap.size]? = _) rfl
      have hB : Below w.heap.size w W := by rw [← hW]; exact below_alloc1 _ _
      clear hW
      refine wp_region_after (by kernel_rfl) (by kernel_rfl) ?_
      repeat (first | go_big_quiet_step ((go_at_call 52; exact Calls.after_of (HT _))))
      refine wpQuiet_nil ?_
      intro x
      go_wp2
      go_ret
      exact ⟨rfl, hB.trans (x.2.mono hB.size)⟩
    · have hn := toNat_ne (fun e => hv e.symm)
      rw [decide_eq_false hv]
      clear hv
      generalize v &&& m = t at *
      go_enter Tryz.func20, Tryz.ntmps20
      go_wp2_with fail
      generalize hW : w.alloc (cb m v) = W
      obtain ⟨a0, a1, -⟩ := box2 (by rw [← hW]; exact heap_alloc_new _ _ : W.heap[w.heap.size]? = _) rfl
      have hB : Below w.heap.size w W := by rw [← hW]; exact below_alloc1 _ _
      clear hW
      refine wp_region_after (by kernel_rfl) (by kernel_rfl) ?_
      repeat (first | go_big_quiet_step ((go_at_call 52; exact Calls.after_of (HT _))))
      refine wpQuiet_nil ?_
      intro x
      go_wp2
      go_ret
      exact ⟨rfl, hB.trans (x.2.mono hB.size)⟩
  · have hz2 : ((m.toNat : Int) / 2 ^ n == 0) = false := by
      rw [hq, beq_eq_false_iff_ne]
      exact fun e => hz (by exact_mod_cast e)
    rw [decide_eq_false hz, Bool.false_and]
    clear hq hz HT
    unfold cv bvv at *
    go_enter Tryz.func20, Tryz.ntmps20
    go_wp2_with fail
    generalize hW : w.alloc (cb m v) = W
    obtain ⟨a0, a1, -⟩ := box2 (by rw [← hW]; exact heap_alloc_new _ _ : W.heap[w.heap.size]? = _) rfl
    have hB : Below w.heap.size w W := by rw [← hW]; exact below_alloc1 _ _
    clear hW
    refine wp_region_after (by kernel_rfl) (by kernel_rfl) ?_
    repeat (first | go_big_quiet_step (fail))
    refine wpQuiet_nil ?_
    intro x
    go_wp2
    go_ret
    exact ⟨rfl, hB.trans (x.2.mono hB.size)⟩
theorem right_any (m v : BitVec 8) (n : Int) (w : World) :
    Calls Tryz.prog 20 #[cv m v, .int .i64 n] w fun e w' => e = .returned (.bool (rightB m v n)) ∧ Below w.heap.size w w' := by
  by_cases h0 : n < 0
  · have e : rightB m v n = false := by unfold rightB; exact decide_eq_false (by omega)
    rw [e]; exact right_low m v n h0 w
  · by_cases h8 : 8 < n
    · have e : rightB m v n = false := by unfold rightB; exact decide_eq_false (by omega)
      rw [e]; exact right_high m v n h8 w
    · obtain ⟨k, rfl⟩ := Int.eq_ofNat_of_zero_le (show 0 ≤ n by omega)
      exact right_mid m v k (by omega) w
theorem right_yes {m v : BitVec 8} {n : Int} (h : rightB m v n = true) (w : World) :
    Calls Tryz.prog 20 #[cv m v, .int .i64 n] w fun e w' => e = .returned (.bool true) ∧ Below w.heap.size w w' := by
  have := right_any m v n w; rwa [h] at this
theorem right_no {m v : BitVec 8} {n : Int} (h : rightB m v n = false) (w : World) :
    Calls Tryz.prog 20 #[cv m v, .int .i64 n] w fun e w' => e = .returned (.bool false) ∧ Below w.heap.size w w' := by
  have := right_any m v n w; rwa [h] at this
theorem cpoints_no {m v : BitVec 8} {n : Int} (h : rightB m v n = false) (w : World) :
    Calls Tryz.prog 71 #[cv m v, .int .i64 n] w fun e w' => e = .returned (.tuple #[sv 0, .int .i64 1]) ∧ Below w.heap.size w w' := by
  have HR := fun w => right_no h w
  unfold cv bvv at *
  clear h
  go_enter Tryz.func71, Tryz.ntmps71
  go_wp2_with fail
  refine (HR _).mono ?_
  rintro e w1 ⟨rfl, hb1⟩
  have hB : Below w.heap.size w w1 := (below_alloc2 w _ _).trans (hb1.mono (by simp; omega))
  obtain ⟨c0, c1, c2, c3, cf⟩ := now4 (keep_blk hb1 (heap_alloc2_new _ _ _) : w1.heap[w.heap.size + 1]? = _) rfl
  clear hb1
  go_wp2
  exact bodyPost_ret (v := .tuple #[.agg #[.int .u64 0, .int .u64 0, .int .u64 0, .int .u64 0], .int .i64 1]) (by simp [results, Tryz.results71, go_sem, c0, c1, c2, c3]) rfl
    ⟨rfl, (((hB.setCell (le1 w) _).setCell (le1 w) _).setCell (le1 w) _).setCell (le1 w) _⟩
theorem cpts_zero (m v : BitVec 8) (n : Nat) : cpts m v n 0 = allB n := by
  unfold cpts allB; congr 1; funext p; simp [fits]
theorem cpts_step (m v : BitVec 8) (n k : Nat) (hn : n ≤ 8) (hk : k < 8) (hm : m.getLsbD k = true) : halfB (cpts m v n k) k (v.getLsbD k) = cpts m v n (k + 1) := by
  apply BitVec.eq_of_getLsbD_eq
  intro p hp
  have h : 0 ≤ (k : Int) ∧ (k : Int) < 8 := by omega
  have ho : (onesB k).getLsbD p = p.testBit k := by unfold onesB; rw [bvOf_bit]; simp [hp]
  unfold halfB
  rw [if_pos h, cpts_bit _ _ _ _ _ hn, fits, hm]
  cases hv : v.getLsbD k <;> simp only [Int.toNat_natCast, if_true, Bool.false_eq_true, if_false, BitVec.getLsbD_and, BitVec.getLsbD_not, ho, hp, decide_true, Bool.true_and, cpts_bit _ _ _ _ _ hn, Bool.not_true, Bool.false_or, Bool.and_assoc]
  · cases p.testBit k <;> simp
  · cases p.testBit k <;> simp
theorem cpts_skip (m v : BitVec 8) (n k : Nat) (hm : m.getLsbD k = false) : cpts m v n (k + 1) = cpts m v n k := by
  unfold cpts; congr 1; funext p; rw [fits, hm]; simp
end Go.Proofs.YtdfllifjbabfjaaGreatDoor
namespace Go.Proofs.YtdfllifjbabfjaaGreatDoor
open Go.RowKit Go.Joins

/-- The byte of a literal. -/
def litC (x : Nat) : UInt8 := if x = 2 then 45 else if x = 1 then 49 else 48
/-- The text of the first n inputs. -/
def txtL (m v : BitVec 8) (n : Nat) : List UInt8 := (List.range n).map fun i => litC (lit m v i)
theorem txtL_succ (m v : BitVec 8) (n : Nat) : txtL m v (n + 1) = txtL m v n ++ [litC (lit m v n)] := by
  unfold txtL; rw [List.range_succ, List.map_append]; rfl
theorem txtL_len (m v : BitVec 8) (n : Nat) : (txtL m v n).length = n := by simp [txtL]
def str (l : List UInt8) : ByteArray := ⟨l.toArray⟩
def byteV (l : List UInt8) : List Value := l.map fun c => .int .u8 (c.toNat : Int)
theorem byteV_len (l : List UInt8) : (byteV l).length = l.length := by simp [byteV]
theorem conv_row {w : World} {base : Nat} {v : Value} {l : List UInt8} (h : w.ownsRow base 5 1 v l.length (byteV l)) : (convert 82 9 v).run Tryz.prog w = .ok (.string (str l)) w := by
  rcases ownsRow_forms h with ⟨rfl, h0⟩ | ⟨g, cap, rfl⟩
  · have e : l = [] := List.length_eq_zero_iff.1 h0
    subst e
    rw [run_convert_bytes_string (P := Tryz.prog) w 82 9 5 none 0 0 Tryz.underlying82 Tryz.underlying5 Tryz.underlying9]
    rfl
  · have hs : (str l).size = l.length := by simp [str, ByteArray.size]
    have hb : Lib.Bytes w g 0 (str l) := by
      intro i hi
      rw [Nat.zero_add, h.cellAt i (by omega)]
      have hi' : i < l.length := by omega
      simp [byteV, hi', str]
      rfl
    have := Lib.run_convert_whole (P := Tryz.prog) w 82 5 9 Tryz.underlying82 Tryz.underlying5 Tryz.underlying9 g 0 (str l) hb cap
    rw [hs] at this
    exact this
theorem Tryz.infoU8 : (Tryz.prog.info? 5).map (fun i => (i.zero, i.size, i.bytes)) = some (some (.int .u8 0), 1, 1) := by kernel_rfl
end Go.Proofs.YtdfllifjbabfjaaGreatDoor
namespace Go.Proofs.YtdfllifjbabfjaaGreatDoor
open Go.RowKit Go.Joins

/-- Is a byte a literal's? -/
def okC (c : UInt8) : Bool := c == 48 || c == 49 || c == 45
/-- The literal of a byte. -/
def litOf (c : UInt8) : Nat := if c = 48 then 0 else if c = 49 then 1 else 2
/-- The literal of byte i of a text. -/
def gS (s : ByteArray) (i : Nat) : Nat := litOf (s.data.toList.getD i 0)
def okTo (s : ByteArray) (k : Nat) : Prop := ∀ i (h : i < s.size), i < k → okC s[i] = true
def okT (s : ByteArray) : Bool := decide (s.size ≤ 8) && s.data.toList.all okC
/-- What a text is parsed to. -/
def pM (s : ByteArray) : BitVec 8 := if okT s then mB (gS s) s.size else 0
def pV (s : ByteArray) : BitVec 8 := if okT s then vB (gS s) s.size else 0
def pE (s : ByteArray) : Int := if okT s then 0 else 2
theorem gS_at (s : ByteArray) (k : Nat) (h : k < s.size) : gS s k = litOf s[k] := by
  unfold gS
  have e : s.data.toList.getD k 0 = s[k] := by simp [List.getD, h]; rfl
  rw [e]
theorem okT_yes {s : ByteArray} (h8 : s.size ≤ 8) (h : okTo s s.size) : okT s = true := by
  unfold okT
  simp only [h8, decide_true, Bool.true_and, List.all_eq_true]
  intro c hc
  obtain ⟨i, hi, rfl⟩ := List.mem_iff_getElem.1 hc
  have hi' : i < s.size := by simpa using hi
  exact h i hi' hi'
theorem okT_bad {s : ByteArray} {k : Nat} (hk : k < s.size) (h : okC s[k] = false) : okT s = false := by
  unfold okT
  rw [Bool.and_eq_false_iff]
  right
  rw [List.all_eq_false]
  refine ⟨s[k], ?_, by rw [h]; simp⟩
  exact List.mem_iff_getElem.2 ⟨k, by simpa using hk, rfl⟩
theorem okT_long {s : ByteArray} (h : 8 < s.size) : okT s = false := by
  unfold okT
  have : ¬ s.size ≤ 8 := by omega
  simp [this]
theorem mB_zero (g : Nat → Nat) : mB g 0 = 0 := rfl
theorem vB_zero (g : Nat → Nat) : vB g 0 = 0 := rfl
theorem twoPow8 (k : Nat) (hk : k < 8) : (BitVec.twoPow 8 k).toNat = 2 ^ k := BitVec.toNat_twoPow_of_lt hk
theorem mB_succ (g : Nat → Nat) (k : Nat) (h : g k < 2) : mB g (k + 1) = mB g k ||| BitVec.twoPow 8 k := by
  apply BitVec.eq_of_getLsbD_eq
  intro i hi
  rw [BitVec.getLsbD_or, mB_bit, mB_bit, BitVec.getLsbD_twoPow]
  by_cases e : i = k
  · subst e; simp [hi, h]
  · have a : (i < k + 1) ↔ (i < k) := by omega
    have b : ¬ k = i := fun x => e x.symm
    simp [a, b, hi]
theorem mB_same (g : Nat → Nat) (k : Nat) (h : ¬ g k < 2) : mB g (k + 1) = mB g k := by
  apply BitVec.eq_of_getLsbD_eq
  intro i hi
  rw [mB_bit, mB_bit]
  by_cases e : i = k
  · subst e; simp [h]
  · have a : (i < k + 1) ↔ (i < k) := by omega
    simp [a]
theorem vB_succ (g : Nat → Nat) (k : Nat) (h : g k = 1) : vB g (k + 1) = vB g k ||| BitVec.twoPow 8 k := by
  apply BitVec.eq_of_getLsbD_eq
  intro i hi
  rw [BitVec.getLsbD_or, vB_bit, vB_bit, BitVec.getLsbD_twoPow]
  by_cases e : i = k
  · subst e; simp [hi, h]
  · have a : (i < k + 1) ↔ (i < k) := by omega
    have b : ¬ k = i := fun x => e x.symm
    simp [a, b, hi]
theorem vB_same (g : Nat → Nat) (k : Nat) (h : ¬ g k = 1) : vB g (k + 1) = vB g k := by
  apply BitVec.eq_of_getLsbD_eq
  intro i hi
  rw [vB_bit, vB_bit]
  by_cases e : i = k
  · subst e; simp [h]
  · have a : (i < k + 1) ↔ (i < k) := by omega
    simp [a]
/-- What holds at the loop's head. -/
structure PInv (s : ByteArray) (w wr : World) (k : Nat) : Prop where
  it : wr.heap[w.heap.size + 2]? = some (.stringIter s k)
  box : wr.heap[w.heap.size + 1]? = some (cb (mB (gS s) k) (vB (gS s) k))
  res : wr.heap[w.heap.size]? = some cb0
  below : Below w.heap.size w wr
  ok : okTo s k
/-- The next byte is read. -/
structure PMid (s : ByteArray) (w wr : World) (k : Nat) (m v : BitVec 8) : Prop where
  it : wr.heap[w.heap.size + 2]? = some (.stringIter s (k + 1))
  box : wr.heap[w.heap.size + 1]? = some (cb m v)
  res : wr.heap[w.heap.size]? = some cb0
  below : Below w.heap.size w wr
  ok : okTo s (k + 1)
theorem PInv.next {s : ByteArray} {w wr : World} {k : Nat} (I : PInv s w wr k) (h : k < s.size) (hc : okC s[k] = true) : PMid s w (wr.iterAt (w.heap.size + 2) s (k + 1)) k (mB (gS s) k) (vB (gS s) k) :=
  ⟨Lib.iterAt_heap _ _ _ _ _ I.it, (Lib.iterAt_other _ _ _ _ _ (by omega)).trans I.box, (Lib.iterAt_other _ _ _ _ _ (by omega)).trans I.res, Lib.below_iterAt I.below (by omega) _ _,
    fun i hi hk => by
      by_cases e : i = k
      · subst e; exact hc
      · exact I.ok i hi (by omega)⟩
theorem or_one (x : BitVec 8) (k : Nat) (hk : k < 8) : bits .or .u8 (x.toNat : Int) (2 ^ k % 256) = ((x ||| BitVec.twoPow 8 k).toNat : Int) := by
  have h : (2 : Int) ^ k % 256 = ((BitVec.twoPow 8 k).toNat : Int) := by
    rw [twoPow8 k hk]
    have : 2 ^ k < 256 := Nat.pow_lt_pow_right (n := 8) (by decide) hk
    have e : ((2 ^ k : Nat) : Int) = 2 ^ k := by simp
    rw [← e]
    clear e
    generalize 2 ^ k = q at *
    omega
  rw [h, or8]
theorem PMid.mask {s : ByteArray} {w wx : World} {k : Nat} {m v : BitVec 8} (J : PMid s w wx k m v) (hk : k < 8) (x : After wx) :
    PMid s w (x.1.setCell ⟨w.heap.size + 1, 0, none⟩ (.int .u8 (bits .or .u8 (m.toNat : Int) (2 ^ k % 256)))) k (m ||| BitVec.twoPow 8 k) v := by
  rw [or_one m k hk]
  refine ⟨keep_set (by simp) (After.same x J.it), ?_, keep_set (by simp) (After.same x J.res), (J.below.trans (x.2.mono J.below.size)).setCell (by simp) _, J.ok⟩
  rw [block_setCell (After.same x J.box)]; rfl
theorem PMid.val {s : ByteArray} {w wx : World} {k : Nat} {m v : BitVec 8} (J : PMid s w wx k m v) (hk : k < 8) (x : After wx) :
    PMid s w (x.1.setCell ⟨w.heap.size + 1, 1, none⟩ (.int .u8 (bits .or .u8 (v.toNat : Int) (2 ^ k % 256)))) k m (v ||| BitVec.twoPow 8 k) := by
  rw [or_one v k hk]
  refine ⟨keep_set (by simp) (After.same x J.it), ?_, keep_set (by simp) (After.same x J.res), (J.below.trans (x.2.mono J.below.size)).setCell (by simp) _, J.ok⟩
  rw [block_setCell (After.same x J.box)]; rfl
theorem PMid.done {s : ByteArray} {w wx : World} {k : Nat} {m v : BitVec 8} (J : PMid s w wx k m v) (hm : mB (gS s) (k + 1) = m) (hv : vB (gS s) (k + 1) = v) : PInv s w wx (k + 1) :=
  ⟨J.it, by rw [hm, hv]; exact J.box, J.res, J.below, J.ok⟩
theorem PMid.left {s : ByteArray} {w wx : World} {k : Nat} {m v : BitVec 8} (J : PMid s w wx k m v) : wx.iterPos (w.heap.size + 2) = k + 1 := by
  simp [World.iterPos, J.it]
theorem PInv.left {s : ByteArray} {w wx : World} {k : Nat} (J : PInv s w wx k) : wx.iterPos (w.heap.size + 2) = k := by
  simp [World.iterPos, J.it]
end Go.Proofs.YtdfllifjbabfjaaGreatDoor
namespace Go.Proofs.YtdfllifjbabfjaaGreatDoor
open Go.RowKit Go.Joins

theorem litC_litOf (c : UInt8) (h : okC c = true) : litC (litOf c) = c := by
  unfold okC at h
  simp only [Bool.or_eq_true, beq_iff_eq] at h
  rcases h with (h | h) | h <;> subst h <;> rfl
theorem litOf_litC (x : Nat) (h : x ≤ 2) : litOf (litC x) = x := by
  have : x = 0 ∨ x = 1 ∨ x = 2 := by omega
  rcases this with h | h | h <;> subst h <;> rfl
theorem okC_litC (x : Nat) : okC (litC x) = true := by
  unfold litC; split
  · rfl
  · split <;> rfl
theorem okT_size {s : ByteArray} (h : okT s = true) : s.size ≤ 8 := by
  unfold okT at h
  simp only [Bool.and_eq_true, decide_eq_true_eq] at h
  exact h.1
theorem okT_at {s : ByteArray} (h : okT s = true) (i : Nat) (hi : i < s.size) : okC s[i] = true := by
  unfold okT at h
  simp only [Bool.and_eq_true, List.all_eq_true] at h
  exact h.2 s[i] (List.mem_iff_getElem.2 ⟨i, by simpa using hi, rfl⟩)
theorem gS_le2 (s : ByteArray) (k : Nat) : gS s k ≤ 2 := by
  unfold gS litOf; split
  · omega
  · split <;> omega
theorem lit_mv (g : Nat → Nat) (n i : Nat) (hn : n ≤ 8) (hi : i < n) (hg : g i ≤ 2) : lit (mB g n) (vB g n) i = g i := by
  unfold lit
  rw [mB_bit, vB_bit]
  have h8 : i < 8 := by omega
  have : g i = 0 ∨ g i = 1 ∨ g i = 2 := by omega
  rcases this with h | h | h <;> simp [h, h8, hi]
theorem right_mv (g : Nat → Nat) (n : Nat) (hn : n ≤ 8) : rightB (mB g n) (vB g n) n = true := by
  rw [rightB_iff]
  refine ⟨by omega, by omega, fun i hi => ?_, ?_⟩
  · rw [mB_bit]
    have : ¬ i < n := by simp at hi; omega
    simp [this]
  · apply BitVec.eq_of_getLsbD_eq
    intro i _
    rw [BitVec.getLsbD_and, mB_bit, vB_bit]
    by_cases h : g i = 1
    · simp [h]
    · simp [h]
theorem parsed_right {s : ByteArray} (h : okT s = true) : rightB (pM s) (pV s) s.size = true := by
  unfold pM pV
  rw [if_pos h, if_pos h]
  exact right_mv _ _ (okT_size h)
theorem txtL_get (m v : BitVec 8) (n i : Nat) (h : i < (txtL m v n).length) : (txtL m v n)[i] = litC (lit m v i) := by simp [txtL]
theorem parsed_text {s : ByteArray} (h : okT s = true) : str (txtL (pM s) (pV s) s.size) = s := by
  unfold pM pV
  rw [if_pos h, if_pos h]
  have hn := okT_size h
  apply ByteArray.ext
  apply Array.ext'
  show txtL (mB (gS s) s.size) (vB (gS s) s.size) s.size = s.data.toList
  apply List.ext_getElem
  · rw [txtL_len]; simp
  · intro i h1 h2
    have hi : i < s.size := by simpa using h2
    rw [txtL_get, lit_mv _ _ _ hn hi (gS_le2 s i), gS_at s i hi, litC_litOf _ (okT_at h i hi)]
    rfl
theorem txt_at (m v : BitVec 8) (n i : Nat) (h : i < (str (txtL m v n)).size) : (str (txtL m v n))[i] = litC (lit m v i) := by
  have : i < n := by simpa [str, ByteArray.size, txtL] using h
  show (txtL m v n).toArray[i]'(by simpa [txtL] using this) = _
  simp [txtL]
theorem txt_size (m v : BitVec 8) (n : Nat) : (str (txtL m v n)).size = n := by simp [str, ByteArray.size, txtL]
theorem text_ok (m v : BitVec 8) (n : Nat) (hn : n ≤ 8) : okT (str (txtL m v n)) = true :=
  okT_yes (by rw [txt_size]; exact hn) (fun i hi _ => by rw [txt_at]; exact okC_litC _)
theorem gS_txt (m v : BitVec 8) (n i : Nat) (hi : i < n) : gS (str (txtL m v n)) i = lit m v i := by
  rw [gS_at _ i (by rw [txt_size]; exact hi), txt_at, litOf_litC _ (lit_le m v i)]
theorem text_parsed {m v : BitVec 8} {n : Nat} (h : rightB m v n = true) : pM (str (txtL m v n)) = m ∧ pV (str (txtL m v n)) = v ∧ pE (str (txtL m v n)) = 0 := by
  have h' := h
  rw [rightB_iff] at h'
  obtain ⟨_, h8, hm, hv⟩ := h'
  have hn : n ≤ 8 := by omega
  have hok := text_ok m v n hn
  unfold pM pV pE
  rw [if_pos hok, if_pos hok, if_pos hok, txt_size]
  refine ⟨?_, ?_, rfl⟩
  · apply BitVec.eq_of_getLsbD_eq
    intro i hi
    rw [mB_bit]
    by_cases hin : i < n
    · rw [gS_txt m v n i hin]
      unfold lit
      cases m.getLsbD i <;> cases v.getLsbD i <;> simp [hi, hin]
    · rw [hm i (by simp; omega)]
      simp [hin]
  · apply BitVec.eq_of_getLsbD_eq
    intro i hi
    rw [vB_bit]
    have hvi := congrArg (fun x => x.getLsbD i) hv
    simp only [BitVec.getLsbD_and] at hvi
    by_cases hin : i < n
    · rw [gS_txt m v n i hin]
      unfold lit
      cases hmi : m.getLsbD i <;> cases hvv : v.getLsbD i <;> rw [hmi, hvv] at hvi <;> simp [hi, hin] at hvi ⊢
    · rw [hm i (by simp; omega), Bool.and_false] at hvi
      rw [← hvi]
      simp [hin]
end Go.Proofs.YtdfllifjbabfjaaGreatDoor
