/- What Parse of the package cube answers, for every text. -/
import Derived.Test.YtpjjnafegngdkaaDoorTxt02
import Derived.Lib.OthersKept
namespace Go.Proofs.YtpjjnafegngdkaaDoor
open Go.RowKit Go.Joins

/-- Is a byte a literal's? -/
def okC (c : UInt8) : Bool := c == 48 || c == 49 || c == 45
/-- The literal of a byte. -/
def litOf (c : UInt8) : Nat := if c = 48 then 0 else if c = 49 then 1 else 2
/-- The literal of byte i of a text. -/
def gS (s : ByteArray) (i : Nat) : Nat := litOf (s.data.toList.getD i 0)
def okTo (s : ByteArray) (k : Nat) : Prop := ∀ i (h : i < s.size), i < k → okC s[i] = true
def okT (s : ByteArray) : Bool := decide (s.size ≤ 8) && s.data.toList.all okC
/-- What a text is parsed to. -/
def pM (s : ByteArray) : BitVec 8 := if okT s then mB (gS s) s.size else 0
def pV (s : ByteArray) : BitVec 8 := if okT s then vB (gS s) s.size else 0
def pE (s : ByteArray) : Int := if okT s then 0 else 2
theorem gS_at (s : ByteArray) (k : Nat) (h : k < s.size) : gS s k = litOf s[k] := by
  unfold gS
  have e : s.data.toList.getD k 0 = s[k] := by simp [List.getD, h]; rfl
  rw [e]
theorem okT_yes {s : ByteArray} (h8 : s.size ≤ 8) (h : okTo s s.size) : okT s = true := by
  unfold okT
  simp only [h8, decide_true, Bool.true_and, List.all_eq_true]
  intro c hc
  obtain ⟨i, hi, rfl⟩ := List.mem_iff_getElem.1 hc
  have hi' : i < s.size := by simpa using hi
  exact h i hi' hi'
theorem okT_bad {s : ByteArray} {k : Nat} (hk : k < s.size) (h : okC s[k] = false) : okT s = false := by
  unfold okT
  rw [Bool.and_eq_false_iff]
  right
  rw [List.all_eq_false]
  refine ⟨s[k], ?_, by rw [h]; simp⟩
  exact List.mem_iff_getElem.2 ⟨k, by simpa using hk, rfl⟩
theorem okT_long {s : ByteArray} (h : 8 < s.size) : okT s = false := by
  unfold okT
  have : ¬ s.size ≤ 8 := by omega
  simp [this]
theorem mB_zero (g : Nat → Nat) : mB g 0 = 0 := rfl
theorem vB_zero (g : Nat → Nat) : vB g 0 = 0 := rfl
theorem twoPow8 (k : Nat) (hk : k < 8) : (BitVec.twoPow 8 k).toNat = 2 ^ k := BitVec.toNat_twoPow_of_lt hk
theorem mB_succ (g : Nat → Nat) (k : Nat) (h : g k < 2) : mB g (k + 1) = mB g k ||| BitVec.twoPow 8 k := by
  apply BitVec.eq_of_getLsbD_eq
  intro i hi
  rw [BitVec.getLsbD_or, mB_bit, mB_bit, BitVec.getLsbD_twoPow]
  by_cases e : i = k
  · subst e; simp [hi, h]
  · have a : (i < k + 1) ↔ (i < k) := by omega
    have b : ¬ k = i := fun x => e x.symm
    simp [a, b, hi]
theorem mB_same (g : Nat → Nat) (k : Nat) (h : ¬ g k < 2) : mB g (k + 1) = mB g k := by
  apply BitVec.eq_of_getLsbD_eq
  intro i hi
  rw [mB_bit, mB_bit]
  by_cases e : i = k
  · subst e; simp [h]
  · have a : (i < k + 1) ↔ (i < k) := by omega
    simp [a]
theorem vB_succ (g : Nat → Nat) (k : Nat) (h : g k = 1) : vB g (k + 1) = vB g k ||| BitVec.twoPow 8 k := by
  apply BitVec.eq_of_getLsbD_eq
  intro i hi
  rw [BitVec.getLsbD_or, vB_bit, vB_bit, BitVec.getLsbD_twoPow]
  by_cases e : i = k
  · subst e; simp [hi, h]
  · have a : (i < k + 1) ↔ (i < k) := by omega
    have b : ¬ k = i := fun x => e x.symm
    simp [a, b, hi]
theorem vB_same (g : Nat → Nat) (k : Nat) (h : ¬ g k = 1) : vB g (k + 1) = vB g k := by
  apply BitVec.eq_of_getLsbD_eq
  intro i hi
  rw [vB_bit, vB_bit]
  by_cases e : i = k
  · subst e; simp [h]
  · have a : (i < k + 1) ↔ (i < k) := by omega
    simp [a]
theorem cparse_long (s : ByteArray) (h : 8 < s.size) (hs : s.size ≤ maxLen) (w : World) :
    Calls Tryd.prog 69 #[.string s] w fun e w' => e = .returned (.tuple #[cv (pM s) (pV s), .int .i64 (pE s)]) ∧ Below w.heap.size w w' := by
  have e1 : pM s = 0 := by unfold pM; rw [okT_long h]; rfl
  have e2 : pV s = 0 := by unfold pV; rw [okT_long h]; rfl
  have e3 : pE s = 2 := by unfold pE; rw [okT_long h]; rfl
  rw [e1, e2, e3]
  clear e1 e2 e3
  unfold maxLen at hs
  unfold cv bvv
  go_enter Tryd.func69, Tryd.ntmps69
  go_wp2
  exact bodyPost_ret (v := .tuple #[.agg #[.int .u8 0, .int .u8 0], .int .i64 2]) (by simp [results, Tryd.results69, go_sem]) rfl
    ⟨rfl, below_alloc1 w _⟩
/-- What holds at the loop's head. -/
structure PInv (s : ByteArray) (w wr : World) (k : Nat) : Prop where
  it : wr.heap[w.heap.size + 2]? = some (.stringIter s k)
  box : wr.heap[w.heap.size + 1]? = some (cb (mB (gS s) k) (vB (gS s) k))
  res : wr.heap[w.heap.size]? = some cb0
  below : Below w.heap.size w wr
  ok : okTo s k
/-- The next byte is read. -/
structure PMid (s : ByteArray) (w wr : World) (k : Nat) (m v : BitVec 8) : Prop where
  it : wr.heap[w.heap.size + 2]? = some (.stringIter s (k + 1))
  box : wr.heap[w.heap.size + 1]? = some (cb m v)
  res : wr.heap[w.heap.size]? = some cb0
  below : Below w.heap.size w wr
  ok : okTo s (k + 1)
theorem PInv.next {s : ByteArray} {w wr : World} {k : Nat} (I : PInv s w wr k) (h : k < s.size) (hc : okC s[k] = true) : PMid s w (wr.iterAt (w.heap.size + 2) s (k + 1)) k (mB (gS s) k) (vB (gS s) k) :=
  ⟨Lib.iterAt_heap _ _ _ _ _ I.it, (Lib.iterAt_other _ _ _ _ _ (by omega)).trans I.box, (Lib.iterAt_other _ _ _ _ _ (by omega)).trans I.res, Lib.below_iterAt I.below (by omega) _ _,
    fun i hi hk => by
      by_cases e : i = k
      · subst e; exact hc
      · exact I.ok i hi (by omega)⟩
theorem or_one (x : BitVec 8) (k : Nat) (hk : k < 8) : bits .or .u8 (x.toNat : Int) (2 ^ k % 256) = ((x ||| BitVec.twoPow 8 k).toNat : Int) := by
  have h : (2 : Int) ^ k % 256 = ((BitVec.twoPow 8 k).toNat : Int) := by
    rw [twoPow8 k hk]
    have : 2 ^ k < 256 := Nat.pow_lt_pow_right (n := 8) (by decide) hk
    have e : ((2 ^ k : Nat) : Int) = 2 ^ k := by simp
    rw [← e]
    clear e
    generalize 2 ^ k = q at *
    omega
  rw [h, or8]
theorem PMid.mask {s : ByteArray} {w wx : World} {k : Nat} {m v : BitVec 8} (J : PMid s w wx k m v) (hk : k < 8) (x : After wx) :
    PMid s w (x.1.setCell ⟨w.heap.size + 1, 0, none⟩ (.int .u8 (bits .or .u8 (m.toNat : Int) (2 ^ k % 256)))) k (m ||| BitVec.twoPow 8 k) v := by
  rw [or_one m k hk]
  refine ⟨keep_set (by simp) (After.same x J.it), ?_, keep_set (by simp) (After.same x J.res), (J.below.trans (x.2.mono J.below.size)).setCell (by simp) _, J.ok⟩
  rw [block_setCell (After.same x J.box)]; rfl
theorem PMid.val {s : ByteArray} {w wx : World} {k : Nat} {m v : BitVec 8} (J : PMid s w wx k m v) (hk : k < 8) (x : After wx) :
    PMid s w (x.1.setCell ⟨w.heap.size + 1, 1, none⟩ (.int .u8 (bits .or .u8 (v.toNat : Int) (2 ^ k % 256)))) k m (v ||| BitVec.twoPow 8 k) := by
  rw [or_one v k hk]
  refine ⟨keep_set (by simp) (After.same x J.it), ?_, keep_set (by simp) (After.same x J.res), (J.below.trans (x.2.mono J.below.size)).setCell (by simp) _, J.ok⟩
  rw [block_setCell (After.same x J.box)]; rfl
theorem PMid.done {s : ByteArray} {w wx : World} {k : Nat} {m v : BitVec 8} (J : PMid s w wx k m v) (hm : mB (gS s) (k + 1) = m) (hv : vB (gS s) (k + 1) = v) : PInv s w wx (k + 1) :=
  ⟨J.it, by rw [hm, hv]; exact J.box, J.res, J.below, J.ok⟩
theorem PMid.left {s : ByteArray} {w wx : World} {k : Nat} {m v : BitVec 8} (J : PMid s w wx k m v) : wx.iterPos (w.heap.size + 2) = k + 1 := by
  simp [World.iterPos, J.it]
theorem PInv.left {s : ByteArray} {w wx : World} {k : Nat} (J : PInv s w wx k) : wx.iterPos (w.heap.size + 2) = k := by
  simp [World.iterPos, J.it]
set_option maxHeartbeats 1000000 in
set_option maxRecDepth 1000000 in
theorem cparse_short (s : ByteArray) (h : s.size ≤ 8) (w : World) :
    Calls Tryd.prog 69 #[.string s] w fun e w' => e = .returned (.tuple #[cv (pM s) (pV s), .int .i64 (pE s)]) ∧ Below w.heap.size w w' := by
  unfold cv bvv
  have h8 := Lib.hid h
  go_enter Tryd.func69, Tryd.ntmps69
  go_wp2
  go_loopw [5] (fun _ wr => ∃ k : Nat, k ≤ s.size ∧ PInv s w wr k) (fun _ wr => s.size - wr.iterPos (w.heap.size + 2))
  case atStart =>
    refine ⟨0, by omega, ?_, ?_, ?_, ?_, fun i _ hi => by omega⟩
    · have := World.iter_heap ((w.alloc cb0).alloc cb0) s 0
      simpa using this
    · exact (Below.heap_alloc _ _ _ (by simp)).trans (heap_alloc2_new _ _ _)
    · exact (Below.heap_alloc _ _ _ (by simp; omega)).trans (heap_alloc2_old _ _ _)
    · exact below_alloc3 _ _ _ _
  case round =>
    obtain ⟨k, hk, I⟩ := hrel
    have hl0 := Lib.hid I.left
    by_cases hlt : k < s.size
    · have hk8 : k < 8 := by have := h8.out; omega
      by_cases c0 : s[k] = 48
      · have hnx : ∀ ty, (Instr.next (.pointer (some ⟨w.heap.size + 2, 0, none⟩)) true ty).run Tryd.prog wr = .ok (.tuple #[.bool true, .int .i64 k, .int .i32 48]) (wr.iterAt (w.heap.size + 2) s (k + 1)) := fun ty => by
          rw [Lib.run_next_ascii_at wr (w.heap.size + 2) s k ty I.it hlt (by rw [c0]; decide), c0]; rfl
        have J := I.next hlt (by rw [c0]; rfl)
        have hg : Hid (gS s k = 0) := Lib.hid (by rw [gS_at s k hlt, c0]; rfl)
        clear c0
        generalize wr.iterAt (w.heap.size + 2) s (k + 1) = wx at *
        obtain ⟨a0, a1, af⟩ := box2 J.box rfl
        go_wp2
        refine wp_region_after_tail 6 (by kernel_rfl) (by kernel_rfl) ?_
        simp only [List.take_succ_cons, List.take_zero, List.drop_succ_cons, List.drop_zero]
        repeat (first | go_big_quiet_step (fail))
        refine wpQuiet_nil ?_
        intro x
        go_wp2
        go_roundw
        case rel => exact ⟨k + 1, by omega, (J.mask hk8 x).done (mB_succ _ _ (by rw [hg.out]; omega)) (vB_same _ _ (by rw [hg.out]; omega))⟩
        case measure => rw [(J.mask hk8 x).left, hl0.out]; omega
      · by_cases c1 : s[k] = 49
        · have hnx : ∀ ty, (Instr.next (.pointer (some ⟨w.heap.size + 2, 0, none⟩)) true ty).run Tryd.prog wr = .ok (.tuple #[.bool true, .int .i64 k, .int .i32 49]) (wr.iterAt (w.heap.size + 2) s (k + 1)) := fun ty => by
            rw [Lib.run_next_ascii_at wr (w.heap.size + 2) s k ty I.it hlt (by rw [c1]; decide), c1]; rfl
          have J := I.next hlt (by rw [c1]; rfl)
          have hg : Hid (gS s k = 1) := Lib.hid (by rw [gS_at s k hlt, c1]; rfl)
          clear c0 c1
          generalize wr.iterAt (w.heap.size + 2) s (k + 1) = wx at *
          obtain ⟨a0, a1, af⟩ := box2 J.box rfl
          go_wp2
          refine wp_region_after_tail 6 (by kernel_rfl) (by kernel_rfl) ?_
          simp only [List.take_succ_cons, List.take_zero, List.drop_succ_cons, List.drop_zero]
          repeat (first | go_big_quiet_step (fail))
          refine wpQuiet_nil ?_
          intro x
          have J1 := J.mask hk8 x
          clear hnx J
          go_wp2
          generalize x.1.setCell ⟨w.heap.size + 1, 0, none⟩ (.int .u8 (bits .or .u8 ((mB (gS s) k).toNat : Int) (2 ^ k % 256))) = wy at *
          clear a0 a1 af
          obtain ⟨a0, a1, af⟩ := box2 J1.box rfl
          refine wp_region_after_tail 6 (by kernel_rfl) (by kernel_rfl) ?_
          simp only [List.take_succ_cons, List.take_zero, List.drop_succ_cons, List.drop_zero]
          repeat (first | go_big_quiet_step (fail))
          refine wpQuiet_nil ?_
          intro y
          go_wp2
          go_roundw
          case rel => exact ⟨k + 1, by omega, (J1.val hk8 y).done (mB_succ _ _ (by rw [hg.out]; omega)) (vB_succ _ _ hg.out)⟩
          case measure => rw [(J1.val hk8 y).left, hl0.out]; omega
        · by_cases c2 : s[k] = 45
          · have hnx : ∀ ty, (Instr.next (.pointer (some ⟨w.heap.size + 2, 0, none⟩)) true ty).run Tryd.prog wr = .ok (.tuple #[.bool true, .int .i64 k, .int .i32 45]) (wr.iterAt (w.heap.size + 2) s (k + 1)) := fun ty => by
              rw [Lib.run_next_ascii_at wr (w.heap.size + 2) s k ty I.it hlt (by rw [c2]; decide), c2]; rfl
            have J := I.next hlt (by rw [c2]; rfl)
            have hg : Hid (gS s k = 2) := Lib.hid (by rw [gS_at s k hlt, c2]; rfl)
            clear c0 c1 c2
            generalize wr.iterAt (w.heap.size + 2) s (k + 1) = wx at *
            go_wp2
            go_roundw
            case rel => exact ⟨k + 1, by omega, J.done (mB_same _ _ (by rw [hg.out]; omega)) (vB_same _ _ (by rw [hg.out]; omega))⟩
            case measure => rw [J.left, hl0.out]; omega
          · have hbad : okC s[k] = false := by unfold okC; simp [c0, c1, c2]
            have hbad2 := Lib.hid (okT_bad hlt hbad)
            have hnx : ∀ ty, (Instr.next (.pointer (some ⟨w.heap.size + 2, 0, none⟩)) true ty).run Tryd.prog wr = .ok (.tuple #[.bool true, .int .i64 k, .int .i32 (Utf8.decode s k).1]) (wr.iterAt (w.heap.size + 2) s (k + (Utf8.decode s k).2)) := fun ty =>
              Lib.run_next_any_at wr (w.heap.size + 2) s k ty I.it hlt
            have hr : (Utf8.decode s k).1 ≠ 48 ∧ (Utf8.decode s k).1 ≠ 49 ∧ (Utf8.decode s k).1 ≠ 45 := by
              by_cases ha : s[k].toNat < 128
              · rw [decode_ascii s k hlt ha]
                exact ⟨fun e => c0 (UInt8.toNat_inj.1 e), fun e => c1 (UInt8.toNat_inj.1 e), fun e => c2 (UInt8.toNat_inj.1 e)⟩
              · have := (decode_high s k hlt (by omega)).1
                omega
            obtain ⟨r0, r1, r2⟩ := hr
            have hres : (wr.iterAt (w.heap.size + 2) s (k + (Utf8.decode s k).2)).heap[w.heap.size]? = some cb0 := (Lib.iterAt_other _ _ _ _ _ (by omega)).trans I.res
            have hB : Below w.heap.size w (wr.iterAt (w.heap.size + 2) s (k + (Utf8.decode s k).2)) := Lib.below_iterAt I.below (by omega) _ _
            clear hbad c0 c1 c2 I hl0
            generalize wr.iterAt (w.heap.size + 2) s (k + (Utf8.decode s k).2) = wx at *
            generalize (Utf8.decode s k).1 = r at *
            have q0 : ((r : Int) == 48) = false := by rw [beq_eq_false_iff_ne]; omega
            have q1 : ((r : Int) == 49) = false := by rw [beq_eq_false_iff_ne]; omega
            have q2 : ((r : Int) == 45) = false := by rw [beq_eq_false_iff_ne]; omega
            obtain ⟨d0, d1, df⟩ := now2 hres rfl
            clear r0 r1 r2 hres
            go_wp2
            exact bodyPost_ret (v := .tuple #[.agg #[.int .u8 0, .int .u8 0], .int .i64 2]) (by simp [results, Tryd.results69, go_sem, d0, d1]) rfl
              ⟨by unfold pM pV pE; rw [hbad2.out]; rfl, below2 (Nat.le_refl _) hB⟩
    · have e : k = s.size := by omega
      subst e
      have hnx : ∀ ty, (Instr.next (.pointer (some ⟨w.heap.size + 2, 0, none⟩)) true ty).run Tryd.prog wr = .ok (.tuple #[.bool false]) wr := fun ty => Lib.run_next_end_at wr (w.heap.size + 2) s s.size ty I.it (by omega)
      have hok := Lib.hid (okT_yes h8.out I.ok)
      have hB := I.below
      obtain ⟨d0, d1, df⟩ := now2 I.res rfl
      obtain ⟨b0, b1, bf⟩ := now2 I.box rfl
      clear I hl0
      go_wp2
      exact bodyPost_ret (v := .tuple #[.agg #[.int .u8 (mB (gS s) s.size).toNat, .int .u8 (vB (gS s) s.size).toNat], .int .i64 0]) (by simp [results, Tryd.results69, go_sem, d0, d1]) rfl
        ⟨by unfold pM pV pE; rw [hok.out]; rfl, below2 (Nat.le_refl _) hB⟩
theorem cparse_any (s : ByteArray) (hs : s.size ≤ maxLen) (w : World) :
    Calls Tryd.prog 69 #[.string s] w fun e w' => e = .returned (.tuple #[cv (pM s) (pV s), .int .i64 (pE s)]) ∧ Below w.heap.size w w' := by
  by_cases h : s.size ≤ 8
  · exact cparse_short s h w
  · exact cparse_long s (by omega) hs w
end Go.Proofs.YtpjjnafegngdkaaDoor
