/- What the document's answers of layer 2 come to, for every input. What the document's Cube and Right of layer 2 come to. -/
import Derived.Test.YtdfllifjbabfjaaGreatDoorGM12
import Derived.Test.YtdfllifjbabfjaaGreatDoorGM08
namespace Go.Proofs.YtdfllifjbabfjaaGreatDoor
open Go.RowKit Go.Joins

def litV (m v : BitVec 8) (k : Nat) : List Value := (List.range k).map fun i => Value.int .i64 (lit m v i : Nat)
theorem litV_succ (m v : BitVec 8) (k : Nat) : litV m v (k + 1) = litV m v k ++ [.int .i64 (lit m v k : Nat)] := by
  unfold litV; rw [List.range_succ, List.map_append]; rfl
theorem litV_get (m v : BitVec 8) (n i : Nat) (h : i < n) : (litV m v n)[i]? = some (.int .i64 (lit m v i : Nat)) := by
  unfold litV; simp [h]
theorem bit_mod (x : BitVec 8) (k : Nat) : x.toNat / 2 ^ k % 2 = if x.getLsbD k then 1 else 0 := by
  simp only [BitVec.getLsbD, Nat.testBit_eq_decide_div_mod_eq]
  by_cases h : x.toNat / 2 ^ k % 2 = 1
  · simp [h]
  · have : x.toNat / 2 ^ k % 2 = 0 := by omega
    simp [this]
set_option maxHeartbeats 1000000 in
set_option maxRecDepth 1000000 in
theorem lits_own (m v : BitVec 8) (w : World) :
    Calls Tryz.prog 61 #[cv m v] w fun e w' => ∃ r, e = .returned r ∧ w'.ownsRow w.heap.size 3 1 r 8 (litV m v 8) ∧ Below w.heap.size w w' := by
  obtain ⟨i0, hi, hz0, hz1, hz2⟩ := info_parts Tryz.infoInt
  unfold cv bvv
  go_enter Tryz.func61, Tryz.ntmps61
  go_wp2
  generalize hW : w.alloc (cb m v) = W
  obtain ⟨a0, a1, -⟩ := box2 (by rw [← hW]; exact heap_alloc_new _ _ : W.heap[w.heap.size]? = _) rfl
  have hB : Below w.heap.size w W := by rw [← hW]; exact below_alloc1 _ _
  have hs : w.heap.size < W.heap.size := by rw [← hW]; simp
  clear hW
  refine wp_region_after (by kernel_rfl) (by kernel_rfl) ?_
  repeat (first | go_big_quiet_step (fail))
  refine wpQuiet_nil ?_
  intro x
  have hBx := hB.trans (x.2.mono hB.size)
  have hsx : w.heap.size < x.1.heap.size := Nat.lt_of_lt_of_le hs x.2.size
  clear a0 a1
  generalize x.1 = wx at *
  clear hB hs
  go_wp2
  go_loopw [3, 4, 5, 6] (fun r a b i wr => ∃ k : Nat, k ≤ 8 ∧ i = .int .i64 k ∧ a = .int .u8 (m.toNat / 2 ^ k : Nat) ∧ b = .int .u8 (v.toNat / 2 ^ k : Nat) ∧ wr.ownsRow (w.heap.size + 1) 3 1 r k (litV m v k) ∧ w.heap.size < wr.heap.size ∧ Below w.heap.size w wr) (fun _ _ _ i _ => 8 - (intOf i).toNat)
  case atStart => exact ⟨0, by omega, rfl, by simp, by simp, World.ownsRow_nil _ _ _ _, hsx, hBx⟩
  case round =>
    clear hBx hsx
    obtain ⟨k, hk, rfl, rfl, rfl, hown, hsz, hb⟩ := hrel
    by_cases hlt : k < 8
    · have hsucc := Lib.hid (litV_succ m v k)
      have hm1 := Lib.hid (half_step m.toNat k)
      have hv1 := Lib.hid (half_step v.toNat k)
      have hml : m.toNat / 2 ^ k < 256 := Nat.lt_of_le_of_lt (Nat.div_le_self _ _) m.isLt
      have hvl : v.toNat / 2 ^ k < 256 := Nat.lt_of_le_of_lt (Nat.div_le_self _ _) v.isLt
      have hmb := bit_mod m k
      have hvb := bit_mod v k
      cases hmk : m.getLsbD k
      · rw [hmk] at hmb
        have hlit : Hid (lit m v k = 2) := Lib.hid (by unfold lit; rw [hmk]; rfl)
        generalize hq : m.toNat / 2 ^ k = q at *
        generalize hp : v.toNat / 2 ^ k = p at *
        have hmq : ((q : Int) % 2 == 0) = true := by rw [beq_iff_eq]; simp at hmb; omega
        clear hmb hvb hmk hq hp
        go_wp2_with (at_builtin; go_loud (refine wpList_append_own _ rfl _ _ 45 rfl (w.heap.size + 1) 3 i0 (.int .i64 0) 1 8 Tryz.underlying45 hi hz0 hz1 hz2 rfl (by decide) _ _ _ rfl (hown.alloc _) ⟨wr.heap.size, 0, none⟩ 1 1 [.int .i64 2] rfl rfl ?c1 ?c2 ?c3 ?c4 ?c5 ?_))
        case c1 => exact cell_one_new _ _ _
        case c2 => intro u hu; simp at hu; subst hu; rfl
        case c3 => unfold maxLen; omega
        case c4 => omega
        case c5 => simp; omega
        intro v' w2 hown2 hgrow _
        have hR : w.heap.size < w2.heap.size ∧ Below w.heap.size w w2 :=
          ⟨by have := hgrow.size; simp at this; omega, grown_below hown hgrow (hb.alloc (by omega) _) (by omega) (by simp; omega)⟩
        clear hgrow hown hb
        go_wp2
        go_roundw
        case rel => exact ⟨k + 1, by omega, by go_num, by rw [← hm1.out]; rfl, by rw [← hv1.out]; rfl, by rw [hsucc.out, hlit.out]; exact hown2, hR.1, hR.2⟩
        case measure => simp [intOf]; omega
      · rw [hmk] at hmb
        have hlit : Hid (lit m v k = v.toNat / 2 ^ k % 2) := Lib.hid (by unfold lit; rw [hmk, hvb]; rfl)
        generalize hq : m.toNat / 2 ^ k = q at *
        generalize hp : v.toNat / 2 ^ k = p at *
        have hmq : ((q : Int) % 2 == 0) = false := by rw [beq_eq_false_iff_ne]; simp at hmb; omega
        clear hmb hvb hmk hq hp
        go_wp2_with (at_builtin; go_loud (refine wpList_append_own _ rfl _ _ 45 rfl (w.heap.size + 1) 3 i0 (.int .i64 0) 1 8 Tryz.underlying45 hi hz0 hz1 hz2 rfl (by decide) _ _ _ rfl (hown.alloc _) ⟨wr.heap.size, 0, none⟩ 1 1 [.int .i64 ((p : Int) % 2)] rfl rfl ?c1 ?c2 ?c3 ?c4 ?c5 ?_))
        case c1 => exact cell_one_new _ _ _
        case c2 => intro u hu; simp at hu; subst hu; rfl
        case c3 => unfold maxLen; omega
        case c4 => omega
        case c5 => simp; omega
        intro v' w2 hown2 hgrow _
        have hR : w.heap.size < w2.heap.size ∧ Below w.heap.size w w2 :=
          ⟨by have := hgrow.size; simp at this; omega, grown_below hown hgrow (hb.alloc (by omega) _) (by omega) (by simp; omega)⟩
        clear hgrow hown hb
        go_wp2
        go_roundw
        case rel => exact ⟨k + 1, by omega, by go_num, by rw [← hm1.out]; rfl, by rw [← hv1.out]; rfl, by rw [hsucc.out, hlit.out, show ((p % 2 : Nat) : Int) = (p : Int) % 2 by omega]; exact hown2, hR.1, hR.2⟩
        case measure => simp [intOf]; omega
    · have e : k = 8 := by omega
      subst e
      go_wp2
      go_ret
      exact ⟨_, rfl, ownsRow_le hown (by omega), hb⟩
/-- The literals lie in cells of their own. -/
def LitsAt (m v : BitVec 8) (b : Nat) (w : World) : Prop := b < w.heap.size ∧ ∀ i, i < 8 → w.cell? ⟨b, i, none⟩ = some (.int .i64 (lit m v i : Nat))
def LitsPost (m v : BitVec 8) (w : World) (e : Ending) (w' : World) : Prop := ∃ b cap : Nat, e = .returned (.slice (some ⟨b, 0, none⟩) 8 cap) ∧ w.heap.size ≤ b ∧ LitsAt m v b w' ∧ Below w.heap.size w w'
theorem lits_any (m v : BitVec 8) (w : World) : Calls Tryz.prog 61 #[cv m v] w (LitsPost m v w) := by
  refine (lits_own m v w).mono ?_
  rintro e w' ⟨r, rfl, hown, hb⟩
  obtain ⟨b, cap, rfl⟩ := ownsRow_form hown (by decide)
  have hl := hown.lt b rfl
  exact ⟨b, cap, rfl, hl.1, ⟨hl.2, fun i hi => by rw [hown.cellAt i (by omega), litV_get m v 8 i hi]⟩, hb⟩
theorem LitsAt.keep {m v : BitVec 8} {b : Nat} {w w1 : World} (h : LitsAt m v b w) (hb : Below w.heap.size w w1) : LitsAt m v b w1 :=
  ⟨Nat.lt_of_lt_of_le h.1 hb.size, fun i hi => After.cell ⟨w1, hb⟩ (h.2 i hi)⟩
end Go.Proofs.YtdfllifjbabfjaaGreatDoor
namespace Go.Proofs.YtdfllifjbabfjaaGreatDoor
open Go.RowKit Go.Joins

/-- The first n literals lie behind an address. -/
def GAt (g : Nat → Nat) (n : Nat) (ad : Option Addr) (w : World) : Prop := ∀ i, i < n → ∃ b : Nat, ad = some ⟨b, 0, none⟩ ∧ w.cell? ⟨b, i, none⟩ = some (.int .i64 (g i : Nat))
theorem mB_step (g : Nat → Nat) (k : Nat) (hk : k < 8) (h : g k < 2) : (mB g (k + 1)).toNat = (mB g k).toNat + 2 ^ k := by
  rw [mB_nat g (k + 1) (by omega), mB_nat g k (by omega), wsum, if_pos (by simp [h])]
theorem vB_step (g : Nat → Nat) (k : Nat) (hk : k < 8) (h : g k = 1) : (vB g (k + 1)).toNat = (vB g k).toNat + 2 ^ k := by
  rw [vB_nat g (k + 1) (by omega), vB_nat g k (by omega), wsum, if_pos (by simp [h])]
def pw (k : Nat) : Nat := 2 ^ k % 256
theorem pw_step (k : Nat) : pw k * 2 % 256 = pw (k + 1) := by unfold pw; rw [Nat.pow_succ]; omega
theorem pw_low (k : Nat) (h : k < 8) : pw k = 2 ^ k := Nat.mod_eq_of_lt (Nat.pow_lt_pow_right (n := 8) (by decide) h)
structure CInv (g : Nat → Nat) (w wr : World) (k : Nat) : Prop where
  box : wr.heap[w.heap.size + 1]? = some (cb (mB g k) (vB g k))
  res : wr.heap[w.heap.size]? = some cb0
  below : Below w.heap.size w wr
structure CMid (w wr : World) (m v : BitVec 8) : Prop where
  box : wr.heap[w.heap.size + 1]? = some (cb m v)
  res : wr.heap[w.heap.size]? = some cb0
  below : Below w.heap.size w wr
theorem CMid.mask {w wr : World} {m v : BitVec 8} (I : CMid w wr m v) (m' : BitVec 8) (p : Nat) (h : m'.toNat = m.toNat + p) : CMid w (wr.setCell ⟨w.heap.size + 1, 0, none⟩ (.int .u8 ((m.toNat : Int) + p))) m' v := by
  refine ⟨?_, keep_set (by simp) I.res, I.below.setCell (by simp) _⟩
  rw [show ((m.toNat : Int) + p) = ((m'.toNat : Nat) : Int) by omega, block_setCell I.box]; rfl
theorem CMid.val {w wr : World} {m v : BitVec 8} (I : CMid w wr m v) (v' : BitVec 8) (p : Nat) (h : v'.toNat = v.toNat + p) : CMid w (wr.setCell ⟨w.heap.size + 1, 1, none⟩ (.int .u8 ((v.toNat : Int) + p))) m v' := by
  refine ⟨?_, keep_set (by simp) I.res, I.below.setCell (by simp) _⟩
  rw [show ((v.toNat : Int) + p) = ((v'.toNat : Nat) : Int) by omega, block_setCell I.box]; rfl
theorem CMid.after {w wr : World} {m v : BitVec 8} (I : CMid w wr m v) (x : After wr) : CMid w x.1 m v :=
  ⟨After.same x I.box, After.same x I.res, I.below.trans (x.2.mono I.below.size)⟩
set_option maxHeartbeats 1000000 in
set_option maxRecDepth 1000000 in
theorem rcube_any (g : Nat → Nat) (n : Nat) (hn : n ≤ 8) (hg : ∀ i, i < n → g i ≤ 2) (ad : Option Addr) (cap : Nat) (w : World) (hc : GAt g n ad w) :
    Calls Tryz.prog 62 #[.slice ad n cap] w fun e w' => e = .returned (cv (mB g n) (vB g n)) ∧ Below w.heap.size w w' := by
  unfold cv bvv
  have hc2 := Lib.hid hc
  have hg2 := Lib.hid hg
  clear hc hg
  go_enter Tryz.func62, Tryz.ntmps62
  go_wp2
  go_loopw [4, 5] (fun p i wr => ∃ k : Nat, k ≤ n ∧ i = .int .i64 k ∧ p = .int .u8 (pw k : Nat) ∧ CInv g w wr k) (fun _ i _ => n - (intOf i).toNat)
  case atStart => exact ⟨0, by omega, rfl, rfl, ⟨heap_alloc2_new _ _ _, heap_alloc2_old _ _ _, below_alloc2 _ _ _⟩⟩
  case round =>
    obtain ⟨k, hk, rfl, rfl, I⟩ := hrel
    by_cases hlt : k < n
    · obtain ⟨b, rfl, hcell⟩ := hc2.out k hlt
      have hcr : wr.cell? ⟨b, k, none⟩ = some (.int .i64 (g k : Nat)) := by
        rw [I.below.cell (p := ⟨b, k, none⟩) (block_lt_of_cell hcell)]; exact hcell
      have hgk := hg2.out k hlt
      have hps := Lib.hid (pw_step k)
      have hpl : pw k < 256 := Nat.mod_lt _ (by decide)
      obtain ⟨a0, a1, af⟩ := now2 I.box rfl
      have hcell2 := Lib.hid hcell
      clear hcell
      by_cases h2 : g k = 2
      · rw [h2] at hcr
        have hm := Lib.hid (mB_same g k (by omega))
        have hv := Lib.hid (vB_same g k (by omega))
        clear h2 hgk
        generalize pw k = p at *
        go_wp2
        go_roundw
        case rel =>
          refine ⟨k + 1, by omega, by go_num, ?_, ⟨by rw [hm.out, hv.out]; exact I.box, I.res, I.below⟩⟩
          congr 1
          have := hps.out
          omega
        case measure => simp [intOf]; omega
      · have hm := mB_step g k (by omega) (by omega)
        have hml := (mB g (k + 1)).isLt
        have hvl := (vB g k).isLt
        have hpk := pw_low k (by omega)
        by_cases h1 : g k = 1
        · rw [h1] at hcr
          have hcell2 : Hid (w.cell? ⟨b, k, none⟩ = some (.int .i64 ((1 : Nat) : Int))) := Lib.hid (by rw [← h1]; exact hcell2.out)
          have hv := vB_step g k (by omega) h1
          have hvl2 := (vB g (k + 1)).isLt
          rw [← hpk] at hm hv
          clear h2 hgk h1 hpk
          have I1 : CMid w wr (mB g k) (vB g k) := ⟨I.box, I.res, I.below⟩
          have hm2 := Lib.hid hm
          have hv2 := Lib.hid hv
          have hmb : (mB g k).toNat + pw k < 256 := by omega
          have hvb : (vB g k).toNat + pw k < 256 := by omega
          clear hm hv hml hvl2 I
          generalize pw k = p at *
          go_wp2
          have I2 := I1.mask (mB g (k + 1)) p hm2.out
          generalize wr.setCell ⟨w.heap.size + 1, 0, none⟩ (.int .u8 (((mB g k).toNat : Int) + (p : Int))) = wy at *
          have hcr2 : ∀ y : After wy, y.1.cell? ⟨b, k, none⟩ = some (.int .i64 ((1 : Nat) : Int)) := fun y => After.cell y (by
            rw [I2.below.cell (p := ⟨b, k, none⟩) (block_lt_of_cell hcell2.out)]; exact hcell2.out)
          obtain ⟨A0, A1, AF⟩ := box2 I2.box rfl
          clear a0 a1 af hcr
          refine wp_region_after_tail 11 (by kernel_rfl) (by kernel_rfl) ?_
          simp only [List.take_succ_cons, List.take_zero, List.drop_succ_cons, List.drop_zero]
          repeat (first | go_big_quiet_step (fail))
          refine wpQuiet_nil ?_
          intro y
          have I3 := I2.after y
          go_wp2
          go_roundw
          case rel =>
            have I4 := I3.val (vB g (k + 1)) p hv2.out
            refine ⟨k + 1, by omega, by go_num, ?_, ⟨I4.box, I4.res, I4.below⟩⟩
            congr 1
            have := hps.out
            omega
          case measure => simp [intOf]; omega
        · have h0 : g k = 0 := by omega
          rw [h0] at hcr
          have hcell2 : Hid (w.cell? ⟨b, k, none⟩ = some (.int .i64 ((0 : Nat) : Int))) := Lib.hid (by rw [← h0]; exact hcell2.out)
          have hv := vB_same g k h1
          rw [← hpk] at hm
          clear h2 hgk h1 hpk h0
          have I1 : CMid w wr (mB g k) (vB g k) := ⟨I.box, I.res, I.below⟩
          have hm2 := Lib.hid hm
          have hv2 := Lib.hid hv
          have hmb : (mB g k).toNat + pw k < 256 := by omega
          clear hm hv hml I
          generalize pw k = p at *
          go_wp2
          have I2 := I1.mask (mB g (k + 1)) p hm2.out
          generalize wr.setCell ⟨w.heap.size + 1, 0, none⟩ (.int .u8 (((mB g k).toNat : Int) + (p : Int))) = wy at *
          have hcr2 : ∀ y : After wy, y.1.cell? ⟨b, k, none⟩ = some (.int .i64 ((0 : Nat) : Int)) := fun y => After.cell y (by
            rw [I2.below.cell (p := ⟨b, k, none⟩) (block_lt_of_cell hcell2.out)]; exact hcell2.out)
          obtain ⟨A0, A1, AF⟩ := box2 I2.box rfl
          clear a0 a1 af hcr
          refine wp_region_after_tail 11 (by kernel_rfl) (by kernel_rfl) ?_
          simp only [List.take_succ_cons, List.take_zero, List.drop_succ_cons, List.drop_zero]
          repeat (first | go_big_quiet_step (fail))
          refine wpQuiet_nil ?_
          intro y
          have I3 := I2.after y
          go_wp2
          go_roundw
          case rel =>
            have I4 := I3.val (vB g (k + 1)) 0 (by rw [hv2.out]; rfl)
            refine ⟨k + 1, by omega, by go_num, ?_, ⟨I4.box, I4.res, I4.below⟩⟩
            congr 1
            have := hps.out
            omega
          case measure => simp [intOf]; omega
    · have e : k = n := by omega
      subst e
      obtain ⟨a0, a1, af⟩ := now2 I.box rfl
      obtain ⟨b0, b1, bf⟩ := now2 I.res rfl
      have hB := I.below
      clear I
      go_wp2
      exact bodyPost_ret (v := .agg #[.int .u8 (mB g k).toNat, .int .u8 (vB g k).toNat]) (by simp [results, Tryz.results62, go_sem, b0, b1]) rfl
        ⟨rfl, below2 (Nat.le_refl _) hB⟩
end Go.Proofs.YtdfllifjbabfjaaGreatDoor
