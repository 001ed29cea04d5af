/- What the document's Cube and Right of layer 2 come to. -/
import Derived.Test.YtnddepijbbchiaaRef02
namespace Go.Proofs.Ytnddepijbbchiaa
open Go.RowKit Go.Joins

/-- The first n literals lie behind an address. -/
def GAt (g : Nat → Nat) (n : Nat) (ad : Option Addr) (w : World) : Prop := ∀ i, i < n → ∃ b : Nat, ad = some ⟨b, 0, none⟩ ∧ w.cell? ⟨b, i, none⟩ = some (.int .i64 (g i : Nat))
theorem mB_step (g : Nat → Nat) (k : Nat) (hk : k < 8) (h : g k < 2) : (mB g (k + 1)).toNat = (mB g k).toNat + 2 ^ k := by
  rw [mB_nat g (k + 1) (by omega), mB_nat g k (by omega), wsum, if_pos (by simp [h])]
theorem vB_step (g : Nat → Nat) (k : Nat) (hk : k < 8) (h : g k = 1) : (vB g (k + 1)).toNat = (vB g k).toNat + 2 ^ k := by
  rw [vB_nat g (k + 1) (by omega), vB_nat g k (by omega), wsum, if_pos (by simp [h])]
def pw (k : Nat) : Nat := 2 ^ k % 256
theorem pw_step (k : Nat) : pw k * 2 % 256 = pw (k + 1) := by unfold pw; rw [Nat.pow_succ]; omega
theorem pw_low (k : Nat) (h : k < 8) : pw k = 2 ^ k := Nat.mod_eq_of_lt (Nat.pow_lt_pow_right (n := 8) (by decide) h)
structure CInv (g : Nat → Nat) (w wr : World) (k : Nat) : Prop where
  box : wr.heap[w.heap.size + 1]? = some (cb (mB g k) (vB g k))
  res : wr.heap[w.heap.size]? = some cb0
  below : Below w.heap.size w wr
structure CMid (w wr : World) (m v : BitVec 8) : Prop where
  box : wr.heap[w.heap.size + 1]? = some (cb m v)
  res : wr.heap[w.heap.size]? = some cb0
  below : Below w.heap.size w wr
theorem CMid.mask {w wr : World} {m v : BitVec 8} (I : CMid w wr m v) (m' : BitVec 8) (p : Nat) (h : m'.toNat = m.toNat + p) : CMid w (wr.setCell ⟨w.heap.size + 1, 0, none⟩ (.int .u8 ((m.toNat : Int) + p))) m' v := by
  refine ⟨?_, keep_set (by simp) I.res, I.below.setCell (by simp) _⟩
  rw [show ((m.toNat : Int) + p) = ((m'.toNat : Nat) : Int) by omega, block_setCell I.box]; rfl
theorem CMid.val {w wr : World} {m v : BitVec 8} (I : CMid w wr m v) (v' : BitVec 8) (p : Nat) (h : v'.toNat = v.toNat + p) : CMid w (wr.setCell ⟨w.heap.size + 1, 1, none⟩ (.int .u8 ((v.toNat : Int) + p))) m v' := by
  refine ⟨?_, keep_set (by simp) I.res, I.below.setCell (by simp) _⟩
  rw [show ((v.toNat : Int) + p) = ((v'.toNat : Nat) : Int) by omega, block_setCell I.box]; rfl
theorem CMid.after {w wr : World} {m v : BitVec 8} (I : CMid w wr m v) (x : After wr) : CMid w x.1 m v :=
  ⟨After.same x I.box, After.same x I.res, I.below.trans (x.2.mono I.below.size)⟩
set_option maxHeartbeats 1000000 in
set_option maxRecDepth 1000000 in
theorem rcube_any (g : Nat → Nat) (n : Nat) (hn : n ≤ 8) (hg : ∀ i, i < n → g i ≤ 2) (ad : Option Addr) (cap : Nat) (w : World) (hc : GAt g n ad w) :
    Calls Try.prog 58 #[.slice ad n cap] w fun e w' => e = .returned (cv (mB g n) (vB g n)) ∧ Below w.heap.size w w' := by
  unfold cv bvv
  have hc2 := Lib.hid hc
  have hg2 := Lib.hid hg
  clear hc hg
  go_enter Try.func58, Try.ntmps58
  go_wp2
  go_loopw [4, 5] (fun p i wr => ∃ k : Nat, k ≤ n ∧ i = .int .i64 k ∧ p = .int .u8 (pw k : Nat) ∧ CInv g w wr k) (fun _ i _ => n - (intOf i).toNat)
  case atStart => exact ⟨0, by omega, rfl, rfl, ⟨heap_alloc2_new _ _ _, heap_alloc2_old _ _ _, below_alloc2 _ _ _⟩⟩
  case round =>
    obtain ⟨k, hk, rfl, rfl, I⟩ := hrel
    by_cases hlt : k < n
    · obtain ⟨b, rfl, hcell⟩ := hc2.out k hlt
      have hcr : wr.cell? ⟨b, k, none⟩ = some (.int .i64 (g k : Nat)) := by
        rw [I.below.cell (p := ⟨b, k, none⟩) (block_lt_of_cell hcell)]; exact hcell
      have hgk := hg2.out k hlt
      have hps := Lib.hid (pw_step k)
      have hpl : pw k < 256 := Nat.mod_lt _ (by decide)
      obtain ⟨a0, a1, af⟩ := now2 I.box rfl
      have hcell2 := Lib.hid hcell
      clear hcell
      by_cases h2 : g k = 2
      · rw [h2] at hcr
        have hm := Lib.hid (mB_same g k (by omega))
        have hv := Lib.hid (vB_same g k (by omega))
        clear h2 hgk
        generalize pw k = p at *
        go_wp2
        go_roundw
        case rel =>
          refine ⟨k + 1, by omega, by go_num, ?_, ⟨by rw [hm.out, hv.out]; exact I.box, I.res, I.below⟩⟩
          congr 1
          have := hps.out
          omega
        case measure => simp [intOf]; omega
      · have hm := mB_step g k (by omega) (by omega)
        have hml := (mB g (k + 1)).isLt
        have hvl := (vB g k).isLt
        have hpk := pw_low k (by omega)
        by_cases h1 : g k = 1
        · rw [h1] at hcr
          have hcell2 : Hid (w.cell? ⟨b, k, none⟩ = some (.int .i64 ((1 : Nat) : Int))) := Lib.hid (by rw [← h1]; exact hcell2.out)
          have hv := vB_step g k (by omega) h1
          have hvl2 := (vB g (k + 1)).isLt
          rw [← hpk] at hm hv
          clear h2 hgk h1 hpk
          have I1 : CMid w wr (mB g k) (vB g k) := ⟨I.box, I.res, I.below⟩
          have hm2 := Lib.hid hm
          have hv2 := Lib.hid hv
          have hmb : (mB g k).toNat + pw k < 256 := by omega
          have hvb : (vB g k).toNat + pw k < 256 := by omega
          clear hm hv hml hvl2 I
          generalize pw k = p at *
          go_wp2
          have I2 := I1.mask (mB g (k + 1)) p hm2.out
          generalize wr.setCell ⟨w.heap.size + 1, 0, none⟩ (.int .u8 (((mB g k).toNat : Int) + (p : Int))) = wy at *
          have hcr2 : ∀ y : After wy, y.1.cell? ⟨b, k, none⟩ = some (.int .i64 ((1 : Nat) : Int)) := fun y => After.cell y (by
            rw [I2.below.cell (p := ⟨b, k, none⟩) (block_lt_of_cell hcell2.out)]; exact hcell2.out)
          obtain ⟨A0, A1, AF⟩ := box2 I2.box rfl
          clear a0 a1 af hcr
          refine wp_region_after_tail 11 (by kernel_rfl) (by kernel_rfl) ?_
          simp only [List.take_succ_cons, List.take_zero, List.drop_succ_cons, List.drop_zero]
          repeat (first | go_big_quiet_step (fail))
          refine wpQuiet_nil ?_
          intro y
          have I3 := I2.after y
          go_wp2
          go_roundw
          case rel =>
            have I4 := I3.val (vB g (k + 1)) p hv2.out
            refine ⟨k + 1, by omega, by go_num, ?_, ⟨I4.box, I4.res, I4.below⟩⟩
            congr 1
            have := hps.out
            omega
          case measure => simp [intOf]; omega
        · have h0 : g k = 0 := by omega
          rw [h0] at hcr
          have hcell2 : Hid (w.cell? ⟨b, k, none⟩ = some (.int .i64 ((0 : Nat) : Int))) := Lib.hid (by rw [← h0]; exact hcell2.out)
          have hv := vB_same g k h1
          rw [← hpk] at hm
          clear h2 hgk h1 hpk h0
          have I1 : CMid w wr (mB g k) (vB g k) := ⟨I.box, I.res, I.below⟩
          have hm2 := Lib.hid hm
          have hv2 := Lib.hid hv
          have hmb : (mB g k).toNat + pw k < 256 := by omega
          clear hm hv hml I
          generalize pw k = p at *
          go_wp2
          have I2 := I1.mask (mB g (k + 1)) p hm2.out
          generalize wr.setCell ⟨w.heap.size + 1, 0, none⟩ (.int .u8 (((mB g k).toNat : Int) + (p : Int))) = wy at *
          have hcr2 : ∀ y : After wy, y.1.cell? ⟨b, k, none⟩ = some (.int .i64 ((0 : Nat) : Int)) := fun y => After.cell y (by
            rw [I2.below.cell (p := ⟨b, k, none⟩) (block_lt_of_cell hcell2.out)]; exact hcell2.out)
          obtain ⟨A0, A1, AF⟩ := box2 I2.box rfl
          clear a0 a1 af hcr
          refine wp_region_after_tail 11 (by kernel_rfl) (by kernel_rfl) ?_
          simp only [List.take_succ_cons, List.take_zero, List.drop_succ_cons, List.drop_zero]
          repeat (first | go_big_quiet_step (fail))
          refine wpQuiet_nil ?_
          intro y
          have I3 := I2.after y
          go_wp2
          go_roundw
          case rel =>
            have I4 := I3.val (vB g (k + 1)) 0 (by rw [hv2.out]; rfl)
            refine ⟨k + 1, by omega, by go_num, ?_, ⟨I4.box, I4.res, I4.below⟩⟩
            congr 1
            have := hps.out
            omega
          case measure => simp [intOf]; omega
    · have e : k = n := by omega
      subst e
      obtain ⟨a0, a1, af⟩ := now2 I.box rfl
      obtain ⟨b0, b1, bf⟩ := now2 I.res rfl
      have hB := I.below
      clear I
      go_wp2
      exact bodyPost_ret (v := .agg #[.int .u8 (mB g k).toNat, .int .u8 (vB g k).toNat]) (by simp [results, Try.results58, go_sem, b0, b1]) rfl
        ⟨rfl, below2 (Nat.le_refl _) hB⟩
end Go.Proofs.Ytnddepijbbchiaa
