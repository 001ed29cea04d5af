/- What the document's Cube and Right of layer 2 come to. What the document's Right and Has of layer 2 come to. What the document's Points and Text of layer 2 come to. Primes of a set, plain: what is within, what is prime, the row of all primes; each cube within is held by a prime. The member of a row and the row of a member, plain. A text that is a cube's is the text of its cube, and a cube is what its text is parsed to. -/
import Derived.Test.YtgajgjlldohekaaGreatGP05
namespace Go.Proofs.YtgajgjlldohekaaGreat
open Go.RowKit Go.Joins

/-- The first n literals lie behind an address. -/
def GAt (g : Nat → Nat) (n : Nat) (ad : Option Addr) (w : World) : Prop := ∀ i, i < n → ∃ b : Nat, ad = some ⟨b, 0, none⟩ ∧ w.cell? ⟨b, i, none⟩ = some (.int .i64 (g i : Nat))
theorem mB_step (g : Nat → Nat) (k : Nat) (hk : k < 8) (h : g k < 2) : (mB g (k + 1)).toNat = (mB g k).toNat + 2 ^ k := by
  rw [mB_nat g (k + 1) (by omega), mB_nat g k (by omega), wsum, if_pos (by simp [h])]
theorem vB_step (g : Nat → Nat) (k : Nat) (hk : k < 8) (h : g k = 1) : (vB g (k + 1)).toNat = (vB g k).toNat + 2 ^ k := by
  rw [vB_nat g (k + 1) (by omega), vB_nat g k (by omega), wsum, if_pos (by simp [h])]
def pw (k : Nat) : Nat := 2 ^ k % 256
theorem pw_step (k : Nat) : pw k * 2 % 256 = pw (k + 1) := by unfold pw; rw [Nat.pow_succ]; omega
theorem pw_low (k : Nat) (h : k < 8) : pw k = 2 ^ k := Nat.mod_eq_of_lt (Nat.pow_lt_pow_right (n := 8) (by decide) h)
structure CInv (g : Nat → Nat) (w wr : World) (k : Nat) : Prop where
  box : wr.heap[w.heap.size + 1]? = some (cb (mB g k) (vB g k))
  res : wr.heap[w.heap.size]? = some cb0
  below : Below w.heap.size w wr
structure CMid (w wr : World) (m v : BitVec 8) : Prop where
  box : wr.heap[w.heap.size + 1]? = some (cb m v)
  res : wr.heap[w.heap.size]? = some cb0
  below : Below w.heap.size w wr
theorem CMid.mask {w wr : World} {m v : BitVec 8} (I : CMid w wr m v) (m' : BitVec 8) (p : Nat) (h : m'.toNat = m.toNat + p) : CMid w (wr.setCell ⟨w.heap.size + 1, 0, none⟩ (.int .u8 ((m.toNat : Int) + p))) m' v := by
  refine ⟨?_, keep_set (by simp) I.res, I.below.setCell (by simp) _⟩
  rw [show ((m.toNat : Int) + p) = ((m'.toNat : Nat) : Int) by omega, block_setCell I.box]; rfl
theorem CMid.val {w wr : World} {m v : BitVec 8} (I : CMid w wr m v) (v' : BitVec 8) (p : Nat) (h : v'.toNat = v.toNat + p) : CMid w (wr.setCell ⟨w.heap.size + 1, 1, none⟩ (.int .u8 ((v.toNat : Int) + p))) m v' := by
  refine ⟨?_, keep_set (by simp) I.res, I.below.setCell (by simp) _⟩
  rw [show ((v.toNat : Int) + p) = ((v'.toNat : Nat) : Int) by omega, block_setCell I.box]; rfl
theorem CMid.after {w wr : World} {m v : BitVec 8} (I : CMid w wr m v) (x : After wr) : CMid w x.1 m v :=
  ⟨After.same x I.box, After.same x I.res, I.below.trans (x.2.mono I.below.size)⟩
set_option maxHeartbeats 1000000 in
set_option maxRecDepth 1000000 in
theorem rcube_any (g : Nat → Nat) (n : Nat) (hn : n ≤ 8) (hg : ∀ i, i < n → g i ≤ 2) (ad : Option Addr) (cap : Nat) (w : World) (hc : GAt g n ad w) :
    Calls Tryz.prog 28 #[.slice ad n cap] w fun e w' => e = .returned (cv (mB g n) (vB g n)) ∧ Below w.heap.size w w' := by
  unfold cv bvv
  have hc2 := Lib.hid hc
  have hg2 := Lib.hid hg
  clear hc hg
  go_enter Tryz.func28, Tryz.ntmps28
  go_wp2
  go_loopw [4, 5] (fun p i wr => ∃ k : Nat, k ≤ n ∧ i = .int .i64 k ∧ p = .int .u8 (pw k : Nat) ∧ CInv g w wr k) (fun _ i _ => n - (intOf i).toNat)
  case atStart => exact ⟨0, by omega, rfl, rfl, ⟨heap_alloc2_new _ _ _, heap_alloc2_old _ _ _, below_alloc2 _ _ _⟩⟩
  case round =>
    obtain ⟨k, hk, rfl, rfl, I⟩ := hrel
    by_cases hlt : k < n
    · obtain ⟨b, rfl, hcell⟩ := hc2.out k hlt
      have hcr : wr.cell? ⟨b, k, none⟩ = some (.int .i64 (g k : Nat)) := by
        rw [I.below.cell (p := ⟨b, k, none⟩) (block_lt_of_cell hcell)]; exact hcell
      have hgk := hg2.out k hlt
      have hps := Lib.hid (pw_step k)
      have hpl : pw k < 256 := Nat.mod_lt _ (by decide)
      obtain ⟨a0, a1, af⟩ := now2 I.box rfl
      have hcell2 := Lib.hid hcell
      clear hcell
      by_cases h2 : g k = 2
      · rw [h2] at hcr
        have hm := Lib.hid (mB_same g k (by omega))
        have hv := Lib.hid (vB_same g k (by omega))
        clear h2 hgk
        generalize pw k = p at *
        go_wp2
        go_roundw
        case rel =>
          refine ⟨k + 1, by omega, by go_num, ?_, ⟨by rw [hm.out, hv.out]; exact I.box, I.res, I.below⟩⟩
          congr 1
          have := hps.out
          omega
        case measure => simp [intOf]; omega
      · have hm := mB_step g k (by omega) (by omega)
        have hml := (mB g (k + 1)).isLt
        have hvl := (vB g k).isLt
        have hpk := pw_low k (by omega)
        by_cases h1 : g k = 1
        · rw [h1] at hcr
          have hcell2 : Hid (w.cell? ⟨b, k, none⟩ = some (.int .i64 ((1 : Nat) : Int))) := Lib.hid (by rw [← h1]; exact hcell2.out)
          have hv := vB_step g k (by omega) h1
          have hvl2 := (vB g (k + 1)).isLt
          rw [← hpk] at hm hv
          clear h2 hgk h1 hpk
          have I1 : CMid w wr (mB g k) (vB g k) := ⟨I.box, I.res, I.below⟩
          have hm2 := Lib.hid hm
          have hv2 := Lib.hid hv
          have hmb : (mB g k).toNat + pw k < 256 := by omega
          have hvb : (vB g k).toNat + pw k < 256 := by omega
          clear hm hv hml hvl2 I
          generalize pw k = p at *
          go_wp2
          have I2 := I1.mask (mB g (k + 1)) p hm2.out
          generalize wr.setCell ⟨w.heap.size + 1, 0, none⟩ (.int .u8 (((mB g k).toNat : Int) + (p : Int))) = wy at *
          have hcr2 : ∀ y : After wy, y.1.cell? ⟨b, k, none⟩ = some (.int .i64 ((1 : Nat) : Int)) := fun y => After.cell y (by
            rw [I2.below.cell (p := ⟨b, k, none⟩) (block_lt_of_cell hcell2.out)]; exact hcell2.out)
          obtain ⟨A0, A1, AF⟩ := box2 I2.box rfl
          clear a0 a1 af hcr
          refine wp_region_after_tail 11 (by kernel_rfl) (by kernel_rfl) ?_
          simp only [List.take_succ_cons, List.take_zero, List.drop_succ_cons, List.drop_zero]
          repeat (first | go_big_quiet_step (fail))
          refine wpQuiet_nil ?_
          intro y
          have I3 := I2.after y
          go_wp2
          go_roundw
          case rel =>
            have I4 := I3.val (vB g (k + 1)) p hv2.out
            refine ⟨k + 1, by omega, by go_num, ?_, ⟨I4.box, I4.res, I4.below⟩⟩
            congr 1
            have := hps.out
            omega
          case measure => simp [intOf]; omega
        · have h0 : g k = 0 := by omega
          rw [h0] at hcr
          have hcell2 : Hid (w.cell? ⟨b, k, none⟩ = some (.int .i64 ((0 : Nat) : Int))) := Lib.hid (by rw [← h0]; exact hcell2.out)
          have hv := vB_same g k h1
          rw [← hpk] at hm
          clear h2 hgk h1 hpk h0
          have I1 : CMid w wr (mB g k) (vB g k) := ⟨I.box, I.res, I.below⟩
          have hm2 := Lib.hid hm
          have hv2 := Lib.hid hv
          have hmb : (mB g k).toNat + pw k < 256 := by omega
          clear hm hv hml I
          generalize pw k = p at *
          go_wp2
          have I2 := I1.mask (mB g (k + 1)) p hm2.out
          generalize wr.setCell ⟨w.heap.size + 1, 0, none⟩ (.int .u8 (((mB g k).toNat : Int) + (p : Int))) = wy at *
          have hcr2 : ∀ y : After wy, y.1.cell? ⟨b, k, none⟩ = some (.int .i64 ((0 : Nat) : Int)) := fun y => After.cell y (by
            rw [I2.below.cell (p := ⟨b, k, none⟩) (block_lt_of_cell hcell2.out)]; exact hcell2.out)
          obtain ⟨A0, A1, AF⟩ := box2 I2.box rfl
          clear a0 a1 af hcr
          refine wp_region_after_tail 11 (by kernel_rfl) (by kernel_rfl) ?_
          simp only [List.take_succ_cons, List.take_zero, List.drop_succ_cons, List.drop_zero]
          repeat (first | go_big_quiet_step (fail))
          refine wpQuiet_nil ?_
          intro y
          have I3 := I2.after y
          go_wp2
          go_roundw
          case rel =>
            have I4 := I3.val (vB g (k + 1)) 0 (by rw [hv2.out]; rfl)
            refine ⟨k + 1, by omega, by go_num, ?_, ⟨I4.box, I4.res, I4.below⟩⟩
            congr 1
            have := hps.out
            omega
          case measure => simp [intOf]; omega
    · have e : k = n := by omega
      subst e
      obtain ⟨a0, a1, af⟩ := now2 I.box rfl
      obtain ⟨b0, b1, bf⟩ := now2 I.res rfl
      have hB := I.below
      clear I
      go_wp2
      exact bodyPost_ret (v := .agg #[.int .u8 (mB g k).toNat, .int .u8 (vB g k).toNat]) (by simp [results, Tryz.results28, go_sem, b0, b1]) rfl
        ⟨rfl, below2 (Nat.le_refl _) hB⟩
end Go.Proofs.YtgajgjlldohekaaGreat
namespace Go.Proofs.YtgajgjlldohekaaGreat
open Go.RowKit Go.Joins

end Go.Proofs.YtgajgjlldohekaaGreat
namespace Go.Proofs.YtgajgjlldohekaaGreat
open Go.RowKit Go.Joins

/-- The flags when the first k points are asked. -/
def pf (m v : BitVec 8) (n k p : Nat) : Bool := decide (p < 2 ^ n) && (!decide (p < k) || fits m v 8 p)
end Go.Proofs.YtgajgjlldohekaaGreat
namespace Go.Proofs.YtgajgjlldohekaaGreat
open Go.RowKit

/-- A byte without its bit i. -/
def drM (m : BitVec 8) (i : Nat) : BitVec 8 := m &&& ~~~(BitVec.twoPow 8 i)
theorem drM_bit (m : BitVec 8) (i j : Nat) : (drM m i).getLsbD j = (m.getLsbD j && !decide (j = i)) := by
  unfold drM
  rw [BitVec.getLsbD_and, BitVec.getLsbD_not, BitVec.getLsbD_twoPow]
  by_cases h : j < 8
  · by_cases e : j = i
    · subst e; simp [h]
    · have e' : ¬ i = j := fun h => e h.symm
      simp [h, e, e']
  · rw [BitVec.getLsbD_of_ge m j (by omega)]; simp
theorem drM_same {m : BitVec 8} {i : Nat} (h : m.getLsbD i = false) : drM m i = m := by
  apply BitVec.eq_of_getLsbD_eq
  intro j _
  rw [drM_bit]
  by_cases e : j = i
  · subst e; rw [h]; rfl
  · simp [e]
theorem drM_and (m v : BitVec 8) (i : Nat) : drM v i &&& drM m i = drM (v &&& m) i := by
  apply BitVec.eq_of_getLsbD_eq
  intro j _
  rw [BitVec.getLsbD_and, drM_bit, drM_bit, drM_bit, BitVec.getLsbD_and]
  cases v.getLsbD j <;> cases m.getLsbD j <;> simp
/-- Is a cube within a set of n inputs? -/
def inB (S : BitVec 256) (n : Int) (m v : BitVec 8) : Bool := rightB m v n && decide (cpts m v n.toNat n.toNat &&& ~~~S = 0)
theorem and_not_zero (A S : BitVec 256) : A &&& ~~~S = 0 ↔ ∀ p, A.getLsbD p = true → S.getLsbD p = true := by
  constructor
  · intro h p hp
    have h1 := congrArg (fun x => x.getLsbD p) h
    have hp2 : p < 256 := by
      rcases Nat.lt_or_ge p 256 with k | k
      · exact k
      · rw [BitVec.getLsbD_of_ge A p k] at hp; cases hp
    simp only [BitVec.getLsbD_and, BitVec.getLsbD_not, hp, hp2, decide_true, Bool.true_and] at h1
    simpa using h1
  · intro h
    apply BitVec.eq_of_getLsbD_eq
    intro p hp
    rw [BitVec.getLsbD_and, BitVec.getLsbD_not]
    cases hA : A.getLsbD p
    · simp
    · simp [h p hA]
theorem inB_iff (S : BitVec 256) (n : Nat) (m v : BitVec 8) : inB S n m v = true ↔ rightB m v n = true ∧ ∀ p, p < 2 ^ n → fits m v n p = true → S.getLsbD p = true := by
  unfold inB
  rw [Bool.and_eq_true, decide_eq_true_iff, Int.toNat_natCast]
  constructor
  · rintro ⟨h1, h2⟩
    have hn : n ≤ 8 := by have := (rightB_iff m v n).1 h1; omega
    refine ⟨h1, fun p hp hf => (and_not_zero _ _).1 h2 p ?_⟩
    rw [cpts_bit _ _ _ _ _ hn, hf, decide_eq_true hp]; rfl
  · rintro ⟨h1, h2⟩
    have hn : n ≤ 8 := by have := (rightB_iff m v n).1 h1; omega
    refine ⟨h1, (and_not_zero _ _).2 fun p hp => ?_⟩
    rw [cpts_bit _ _ _ _ _ hn, Bool.and_eq_true, decide_eq_true_iff] at hp
    exact h2 p hp.1 hp.2
theorem right_lows {m v : BitVec 8} {n : Nat} (h : rightB m v n = true) : n ≤ 8 ∧ m.toNat < 2 ^ n ∧ v.toNat < 2 ^ n ∧ (∀ i, n ≤ i → m.getLsbD i = false) ∧ v &&& m = v := by
  obtain ⟨-, h8, hm, hv⟩ := (rightB_iff m v n).1 h
  rw [Int.toNat_natCast] at hm
  refine ⟨by omega, Nat.lt_pow_two_of_testBit _ fun i hi => hm i hi, lt_of_right hm hv, hm, hv⟩
theorem right_dr {m v : BitVec 8} {n : Int} (i : Nat) (h : rightB m v n = true) : rightB (drM m i) (drM v i) n = true := by
  obtain ⟨h0, h8, hm, hv⟩ := (rightB_iff m v n).1 h
  refine (rightB_iff _ _ _).2 ⟨h0, h8, fun j hj => by rw [drM_bit, hm j hj]; rfl, ?_⟩
  rw [drM_and, hv]
/-- Is it prime? -/
def primB (S : BitVec 256) (n : Int) (m v : BitVec 8) : Bool := inB S n m v && (List.range n.toNat).all fun i => !(m.getLsbD i && inB S n (drM m i) (drM v i))
theorem primB_iff (S : BitVec 256) (n : Int) (m v : BitVec 8) : primB S n m v = true ↔ inB S n m v = true ∧ ∀ i, i < n.toNat → m.getLsbD i = true → inB S n (drM m i) (drM v i) = false := by
  unfold primB
  rw [Bool.and_eq_true, List.all_eq_true]
  constructor
  · rintro ⟨h1, h2⟩
    refine ⟨h1, fun i hi hm => ?_⟩
    have := h2 i (List.mem_range.2 hi)
    rw [hm] at this
    simpa using this
  · rintro ⟨h1, h2⟩
    refine ⟨h1, fun i hi => ?_⟩
    cases hm : m.getLsbD i
    · rfl
    · rw [h2 i (List.mem_range.1 hi) hm]; rfl
theorem holds_dr (m v : BitVec 8) (i : Nat) : holdsB (drM m i) (drM v i) m v = true := by
  rw [holdsB_iff]
  intro j hj
  rw [drM_bit] at hj
  rw [drM_bit]
  cases hm : m.getLsbD j
  · rw [hm] at hj; cases hj
  · rw [hm, Bool.true_and] at hj
    rw [hj, Bool.and_true]
    exact ⟨rfl, rfl⟩
/- THE ROW OF ALL PRIMES: by their keys, 256 times the mask and the value. -/
def kM (k : Nat) : BitVec 8 := BitVec.ofNat 8 (k / 256)
def kV (k : Nat) : BitVec 8 := BitVec.ofNat 8 k
def keyC (m v : BitVec 8) : Nat := 256 * m.toNat + v.toNat
theorem keyC_lt (m v : BitVec 8) : keyC m v < 65536 := by unfold keyC; have := m.isLt; have := v.isLt; omega
theorem kM_key (m v : BitVec 8) : kM (keyC m v) = m := by
  apply BitVec.eq_of_toNat_eq
  unfold kM keyC
  rw [BitVec.toNat_ofNat]
  have := m.isLt; have := v.isLt; omega
theorem kV_key (m v : BitVec 8) : kV (keyC m v) = v := by
  apply BitVec.eq_of_toNat_eq
  unfold kV keyC
  rw [BitVec.toNat_ofNat]
  have := m.isLt; have := v.isLt; omega
theorem key_kk {k : Nat} (h : k < 65536) : keyC (kM k) (kV k) = k := by
  unfold keyC kM kV
  rw [BitVec.toNat_ofNat, BitVec.toNat_ofNat]
  omega
theorem kM_at {m v : Nat} (hm : m < 256) (hv : v < 256) : (kM (256 * m + v)).toNat = m := by
  unfold kM; rw [BitVec.toNat_ofNat]; omega
/-- A cube. -/
structure Cb where
  m : BitVec 8
  v : BitVec 8
def cbK (k : Nat) : Cb := ⟨kM k, kV k⟩
/-- The primes with keys below u. -/
def prmU (S : BitVec 256) (n : Int) (u : Nat) : List Nat := (List.range u).filter fun k => primB S n (kM k) (kV k)
theorem prmU_succ (S : BitVec 256) (n : Int) (u : Nat) : prmU S n (u + 1) = prmU S n u ++ (if primB S n (kM u) (kV u) = true then [u] else []) := by
  unfold prmU
  rw [List.range_succ, List.filter_append]
  congr 1
  cases h : primB S n (kM u) (kV u) <;> simp [h]
theorem prmU_mem (S : BitVec 256) (n : Int) (u k : Nat) : k ∈ prmU S n u ↔ k < u ∧ primB S n (kM k) (kV k) = true := by
  unfold prmU; rw [List.mem_filter, List.mem_range]
theorem prmU_srt (S : BitVec 256) (n : Int) (u : Nat) : (prmU S n u).Pairwise (· < ·) := List.Pairwise.filter _ (List.pairwise_lt_range)
/-- Nothing is between: where no key from u to u' is prime. -/
theorem prmU_gap {S : BitVec 256} {n : Int} {u u' : Nat} (h : u ≤ u') (hn : ∀ k, u ≤ k → k < u' → primB S n (kM k) (kV k) = false) : prmU S n u' = prmU S n u := by
  obtain ⟨d, rfl⟩ := Nat.exists_eq_add_of_le h
  clear h
  induction d with
  | zero => rfl
  | succ d ih =>
    rw [show u + (d + 1) = u + d + 1 by omega, prmU_succ, ih (fun k h1 h2 => hn k h1 (by omega)), hn (u + d) (by omega) (by omega)]
    simp
theorem prim_right {S : BitVec 256} {n : Int} {m v : BitVec 8} (h : primB S n m v = true) : rightB m v n = true := by
  have := ((primB_iff S n m v).1 h).1
  unfold inB at this
  rw [Bool.and_eq_true] at this
  exact this.1
theorem prmU_all {S : BitVec 256} {n : Nat} (hn : n ≤ 8) : prmU S n (256 * 2 ^ n) = prmU S n 65536 := by
  have h2 : 2 ^ n ≤ 2 ^ 8 := Nat.pow_le_pow_right (by decide) hn
  refine (prmU_gap (by omega) fun k h1 h2 => ?_).symm
  cases hp : primB S n (kM k) (kV k)
  · rfl
  · obtain ⟨-, hm, -, -, -⟩ := right_lows (prim_right hp)
    have e : 256 * (k / 256) + k % 256 = k := Nat.div_add_mod k 256
    rw [← e, kM_at (by omega) (by omega)] at hm
    omega
/-- All primes, by their keys. -/
def prmL (S : BitVec 256) (n : Int) : List Nat := prmU S n 65536
theorem prmL_mem (S : BitVec 256) (n : Int) (m v : BitVec 8) : keyC m v ∈ prmL S n ↔ primB S n m v = true := by
  unfold prmL
  rw [prmU_mem, kM_key, kV_key]
  exact ⟨fun h => h.2, fun h => ⟨keyC_lt m v, h⟩⟩
def prims (S : BitVec 256) (n : Int) : List Cb := (prmL S n).map cbK
/-- A row of keys that rises and has just the primes is the row of all. -/
theorem rise_ext : ∀ {a b : List Nat}, a.Pairwise (· < ·) → b.Pairwise (· < ·) → (∀ x, x ∈ a ↔ x ∈ b) → a = b
  | [], [], _, _, _ => rfl
  | [], y :: b, _, _, h => absurd ((h y).2 (List.mem_cons_self)) (List.not_mem_nil)
  | x :: a, [], _, _, h => absurd ((h x).1 (List.mem_cons_self)) (List.not_mem_nil)
  | x :: a, y :: b, ha, hb, h => by
    rw [List.pairwise_cons] at ha hb
    have hx := (h x).1 List.mem_cons_self
    have hy := (h y).2 List.mem_cons_self
    have e : x = y := by
      rcases List.mem_cons.1 hx with e | hx
      · exact e
      · rcases List.mem_cons.1 hy with e | hy
        · exact e.symm
        · have := ha.1 y hy; have := hb.1 x hx; omega
    subst e
    rw [rise_ext ha.2 hb.2 fun z => ?_]
    constructor
    · intro hz
      rcases List.mem_cons.1 ((h z).1 (List.mem_cons_of_mem _ hz)) with e | q
      · subst e; exact absurd (ha.1 z hz) (Nat.lt_irrefl _)
      · exact q
    · intro hz
      rcases List.mem_cons.1 ((h z).2 (List.mem_cons_of_mem _ hz)) with e | q
      · subst e; exact absurd (hb.1 z hz) (Nat.lt_irrefl _)
      · exact q
/-- All primes together have just the set's points. -/
theorem point_in {S : BitVec 256} {n p : Nat} (hn : n ≤ 8) (hp : p < 2 ^ n) (hS : S.getLsbD p = true) : inB S n (BitVec.ofNat 8 (2 ^ n - 1)) (BitVec.ofNat 8 p) = true := by
  have h2 : 2 ^ n ≤ 2 ^ 8 := Nat.pow_le_pow_right (by decide) hn
  have hb : ∀ i, (BitVec.ofNat 8 (2 ^ n - 1)).getLsbD i = decide (i < n) := fun i => by
    rw [BitVec.getLsbD_ofNat, Nat.testBit_two_pow_sub_one]
    by_cases h : i < n
    · simp [h, show i < 8 by omega]
    · simp [h]
  have hv : ∀ i, (BitVec.ofNat 8 p).getLsbD i = p.testBit i := fun i => by
    rw [BitVec.getLsbD_ofNat]
    by_cases h : i < 8
    · simp [h]
    · have : p.testBit i = false := Nat.testBit_lt_two_pow (Nat.lt_of_lt_of_le (show p < 2 ^ 8 by omega) (Nat.pow_le_pow_right (by decide) (by omega)))
      simp [this]
  refine (inB_iff S n _ _).2 ⟨(rightB_iff _ _ _).2 ⟨by omega, by omega, fun i hi => by rw [hb]; exact decide_eq_false (by omega), ?_⟩, fun q hq hf => ?_⟩
  · apply BitVec.eq_of_getLsbD_eq
    intro i _
    rw [BitVec.getLsbD_and, hb, hv]
    by_cases h : i < n
    · simp [h]
    · have : p.testBit i = false := Nat.testBit_lt_two_pow (Nat.lt_of_lt_of_le hp (Nat.pow_le_pow_right (by decide) (by omega)))
      simp [this]
  · have e : q = p := Nat.eq_of_testBit_eq fun i => by
      by_cases h : i < n
      · have := (fits_iff _ _ _ _).1 hf i h (by rw [hb]; exact decide_eq_true h)
        rw [this, hv]
      · rw [Nat.testBit_lt_two_pow (Nat.lt_of_lt_of_le hq (Nat.pow_le_pow_right (by decide) (by omega))), Nat.testBit_lt_two_pow (Nat.lt_of_lt_of_le hp (Nat.pow_le_pow_right (by decide) (by omega)))]
    rw [e]; exact hS
theorem fits_holds {m v m' v' : BitVec 8} {n p : Nat} (h : holdsB m v m' v' = true) (hf : fits m' v' n p = true) : fits m v n p = true := by
  rw [holdsB_iff] at h
  rw [fits_iff] at *
  intro i hi hm
  obtain ⟨h1, h2⟩ := h i hm
  rw [hf i hi h1, h2]
end Go.Proofs.YtgajgjlldohekaaGreat
namespace Go.Proofs.YtgajgjlldohekaaGreat
open Go.RowKit

/-- Has the member of a row the item t? -/
def mbF (m v o : BitVec 8) (t : Nat) : Bool := if t < 16 then m.getLsbD (t / 2) && (v.getLsbD (t / 2) == decide (t % 2 = 1)) else decide (t < 20) && o.getLsbD (t - 16)
def memB (m v o : BitVec 8) : Nat := wsum (mbF m v o) 20
def rmM (k : Nat) : BitVec 8 := BitVec.ofNat 8 (wsum (fun i => k.testBit (2 * i) || k.testBit (2 * i + 1)) 8)
def rmV (k : Nat) : BitVec 8 := BitVec.ofNat 8 (wsum (fun i => k.testBit (2 * i + 1)) 8)
def rmO (k : Nat) : BitVec 8 := BitVec.ofNat 8 (wsum (fun j => k.testBit (16 + j)) 4)
/-- Are no items of one input both there, of the first i? -/
def twoB (k i : Nat) : Bool := (List.range i).all fun j => !(k.testBit (2 * j) && k.testBit (2 * j + 1))
def belB (k : Int) : Bool := decide (65536 ≤ k ∧ k < 1048576) && twoB k.toNat 8
theorem twoB_iff (k i : Nat) : twoB k i = true ↔ ∀ j, j < i → (k.testBit (2 * j) && k.testBit (2 * j + 1)) = false := by
  unfold twoB
  rw [List.all_eq_true]
  constructor
  · intro h j hj
    have h1 := h j (List.mem_range.2 hj)
    cases hb : (k.testBit (2 * j) && k.testBit (2 * j + 1))
    · rfl
    · rw [hb] at h1; cases h1
  · intro h j hj
    rw [h j (List.mem_range.1 hj)]; rfl
theorem twoB_succ (k i : Nat) : twoB k (i + 1) = (twoB k i && !(k.testBit (2 * i) && k.testBit (2 * i + 1))) := by
  unfold twoB
  rw [List.range_succ, List.all_append]
  simp
theorem twoB_no {k i : Nat} (hi : i < 8) (h : (k.testBit (2 * i) && k.testBit (2 * i + 1)) = true) : twoB k 8 = false := by
  cases ht : twoB k 8
  · rfl
  · rw [(twoB_iff k 8).1 ht i hi] at h; cases h
theorem ofN_bit {g : Nat → Bool} {n j : Nat} (hn : n ≤ 8) : (BitVec.ofNat 8 (wsum g n)).getLsbD j = (decide (j < n) && g j) := by
  rw [BitVec.getLsbD_ofNat, wsum_bit]
  by_cases h : j < 8
  · simp [h]
  · have : ¬ j < n := by omega
    simp [h, this]
theorem rmM_bit (k j : Nat) : (rmM k).getLsbD j = (decide (j < 8) && (k.testBit (2 * j) || k.testBit (2 * j + 1))) := ofN_bit (by omega)
theorem rmV_bit (k j : Nat) : (rmV k).getLsbD j = (decide (j < 8) && k.testBit (2 * j + 1)) := ofN_bit (by omega)
theorem rmO_bit (k j : Nat) : (rmO k).getLsbD j = (decide (j < 4) && k.testBit (16 + j)) := ofN_bit (by omega)
theorem memB_bit (m v o : BitVec 8) (t : Nat) : (memB m v o).testBit t = (decide (t < 20) && mbF m v o t) := wsum_bit _ _ _
theorem memB_lt (m v o : BitVec 8) : memB m v o < 1048576 := wsum_lt _ 20
/-- The member of a member's row is the member. -/
theorem mem_row {k : Nat} (h : belB k = true) : memB (rmM k) (rmV k) (rmO k) = k := by
  unfold belB at h
  rw [Bool.and_eq_true, decide_eq_true_iff, Int.toNat_natCast] at h
  obtain ⟨⟨-, h2⟩, h3⟩ := h
  have h3 := (twoB_iff _ _).1 h3
  apply Nat.eq_of_testBit_eq
  intro t
  rw [memB_bit]
  by_cases ht : t < 20
  · rw [decide_eq_true ht, Bool.true_and]
    unfold mbF
    by_cases h16 : t < 16
    · rw [if_pos h16, rmM_bit, rmV_bit, decide_eq_true (show t / 2 < 8 by omega), Bool.true_and, Bool.true_and]
      have h4 := h3 (t / 2) (by omega)
      rcases Nat.mod_two_eq_zero_or_one t with e | e
      · have e2 : t = 2 * (t / 2) := by omega
        generalize t / 2 = i at *
        subst e2
        cases ha : k.testBit (2 * i) <;> cases hb : k.testBit (2 * i + 1) <;> simp_all
      · have e2 : t = 2 * (t / 2) + 1 := by omega
        generalize t / 2 = i at *
        subst e2
        cases ha : k.testBit (2 * i) <;> cases hb : k.testBit (2 * i + 1) <;> simp_all
    · rw [if_neg h16, decide_eq_true ht, Bool.true_and, rmO_bit, decide_eq_true (show t - 16 < 4 by omega), Bool.true_and, show 16 + (t - 16) = t by omega]
  · rw [decide_eq_false ht, Bool.false_and, Nat.testBit_lt_two_pow (Nat.lt_of_lt_of_le (show k < 2 ^ 20 by omega) (Nat.pow_le_pow_right (by decide) (by omega)))]
theorem memB_even (m v o : BitVec 8) {i : Nat} (hi : i < 8) : (memB m v o).testBit (2 * i) = (m.getLsbD i && !v.getLsbD i) := by
  rw [memB_bit, decide_eq_true (by omega), Bool.true_and]
  unfold mbF
  rw [if_pos (by omega), show 2 * i / 2 = i by omega, decide_eq_false (show ¬ 2 * i % 2 = 1 by omega)]
  cases m.getLsbD i <;> cases v.getLsbD i <;> rfl
theorem memB_odd (m v o : BitVec 8) {i : Nat} (hi : i < 8) : (memB m v o).testBit (2 * i + 1) = (m.getLsbD i && v.getLsbD i) := by
  rw [memB_bit, decide_eq_true (by omega), Bool.true_and]
  unfold mbF
  rw [if_pos (by omega), show (2 * i + 1) / 2 = i by omega, decide_eq_true (show (2 * i + 1) % 2 = 1 by omega)]
  cases m.getLsbD i <;> cases v.getLsbD i <;> rfl
theorem memB_out (m v o : BitVec 8) {j : Nat} (hj : j < 4) : (memB m v o).testBit (16 + j) = o.getLsbD j := by
  rw [memB_bit, decide_eq_true (by omega), Bool.true_and]
  unfold mbF
  rw [if_neg (by omega), decide_eq_true (by omega), Bool.true_and, show 16 + j - 16 = j by omega]
theorem row_m (m v o : BitVec 8) : rmM (memB m v o) = m := by
  apply BitVec.eq_of_getLsbD_eq
  intro j hj
  rw [rmM_bit, decide_eq_true hj, Bool.true_and, memB_even _ _ _ hj, memB_odd _ _ _ hj]
  cases m.getLsbD j <;> cases v.getLsbD j <;> rfl
theorem row_v (m v o : BitVec 8) : rmV (memB m v o) = m &&& v := by
  apply BitVec.eq_of_getLsbD_eq
  intro j hj
  rw [rmV_bit, decide_eq_true hj, Bool.true_and, memB_odd _ _ _ hj, BitVec.getLsbD_and]
theorem row_o (m v o : BitVec 8) : rmO (memB m v o) = o &&& 15#8 := by
  apply BitVec.eq_of_getLsbD_eq
  intro j hj
  rw [rmO_bit, BitVec.getLsbD_and]
  by_cases h : j < 4
  · rw [decide_eq_true h, Bool.true_and, memB_out _ _ _ h]
    rcases (by omega : j = 0 ∨ j = 1 ∨ j = 2 ∨ j = 3) with rfl | rfl | rfl | rfl <;> simp
  · rw [decide_eq_false h, Bool.false_and]
    rcases (by omega : j = 4 ∨ j = 5 ∨ j = 6 ∨ j = 7) with rfl | rfl | rfl | rfl <;> simp
theorem mem_two (m v o : BitVec 8) : twoB (memB m v o) 8 = true := by
  rw [twoB_iff]
  intro j hj
  rw [memB_even _ _ _ hj, memB_odd _ _ _ hj]
  cases m.getLsbD j <;> cases v.getLsbD j <;> rfl
theorem low_out8 : ∀ o : Fin 256, o.val % 16 ≠ 0 → ∃ j : Fin 4, (BitVec.ofFin (w := 8) o).getLsbD j = true := by decide +kernel
theorem low_none8 : ∀ o : Fin 256, o.val % 16 = 0 → ∀ j : Fin 4, (BitVec.ofFin (w := 8) o).getLsbD j = false := by decide +kernel
theorem mem_bel {m v o : BitVec 8} (h : o.toNat % 16 ≠ 0) : belB (memB m v o) = true := by
  unfold belB
  rw [Int.toNat_natCast, mem_two, Bool.and_true]
  have h2 := memB_lt m v o
  obtain ⟨j, hj⟩ := low_out8 o.toFin h
  have hb := memB_out m v o j.isLt
  rw [show o.getLsbD j = true from hj] at hb
  have h3 : 2 ^ (16 + j.val) ≤ memB m v o := Nat.ge_two_pow_of_testBit hb
  have h4 : 2 ^ 16 ≤ 2 ^ (16 + j.val) := Nat.pow_le_pow_right (by decide) (by omega)
  exact decide_eq_true (by omega)
theorem mem_off {m v o : BitVec 8} (h : o.toNat % 16 = 0) : belB (memB m v o) = false := by
  have hlt : memB m v o < 2 ^ 16 := by
    apply Nat.lt_pow_two_of_testBit
    intro t ht
    rw [memB_bit]
    by_cases h20 : t < 20
    · unfold mbF
      have := low_none8 o.toFin h ⟨t - 16, by omega⟩
      rw [if_neg (by omega), show o.getLsbD (t - 16) = false from this]
      simp
    · rw [decide_eq_false h20, Bool.false_and]
  unfold belB
  rw [decide_eq_false (by omega), Bool.false_and]
/-- A member, item by item. -/
theorem mb_step (m v o : BitVec 8) {i : Nat} (hi : i < 8) : wsum (mbF m v o) (2 * (i + 1)) = wsum (mbF m v o) (2 * i) + (if lit m v i = 2 then 0 else 2 ^ (2 * i + lit m v i)) := by
  rw [show 2 * (i + 1) = 2 * i + 1 + 1 by omega, wsum, wsum]
  have e0 : mbF m v o (2 * i) = (m.getLsbD i && !v.getLsbD i) := by
    have := memB_even m v o hi
    rw [memB_bit, decide_eq_true (by omega), Bool.true_and] at this
    exact this
  have e1 : mbF m v o (2 * i + 1) = (m.getLsbD i && v.getLsbD i) := by
    have := memB_odd m v o hi
    rw [memB_bit, decide_eq_true (by omega), Bool.true_and] at this
    exact this
  rw [e0, e1]
  unfold lit
  cases m.getLsbD i <;> cases v.getLsbD i <;> simp
theorem mb_out (m v o : BitVec 8) {j : Nat} (hj : j < 4) : wsum (mbF m v o) (16 + (j + 1)) = wsum (mbF m v o) (16 + j) + (if o.getLsbD j = true then 2 ^ (16 + j) else 0) := by
  rw [show 16 + (j + 1) = 16 + j + 1 by omega, wsum]
  have e0 : mbF m v o (16 + j) = o.getLsbD j := by
    have := memB_out m v o hj
    rw [memB_bit, decide_eq_true (by omega), Bool.true_and] at this
    exact this
  rw [e0]
end Go.Proofs.YtgajgjlldohekaaGreat
namespace Go.Proofs.YtgajgjlldohekaaGreat
open Go.RowKit Go.Joins

end Go.Proofs.YtgajgjlldohekaaGreat
