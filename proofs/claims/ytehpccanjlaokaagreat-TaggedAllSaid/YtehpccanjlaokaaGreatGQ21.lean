/- What package multi works with, plain: the points where all outputs of some may be on; all outputs for which a cube is within; what is within, what a row grows to, and what is prime, by these. The statements of layer 9, walked over what the package answers: knows, PrimeAll. Package cube's Without; package prime's Within, Grow, Prime. Package multi: common, outputs. -/
import Derived.Test.YtehpccanjlaokaaGreatGQ08
import Derived.Test.YtehpccanjlaokaaGreatGQ20
import Derived.Test.YtehpccanjlaokaaGreatGQ07
namespace Go.Proofs.YtehpccanjlaokaaGreat
open Go.RowKit

/-- The points where the first k outputs of o may be on. -/
def comN (s : Sp) (o : BitVec 8) : Nat → BitVec 256
  | 0 => allB s.i.toNat
  | k + 1 => if o.getLsbD k = true then comN s o k &&& s.may.getD k 0 else comN s o k
def comS (s : Sp) (o : BitVec 8) : BitVec 256 := comN s o s.may.length
/-- The outputs of the first k for which a cube is within. -/
def outN (s : Sp) (m v : BitVec 8) : Nat → BitVec 8
  | 0 => 0
  | k + 1 => if inB (s.may.getD k 0) s.i m v = true then outN s m v k ||| BitVec.twoPow 8 k else outN s m v k
def outS (s : Sp) (m v : BitVec 8) : BitVec 8 := outN s m v s.may.length
theorem comN_bit (s : Sp) (o : BitVec 8) (p : Nat) : ∀ k, (comN s o k).getLsbD p = true ↔ (allB s.i.toNat).getLsbD p = true ∧ ∀ j, j < k → o.getLsbD j = true → (s.may.getD j 0).getLsbD p = true
  | 0 => by
    constructor
    · intro h; exact ⟨h, fun j hj => absurd hj (Nat.not_lt_zero _)⟩
    · intro h; exact h.1
  | k + 1 => by
    have ih := comN_bit s o p k
    show (if o.getLsbD k = true then comN s o k &&& s.may.getD k 0 else comN s o k).getLsbD p = true ↔ _
    by_cases hk : o.getLsbD k = true
    · rw [if_pos hk, BitVec.getLsbD_and, Bool.and_eq_true, ih]
      constructor
      · rintro ⟨⟨h1, h2⟩, h3⟩
        refine ⟨h1, fun j hj hb => ?_⟩
        by_cases e : j = k
        · subst e; exact h3
        · exact h2 j (by omega) hb
      · rintro ⟨h1, h2⟩
        exact ⟨⟨h1, fun j hj hb => h2 j (by omega) hb⟩, h2 k (by omega) hk⟩
    · rw [if_neg hk, ih]
      constructor
      · rintro ⟨h1, h2⟩
        refine ⟨h1, fun j hj hb => ?_⟩
        by_cases e : j = k
        · subst e; exact absurd hb hk
        · exact h2 j (by omega) hb
      · rintro ⟨h1, h2⟩
        exact ⟨h1, fun j hj hb => h2 j (by omega) hb⟩
theorem allB_on {n p : Nat} (h8 : n ≤ 8) (h : p < 2 ^ n) : (allB n).getLsbD p = true := by
  unfold allB
  rw [bvOf_bit, decide_eq_true (two_pow_8 h8 h), decide_eq_true h]; rfl
theorem com_in {s : Sp} {n : Nat} (hn : s.i = n) (h8 : n ≤ 8) (o m v : BitVec 8) (k : Nat) : inB (comN s o k) n m v = true ↔ rightB m v n = true ∧ ∀ j, j < k → o.getLsbD j = true → inB (s.may.getD j 0) n m v = true := by
  rw [inB_iff]
  constructor
  · rintro ⟨hr, h⟩
    refine ⟨hr, fun j hj hb => (inB_iff _ _ _ _).2 ⟨hr, fun p hp hf => ?_⟩⟩
    exact ((comN_bit s o p k).1 (h p hp hf)).2 j hj hb
  · rintro ⟨hr, h⟩
    refine ⟨hr, fun p hp hf => (comN_bit s o p k).2 ⟨?_, fun j hj hb => ((inB_iff _ _ _ _).1 (h j hj hb)).2 p hp hf⟩⟩
    rw [hn, Int.toNat_natCast]
    exact allB_on h8 hp
theorem outN_bit (s : Sp) (m v : BitVec 8) (j : Nat) : ∀ k, k ≤ 8 → ((outN s m v k).getLsbD j = true ↔ j < k ∧ inB (s.may.getD j 0) s.i m v = true)
  | 0, _ => by
    show (0 : BitVec 8).getLsbD j = true ↔ _
    simp
  | k + 1, h8 => by
    have ih := outN_bit s m v j k (by omega)
    show (if inB (s.may.getD k 0) s.i m v = true then outN s m v k ||| BitVec.twoPow 8 k else outN s m v k).getLsbD j = true ↔ _
    by_cases hk : inB (s.may.getD k 0) s.i m v = true
    · rw [if_pos hk, BitVec.getLsbD_or, BitVec.getLsbD_twoPow, Bool.or_eq_true, ih]
      constructor
      · rintro (⟨h1, h2⟩ | h)
        · exact ⟨by omega, h2⟩
        · simp at h
          obtain ⟨h1, h2⟩ := h
          subst h2
          exact ⟨by omega, hk⟩
      · rintro ⟨h1, h2⟩
        by_cases e : j = k
        · subst e
          right
          simp
          omega
        · exact .inl ⟨by omega, h2⟩
    · rw [if_neg hk, ih]
      constructor
      · rintro ⟨h1, h2⟩; exact ⟨by omega, h2⟩
      · rintro ⟨h1, h2⟩
        by_cases e : j = k
        · subst e; exact absurd h2 hk
        · exact ⟨by omega, h2⟩
/-- Within, as the package tells it. -/
theorem rowin_com {s : Sp} {n : Nat} (hn : s.i = n) (h8 : n ≤ 8) (x : Rw) : rowIn s x = (outsB x.o s.on.length && inB (comS s x.o) n x.m x.v) := by
  rw [Bool.eq_iff_iff, Bool.and_eq_true, rowIn_iff, comS, com_in hn h8, hn]
  unfold rwB
  rw [Bool.and_eq_true, and_assoc]
/-- The rows that the package makes are the prime ones. -/
theorem prim_com {s : Sp} {n : Nat} (hn : s.i = n) (h8 : n ≤ 8) (h4 : s.on.length ≤ 8) (hl : s.on.length = s.may.length) (x : Rw) :
    primR s x = true ↔ x.o = outS s x.m x.v ∧ ∃ k, k + 1 < 2 ^ s.may.length ∧ primB (comS s (BitVec.ofNat 8 (k + 1))) n x.m x.v = true := by
  have hp8 : 2 ^ s.may.length ≤ 256 := Nat.le_trans (Nat.pow_le_pow_right (by decide) (show s.may.length ≤ 8 by omega)) (by decide : (2 : Nat) ^ 8 ≤ 256)
  constructor
  · intro h
    obtain ⟨h1, h2, h3⟩ := primR_iff.1 h
    have hin := rowin_com hn h8 x
    rw [h1] at hin
    have hin := Bool.and_eq_true_iff.1 hin.symm
    have hlow := rowin_low hn h1
    refine ⟨?_, x.o.toNat - 1, by rw [← hl]; omega, ?_⟩
    · apply BitVec.eq_of_getLsbD_eq
      intro q _
      rw [Bool.eq_iff_iff]
      unfold outS
      rw [outN_bit s x.m x.v q _ (by omega)]
      constructor
      · intro hb
        have hq : q < s.may.length := by
          rcases Nat.lt_or_ge q s.may.length with h | h
          · exact h
          · rw [(rwB_iff.1 (rowin_right h1)).2.1 q (by omega)] at hb; cases hb
        exact ⟨hq, (rowIn_iff.1 h1).2 q hq hb⟩
      · rintro ⟨hq, hb⟩
        cases hc : x.o.getLsbD q
        · have h5 := h3 q (by omega) hc
          obtain ⟨r1, r2, r3⟩ := rwB_iff.1 (rowin_right h1)
          have : rowIn s (addR x q) = true := by
            refine rowIn_iff.2 ⟨rwB_iff.2 ⟨fun e => ?_, fun j hj => ?_, r3⟩, fun j hj hd => ?_⟩
            · have := congrArg (fun z => z.getLsbD q) e
              rw [addR_bit] at this
              simp at this
              omega
            · rw [addR_bit, r2 j hj]
              have : ¬ j = q := by omega
              simp [this]
            · rw [addR_bit, Bool.or_eq_true] at hd
              rcases hd with hd | hd
              · exact (rowIn_iff.1 h1).2 j hj hd
              · simp at hd
                rw [hd.2]; exact hb
          rw [h5] at this; cases this
        · rfl
    · have e : BitVec.ofNat 8 (x.o.toNat - 1 + 1) = x.o := by
        rw [show x.o.toNat - 1 + 1 = x.o.toNat by omega]
        simp
      rw [e, primB_iff]
      refine ⟨hin.2, fun i hi hb => ?_⟩
      rw [Int.toNat_natCast] at hi
      have h5 := h2 i (by rw [hn, Int.toNat_natCast]; exact hi) hb
      rw [rowin_com hn h8] at h5
      have h6 : outsB (dropR x i).o s.on.length = true := hin.1
      rw [h6, Bool.true_and] at h5
      exact h5
  · rintro ⟨ho, k, hk, hp⟩
    obtain ⟨h1, h2⟩ := (primB_iff _ _ _ _).1 hp
    obtain ⟨hr, hj⟩ := (com_in hn h8 _ _ _ _).1 h1
    have hkn : (BitVec.ofNat 8 (k + 1)).toNat = k + 1 := by rw [BitVec.toNat_ofNat]; omega
    have hkb : ∀ q, (BitVec.ofNat 8 (k + 1)).getLsbD q = true → q < s.may.length := fun q hq => by
      rcases Nat.lt_or_ge q s.may.length with h | h
      · exact h
      · have : (k + 1).testBit q = true := by rw [← hkn]; exact hq
        rw [Nat.testBit_lt_two_pow (Nat.lt_of_lt_of_le hk (Nat.pow_le_pow_right (by decide) h))] at this
        cases this
    have hsub : ∀ q, (BitVec.ofNat 8 (k + 1)).getLsbD q = true → x.o.getLsbD q = true := fun q hq => by
      rw [ho]
      unfold outS
      rw [outN_bit s x.m x.v q _ (by omega), hn]
      exact ⟨hkb q hq, hj q (hkb q hq) hq⟩
    have hne : x.o ≠ 0 := fun e => by
      have : BitVec.ofNat 8 (k + 1) = 0 := by
        apply BitVec.eq_of_getLsbD_eq
        intro q _
        cases hc : (BitVec.ofNat 8 (k + 1)).getLsbD q
        · simp
        · have := hsub q hc
          rw [e] at this
          simp at this
      rw [this] at hkn
      simp at hkn
    have hob : ∀ q, x.o.getLsbD q = true → q < s.may.length ∧ inB (s.may.getD q 0) s.i x.m x.v = true := fun q hq => by
      rw [ho] at hq
      unfold outS at hq
      exact (outN_bit s x.m x.v q _ (by omega)).1 hq
    have hin : rowIn s x = true := by
      refine rowIn_iff.2 ⟨rwB_iff.2 ⟨hne, fun q hq => ?_, by rw [hn]; exact hr⟩, fun j hj hb => (hob j hb).2⟩
      cases hc : x.o.getLsbD q
      · rfl
      · have := (hob q hc).1
        omega
    refine primR_iff.2 ⟨hin, fun i hi hb => ?_, fun j hj hb => ?_⟩
    · rw [Bool.eq_false_iff]
      intro hd
      have h5 := h2 i (by rw [hn] at hi; exact hi) hb
      have : inB (comS s (BitVec.ofNat 8 (k + 1))) n (drM x.m i) (drM x.v i) = true := by
        unfold comS
        rw [com_in hn h8]
        refine ⟨right_dr i hr, fun j hj hb => ?_⟩
        have := (rowIn_iff.1 hd).2 j hj (hsub j hb)
        rw [hn] at this
        exact this
      rw [h5] at this; cases this
    · rw [Bool.eq_false_iff]
      intro hd
      have h5 : inB (s.may.getD j 0) s.i x.m x.v = true := (rowIn_iff.1 hd).2 j (by omega) (by rw [addR_bit]; simp; omega)
      rw [ho] at hb
      unfold outS at hb
      rw [(outN_bit s x.m x.v j _ (by omega)).2 ⟨by omega, h5⟩] at hb
      cases hb
/-- A row of rows that rises and has just the prime ones is the row of all. -/
theorem rwL_ext {P : Rw → Bool} {l : List Rw} (hr : (l.map keyR).Pairwise (· < ·)) (hm : ∀ x, x ∈ l ↔ P x = true) : l = rwL P := by
  have e : l.map keyR = rwU P allK := by
    refine rise_ext hr (rwU_srt _ _) fun k => ?_
    rw [rwU_mem, List.mem_map]
    constructor
    · rintro ⟨x, hx, rfl⟩
      exact ⟨keyR_lt x, by rw [rwK_key]; exact (hm x).1 hx⟩
    · rintro ⟨h1, h2⟩
      exact ⟨rwK k, (hm _).2 h2, key_rwK h1⟩
  unfold rwL
  rw [← e, List.map_map]
  conv => lhs; rw [← List.map_id l]
  refine List.map_congr_left fun x _ => ?_
  show x = rwK (keyR x)
  rw [rwK_key]
end Go.Proofs.YtehpccanjlaokaaGreat
namespace Go.Proofs.YtehpccanjlaokaaGreat
open Go.RowKit Go.Joins

theorem ex9 : prims 14#256 2 = [⟨1#8, 1#8⟩, ⟨2#8, 2#8⟩] := by
  have h1 : prmU 14#256 2 1024 = [257, 514] := by decide +kernel
  have h2 : prmU 14#256 2 1024 = prmU 14#256 2 65536 := prmU_all (S := 14#256) (n := 2) (by decide)
  unfold prims prmL
  rw [← h2, h1]
  rfl
theorem ex9o : ofB 14#256 2 = true := by decide +kernel
theorem wd14 : wd 14#256 0 = 14#64 ∧ wd 14#256 1 = 0#64 ∧ wd 14#256 2 = 0#64 ∧ wd 14#256 3 = 0#64 := by decide +kernel
theorem sv14 : sv 14#256 = .agg #[.int .u64 14, .int .u64 0, .int .u64 0, .int .u64 0] := by
  unfold sv
  rw [wd14.1, wd14.2.1, wd14.2.2.1, wd14.2.2.2]
  rfl
end Go.Proofs.YtehpccanjlaokaaGreat
namespace Go.Proofs.YtehpccanjlaokaaGreat
open Go.RowKit Go.Joins

theorem andNotQ (a b : BitVec 8) : bits .andNot .u8 (a.toNat : Int) (b.toNat : Int) = ((a &&& ~~~b).toNat : Int) := by
  rw [u8_andNot_nat _ _ a.isLt b.isLt, BitVec.toNat_and, BitVec.toNat_not]
theorem andBit8 (m : BitVec 8) (i : Nat) : bits .andNot .u8 (m.toNat : Int) (2 ^ i % 256) = ((drM m i).toNat : Int) := by
  have h := andNotQ m (BitVec.twoPow 8 i)
  rw [BitVec.toNat_twoPow] at h
  exact h
set_option maxHeartbeats 1000000 in
theorem cwithout_any (m v : BitVec 8) (i : Nat) (hi : i < 8) (w : World) :
    Calls Tryz.prog 92 #[cv m v, .int .i64 i] w fun e w' => e = .returned (cv (drM m i) (v &&& drM m i)) ∧ Below w.heap.size w w' := by
  have HT := fun w => tidy_any (drM m i) v w
  generalize v &&& drM m i = u at *
  have HA := Lib.hid (andBit8 m i)
  have hx : ((w.alloc (cb m v)).alloc cb0).heap[w.heap.size]? = some (cb m v) := by rw [heap_alloc2_old]
  have hr : ((w.alloc (cb m v)).alloc cb0).heap[w.heap.size + 1]? = some cb0 := by rw [heap_alloc2_new]
  have hb := below_alloc2 w (cb m v) cb0
  have i0 : decide ((0 : Int) ≤ (i : Int)) = true := decide_eq_true (by omega)
  have i8 : decide ((i : Int) < 8) = true := decide_eq_true (by omega)
  have i1 : ¬ (i : Int) < 0 := by omega
  unfold cv cb cb0 bvv at *
  go_enter Tryz.func92, Tryz.ntmps92
  go_upto_region 2 with (fail)
  generalize (w.alloc _).alloc _ = W at *
  obtain ⟨x0, x1, xf⟩ := box2 hx rfl
  refine wp_region_after_tail 6 (by kernel_rfl) (by kernel_rfl) ?_
  simp only [List.take_succ_cons, List.take_zero, List.drop_succ_cons, List.drop_zero]
  repeat (first | go_big_quiet_step (fail))
  refine wpQuiet_nil ?_
  intro x
  have hx1 := block_setCell (i := 0) (x.same hx) (.int .u8 (drM m i).toNat)
  have hr1 := keep_set (a := ⟨w.heap.size, 0, none⟩) (u := .int .u8 (drM m i).toNat) (by simp) (x.same hr)
  have hb1 : Below w.heap.size w (x.1.setCell ⟨w.heap.size, 0, none⟩ (.int .u8 (drM m i).toNat)) := (hb.trans (x.2.mono hb.size)).setCell (Nat.le_refl _) _
  go_upto_region 3 with (fail)
  clear x0 x1 xf hx hr hb
  simp only [HA.out]
  generalize x.1.setCell ⟨w.heap.size, 0, none⟩ (.int .u8 (drM m i).toNat) = W1 at *
  obtain ⟨a0, a1, -⟩ := now2 hx1 rfl
  go_wp2_with fail
  refine (HT _).mono ?_
  rintro e w2 ⟨rfl, hb2⟩
  have hr2 := keep_blk hb2 hr1
  obtain ⟨-, -, rf⟩ := now2 hr2 rfl
  obtain ⟨r0, r1, -⟩ := now2 hr2 rfl
  go_wp2_with fail
  exact bodyPost_ret (v := .agg #[.int .u8 (drM m i).toNat, .int .u8 u.toNat]) (by simp [results, Tryz.results92, go_sem, r0, r1]) rfl
    ⟨rfl, below2 (by omega) (hb1.trans (hb2.mono hb1.size))⟩
theorem cwithout_right {m v : BitVec 8} {n : Int} (h : rightB m v n = true) (i : Nat) (hi : i < 8) (w : World) :
    Calls Tryz.prog 92 #[cv m v, .int .i64 i] w fun e w' => e = .returned (cv (drM m i) (drM v i)) ∧ Below w.heap.size w w' := by
  have := cwithout_any m v i hi w
  have e : v &&& drM m i = drM v i := by
    obtain ⟨-, -, -, hv⟩ := (rightB_iff _ _ _).1 h
    apply BitVec.eq_of_getLsbD_eq
    intro j _
    have hvj : (v.getLsbD j && m.getLsbD j) = v.getLsbD j := by rw [← BitVec.getLsbD_and, hv]
    rw [BitVec.getLsbD_and, drM_bit, drM_bit, ← Bool.and_assoc, hvj]
  rwa [e] at this

set_option maxHeartbeats 1000000 in
theorem pwithin_any (m v : BitVec 8) (S : BitVec 256) (n : Int) (w : World) :
    Calls Tryz.prog 64 #[cv m v, sv S, .int .i64 n] w fun e w' => e = .returned (.bool (inB S n m v)) ∧ Below w.heap.size w w' := by
  have hx : (((w.alloc (cb m v)).alloc (.cells (sa S) 51))).heap[w.heap.size]? = some (cb m v) := by rw [heap_alloc2_old]
  have hs : (((w.alloc (cb m v)).alloc (.cells (sa S) 51))).heap[w.heap.size + 1]? = some (.cells (sa S) 51 (0, 0)) := by rw [heap_alloc2_new]
  have hb := below_alloc2 w (cb m v) (.cells (sa S) 51)
  by_cases hr : rightB m v n = true
  · obtain ⟨h0, h8, -, -⟩ := (rightB_iff _ _ _).1 hr
    obtain ⟨k, rfl⟩ : ∃ k : Nat, n = k := ⟨n.toNat, by omega⟩
    have HP := fun w => cpoints_yes hr w
    have HW := fun w => within_any (cpts m v k k) S w
    have e : inB S k m v = decide (cpts m v k k &&& ~~~S = 0) := by unfold inB; rw [hr, Bool.true_and, Int.toNat_natCast]
    rw [e]
    clear e hr
    generalize decide (cpts m v k k &&& ~~~S = 0) = b at *
    generalize cpts m v k k = X at *
    unfold cv cb bvv sv at *
    unfold sa wv at hx hs hb
    unfold wv at *
    go_enter Tryz.func64, Tryz.ntmps64
    go_upto_region 1 with (fail)
    generalize (w.alloc _).alloc _ = W at *
    obtain ⟨x0, x1, -⟩ := now2 hx rfl
    go_wp2_with fail
    refine (HP _).mono ?_
    rintro e w1 ⟨rfl, hb1⟩
    have hs1 := keep_blk hb1 hs
    have hB := hb.trans (hb1.mono hb.size)
    clear HP x0 x1 hx hs hb hb1
    go_upto_region 2 with (fail)
    have hz := heap_alloc_new w1 (.cells #[.int .u64 (wd X 0).toNat, .int .u64 (wd X 1).toNat, .int .u64 (wd X 2).toNat, .int .u64 (wd X 3).toNat] 51)
    have hs2 := keep_alloc (x := .cells #[.int .u64 (wd X 0).toNat, .int .u64 (wd X 1).toNat, .int .u64 (wd X 2).toNat, .int .u64 (wd X 3).toNat] 51) hs1
    have hB2 := hB.trans ((below_alloc1 w1 (.cells #[.int .u64 (wd X 0).toNat, .int .u64 (wd X 1).toNat, .int .u64 (wd X 2).toNat, .int .u64 (wd X 3).toNat] 51)).mono hB.size)
    clear hs1 hB
    generalize hW2 : w1.alloc _ = w2 at *
    clear hW2
    obtain ⟨z0, z1, z2, z3, -⟩ := now4 hz rfl
    obtain ⟨s0, s1, s2, s3, -⟩ := now4 hs2 rfl
    go_wp2_with fail
    refine (HW _).mono ?_
    rintro e w3 ⟨rfl, hb3⟩
    have hB3 := hB2.trans (hb3.mono hB2.size)
    clear HW z0 z1 z2 z3 s0 s1 s2 s3 hz hs2
    go_wp2
    go_ret
    exact ⟨rfl, hB3⟩
  · have hr' : rightB m v n = false := by simpa using hr
    have HP := fun w => cpoints_no hr' w
    have e : inB S n m v = false := by unfold inB; rw [hr', Bool.false_and]
    rw [e]
    rw [show sv 0 = .agg #[.int .u64 0, .int .u64 0, .int .u64 0, .int .u64 0] from by kernel_rfl] at HP
    clear e hr hr'
    unfold cv cb bvv sv at *
    unfold sa wv at hx hs hb
    unfold wv at *
    go_enter Tryz.func64, Tryz.ntmps64
    go_upto_region 1 with (fail)
    generalize (w.alloc _).alloc _ = W at *
    obtain ⟨x0, x1, -⟩ := now2 hx rfl
    go_wp2_with fail
    refine (HP _).mono ?_
    rintro e w1 ⟨rfl, hb1⟩
    have hB := hb.trans (hb1.mono hb.size)
    clear HP x0 x1 hx hs hb hb1
    go_wp2
    go_ret
    exact ⟨rfl, hB.trans ((below_alloc1 _ _).mono hB.size)⟩

end Go.Proofs.YtehpccanjlaokaaGreat
namespace Go.Proofs.YtehpccanjlaokaaGreat
open Go.RowKit Go.Joins

theorem bitM_eq (x : BitVec 8) (k : Nat) : bits .and .u8 ((x.toNat : Int) / 2 ^ min k 8) 1 = bitI x k := by
  rcases Nat.lt_or_ge k 8 with h | h
  · rw [Nat.min_eq_left (by omega)]; exact bitI_eq x k
  · rw [Nat.min_eq_right h, bitI_eq]
    unfold bitI
    rw [BitVec.getLsbD_of_ge _ _ h, BitVec.getLsbD_of_ge _ _ (Nat.le_refl 8)]
set_option maxHeartbeats 4000000 in
set_option maxRecDepth 100000 in
theorem mcommon_any (i : Nat) (hi : i ≤ 8) (A C : Value) (on may : List (BitVec 256)) (o : BitVec 8) (w : World) (hC : SetsAt w w.heap.size C may) :
    Calls Tryz.prog 26 #[spv i A C, bvv o] w fun e w' => e = .returned (sv (comS ⟨i, on, may⟩ o)) ∧ Below w.heap.size w w' := by
  have HN := fun w => all_any i hi w
  have HA := fun S T w => and_any S T w
  have h0 : Hid (comN ⟨i, on, may⟩ o 0 = allB i) := Lib.hid (by show allB (i : Int).toNat = _; rw [Int.toNat_natCast])
  have hyes : Hid (∀ k X, may[k]? = some X → o.getLsbD k = true → comN ⟨i, on, may⟩ o (k + 1) = comN ⟨i, on, may⟩ o k &&& X) := Lib.hid fun k X hX ho => by
    show (if o.getLsbD k = true then comN ⟨i, on, may⟩ o k &&& may.getD k 0 else comN ⟨i, on, may⟩ o k) = _
    rw [if_pos ho, getD_of hX]
  have hno : Hid (∀ k, o.getLsbD k = false → comN ⟨i, on, may⟩ o (k + 1) = comN ⟨i, on, may⟩ o k) := Lib.hid fun k ho => by
    show (if o.getLsbD k = true then comN ⟨i, on, may⟩ o k &&& may.getD k 0 else comN ⟨i, on, may⟩ o k) = _
    rw [ho]; rfl
  have hbit := Lib.hid (bitM_eq o)
  unfold comS
  generalize comN ⟨i, on, may⟩ o = F at *
  show Calls _ _ _ _ fun e w' => e = .returned (sv (F may.length)) ∧ _
  obtain ⟨C, cc, rfl, lc, hC⟩ := hC
  have hs : ((w.alloc (spb i A (.slice C may.length cc))).alloc (.cells #[.int .u64 0, .int .u64 0, .int .u64 0, .int .u64 0] 51)).heap[w.heap.size]? = some (spb i A (.slice C may.length cc)) := by rw [heap_alloc2_old]
  have hr : ((w.alloc (spb i A (.slice C may.length cc))).alloc (.cells #[.int .u64 0, .int .u64 0, .int .u64 0, .int .u64 0] 51)).heap[w.heap.size + 1]? = some (.cells #[.int .u64 0, .int .u64 0, .int .u64 0, .int .u64 0] 51 (0, 0)) := by rw [heap_alloc2_new]
  have hb := below_alloc2 w (spb i A (.slice C may.length cc)) (.cells #[.int .u64 0, .int .u64 0, .int .u64 0, .int .u64 0] 51)
  unfold spv spb bvv sv wv at *
  go_enter Tryz.func26, Tryz.ntmps26
  go_upto_region 1 with (fail)
  generalize (w.alloc _).alloc _ = W at *
  obtain ⟨s0, s1, s2, -⟩ := now3 hs rfl
  go_wp2_with fail
  refine (HN _).mono ?_
  rintro e w1 ⟨rfl, hb1⟩
  rw [← h0.out]
  have hs1 := keep_blk hb1 hs
  have hr1 := keep_blk hb1 hr
  have hB1 := hb.trans (hb1.mono hb.size)
  have hp2 := heap_alloc_new w1 (.cells #[.int .u64 (wd (F 0) 0).toNat, .int .u64 (wd (F 0) 1).toNat, .int .u64 (wd (F 0) 2).toNat, .int .u64 (wd (F 0) 3).toNat] 51)
  have hs2 := keep_alloc (x := .cells #[.int .u64 (wd (F 0) 0).toNat, .int .u64 (wd (F 0) 1).toNat, .int .u64 (wd (F 0) 2).toNat, .int .u64 (wd (F 0) 3).toNat] 51) hs1
  have hr2 := keep_alloc (x := .cells #[.int .u64 (wd (F 0) 0).toNat, .int .u64 (wd (F 0) 1).toNat, .int .u64 (wd (F 0) 2).toNat, .int .u64 (wd (F 0) 3).toNat] 51) hr1
  have hB2 := hB1.trans ((below_alloc1 w1 (.cells #[.int .u64 (wd (F 0) 0).toNat, .int .u64 (wd (F 0) 1).toNat, .int .u64 (wd (F 0) 2).toNat, .int .u64 (wd (F 0) 3).toNat] 51)).mono hB1.size)
  have hpl : w.heap.size + 1 < w1.heap.size := size_of_block hr1
  clear HN s0 s1 s2 hs hr hb hb1 hs1 hr1 hB1
  go_upto_region 2 with (fail)
  generalize w1.alloc _ = w2 at *
  generalize w1.heap.size = pb at *
  obtain ⟨s0, s1, s2, -⟩ := now3 hs2 rfl
  go_wp2_with fail
  clear s0 s1 s2
  go_loopw [17] (fun t wr => ∃ k : Nat, k ≤ may.length ∧ t = .int .i64 k ∧ Below w.heap.size w wr ∧ wr.heap[w.heap.size]? = some (.cells #[.int .i64 i, A, .slice C may.length cc] 24 (0, 0)) ∧
    wr.heap[w.heap.size + 1]? = some (.cells #[.int .u64 0, .int .u64 0, .int .u64 0, .int .u64 0] 51 (0, 0)) ∧
    wr.heap[pb]? = some (.cells #[.int .u64 (wd (F k) 0).toNat, .int .u64 (wd (F k) 1).toNat, .int .u64 (wd (F k) 2).toNat, .int .u64 (wd (F k) 3).toNat] 51 (0, 0))) (fun t _ => may.length - (intOf t).toNat)
  case atStart => exact ⟨0, by omega, rfl, hB2, hs2, hr2, hp2⟩
  case round =>
    clear hB2 hs2 hr2 hp2
    obtain ⟨k, hk, rfl, hb, hs, hr, hp⟩ := hrel
    by_cases hlt : k < may.length
    · obtain ⟨b2, off2, rfl, hBb2, hc2⟩ := hC (by omega)
      obtain ⟨Y, hY⟩ : ∃ Y, may[k]? = some Y := ⟨_, List.getElem?_eq_getElem hlt⟩
      obtain ⟨y0, y1, y2, y3⟩ := hc2 k Y hY
      have v0 := (hb.cell (p := ⟨b2, off2 + k * 4, none⟩) hBb2).trans y0
      have v1 := (hb.cell (p := ⟨b2, off2 + k * 4 + 1, none⟩) hBb2).trans y1
      have v2 := (hb.cell (p := ⟨b2, off2 + k * 4 + 2, none⟩) hBb2).trans y2
      have v3 := (hb.cell (p := ⟨b2, off2 + k * 4 + 3, none⟩) hBb2).trans y3
      have hbk := hbit.out k
      have hyk := Lib.hid (hyes.out k Y hY)
      have hnk := Lib.hid (hno.out k)
      clear y0 y1 y2 y3 hc2 hY hyes hno h0 hbit
      unfold wv at *
      cases ho : o.getLsbD k
      · have hF := Lib.hid (hnk.out ho)
        rw [show bitI o k = 0 by unfold bitI; rw [ho]; rfl] at hbk
        clear ho hyk hnk v0 v1 v2 v3 HA
        go_wp2
        go_roundw
        case rel => exact ⟨k + 1, by omega, by go_num, hb, hs, hr, by rw [hF.out]; exact hp⟩
        case measure => simp [intOf]; omega
      · have hF := Lib.hid (hyk.out ho)
        rw [show bitI o k = 1 by unfold bitI; rw [ho]; rfl] at hbk
        have HA1 := fun w => HA (F k) Y w
        generalize F k &&& Y = Z at *
        clear ho hyk hnk HA
        go_upto_region 6 with (fail)
        obtain ⟨P0, P1, P2, P3, -⟩ := box4 hp rfl
        obtain ⟨S0, S1, S2, -⟩ := box3 hs rfl
        have T0 := fun x : After wr => After.cell x v0
        have T1 := fun x : After wr => After.cell x v1
        have T2 := fun x : After wr => After.cell x v2
        have T3 := fun x : After wr => After.cell x v3
        refine wp_region_after_tail 7 (by kernel_rfl) (by kernel_rfl) ?_
        simp only [List.take_succ_cons, List.take_zero, List.drop_succ_cons, List.drop_zero]
        repeat (first | go_big_quiet_step ((go_at_call 63; exact Calls.after_of (HA1 _))))
        refine wpQuiet_nil ?_
        intro x
        have hbx := hb.trans (x.2.mono hb.size)
        have hsx := x.same hs
        have hrx := x.same hr
        have hpx := x.same hp
        clear P0 P1 P2 P3 S0 S1 S2 T0 T1 T2 T3 v0 v1 v2 v3 HA1 hb hs hr hp
        have hs' := keep_set4 (c := pb) (x0 := .int .u64 (wd Z 0).toNat) (x1 := .int .u64 (wd Z 1).toNat) (x2 := .int .u64 (wd Z 2).toNat) (x3 := .int .u64 (wd Z 3).toNat) (by omega) hsx
        have hr' := keep_set4 (c := pb) (x0 := .int .u64 (wd Z 0).toNat) (x1 := .int .u64 (wd Z 1).toNat) (x2 := .int .u64 (wd Z 2).toNat) (x3 := .int .u64 (wd Z 3).toNat) (by omega) hrx
        have hp' := put4 (x0 := .int .u64 (wd Z 0).toNat) (x1 := .int .u64 (wd Z 1).toNat) (x2 := .int .u64 (wd Z 2).toNat) (x3 := .int .u64 (wd Z 3).toNat) hpx
        have hb' := below4 (b := pb) (x0 := .int .u64 (wd Z 0).toNat) (x1 := .int .u64 (wd Z 1).toNat) (x2 := .int .u64 (wd Z 2).toNat) (x3 := .int .u64 (wd Z 3).toNat) (by omega) hbx
        have I := Lib.hid (And.intro hb' (And.intro hs' (And.intro hr' hp')))
        obtain ⟨p0, p1, p2, p3, pf⟩ := now4 hpx rfl
        clear hb' hs' hr' hp' hsx hrx hpx hbx
        go_wp2
        go_roundw
        case rel => exact ⟨k + 1, by omega, by go_num, I.out.1, I.out.2.1, I.out.2.2.1, by rw [hF.out]; exact I.out.2.2.2⟩
        case measure => simp [intOf]; omega
    · obtain rfl : k = may.length := by omega
      obtain ⟨p0, p1, p2, p3, -⟩ := now4 hp rfl
      obtain ⟨r0, r1, r2, r3, rf⟩ := now4 hr rfl
      have hr' := put4 (x0 := .int .u64 (wd (F may.length) 0).toNat) (x1 := .int .u64 (wd (F may.length) 1).toNat) (x2 := .int .u64 (wd (F may.length) 2).toNat) (x3 := .int .u64 (wd (F may.length) 3).toNat) hr
      obtain ⟨q0, q1, q2, q3, -⟩ := now4 hr' rfl
      have hb' := below4 (b := w.heap.size + 1) (x0 := .int .u64 (wd (F may.length) 0).toNat) (x1 := .int .u64 (wd (F may.length) 1).toNat) (x2 := .int .u64 (wd (F may.length) 2).toNat) (x3 := .int .u64 (wd (F may.length) 3).toNat) (by omega) hb
      generalize hZ : F may.length = Z at *
      have hZ := Lib.hid hZ
      clear hC HA hyes hno h0 hbit hs hr' hlt hk hb hr hp lc hpl
      go_wp2
      exact bodyPost_ret (v := .agg #[.int .u64 (wd Z 0).toNat, .int .u64 (wd Z 1).toNat, .int .u64 (wd Z 2).toNat, .int .u64 (wd Z 3).toNat]) (by simp [results, Tryz.results26, go_sem, q0, q1, q2, q3]) rfl ⟨by rw [hZ.out], hb'⟩

theorem orBit8 (u : BitVec 8) (k : Nat) : bits .or .u8 (u.toNat : Int) (2 ^ k % 256) = ((u ||| BitVec.twoPow 8 k).toNat : Int) := by
  have h : bits .or .u8 (u.toNat : Int) ((BitVec.twoPow 8 k).toNat : Int) = ((u ||| BitVec.twoPow 8 k).toNat : Int) := or8 u (BitVec.twoPow 8 k)
  rw [BitVec.toNat_twoPow] at h
  exact h
set_option maxHeartbeats 4000000 in
set_option maxRecDepth 100000 in
theorem moutputs_any (i : Int) (A C : Value) (on may : List (BitVec 256)) (m v : BitVec 8) (h8 : may.length ≤ 8) (w : World) (hC : SetsAt w w.heap.size C may) :
    Calls Tryz.prog 27 #[spv i A C, cv m v] w fun e w' => e = .returned (bvv (outS ⟨i, on, may⟩ m v)) ∧ Below w.heap.size w w' := by
  have HW := fun S w => pwithin_any m v S i w
  have hyes : Hid (∀ k X, may[k]? = some X → inB X i m v = true → outN ⟨i, on, may⟩ m v (k + 1) = outN ⟨i, on, may⟩ m v k ||| BitVec.twoPow 8 k) := Lib.hid fun k X hX ho => by
    show (if inB (may.getD k 0) i m v = true then outN ⟨i, on, may⟩ m v k ||| BitVec.twoPow 8 k else outN ⟨i, on, may⟩ m v k) = _
    rw [getD_of hX, if_pos ho]
  have hno : Hid (∀ k X, may[k]? = some X → inB X i m v = false → outN ⟨i, on, may⟩ m v (k + 1) = outN ⟨i, on, may⟩ m v k) := Lib.hid fun k X hX ho => by
    show (if inB (may.getD k 0) i m v = true then outN ⟨i, on, may⟩ m v k ||| BitVec.twoPow 8 k else outN ⟨i, on, may⟩ m v k) = _
    rw [getD_of hX, ho]; rfl
  have h0 : Hid (outN ⟨i, on, may⟩ m v 0 = 0) := Lib.hid rfl
  unfold outS
  generalize outN ⟨i, on, may⟩ m v = F at *
  show Calls _ _ _ _ fun e w' => e = .returned (bvv (F may.length)) ∧ _
  obtain ⟨C, cc, rfl, lc, hC⟩ := hC
  have hs : ((w.alloc (spb i A (.slice C may.length cc))).alloc (cb m v)).heap[w.heap.size]? = some (spb i A (.slice C may.length cc)) := by rw [heap_alloc2_old]
  have hr : ((w.alloc (spb i A (.slice C may.length cc))).alloc (cb m v)).heap[w.heap.size + 1]? = some (cb m v) := by rw [heap_alloc2_new]
  have hb := below_alloc2 w (spb i A (.slice C may.length cc)) (cb m v)
  unfold spv spb cv cb bvv sv wv at *
  go_enter Tryz.func27, Tryz.ntmps27
  go_wp2
  generalize (w.alloc _).alloc _ = W at *
  have hWs := hb.size
  go_loopw [5, 10] (fun u t wr => ∃ k : Nat, k ≤ may.length ∧ t = .int .i64 k ∧ u = .int .u8 (F k).toNat ∧ Below W.heap.size W wr) (fun _ t _ => may.length - (intOf t).toNat)
  case atStart => exact ⟨0, by omega, rfl, by rw [h0.out]; rfl, Below.refl _ _⟩
  case round =>
    obtain ⟨k, hk, rfl, rfl, hbr⟩ := hrel
    have hs := keep_blk hbr hs
    have hr := keep_blk hbr hr
    by_cases hlt : k < may.length
    · obtain ⟨b2, off2, rfl, hBb2, hc2⟩ := hC (by omega)
      obtain ⟨Y, hY⟩ : ∃ Y, may[k]? = some Y := ⟨_, List.getElem?_eq_getElem hlt⟩
      obtain ⟨y0, y1, y2, y3⟩ := hc2 k Y hY
      have hbw := hb.trans (hbr.mono hWs)
      have v0 := (hbw.cell (p := ⟨b2, off2 + k * 4, none⟩) hBb2).trans y0
      have v1 := (hbw.cell (p := ⟨b2, off2 + k * 4 + 1, none⟩) hBb2).trans y1
      have v2 := (hbw.cell (p := ⟨b2, off2 + k * 4 + 2, none⟩) hBb2).trans y2
      have v3 := (hbw.cell (p := ⟨b2, off2 + k * 4 + 3, none⟩) hBb2).trans y3
      have hyk := Lib.hid (hyes.out k Y hY)
      have hnk := Lib.hid (hno.out k Y hY)
      have HW1 := fun w => HW Y w
      have hk8 : k < 8 := by omega
      clear y0 y1 y2 y3 hc2 hY hyes hno h0 HW hbw
      unfold wv at *
      go_upto_region 5 with (fail)
      obtain ⟨P0, P1, -⟩ := box2 hr rfl
      obtain ⟨S0, S1, S2, -⟩ := box3 hs rfl
      have T0 := fun x : After wr => After.cell x v0
      have T1 := fun x : After wr => After.cell x v1
      have T2 := fun x : After wr => After.cell x v2
      have T3 := fun x : After wr => After.cell x v3
      cases ho : inB Y i m v
      · have hF := Lib.hid (hnk.out ho)
        rw [ho] at HW1
        clear ho hyk hnk
        refine wp_region_after (by kernel_rfl) (by kernel_rfl) ?_
        repeat (first | go_big_quiet_step ((go_at_call 64; exact Calls.after_of (HW1 _))))
        refine wpQuiet_nil ?_
        intro x
        have hbx := hbr.trans (x.2.mono hbr.size)
        clear P0 P1 S0 S1 S2 T0 T1 T2 T3 v0 v1 v2 v3 HW1 hbr hs hr hb
        go_wp2
        go_roundw
        case rel => exact ⟨k + 1, by omega, by go_num, by rw [hF.out], hbx⟩
        case measure => simp [intOf]; omega
      · have hF := Lib.hid (hyk.out ho)
        rw [ho] at HW1
        have hob := orBit8 (F k) k
        clear ho hyk hnk
        generalize F k ||| BitVec.twoPow 8 k = Z at *
        refine wp_region_after (by kernel_rfl) (by kernel_rfl) ?_
        repeat (first | go_big_quiet_step ((go_at_call 64; exact Calls.after_of (HW1 _))))
        refine wpQuiet_nil ?_
        intro x
        have hbx := hbr.trans (x.2.mono hbr.size)
        clear P0 P1 S0 S1 S2 T0 T1 T2 T3 v0 v1 v2 v3 HW1 hbr hs hr hb
        go_wp2
        go_roundw
        case rel => exact ⟨k + 1, by omega, by go_num, by rw [hF.out], hbx⟩
        case measure => simp [intOf]; omega
    · obtain rfl : k = may.length := by omega
      have hB := hb.trans (hbr.mono hWs)
      clear hC HW hyes hno h0 hs hr hb hbr hlt hk lc
      go_wp2
      go_ret
      exact ⟨rfl, hB⟩
end Go.Proofs.YtehpccanjlaokaaGreat
