/- What a row grows to is prime; all primes cover; of one output they are the primes of its set. What package multi works with, plain: the points where all outputs of some may be on; all outputs for which a cube is within; what is within, what a row grows to, and what is prime, by these. -/
import Derived.Test.YtmgggennbnbjkaaGreatG20
import Derived.Test.YtmgggennbnbjkaaGreatG21
namespace Go.Proofs.YtmgggennbnbjkaaGreat
open Go.RowKit

theorem grow_prime {s : Sp} {x : Rw} (h4 : s.on.length ≤ 8) (h : rowIn s x = true) : primR s (growR s x) = true ∧ rhB (growR s x) x = true := by
  obtain ⟨h1, h2, h3⟩ := drops_inv h s.i.toNat
  obtain ⟨g1, g2, g3, g4⟩ := adds_inv h1 h3 s.on.length h4
  exact ⟨primR_iff.2 ⟨g1, g3, g4⟩, rhB_trans g2 h2⟩
theorem grow_same {s : Sp} {x : Rw} (h4 : s.on.length ≤ 8) (h : rowIn s x = true) : growR s x = x ↔ primR s x = true := by
  obtain ⟨h1, h2⟩ := grow_prime h4 h
  constructor
  · intro e
    rw [e] at h1; exact h1
  · intro hp
    exact prim_max hp (prim_in h1) h2
theorem sp_iff {s : Sp} : spB s = true ↔ headS s = true ∧ ∀ j, j < s.on.length → s.on.getD j 0 &&& ~~~(s.may.getD j 0) = 0 ∧ s.may.getD j 0 &&& ~~~(allB s.i.toNat) = 0 := by
  unfold spB
  rw [Bool.and_eq_true, range_all]
  constructor
  · rintro ⟨h1, h2⟩
    refine ⟨h1, fun j hj => ?_⟩
    have := h2 j hj
    unfold sideB at this
    rw [Bool.and_eq_true, decide_eq_true_iff, decide_eq_true_iff] at this
    exact this
  · rintro ⟨h1, h2⟩
    refine ⟨h1, fun j hj => ?_⟩
    unfold sideB
    rw [Bool.and_eq_true, decide_eq_true_iff, decide_eq_true_iff]
    exact h2 j hj
theorem allB_bit {n p : Nat} (h : (allB n).getLsbD p = true) : p < 2 ^ n := by
  unfold allB at h
  rw [bvOf_bit] at h
  simp at h
  exact h.2
/-- All primes cover. -/
theorem primes_cover {s : Sp} (hs : spB s = true) : coversB s (rwL (primR s)) = true := by
  obtain ⟨hh, hside⟩ := sp_iff.1 hs
  obtain ⟨⟨i0, i8⟩, ⟨l1, l4⟩, hl⟩ := (headS_iff s).1 hh
  obtain ⟨n, hn⟩ : ∃ n : Nat, s.i = n := ⟨s.i.toNat, by omega⟩
  have hn8 : n ≤ 8 := by omega
  have hnt : s.i.toNat = n := by omega
  have hmem : ∀ x, x ∈ rwL (primR s) → primR s x = true := fun x hx => rwL_mem.1 hx
  have hrow : ∀ x, x ∈ rwL (primR s) → rightB x.m x.v s.i = true ∧ outsB x.o s.on.length = true := fun x hx => by
    have := rowin_right (prim_in (hmem x hx))
    unfold rwB at this
    rw [Bool.and_eq_true] at this
    exact ⟨this.2, this.1⟩
  unfold coversB mayB
  rw [Bool.and_eq_true, Bool.and_eq_true, List.all_eq_true, List.all_eq_true, range_all]
  refine ⟨⟨fun x hx => (hrow x hx).1, fun x hx => (hrow x hx).2⟩, fun j hj => ?_⟩
  obtain ⟨hon, hmay⟩ := hside j hj
  rw [hnt] at hmay
  unfold coB
  rw [Bool.and_eq_true, decide_eq_true_iff, decide_eq_true_iff, hnt, and_not_zero, and_not_zero]
  constructor
  · intro p hp
    have hpm := (and_not_zero _ _).1 hon p hp
    have hpn := allB_bit ((and_not_zero _ _).1 hmay p hpm)
    have hpin := point_in hn8 hpn hpm
    have hpr : rightB (BitVec.ofNat 8 (2 ^ n - 1)) (BitVec.ofNat 8 p) n = true := ((inB_iff _ _ _ _).1 hpin).1
    have hin : rowIn s ⟨BitVec.ofNat 8 (2 ^ n - 1), BitVec.ofNat 8 p, BitVec.twoPow 8 j⟩ = true := by
      refine rowIn_iff.2 ⟨rwB_iff.2 ⟨fun e => ?_, fun q hq => ?_, by rw [hn]; exact hpr⟩, fun q hq hb => ?_⟩
      · have := congrArg (fun z => z.getLsbD j) e
        simp [BitVec.getLsbD_twoPow] at this
        omega
      · simp only [BitVec.getLsbD_twoPow]
        have : ¬ j = q := by omega
        simp [this]
      · simp only [BitVec.getLsbD_twoPow, Bool.and_eq_true, decide_eq_true_iff] at hb
        rw [← hb.2, hn]
        exact hpin
    obtain ⟨y, hy, hyh⟩ := row_above s (by omega) _ _ (Nat.lt_succ_self _) hin
    obtain ⟨ho, hc⟩ := rhB_iff.1 hyh
    rw [ptsR_bit _ _ _ _ hn8, decide_eq_true hpn, Bool.true_and]
    unfold covB
    rw [List.any_eq_true]
    refine ⟨y, rwL_mem.2 hy, ?_⟩
    rw [Bool.and_eq_true]
    refine ⟨ho j ?_, fits_holds hc ((fits_iff _ _ _ _).2 fun i hi hb => ?_)⟩
    · simp only [BitVec.getLsbD_twoPow]
      simp; omega
    · rw [BitVec.getLsbD_ofNat, decide_eq_true hi, Bool.true_and]
  · intro p hp
    rw [ptsR_bit _ _ _ _ hn8, Bool.and_eq_true, decide_eq_true_iff] at hp
    obtain ⟨hpn, hcov⟩ := hp
    unfold covB at hcov
    rw [List.any_eq_true] at hcov
    obtain ⟨x, hx, hb⟩ := hcov
    rw [Bool.and_eq_true] at hb
    have := (rowIn_iff.1 (prim_in (hmem x hx))).2 j (by omega) hb.1
    rw [hn] at this
    refine ((inB_iff _ _ _ _).1 this).2 p hpn ((fits_iff _ _ _ _).2 fun i hi => (fits_iff _ _ _ _).1 hb.2 i (by omega))
/- OF ONE OUTPUT. -/
def spOne (n : Int) (S : BitVec 256) : Sp := ⟨n, [0], [S]⟩
theorem rowin_one {n : Int} {S : BitVec 256} {x : Rw} : rowIn (spOne n S) x = true ↔ x.o = 1 ∧ inB S n x.m x.v = true := by
  rw [rowIn_iff, rwB_iff]
  have h0 : (1 : BitVec 8).getLsbD 0 = true := by decide
  constructor
  · rintro ⟨⟨h1, h2, h3⟩, h4⟩
    have ho : x.o = 1 := by
      apply BitVec.eq_of_getLsbD_eq
      intro q hq
      by_cases e : q = 0
      · subst e
        rw [h0]
        cases hb : x.o.getLsbD 0
        · exfalso
          apply h1
          apply BitVec.eq_of_getLsbD_eq
          intro q hq
          by_cases e : q = 0
          · subst e; rw [hb]; simp
          · rw [h2 q (by show 1 ≤ q; omega)]; simp
        · rfl
      · rw [h2 q (by show 1 ≤ q; omega)]
        rw [show (1 : BitVec 8) = BitVec.twoPow 8 0 from rfl, BitVec.getLsbD_twoPow]
        have : ¬ 0 = q := by omega
        simp [this]
    exact ⟨ho, h4 0 (by show 0 < 1; omega) (by rw [ho]; exact h0)⟩
  · rintro ⟨h1, h2⟩
    have hr : rightB x.m x.v n = true := by unfold inB at h2; rw [Bool.and_eq_true] at h2; exact h2.1
    refine ⟨⟨by rw [h1]; decide, fun q hq => ?_, hr⟩, fun j hj hb => ?_⟩
    · rw [h1, show (1 : BitVec 8) = BitVec.twoPow 8 0 from rfl, BitVec.getLsbD_twoPow]
      have hq' : 1 ≤ q := hq
      have : ¬ 0 = q := by omega
      simp [this]
    · have e : j = 0 := by have : j < 1 := hj; omega
      subst e
      exact h2
theorem prim_one {n : Int} {S : BitVec 256} {x : Rw} : primR (spOne n S) x = true ↔ x.o = 1 ∧ primB S n x.m x.v = true := by
  rw [primR_iff, rowin_one, primB_iff]
  constructor
  · rintro ⟨⟨h1, h2⟩, h3, -⟩
    refine ⟨h1, h2, fun i hi hb => ?_⟩
    rw [Bool.eq_false_iff]
    intro hin
    have := h3 i hi hb
    rw [rowin_one (x := dropR x i) |>.2 ⟨h1, hin⟩] at this; cases this
  · rintro ⟨h1, h2, h3⟩
    refine ⟨⟨h1, h2⟩, fun i hi hb => ?_, fun j hj hb => ?_⟩
    · rw [Bool.eq_false_iff]
      intro hin
      have h5 : inB S n (drM x.m i) (drM x.v i) = true := (rowin_one.1 hin).2
      rw [h3 i hi hb] at h5; cases h5
    · have e : j = 0 := by have : j < 1 := hj; omega
      subst e
      rw [h1] at hb
      exact absurd hb (by decide)
theorem primes_one (n : Int) (S : BitVec 256) : rwL (primR (spOne n S)) = (prims S n).map fun c => ⟨c.m, c.v, 1⟩ := by
  have hk : ∀ r, r < 65536 → rwK (65536 + r) = ⟨kM r, kV r, 1⟩ := fun r hr => by
    unfold rwK kM kV
    congr 1
    · apply BitVec.eq_of_toNat_eq; rw [BitVec.toNat_ofNat, BitVec.toNat_ofNat]; omega
    · apply BitVec.eq_of_toNat_eq; rw [BitVec.toNat_ofNat, BitVec.toNat_ofNat]; omega
    · apply BitVec.eq_of_toNat_eq
      rw [BitVec.toNat_ofNat, show (1 : BitVec 8).toNat = 1 from rfl]
      omega
  have hu : rwU (primR (spOne n S)) allK = (prmL S n).map (65536 + ·) := by
    refine rise_ext (rwU_srt _ _) ?_ fun k => ?_
    · exact (prmU_srt S n 65536).map _ fun a b h => Nat.add_lt_add_left h _
    · rw [rwU_mem, prim_one, List.mem_map]
      constructor
      · rintro ⟨h1, h2, h3⟩
        rw [allK_eq] at h1
        obtain ⟨a, m, v, rfl, hm, hv⟩ := split_key k
        have e := (rwK_at (show a < 256 by omega) hm hv).2.2
        rw [h2, show (1 : BitVec 8).toNat = 1 from rfl] at e
        subst e
        rw [show 65536 * 1 + (256 * m + v) = 65536 + (256 * m + v) by omega, hk _ (by omega)] at h3
        exact ⟨256 * m + v, (prmU_mem S n 65536 _).2 ⟨by omega, h3⟩, by omega⟩
      · rintro ⟨r, hr, rfl⟩
        obtain ⟨h1, h2⟩ := (prmU_mem S n 65536 r).1 hr
        rw [hk r h1, allK_eq]
        exact ⟨by omega, rfl, h2⟩
  unfold rwL prims
  rw [hu, List.map_map, List.map_map]
  refine List.map_congr_left fun r hr => ?_
  exact hk r ((prmU_mem S n 65536 r).1 hr).1
end Go.Proofs.YtmgggennbnbjkaaGreat
namespace Go.Proofs.YtmgggennbnbjkaaGreat
open Go.RowKit

/-- The points where the first k outputs of o may be on. -/
def comN (s : Sp) (o : BitVec 8) : Nat → BitVec 256
  | 0 => allB s.i.toNat
  | k + 1 => if o.getLsbD k = true then comN s o k &&& s.may.getD k 0 else comN s o k
def comS (s : Sp) (o : BitVec 8) : BitVec 256 := comN s o s.may.length
/-- The outputs of the first k for which a cube is within. -/
def outN (s : Sp) (m v : BitVec 8) : Nat → BitVec 8
  | 0 => 0
  | k + 1 => if inB (s.may.getD k 0) s.i m v = true then outN s m v k ||| BitVec.twoPow 8 k else outN s m v k
def outS (s : Sp) (m v : BitVec 8) : BitVec 8 := outN s m v s.may.length
theorem comN_bit (s : Sp) (o : BitVec 8) (p : Nat) : ∀ k, (comN s o k).getLsbD p = true ↔ (allB s.i.toNat).getLsbD p = true ∧ ∀ j, j < k → o.getLsbD j = true → (s.may.getD j 0).getLsbD p = true
  | 0 => by
    constructor
    · intro h; exact ⟨h, fun j hj => absurd hj (Nat.not_lt_zero _)⟩
    · intro h; exact h.1
  | k + 1 => by
    have ih := comN_bit s o p k
    show (if o.getLsbD k = true then comN s o k &&& s.may.getD k 0 else comN s o k).getLsbD p = true ↔ _
    by_cases hk : o.getLsbD k = true
    · rw [if_pos hk, BitVec.getLsbD_and, Bool.and_eq_true, ih]
      constructor
      · rintro ⟨⟨h1, h2⟩, h3⟩
        refine ⟨h1, fun j hj hb => ?_⟩
        by_cases e : j = k
        · subst e; exact h3
        · exact h2 j (by omega) hb
      · rintro ⟨h1, h2⟩
        exact ⟨⟨h1, fun j hj hb => h2 j (by omega) hb⟩, h2 k (by omega) hk⟩
    · rw [if_neg hk, ih]
      constructor
      · rintro ⟨h1, h2⟩
        refine ⟨h1, fun j hj hb => ?_⟩
        by_cases e : j = k
        · subst e; exact absurd hb hk
        · exact h2 j (by omega) hb
      · rintro ⟨h1, h2⟩
        exact ⟨h1, fun j hj hb => h2 j (by omega) hb⟩
theorem allB_on {n p : Nat} (h8 : n ≤ 8) (h : p < 2 ^ n) : (allB n).getLsbD p = true := by
  unfold allB
  rw [bvOf_bit, decide_eq_true (two_pow_8 h8 h), decide_eq_true h]; rfl
theorem com_in {s : Sp} {n : Nat} (hn : s.i = n) (h8 : n ≤ 8) (o m v : BitVec 8) (k : Nat) : inB (comN s o k) n m v = true ↔ rightB m v n = true ∧ ∀ j, j < k → o.getLsbD j = true → inB (s.may.getD j 0) n m v = true := by
  rw [inB_iff]
  constructor
  · rintro ⟨hr, h⟩
    refine ⟨hr, fun j hj hb => (inB_iff _ _ _ _).2 ⟨hr, fun p hp hf => ?_⟩⟩
    exact ((comN_bit s o p k).1 (h p hp hf)).2 j hj hb
  · rintro ⟨hr, h⟩
    refine ⟨hr, fun p hp hf => (comN_bit s o p k).2 ⟨?_, fun j hj hb => ((inB_iff _ _ _ _).1 (h j hj hb)).2 p hp hf⟩⟩
    rw [hn, Int.toNat_natCast]
    exact allB_on h8 hp
theorem outN_bit (s : Sp) (m v : BitVec 8) (j : Nat) : ∀ k, k ≤ 8 → ((outN s m v k).getLsbD j = true ↔ j < k ∧ inB (s.may.getD j 0) s.i m v = true)
  | 0, _ => by
    show (0 : BitVec 8).getLsbD j = true ↔ _
    simp
  | k + 1, h8 => by
    have ih := outN_bit s m v j k (by omega)
    show (if inB (s.may.getD k 0) s.i m v = true then outN s m v k ||| BitVec.twoPow 8 k else outN s m v k).getLsbD j = true ↔ _
    by_cases hk : inB (s.may.getD k 0) s.i m v = true
    · rw [if_pos hk, BitVec.getLsbD_or, BitVec.getLsbD_twoPow, Bool.or_eq_true, ih]
      constructor
      · rintro (⟨h1, h2⟩ | h)
        · exact ⟨by omega, h2⟩
        · simp at h
          obtain ⟨h1, h2⟩ := h
          subst h2
          exact ⟨by omega, hk⟩
      · rintro ⟨h1, h2⟩
        by_cases e : j = k
        · subst e
          right
          simp
          omega
        · exact .inl ⟨by omega, h2⟩
    · rw [if_neg hk, ih]
      constructor
      · rintro ⟨h1, h2⟩; exact ⟨by omega, h2⟩
      · rintro ⟨h1, h2⟩
        by_cases e : j = k
        · subst e; exact absurd h2 hk
        · exact ⟨by omega, h2⟩
/-- Within, as the package tells it. -/
theorem rowin_com {s : Sp} {n : Nat} (hn : s.i = n) (h8 : n ≤ 8) (x : Rw) : rowIn s x = (outsB x.o s.on.length && inB (comS s x.o) n x.m x.v) := by
  rw [Bool.eq_iff_iff, Bool.and_eq_true, rowIn_iff, comS, com_in hn h8, hn]
  unfold rwB
  rw [Bool.and_eq_true, and_assoc]
/-- What a row grows to, as the package tells it. -/
theorem dropsR_com {s : Sp} {n : Nat} (hn : s.i = n) (h8 : n ≤ 8) {x : Rw} (hx : outsB x.o s.on.length = true) : ∀ k, dropsR s x k = ⟨(dropsC (comS s x.o) n (x.m, x.v) k).1, (dropsC (comS s x.o) n (x.m, x.v) k).2, x.o⟩
  | 0 => rfl
  | k + 1 => by
    rw [dropsR_succ, dropsC_succ, dropsR_com hn h8 hx k]
    generalize dropsC (comS s x.o) n (x.m, x.v) k = y
    obtain ⟨ym, yv⟩ := y
    unfold dropStep dropC
    dsimp only
    rw [rowin_com hn h8]
    show (if (outsB x.o s.on.length && inB (comS s x.o) n (drM ym k) (drM yv k)) = true then _ else _) = _
    rw [hx, Bool.true_and]
    by_cases hd : inB (comS s x.o) n (drM ym k) (drM yv k) = true
    · rw [if_pos hd, if_pos hd]; rfl
    · rw [if_neg hd, if_neg hd]
theorem addsR_out {s : Sp} (h4 : s.on.length ≤ 8) (hl : s.on.length = s.may.length) {x : Rw} (hx : rowIn s x = true) : ∀ k, k ≤ s.on.length → (addsR s x k).m = x.m ∧ (addsR s x k).v = x.v ∧ (addsR s x k).o = x.o ||| outN s x.m x.v k ∧ rowIn s (addsR s x k) = true
  | 0, _ => ⟨rfl, rfl, by show x.o = x.o ||| 0; simp, hx⟩
  | k + 1, hk => by
    obtain ⟨h1, h2, h3, h5⟩ := addsR_out h4 hl hx k (by omega)
    rw [addsR_succ]
    generalize addsR s x k = y at *
    obtain ⟨ym, yv, yo⟩ := y
    simp only at h1 h2 h3
    subst h1
    subst h2
    show (addStep s _ k).m = _ ∧ (addStep s _ k).v = _ ∧ (addStep s _ k).o = x.o ||| (if inB (s.may.getD k 0) s.i x.m x.v = true then outN s x.m x.v k ||| BitVec.twoPow 8 k else outN s x.m x.v k) ∧ _
    have hin := rowIn_iff.1 h5
    by_cases hy : yo.getLsbD k = true
    · have hk1 : inB (s.may.getD k 0) s.i x.m x.v = true := hin.2 k (by omega) hy
      have e : addStep s ⟨x.m, x.v, yo⟩ k = ⟨x.m, x.v, yo⟩ := by
        unfold addStep
        rw [if_neg]
        show ¬ ((!yo.getLsbD k) && _) = true
        rw [hy]; simp
      rw [e, if_pos hk1]
      refine ⟨rfl, rfl, ?_, h5⟩
      show yo = _
      rw [← BitVec.or_assoc, ← h3]
      apply BitVec.eq_of_getLsbD_eq
      intro q hq
      rw [BitVec.getLsbD_or, BitVec.getLsbD_twoPow]
      by_cases e : k = q
      · subst e; rw [hy]; simp
      · simp [e]
    · have hy' : yo.getLsbD k = false := Bool.eq_false_iff.2 hy
      have hadd : rowIn s (addR ⟨x.m, x.v, yo⟩ k) = true ↔ inB (s.may.getD k 0) s.i x.m x.v = true := by
        constructor
        · intro h
          refine (rowIn_iff.1 h).2 k (by omega) ?_
          rw [addR_bit]
          simp; omega
        · intro h
          obtain ⟨r1, r2, r3⟩ := rwB_iff.1 hin.1
          refine rowIn_iff.2 ⟨rwB_iff.2 ⟨fun e => ?_, fun q hq => ?_, r3⟩, fun j hj hb => ?_⟩
          · have := congrArg (fun z => z.getLsbD k) e
            rw [addR_bit] at this
            simp at this
            omega
          · rw [addR_bit, r2 q hq]
            have : ¬ q = k := by omega
            simp [this]
          · rw [addR_bit, Bool.or_eq_true] at hb
            rcases hb with hb | hb
            · exact hin.2 j hj hb
            · simp at hb
              rw [hb.2]; exact h
      by_cases hk1 : inB (s.may.getD k 0) s.i x.m x.v = true
      · have e : addStep s ⟨x.m, x.v, yo⟩ k = addR ⟨x.m, x.v, yo⟩ k := by
          unfold addStep
          rw [if_pos]
          show ((!yo.getLsbD k) && _) = true
          rw [hy', hadd.2 hk1]; rfl
        rw [e, if_pos hk1]
        refine ⟨rfl, rfl, ?_, hadd.2 hk1⟩
        show yo ||| _ = _
        rw [h3, BitVec.or_assoc]
      · have e : addStep s ⟨x.m, x.v, yo⟩ k = ⟨x.m, x.v, yo⟩ := by
          unfold addStep
          rw [if_neg]
          show ¬ ((!yo.getLsbD k) && _) = true
          rw [Bool.and_eq_true]
          exact fun h => hk1 (hadd.1 h.2)
        rw [e, if_neg hk1]
        exact ⟨rfl, rfl, h3, h5⟩
theorem out_over {s : Sp} (h8 : s.may.length ≤ 8) {x : Rw} (hl : s.on.length = s.may.length) (hx : rowIn s x = true) : x.o ||| outS s x.m x.v = outS s x.m x.v := by
  apply BitVec.eq_of_getLsbD_eq
  intro q _
  rw [BitVec.getLsbD_or]
  cases hb : x.o.getLsbD q
  · rfl
  · have hq : q < s.may.length := by
      rcases Nat.lt_or_ge q s.may.length with h | h
      · exact h
      · rw [(rwB_iff.1 (rowin_right hx)).2.1 q (by omega)] at hb; cases hb
    rw [show (outS s x.m x.v).getLsbD q = true from (outN_bit s x.m x.v q s.may.length h8).2 ⟨hq, (rowIn_iff.1 hx).2 q hq hb⟩]
    rfl
/-- What a row within grows to. -/
theorem growR_com {s : Sp} {n : Nat} (hn : s.i = n) (h8 : n ≤ 8) (h4 : s.on.length ≤ 8) (hl : s.on.length = s.may.length) {x : Rw} (hx : rowIn s x = true) :
    growR s x = ⟨(growC (comS s x.o) n x.m x.v).1, (growC (comS s x.o) n x.m x.v).2, outS s (growC (comS s x.o) n x.m x.v).1 (growC (comS s x.o) n x.m x.v).2⟩ := by
  have hx0 : outsB x.o s.on.length = true := by rw [rowin_com hn h8, Bool.and_eq_true] at hx; exact hx.1
  have hd := dropsR_com hn h8 hx0 n
  have hdi := (drops_inv hx n).1
  unfold growR
  rw [hn, Int.toNat_natCast]
  have hg : growC (comS s x.o) n x.m x.v = dropsC (comS s x.o) n (x.m, x.v) n := by unfold growC; rw [Int.toNat_natCast]
  rw [hg]
  rw [hd] at hdi ⊢
  generalize dropsC (comS s x.o) n (x.m, x.v) n = y at *
  obtain ⟨a, b, c, d⟩ := addsR_out h4 hl hdi s.on.length (Nat.le_refl _)
  have ho := out_over (by omega) hl hdi
  unfold outS at ho ⊢
  rw [hl] at a b c ⊢
  generalize addsR s _ _ = z at *
  obtain ⟨zm, zv, zo⟩ := z
  simp only at a b c ho ⊢
  rw [a, b, c, ho]
/-- The rows that the package makes are the prime ones. -/
theorem prim_com {s : Sp} {n : Nat} (hn : s.i = n) (h8 : n ≤ 8) (h4 : s.on.length ≤ 8) (hl : s.on.length = s.may.length) (x : Rw) :
    primR s x = true ↔ x.o = outS s x.m x.v ∧ ∃ k, k + 1 < 2 ^ s.may.length ∧ primB (comS s (BitVec.ofNat 8 (k + 1))) n x.m x.v = true := by
  have hp8 : 2 ^ s.may.length ≤ 256 := Nat.le_trans (Nat.pow_le_pow_right (by decide) (show s.may.length ≤ 8 by omega)) (by decide : (2 : Nat) ^ 8 ≤ 256)
  constructor
  · intro h
    obtain ⟨h1, h2, h3⟩ := primR_iff.1 h
    have hin := rowin_com hn h8 x
    rw [h1] at hin
    have hin := Bool.and_eq_true_iff.1 hin.symm
    have hlow := rowin_low hn h1
    refine ⟨?_, x.o.toNat - 1, by rw [← hl]; omega, ?_⟩
    · apply BitVec.eq_of_getLsbD_eq
      intro q _
      rw [Bool.eq_iff_iff]
      unfold outS
      rw [outN_bit s x.m x.v q _ (by omega)]
      constructor
      · intro hb
        have hq : q < s.may.length := by
          rcases Nat.lt_or_ge q s.may.length with h | h
          · exact h
          · rw [(rwB_iff.1 (rowin_right h1)).2.1 q (by omega)] at hb; cases hb
        exact ⟨hq, (rowIn_iff.1 h1).2 q hq hb⟩
      · rintro ⟨hq, hb⟩
        cases hc : x.o.getLsbD q
        · have h5 := h3 q (by omega) hc
          obtain ⟨r1, r2, r3⟩ := rwB_iff.1 (rowin_right h1)
          have : rowIn s (addR x q) = true := by
            refine rowIn_iff.2 ⟨rwB_iff.2 ⟨fun e => ?_, fun j hj => ?_, r3⟩, fun j hj hd => ?_⟩
            · have := congrArg (fun z => z.getLsbD q) e
              rw [addR_bit] at this
              simp at this
              omega
            · rw [addR_bit, r2 j hj]
              have : ¬ j = q := by omega
              simp [this]
            · rw [addR_bit, Bool.or_eq_true] at hd
              rcases hd with hd | hd
              · exact (rowIn_iff.1 h1).2 j hj hd
              · simp at hd
                rw [hd.2]; exact hb
          rw [h5] at this; cases this
        · rfl
    · have e : BitVec.ofNat 8 (x.o.toNat - 1 + 1) = x.o := by
        rw [show x.o.toNat - 1 + 1 = x.o.toNat by omega]
        simp
      rw [e, primB_iff]
      refine ⟨hin.2, fun i hi hb => ?_⟩
      rw [Int.toNat_natCast] at hi
      have h5 := h2 i (by rw [hn, Int.toNat_natCast]; exact hi) hb
      rw [rowin_com hn h8] at h5
      have h6 : outsB (dropR x i).o s.on.length = true := hin.1
      rw [h6, Bool.true_and] at h5
      exact h5
  · rintro ⟨ho, k, hk, hp⟩
    obtain ⟨h1, h2⟩ := (primB_iff _ _ _ _).1 hp
    obtain ⟨hr, hj⟩ := (com_in hn h8 _ _ _ _).1 h1
    have hkn : (BitVec.ofNat 8 (k + 1)).toNat = k + 1 := by rw [BitVec.toNat_ofNat]; omega
    have hkb : ∀ q, (BitVec.ofNat 8 (k + 1)).getLsbD q = true → q < s.may.length := fun q hq => by
      rcases Nat.lt_or_ge q s.may.length with h | h
      · exact h
      · have : (k + 1).testBit q = true := by rw [← hkn]; exact hq
        rw [Nat.testBit_lt_two_pow (Nat.lt_of_lt_of_le hk (Nat.pow_le_pow_right (by decide) h))] at this
        cases this
    have hsub : ∀ q, (BitVec.ofNat 8 (k + 1)).getLsbD q = true → x.o.getLsbD q = true := fun q hq => by
      rw [ho]
      unfold outS
      rw [outN_bit s x.m x.v q _ (by omega), hn]
      exact ⟨hkb q hq, hj q (hkb q hq) hq⟩
    have hne : x.o ≠ 0 := fun e => by
      have : BitVec.ofNat 8 (k + 1) = 0 := by
        apply BitVec.eq_of_getLsbD_eq
        intro q _
        cases hc : (BitVec.ofNat 8 (k + 1)).getLsbD q
        · simp
        · have := hsub q hc
          rw [e] at this
          simp at this
      rw [this] at hkn
      simp at hkn
    have hob : ∀ q, x.o.getLsbD q = true → q < s.may.length ∧ inB (s.may.getD q 0) s.i x.m x.v = true := fun q hq => by
      rw [ho] at hq
      unfold outS at hq
      exact (outN_bit s x.m x.v q _ (by omega)).1 hq
    have hin : rowIn s x = true := by
      refine rowIn_iff.2 ⟨rwB_iff.2 ⟨hne, fun q hq => ?_, by rw [hn]; exact hr⟩, fun j hj hb => (hob j hb).2⟩
      cases hc : x.o.getLsbD q
      · rfl
      · have := (hob q hc).1
        omega
    refine primR_iff.2 ⟨hin, fun i hi hb => ?_, fun j hj hb => ?_⟩
    · rw [Bool.eq_false_iff]
      intro hd
      have h5 := h2 i (by rw [hn] at hi; exact hi) hb
      have : inB (comS s (BitVec.ofNat 8 (k + 1))) n (drM x.m i) (drM x.v i) = true := by
        unfold comS
        rw [com_in hn h8]
        refine ⟨right_dr i hr, fun j hj hb => ?_⟩
        have := (rowIn_iff.1 hd).2 j hj (hsub j hb)
        rw [hn] at this
        exact this
      rw [h5] at this; cases this
    · rw [Bool.eq_false_iff]
      intro hd
      have h5 : inB (s.may.getD j 0) s.i x.m x.v = true := (rowIn_iff.1 hd).2 j (by omega) (by rw [addR_bit]; simp; omega)
      rw [ho] at hb
      unfold outS at hb
      rw [(outN_bit s x.m x.v j _ (by omega)).2 ⟨by omega, h5⟩] at hb
      cases hb
/-- A row of rows that rises and has just the prime ones is the row of all. -/
theorem rwL_ext {P : Rw → Bool} {l : List Rw} (hr : (l.map keyR).Pairwise (· < ·)) (hm : ∀ x, x ∈ l ↔ P x = true) : l = rwL P := by
  have e : l.map keyR = rwU P allK := by
    refine rise_ext hr (rwU_srt _ _) fun k => ?_
    rw [rwU_mem, List.mem_map]
    constructor
    · rintro ⟨x, hx, rfl⟩
      exact ⟨keyR_lt x, by rw [rwK_key]; exact (hm x).1 hx⟩
    · rintro ⟨h1, h2⟩
      exact ⟨rwK k, (hm _).2 h2, key_rwK h1⟩
  unfold rwL
  rw [← e, List.map_map]
  conv => lhs; rw [← List.map_id l]
  refine List.map_congr_left fun x _ => ?_
  show x = rwK (keyR x)
  rw [rwK_key]
end Go.Proofs.YtmgggennbnbjkaaGreat
