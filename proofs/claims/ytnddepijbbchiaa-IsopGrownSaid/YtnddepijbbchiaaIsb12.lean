/- Package isop: cover. -/
import Derived.Test.YtnddepijbbchiaaIsa12
import Derived.Test.YtnddepijbbchiaaLaw12e
import Derived.Maps.AppendAt
namespace Go.Proofs.Ytnddepijbbchiaa
open Go.RowKit Go.Joins

theorem blk_ne12 {w : World} {b c : Nat} {A A' : Array Value} {T T' : TypeId} {z z' : Nat × Nat} (h : w.heap[b]? = some (.cells A T z)) (h' : w.heap[c]? = some (.cells A' T' z')) (hT : T ≠ T') : b ≠ c := fun e => by
  subst e
  rw [h] at h'
  injection h' with h'
  injection h' with _ h' _
  exact hT h'
theorem own_blk12 {w : World} {B size n : Nat} {e : TypeId} {v : Value} {xs : List Value} (h : w.ownsRow B e size v n xs) {g : Nat} (hg : v.ownBlock = some g) : ∃ cu, w.heap[g]? = some (.cells cu e (0, 0)) := by
  rcases h.2 with ⟨rfl, -⟩ | ⟨g', cap, cur, rfl, -, hb, -⟩
  · cases hg
  · injection hg with hg
    subst hg
    exact ⟨cur, hb⟩
/-- A box of another type stays while a row grows. -/
theorem grown_far12 {w w' : World} {B size n b : Nat} {e T : TypeId} {v : Value} {xs : List Value} {C : Array Value} {z : Nat × Nat} (h : w.ownsRow B e size v n xs) (hg : w.grownBy w' v.ownBlock) (hb : w.heap[b]? = some (.cells C T z)) (hT : T ≠ e) : w'.heap[b]? = some (.cells C T z) := by
  rw [hg.block _ (size_of_block hb) (fun q => by
    obtain ⟨cu, hcu⟩ := own_blk12 h q.symm
    exact blk_ne12 hb hcu hT rfl)]
  exact hb
theorem pt1_12 {w : World} {b : Nat} {T : TypeId} {x y : Value} (h : w.heap[b]? = some (.cells #[y] T (0, 0))) : (w.setCell ⟨b, 0, none⟩ x).heap[b]? = some (.cells #[x] T (0, 0)) := by
  rw [block_setCell h x]; rfl
theorem now1_12 {w : World} {b : Nat} {T : TypeId} {x : Value} (h : w.heap[b]? = some (.cells #[x] T (0, 0))) : w.cell? ⟨b, 0, none⟩ = some x ∧ ∀ j, w.frozen? ⟨b, j, none⟩ = false :=
  ⟨by rw [cell_of_block h]; rfl, unfrozen_of_block h⟩
theorem box1_12 {w : World} {b : Nat} {T : TypeId} {x : Value} (h : w.heap[b]? = some (.cells #[x] T (0, 0))) : ∀ X : After w, X.1.cell? ⟨b, 0, none⟩ = some x := fun X => (now1_12 (X.same h)).1
theorem own_set4_12 {w : World} {base size n b : Nat} {e T : TypeId} {v : Value} {xs : List Value} {C : Array Value} {x0 x1 x2 x3 : Value} (h : w.ownsRow base e size v n xs) (hb : w.heap[b]? = some (.cells C T (0, 0))) (hT : e ≠ T) :
    ((((w.setCell ⟨b, 0, none⟩ x0).setCell ⟨b, 1, none⟩ x1).setCell ⟨b, 2, none⟩ x2).setCell ⟨b, 3, none⟩ x3).ownsRow base e size v n xs :=
  own_set (own_set (own_set (own_set h (own_ne h hb hT) 0 x0) (own_ne h hb hT) 1 x1) (own_ne h hb hT) 2 x2) (own_ne h hb hT) 3 x3
/-- What the closure only reads. -/
structure CvB (w : World) (p4 p9 p10 p7 n i : Nat) (O0 O1 M0 M1 : BitVec 256) : Prop where
  sp : w.heap[p4]? = some (.cells (spcV n) 55 (0, 0))
  on : w.heap[p9]? = some (.cells (sdV O0 O1) 74 (0, 0))
  may : w.heap[p10]? = some (.cells (sdV M0 M1) 74 (0, 0))
  ii : w.heap[p7]? = some (.cells #[.int .i64 i] 3 (0, 0))
theorem CvB.below {w w' : World} {p4 p9 p10 p7 n i : Nat} {O0 O1 M0 M1 : BitVec 256} (h : CvB w p4 p9 p10 p7 n i O0 O1 M0 M1) (k : Below w.heap.size w w') : CvB w' p4 p9 p10 p7 n i O0 O1 M0 M1 :=
  ⟨keep_blk k h.sp, keep_blk k h.on, keep_blk k h.may, keep_blk k h.ii⟩
theorem CvB.put4 {w : World} {p4 p9 p10 p7 n i b : Nat} {O0 O1 M0 M1 : BitVec 256} {C : Array Value} {x0 x1 x2 x3 : Value} (h : CvB w p4 p9 p10 p7 n i O0 O1 M0 M1) (hb : w.heap[b]? = some (.cells C 24 (0, 0))) :
    CvB ((((w.setCell ⟨b, 0, none⟩ x0).setCell ⟨b, 1, none⟩ x1).setCell ⟨b, 2, none⟩ x2).setCell ⟨b, 3, none⟩ x3) p4 p9 p10 p7 n i O0 O1 M0 M1 :=
  ⟨keep_set4 (blk_ne12 h.sp hb (by decide)) h.sp, keep_set4 (blk_ne12 h.on hb (by decide)) h.on, keep_set4 (blk_ne12 h.may hb (by decide)) h.may, keep_set4 (blk_ne12 h.ii hb (by decide)) h.ii⟩
theorem CvB.put1 {w : World} {p4 p9 p10 p7 n i b : Nat} {O0 O1 M0 M1 : BitVec 256} {C : Array Value} {x : Value} (h : CvB w p4 p9 p10 p7 n i O0 O1 M0 M1) (hb : w.heap[b]? = some (.cells C 33 (0, 0))) :
    CvB (w.setCell ⟨b, 0, none⟩ x) p4 p9 p10 p7 n i O0 O1 M0 M1 :=
  ⟨keep_set (blk_ne12 h.sp hb (by decide)) h.sp, keep_set (blk_ne12 h.on hb (by decide)) h.on, keep_set (blk_ne12 h.may hb (by decide)) h.may, keep_set (blk_ne12 h.ii hb (by decide)) h.ii⟩
theorem CvB.grown {w w' : World} {p4 p9 p10 p7 n i B m : Nat} {O0 O1 M0 M1 : BitVec 256} {v : Value} {xs : List Value} (h : CvB w p4 p9 p10 p7 n i O0 O1 M0 M1) (ho : w.ownsRow B 44 2 v m xs) (hg : w.grownBy w' v.ownBlock) : CvB w' p4 p9 p10 p7 n i O0 O1 M0 M1 :=
  ⟨grown_far12 ho hg h.sp (by decide), grown_far12 ho hg h.on (by decide), grown_far12 ho hg h.may (by decide), grown_far12 ho hg h.ii (by decide)⟩

/- LITERALS BY MEET. -/
theorem lit_clash12 {x : Cb} {i : Nat} (hi : i < 8) (hx : x.m.getLsbD i = false) (b : Bool) : clashB x.m x.v (BitVec.twoPow 8 i) (ltV12 i b) = 0 := by
  apply BitVec.eq_of_getLsbD_eq
  intro j _
  unfold clashB
  rw [BitVec.getLsbD_and, BitVec.getLsbD_and, two_bit hi]
  by_cases e : j = i
  · subst e; rw [hx]; simp
  · rw [decide_eq_false e]; simp
theorem lit_val12 {x : Cb} {i : Nat} (hi : i < 8) (hx : x.m.getLsbD i = false) (hv : x.v &&& x.m = x.v) (b : Bool) : (x.v &&& x.m) ||| (ltV12 i b &&& BitVec.twoPow 8 i) = (lit12 x i b).v := by
  have hvi : x.v.getLsbD i = false := by
    rw [← hv, BitVec.getLsbD_and, hx, Bool.and_false]
  apply BitVec.eq_of_getLsbD_eq
  intro j _
  unfold ltV12 lit12
  rw [hv]
  cases b
  · simp only [Bool.false_eq_true, if_false, BitVec.getLsbD_or, BitVec.getLsbD_and, two_bit hi, drM_bit]
    by_cases e : j = i
    · subst e; simp [hvi]
    · simp [e]
  · simp only [if_true, BitVec.getLsbD_or, BitVec.getLsbD_and, two_bit hi]
    by_cases e : j = i
    · subst e; simp
    · simp [e]
/-- The bits of a set. -/
abbrev bts (S : BitVec 256) : Nat → Bool := fun p => S.getLsbD p
/-- What cover is to answer, one level down. -/
def IsoC (n f : Nat) : Prop := ∀ (S M : BitVec 256) (i : Nat) (w : World), n < f + i → Iso n i (bts S) (bts M) →
  Calls Try.prog 30 #[.agg (spcV n), sv S, sv M, .int .i64 i] w fun e w' => ∃ v, e = .returned v ∧ w'.ownsRow w.heap.size 44 2 v (isoF n f (bts S) (bts M) i).length (cbsV (isoF n f (bts S) (bts M) i)) ∧ Below w.heap.size w w'
/-- What the closure leaves behind. -/
def CvPost (B p4 p9 p10 p7 p12 p11 n i : Nat) (O0 O1 M0 M1 R' : BitVec 256) (ys : List Cb) (w w' : World) : Prop :=
  ∃ V', CvB w' p4 p9 p10 p7 n i O0 O1 M0 M1 ∧ w'.heap[p12]? = some (.cells (sa R') 24 (0, 0)) ∧ w'.heap[p11]? = some (.cells #[V'] 33 (0, 0)) ∧ w'.ownsRow B 44 2 V' ys.length (cbsV ys) ∧ Below B w w'
set_option maxHeartbeats 4000000 in
set_option maxRecDepth 100000 in
theorem cwith0_any {n f : Nat} (hn : n ≤ 8) (hf : f ≤ 8) (IH : IsoC n f) (i : Nat) (hin : i < n) (hfi : n < f + (i + 1)) (B p4 p9 p10 p7 p12 p11 : Nat) (O0 O1 M0 M1 R : BitVec 256) (V : Value) (xs : List Cb) (hxs : xs.length ≤ 100000)
    (hI : Iso n (i + 1) (bts (O0 &&& ~~~M1)) (bts M0)) (w : World) (hC : CvB w p4 p9 p10 p7 n i O0 O1 M0 M1) (hR : w.heap[p12]? = some (.cells (sa R) 24 (0, 0))) (hV : w.heap[p11]? = some (.cells #[V] 33 (0, 0)))
    (hrow : w.ownsRow B 44 2 V xs.length (cbsV xs)) (hBw : B ≤ w.heap.size) (hB12 : B ≤ p12) (hB11 : B ≤ p11) :
    Calls Try.prog 54 #[.int .i64 0, .pointer (some ⟨p4, 0, none⟩), .pointer (some ⟨p9, 0, none⟩), .pointer (some ⟨p10, 0, none⟩), .pointer (some ⟨p7, 0, none⟩), .pointer (some ⟨p12, 0, none⟩), .pointer (some ⟨p11, 0, none⟩)] w
      fun e w' => e = .returned (.tuple #[]) ∧ CvPost B p4 p9 p10 p7 p12 p11 n i O0 O1 M0 M1 (R ||| (O0 &&& ~~~ptsU n (isoF n f (bts (O0 &&& ~~~M1)) (bts M0) (i + 1)) (-1) (isoF n f (bts (O0 &&& ~~~M1)) (bts M0) (i + 1)).length)) (xs ++ (isoF n f (bts (O0 &&& ~~~M1)) (bts M0) (i + 1)).map fun x => lit12 x i false) w w' := by
  have HLs := fun w => less_any O0 M1 w
  have HCv := fun w => IH (O0 &&& ~~~M1) M0 (i + 1) w hfi hI
  have hIs := iso_is n f _ _ (i + 1) hfi hI
  have hlenL := iso_len n f (bts (O0 &&& ~~~M1)) (bts M0) (i + 1)
  generalize isoF n f (bts (O0 &&& ~~~M1)) (bts M0) (i + 1) = L at *
  have hlen : L.length ≤ 6561 := Nat.le_trans hlenL (Nat.pow_le_pow_right (by decide) hf)
  have hrt := Lib.hid hIs.right
  have hfr := Lib.hid hIs.free
  clear hlenL hIs hI IH
  generalize O0 &&& ~~~M1 = D at *
  have hi1 : ((i + 1 : Nat) : Int) = (i : Int) + 1 := by omega
  have hwr : wrap64 ((i : Int) + 1) = (i : Int) + 1 := by unfold wrap64; omega
  rw [hi1] at HCv
  have hsp := hC.sp
  have hon := hC.on
  have hmy := hC.may
  have hii := hC.ii
  unfold spcV at hsp HCv
  unfold sdV at hon hmy
  unfold sv wv at HLs HCv
  obtain ⟨a0, a1, a2, a3, a4, -⟩ : (∀ X : After w, _) ∧ (∀ X : After w, _) ∧ (∀ X : After w, _) ∧ (∀ X : After w, _) ∧ (∀ X : After w, _) ∧ True := ⟨fun X => (now5 (X.same hsp)).1, fun X => (now5 (X.same hsp)).2.1, fun X => (now5 (X.same hsp)).2.2.1, fun X => (now5 (X.same hsp)).2.2.2.1, fun X => (now5 (X.same hsp)).2.2.2.2.1, trivial⟩
  obtain ⟨b0, b1, b2, b3⟩ : (∀ X : After w, _) ∧ (∀ X : After w, _) ∧ (∀ X : After w, _) ∧ (∀ X : After w, _) := ⟨fun X => (now8 (X.same hon)).1, fun X => (now8 (X.same hon)).2.1, fun X => (now8 (X.same hon)).2.2.1, fun X => (now8 (X.same hon)).2.2.2.1⟩
  obtain ⟨c0, c1, c2, c3, c4, c5, c6, c7⟩ : (∀ X : After w, _) ∧ (∀ X : After w, _) ∧ (∀ X : After w, _) ∧ (∀ X : After w, _) ∧ (∀ X : After w, _) ∧ (∀ X : After w, _) ∧ (∀ X : After w, _) ∧ (∀ X : After w, _) := ⟨fun X => (now8 (X.same hmy)).1, fun X => (now8 (X.same hmy)).2.1, fun X => (now8 (X.same hmy)).2.2.1, fun X => (now8 (X.same hmy)).2.2.2.1, fun X => (now8 (X.same hmy)).2.2.2.2.1, fun X => (now8 (X.same hmy)).2.2.2.2.2.1, fun X => (now8 (X.same hmy)).2.2.2.2.2.2.1, fun X => (now8 (X.same hmy)).2.2.2.2.2.2.2.1⟩
  have d0 := box1_12 hii
  go_enter Try.func54, Try.ntmps54
  go_upto_region 0 with (fail)
  refine wp_region_after_tail 14 (by kernel_rfl) (by kernel_rfl) ?_
  simp only [List.take_succ_cons, List.take_zero, List.drop_succ_cons, List.drop_zero]
  repeat (first | go_big_quiet_step (first | (go_at_call 47; exact Calls.after_of (HLs _))))
  refine wpQuiet_nil ?_
  intro X
  have hC1 := hC.below X.2
  have hR1 := X.same hR
  have hV1 := X.same hV
  have hrow1 := owns_below hrow X.2
  have hB1 : Below w.heap.size w X.1 := X.2
  have hz1 := hB1.size
  have hCv1 := HCv X.1
  clear hsp hon hmy hii hC hR hV hrow HLs HCv a0 a1 a2 a3 a4 b0 b1 b2 b3 c0 c1 c2 c3 c4 c5 c6 c7 d0
  generalize X.1 = W1 at *
  clear X
  go_wp2_with fail
  refine hCv1.mono ?_
  rintro e w2 ⟨lv, rfl, hl2, hb2⟩
  have hC2 := hC1.below hb2
  have hR2 := keep_blk hb2 hR1
  have hV2 := keep_blk hb2 hV1
  have hrow2 := owns_below hrow1 hb2
  have hB2 := hB1.trans (hb2.mono hz1)
  have hVl : ∀ g, lv.ownBlock = some g → V.ownBlock ≠ some g := fun g hg e => by
    have h1 := (hl2.lt g hg).1
    have h2 := (hrow1.lt g e).2
    omega
  have hz2 := hB2.size
  clear hC1 hR1 hV1 hrow1 hCv1 hb2
  -- region 1: the rest
  have hcl : CbsAt w2 w2.heap.size lv L := own_cbs hl2
  have HPt := fun X : After w2 => ipoints_any n L hrt.out lv X.1 ((hcl.below X.2).more X.2.size)
  have HLs := fun w => less_any O0 (ptsU n L (-1) L.length) w
  generalize hU0 : ptsU n L (-1) L.length = U at *
  have HOr := fun w => or_any R (O0 &&& ~~~U) w
  generalize hR' : R ||| (O0 &&& ~~~U) = R' at *
  have hRR : Hid (R ||| (O0 &&& ~~~ptsU n L (-1) L.length) = R') := Lib.hid (by rw [hU0]; exact hR')
  clear hU0 hR'
  generalize O0 &&& ~~~U = E at *
  have hsp := hC2.sp
  have hon := hC2.on
  unfold spcV at hsp HPt
  unfold sdV at hon
  unfold sa at hR2
  unfold sv at HPt HLs HOr
  unfold wv at *
  obtain ⟨a0, a1, a2, a3, a4, -⟩ : (∀ X : After w2, _) ∧ (∀ X : After w2, _) ∧ (∀ X : After w2, _) ∧ (∀ X : After w2, _) ∧ (∀ X : After w2, _) ∧ True := ⟨fun X => (now5 (X.same hsp)).1, fun X => (now5 (X.same hsp)).2.1, fun X => (now5 (X.same hsp)).2.2.1, fun X => (now5 (X.same hsp)).2.2.2.1, fun X => (now5 (X.same hsp)).2.2.2.2.1, trivial⟩
  obtain ⟨b0, b1, b2, b3⟩ : (∀ X : After w2, _) ∧ (∀ X : After w2, _) ∧ (∀ X : After w2, _) ∧ (∀ X : After w2, _) := ⟨fun X => (now8 (X.same hon)).1, fun X => (now8 (X.same hon)).2.1, fun X => (now8 (X.same hon)).2.2.1, fun X => (now8 (X.same hon)).2.2.2.1⟩
  obtain ⟨r0, r1, r2, r3, -⟩ := box4 hR2 rfl
  obtain ⟨A, c, rfl⟩ := own_form hl2
  go_upto_region 1 with (fail)
  refine wp_region_after_tail 9 (by kernel_rfl) (by kernel_rfl) ?_
  simp only [List.take_succ_cons, List.take_zero, List.drop_succ_cons, List.drop_zero]
  repeat (first | go_big_quiet_step (first | (go_at_call 55; exact Calls.after_of (HPt _)) | (go_at_call 47; exact Calls.after_of (HLs _)) | (go_at_call 38; exact Calls.after_of (HOr _))))
  refine wpQuiet_nil ?_
  intro X
  have hR3 := X.same hR2
  have hC3 := (hC2.below X.2).put4 (x0 := .int .u64 (wd R' 0).toNat) (x1 := .int .u64 (wd R' 1).toNat) (x2 := .int .u64 (wd R' 2).toNat) (x3 := .int .u64 (wd R' 3).toNat) hR3
  have hV3 := keep_set4 (x0 := .int .u64 (wd R' 0).toNat) (x1 := .int .u64 (wd R' 1).toNat) (x2 := .int .u64 (wd R' 2).toNat) (x3 := .int .u64 (wd R' 3).toNat) (blk_ne12 (X.same hV2) hR3 (by decide)) (X.same hV2)
  have hrow3 := own_set4_12 (x0 := .int .u64 (wd R' 0).toNat) (x1 := .int .u64 (wd R' 1).toNat) (x2 := .int .u64 (wd R' 2).toNat) (x3 := .int .u64 (wd R' 3).toNat) (owns_below hrow2 X.2) hR3 (by decide)
  have hl3 := own_set4_12 (x0 := .int .u64 (wd R' 0).toNat) (x1 := .int .u64 (wd R' 1).toNat) (x2 := .int .u64 (wd R' 2).toNat) (x3 := .int .u64 (wd R' 3).toNat) (owns_below hl2 X.2) hR3 (by decide)
  have hB3 := below4 (x0 := .int .u64 (wd R' 0).toNat) (x1 := .int .u64 (wd R' 1).toNat) (x2 := .int .u64 (wd R' 2).toNat) (x3 := .int .u64 (wd R' 3).toNat) hB12 ((hB2.mono hBw).trans (X.2.mono (by omega)))
  have hRn := put4 (x0 := .int .u64 (wd R' 0).toNat) (x1 := .int .u64 (wd R' 1).toNat) (x2 := .int .u64 (wd R' 2).toNat) (x3 := .int .u64 (wd R' 3).toNat) hR3
  have J := Lib.hid (And.intro hC3 (And.intro hRn (And.intro hV3 (And.intro hrow3 (And.intro hl3 hB3)))))
  obtain ⟨q0, q1, q2, q3, qf⟩ := now4 hR3 rfl
  clear hC2 hR2 hV2 hrow2 hl2 hB2 hcl HPt HLs HOr hsp hon a0 a1 a2 a3 a4 b0 b1 b2 b3 r0 r1 r2 r3 hC3 hRn hV3 hrow3 hl3 hB3 hR3 hB1
  go_wp2
  clear q0 q1 q2 q3 qf
  generalize ((((X.1.setCell _ _).setCell _ _).setCell _ _).setCell _ _) = W3 at *
  clear X
  go_loopw [10, 11, 12, 39] (fun _ _ _ t wr => ∃ (k : Nat) (V' : Value), k ≤ L.length ∧ t = .int .i64 k ∧ CvB wr p4 p9 p10 p7 n i O0 O1 M0 M1 ∧ wr.heap[p12]? = some (.cells #[.int .u64 (wd R' 0).toNat, .int .u64 (wd R' 1).toNat, .int .u64 (wd R' 2).toNat, .int .u64 (wd R' 3).toNat] 24 (0, 0)) ∧ wr.heap[p11]? = some (.cells #[V'] 33 (0, 0)) ∧
    wr.ownsRow B 44 2 V' (xs ++ (L.take k).map fun x => lit12 x i false).length (cbsV (xs ++ (L.take k).map fun x => lit12 x i false)) ∧ wr.ownsRow W1.heap.size 44 2 (.slice A L.length c) L.length (cbsV L) ∧
    (∀ g, (Value.slice A L.length c).ownBlock = some g → V'.ownBlock ≠ some g) ∧ Below B w wr) (fun _ _ _ t _ => L.length - (intOf t).toNat)
  case atStart =>
    refine ⟨0, V, by omega, rfl, J.out.1, J.out.2.1, J.out.2.2.1, ?_, J.out.2.2.2.2.1, hVl, J.out.2.2.2.2.2⟩
    rw [List.take_zero, List.map_nil, List.append_nil]
    exact J.out.2.2.2.1
  case round =>
    clear J hVl
    obtain ⟨k, V', hk, rfl, hC, hR, hV, hrow, hl, hVl, hB⟩ := hrel
    by_cases hlt : k < L.length
    · obtain ⟨g, c', hv, -, hgl, -, hcell⟩ := own_cellq hl (by omega)
      injection hv with hA _ hcc
      subst hA
      subst hcc
      obtain ⟨x, hx⟩ : ∃ x, L[k]? = some x := ⟨_, List.getElem?_eq_getElem hlt⟩
      obtain ⟨e0, e1⟩ := cbsV_at L k x hx
      have z0 := hcell _ _ e0
      have z1 := hcell _ _ e1
      have hxm := List.mem_of_getElem? hx
      have hfi := hfr.out x hxm i (by omega)
      have hvm := ((rightB_iff _ _ _).1 (hrt.out x hxm)).2.2.2
      have hcl := lit_clash12 (by omega) hfi false
      have hlv := lit_val12 (by omega) hfi hvm false
      have hsucc : Hid (xs ++ (L.take (k + 1)).map (fun x => lit12 x i false) = (xs ++ (L.take k).map fun x => lit12 x i false) ++ [lit12 x i false]) := Lib.hid (by
        rw [List.take_add_one, hx, List.map_append, ← List.append_assoc]; rfl)
      have hysl : (xs ++ (L.take k).map fun x => lit12 x i false).length ≤ 200000 := by
        rw [List.length_append, List.length_map, List.length_take]; omega
      generalize hys : (xs ++ (L.take k).map fun x => lit12 x i false) = ys at *
      have hlm : (lit12 x i false).m = x.m ||| BitVec.twoPow 8 i := rfl
      have HMt := fun w => meet_yes x.m x.v (BitVec.twoPow 8 i) (ltV12 i false) hcl w
      rw [hlv, ← hlm] at HMt
      have HLit := fun w => ilit_any i (by omega) false w
      generalize lit12 x i false = y at *
      generalize BitVec.twoPow 8 i = tp at *
      generalize ltV12 i false = tv at *
      obtain ⟨xm, xv⟩ := x
      obtain ⟨ym, yv⟩ := y
      simp only at HMt z0 z1
      clear hcell e0 e1 hxm hfi hvm hcl hlv hlm hx hys hrt hfr
      have hx4 := heap_alloc_new wr (cb xm xv)
      have hC4 := hC.below (below_alloc1 wr (cb xm xv))
      have hR4 := keep_alloc (x := cb xm xv) hR
      have hV4 := keep_alloc (x := cb xm xv) hV
      have hrow4 := hrow.alloc (cb xm xv)
      have hl4 := hl.alloc (cb xm xv)
      have hB4 := hB.alloc (by have := hB.size; omega) (cb xm xv)
      have hgl4 : g < (wr.alloc (cb xm xv)).heap.size := by simp; omega
      unfold cv cb bvv at *
      simp only [Bool.false_eq_true, if_false] at HLit
      clear hC hR hV hrow hl hB hgl
      go_upto_region 5 with (fail)
      generalize hW4 : wr.alloc _ = W4 at *
      clear hW4 z0 z1
      obtain ⟨x0, x1, -⟩ := box2 hx4 rfl
      have d0 := box1_12 hC4.ii
      go_cut [11, 12] from 43 to 51 (fun s11 s12 wc => ∃ bq : Nat, s11 = .pointer (some ⟨bq, 0, none⟩) ∧ s12 = .bool true ∧ wc.heap[bq]? = some (.cells #[.int .u8 ym.toNat, .int .u8 yv.toNat] 44 (0, 0)) ∧ Below W4.heap.size W4 wc)
      case first =>
        clear hC4 hR4 hV4 hrow4 hl4 hB4 hVl hsucc hx4
        refine wp_region_held_drew (S := fun W_ => Below W4.heap.size W4 W_) rfl (Below.refl _ W4).drew (fun hHeld => ?_)
        obtain ⟨X0, hX0⟩ : ∃ X0, X0 = W4.drew := ⟨_, rfl⟩
        rw [← hX0] at hHeld ⊢
        clear hX0
        refine wpAnyH_take (i := 0) (oi := _) (v := ?_) rfl (by kernel_rfl) (by kernel_rfl) (by kernel_rfl) (fun _ _ _ h => h) (Or.inl ⟨by rfl, ?_⟩) (by assumption) ?_
        rotate_left 1
        · intro w_ hSw
          have q_x0 := x0 ⟨w_, hSw⟩
          have q_x1 := x1 ⟨w_, hSw⟩
          dsimp only at q_x0 q_x1
          go_simp
          try with_reducible rfl
        try simp only [Act.put, List.setIfInBounds_toArray]
        refine wpAnyH_take (i := 1) (oi := _) (v := ?_) rfl (by kernel_rfl) (by kernel_rfl) (by kernel_rfl) (fun _ _ _ h => h) (Or.inl ⟨by rfl, ?_⟩) (by assumption) ?_
        rotate_left 1
        · intro w_ hSw
          have q_d0 := d0 ⟨w_, hSw⟩
          dsimp only at q_d0
          go_simp
          try with_reducible rfl
        try simp only [Act.put]
        refine wpAnyH_take (i := 2) (oi := _) (v := ?_) rfl (by kernel_rfl) (by kernel_rfl) (by kernel_rfl) (fun _ _ _ h => h) (Or.inl ⟨by rfl, ?_⟩) (by assumption) ?_
        rotate_left 1
        · intro w_ hSw
          go_simp
          try with_reducible rfl
        try simp only [Act.put]
        refine wpAnyH_ready (rs := [3, 8]) (by kernel_rfl) (by simp) ?_
        refine AllReadyH.cons (o := _) rfl (fun _ hK => ?_) ?_
        · go_simp
          refine (HLit X0).mono ?_
          rintro e X1 ⟨rfl, hbr⟩
          try go_simp
          refine hK.out _ _ (hHeld.trans (hbr.mono hHeld.size)) (fun hHeld => ?_)
          clear hbr
          clear hK
          try simp only [Act.put, List.setIfInBounds_toArray, List.set_cons_zero, List.set_cons_succ]
          refine wpAnyH_ready (rs := [4, 8]) (by kernel_rfl) (by simp) ?_
          refine AllReadyH.cons (o := _) rfl (fun _ hK => ?_) ?_
          · go_simp
            refine (HMt X1).mono ?_
            rintro e X2 ⟨rfl, hbr⟩
            try go_simp
            refine hK.out _ _ (hHeld.trans (hbr.mono hHeld.size)) (fun hHeld => ?_)
            clear hbr
            clear hK
            try simp only [Act.put, List.setIfInBounds_toArray, List.set_cons_zero, List.set_cons_succ]
            refine wpAnyH_take (i := 5) (oi := _) (v := ?_) rfl (by kernel_rfl) (by kernel_rfl) (by kernel_rfl) (fun _ _ _ h => h) (Or.inl ⟨by rfl, ?_⟩) (by assumption) ?_
            rotate_left 1
            · intro w_ hSw
              go_simp
              try with_reducible rfl
            try simp only [Act.put, List.setIfInBounds_toArray]
            refine wpAnyH_take (i := 6) (oi := _) (v := ?_) rfl (by kernel_rfl) (by kernel_rfl) (by kernel_rfl) (fun _ _ _ h => h) (Or.inl ⟨by rfl, ?_⟩) (by assumption) ?_
            rotate_left 1
            · intro w_ hSw
              go_simp
              try with_reducible rfl
            try simp only [Act.put]
            refine wpAnyH_take (i := 7) (oi := _) (v := ?_) rfl (by kernel_rfl) (by kernel_rfl) (by kernel_rfl) (fun _ _ _ h => h) (Or.inl ⟨by rfl, ?_⟩) (by assumption) ?_
            rotate_left 1
            · intro w_ hSw
              go_simp
              try with_reducible rfl
            try simp only [Act.put]
            refine wpAnyH_ready (rs := [8]) (by kernel_rfl) (by simp) ?_
            refine AllReadyH.cons (o := _) rfl (fun _ hK => ?_) AllReadyH.nil
            go_simp
            have nq := heap_alloc_new X2 (.cells #[.int .u8 0, .int .u8 0] 44)
            have hal := hHeld.alloc hHeld.size (.cells #[.int .u8 0, .int .u8 0] 44)
            have lq := hHeld.size
            generalize X2.heap.size = bq at *
            generalize X2.alloc (.cells #[.int .u8 0, .int .u8 0] 44) = X3 at *
            refine hK.out _ _ hal (fun hHeld => ?_)
            clear hal
            clear hK
            try simp only [Act.put, List.setIfInBounds_toArray, List.set_cons_zero, List.set_cons_succ]
            refine wpAnyH_ready (rs := [9]) (by kernel_rfl) (by simp) ?_
            refine AllReadyH.cons (o := _) rfl (fun _ hK => ?_) AllReadyH.nil
            obtain ⟨y0, y1, yf⟩ := now2 nq rfl
            go_simp
            clear y0 y1 yf
            refine hK.out _ _ ((hHeld.setCell (by show W4.heap.size ≤ bq; omega) _).setCell (by show W4.heap.size ≤ bq; omega) _) (fun hHeld => ?_)
            replace nq := put2 (x0 := .int .u8 ym.toNat) (x1 := .int .u8 yv.toNat) nq
            clear hK
            try simp only [Act.put, List.setIfInBounds_toArray, List.set_cons_zero, List.set_cons_succ]
            refine wpAnyH_ready (rs := [10]) (by kernel_rfl) (by simp) ?_
            refine AllReadyH.cons (o := _) rfl (fun _ hK => ?_) AllReadyH.nil
            go_simp
            refine hK.out _ _ hHeld (fun hHeld => ?_)
            clear hK
            try simp only [Act.put, List.setIfInBounds_toArray, List.set_cons_zero, List.set_cons_succ]
            refine wpAnyH_done (by kernel_rfl) ?_ _
            go_wp2_with fail
            go_meet
            exact ⟨bq, rfl, rfl, nq, hHeld⟩
          refine AllReadyH.cons (o := _) rfl (fun _ hK => ?_) AllReadyH.nil
          go_simp
          have nq := heap_alloc_new X1 (.cells #[.int .u8 0, .int .u8 0] 44)
          have hal := hHeld.alloc hHeld.size (.cells #[.int .u8 0, .int .u8 0] 44)
          have lq := hHeld.size
          generalize X1.heap.size = bq at *
          generalize X1.alloc (.cells #[.int .u8 0, .int .u8 0] 44) = X2 at *
          refine hK.out _ _ hal (fun hHeld => ?_)
          clear hal
          clear hK
          try simp only [Act.put, List.setIfInBounds_toArray, List.set_cons_zero, List.set_cons_succ]
          refine wpAnyH_ready (rs := [4]) (by kernel_rfl) (by simp) ?_
          refine AllReadyH.cons (o := _) rfl (fun _ hK => ?_) AllReadyH.nil
          go_simp
          refine (HMt X2).mono ?_
          rintro e X3 ⟨rfl, hbr⟩
          replace nq := keep_blk hbr nq
          try go_simp
          refine hK.out _ _ (hHeld.trans (hbr.mono hHeld.size)) (fun hHeld => ?_)
          clear hbr
          clear hK
          try simp only [Act.put, List.setIfInBounds_toArray, List.set_cons_zero, List.set_cons_succ]
          refine wpAnyH_take (i := 5) (oi := _) (v := ?_) rfl (by kernel_rfl) (by kernel_rfl) (by kernel_rfl) (fun _ _ _ h => h) (Or.inl ⟨by rfl, ?_⟩) (by assumption) ?_
          rotate_left 1
          · intro w_ hSw
            go_simp
            try with_reducible rfl
          try simp only [Act.put, List.setIfInBounds_toArray]
          refine wpAnyH_take (i := 6) (oi := _) (v := ?_) rfl (by kernel_rfl) (by kernel_rfl) (by kernel_rfl) (fun _ _ _ h => h) (Or.inl ⟨by rfl, ?_⟩) (by assumption) ?_
          rotate_left 1
          · intro w_ hSw
            go_simp
            try with_reducible rfl
          try simp only [Act.put]
          refine wpAnyH_take (i := 7) (oi := _) (v := ?_) rfl (by kernel_rfl) (by kernel_rfl) (by kernel_rfl) (fun _ _ _ h => h) (Or.inl ⟨by rfl, ?_⟩) (by assumption) ?_
          rotate_left 1
          · intro w_ hSw
            go_simp
            try with_reducible rfl
          try simp only [Act.put]
          refine wpAnyH_ready (rs := [9]) (by kernel_rfl) (by simp) ?_
          refine AllReadyH.cons (o := _) rfl (fun _ hK => ?_) AllReadyH.nil
          obtain ⟨y0, y1, yf⟩ := now2 nq rfl
          go_simp
          clear y0 y1 yf
          refine hK.out _ _ ((hHeld.setCell (by show W4.heap.size ≤ bq; omega) _).setCell (by show W4.heap.size ≤ bq; omega) _) (fun hHeld => ?_)
          replace nq := put2 (x0 := .int .u8 ym.toNat) (x1 := .int .u8 yv.toNat) nq
          clear hK
          try simp only [Act.put, List.setIfInBounds_toArray, List.set_cons_zero, List.set_cons_succ]
          refine wpAnyH_ready (rs := [10]) (by kernel_rfl) (by simp) ?_
          refine AllReadyH.cons (o := _) rfl (fun _ hK => ?_) AllReadyH.nil
          go_simp
          refine hK.out _ _ hHeld (fun hHeld => ?_)
          clear hK
          try simp only [Act.put, List.setIfInBounds_toArray, List.set_cons_zero, List.set_cons_succ]
          refine wpAnyH_done (by kernel_rfl) ?_ _
          go_wp2_with fail
          go_meet
          exact ⟨bq, rfl, rfl, nq, hHeld⟩
        refine AllReadyH.cons (o := _) rfl (fun _ hK => ?_) AllReadyH.nil
        go_simp
        have nq := heap_alloc_new X0 (.cells #[.int .u8 0, .int .u8 0] 44)
        have hal := hHeld.alloc hHeld.size (.cells #[.int .u8 0, .int .u8 0] 44)
        have lq := hHeld.size
        generalize X0.heap.size = bq at *
        generalize X0.alloc (.cells #[.int .u8 0, .int .u8 0] 44) = X1 at *
        refine hK.out _ _ hal (fun hHeld => ?_)
        clear hal
        clear hK
        try simp only [Act.put, List.setIfInBounds_toArray, List.set_cons_zero, List.set_cons_succ]
        refine wpAnyH_ready (rs := [3]) (by kernel_rfl) (by simp) ?_
        refine AllReadyH.cons (o := _) rfl (fun _ hK => ?_) AllReadyH.nil
        go_simp
        refine (HLit X1).mono ?_
        rintro e X2 ⟨rfl, hbr⟩
        replace nq := keep_blk hbr nq
        try go_simp
        refine hK.out _ _ (hHeld.trans (hbr.mono hHeld.size)) (fun hHeld => ?_)
        clear hbr
        clear hK
        try simp only [Act.put, List.setIfInBounds_toArray, List.set_cons_zero, List.set_cons_succ]
        refine wpAnyH_ready (rs := [4]) (by kernel_rfl) (by simp) ?_
        refine AllReadyH.cons (o := _) rfl (fun _ hK => ?_) AllReadyH.nil
        go_simp
        refine (HMt X2).mono ?_
        rintro e X3 ⟨rfl, hbr⟩
        replace nq := keep_blk hbr nq
        try go_simp
        refine hK.out _ _ (hHeld.trans (hbr.mono hHeld.size)) (fun hHeld => ?_)
        clear hbr
        clear hK
        try simp only [Act.put, List.setIfInBounds_toArray, List.set_cons_zero, List.set_cons_succ]
        refine wpAnyH_take (i := 5) (oi := _) (v := ?_) rfl (by kernel_rfl) (by kernel_rfl) (by kernel_rfl) (fun _ _ _ h => h) (Or.inl ⟨by rfl, ?_⟩) (by assumption) ?_
        rotate_left 1
        · intro w_ hSw
          go_simp
          try with_reducible rfl
        try simp only [Act.put, List.setIfInBounds_toArray]
        refine wpAnyH_take (i := 6) (oi := _) (v := ?_) rfl (by kernel_rfl) (by kernel_rfl) (by kernel_rfl) (fun _ _ _ h => h) (Or.inl ⟨by rfl, ?_⟩) (by assumption) ?_
        rotate_left 1
        · intro w_ hSw
          go_simp
          try with_reducible rfl
        try simp only [Act.put]
        refine wpAnyH_take (i := 7) (oi := _) (v := ?_) rfl (by kernel_rfl) (by kernel_rfl) (by kernel_rfl) (fun _ _ _ h => h) (Or.inl ⟨by rfl, ?_⟩) (by assumption) ?_
        rotate_left 1
        · intro w_ hSw
          go_simp
          try with_reducible rfl
        try simp only [Act.put]
        refine wpAnyH_ready (rs := [9]) (by kernel_rfl) (by simp) ?_
        refine AllReadyH.cons (o := _) rfl (fun _ hK => ?_) AllReadyH.nil
        obtain ⟨y0, y1, yf⟩ := now2 nq rfl
        go_simp
        clear y0 y1 yf
        refine hK.out _ _ ((hHeld.setCell (by show W4.heap.size ≤ bq; omega) _).setCell (by show W4.heap.size ≤ bq; omega) _) (fun hHeld => ?_)
        replace nq := put2 (x0 := .int .u8 ym.toNat) (x1 := .int .u8 yv.toNat) nq
        clear hK
        try simp only [Act.put, List.setIfInBounds_toArray, List.set_cons_zero, List.set_cons_succ]
        refine wpAnyH_ready (rs := [10]) (by kernel_rfl) (by simp) ?_
        refine AllReadyH.cons (o := _) rfl (fun _ hK => ?_) AllReadyH.nil
        go_simp
        refine hK.out _ _ hHeld (fun hHeld => ?_)
        clear hK
        try simp only [Act.put, List.setIfInBounds_toArray, List.set_cons_zero, List.set_cons_succ]
        refine wpAnyH_done (by kernel_rfl) ?_ _
        go_wp2_with fail
        go_meet
        exact ⟨bq, rfl, rfl, nq, hHeld⟩
      case rest =>
        obtain ⟨bq, rfl, rfl, hq, hc⟩ := hcut
        clear HMt HLit x0 x1 d0 hx4
        have hC5 := hC4.below hc
        have hR5 := keep_blk hc hR4
        have hV5 := keep_blk hc hV4
        have hrow5 := owns_below hrow4 hc
        have hl5 := owns_below hl4 hc
        have hB5 := hB4.trans (hc.mono (by have := hB4.size; omega))
        have hgl5 : g < wc.heap.size := Nat.lt_of_lt_of_le hgl4 hc.size
        clear hC4 hR4 hV4 hrow4 hl4 hB4 hgl4 hc
        obtain ⟨i0, hi0, hz0, hz1, hz2⟩ := info_parts Try.infoCube9
        obtain ⟨q0, q1, -⟩ := now2 hq rfl
        obtain ⟨v0, -⟩ := now1_12 hV5
        have hBsz := hB5.size
        go_upto_region 6 with (fail)
        go_wp2_with (at_builtin; go_loud (refine wpList_append_own_at _ rfl _ _ 33 rfl B 44 i0 (.agg #[.int .u8 0, .int .u8 0]) 2 2 Try.underlying33 hi0 hz0 hz1 hz2 rfl (by decide) _ _ _ rfl (hrow5.alloc _) ⟨wc.heap.size, 0, none⟩ 1 1 [.int .u8 ym.toNat, .int .u8 yv.toNat] rfl rfl ?c1 ?c2 ?c3 ?c4 ?c5 ?_))
        first | (case c1 => exact World.news_of_block (cs := #[.int .u8 ym.toNat, .int .u8 yv.toNat]) (t := 44) (fr := (0, 0)) (heap_alloc_new wc _)) | skip
        case c2 => exact ⟨rfl, rfl⟩
        case c3 => unfold maxLen; omega
        case c4 => omega
        case c5 => omega
        intro V6 w6 ho6 hg6 _ hat6
        have hCa := hC5.below (below_alloc1 wc (.cells #[.int .u8 ym.toNat, .int .u8 yv.toNat] 44))
        have hRa := keep_alloc (x := .cells #[.int .u8 ym.toNat, .int .u8 yv.toNat] 44) hR5
        have hVa := keep_alloc (x := .cells #[.int .u8 ym.toNat, .int .u8 yv.toNat] 44) hV5
        have hrowa := hrow5.alloc (.cells #[.int .u8 ym.toNat, .int .u8 yv.toNat] 44)
        have hla := hl5.alloc (.cells #[.int .u8 ym.toNat, .int .u8 yv.toNat] 44)
        have hBa := hB5.alloc (by omega) (.cells #[.int .u8 ym.toNat, .int .u8 yv.toNat] 44)
        have hga : g < (wc.alloc (.cells #[.int .u8 ym.toNat, .int .u8 yv.toNat] 44)).heap.size := by simp; omega
        have hwz : (wc.alloc (.cells #[.int .u8 ym.toNat, .int .u8 yv.toNat] 44)).heap.size = wc.heap.size + 1 := by simp
        clear hC5 hR5 hV5 hrow5 hl5 hB5 hgl5 v0 q0 q1 hq
        generalize wc.alloc _ = wa at *
        have hBaz : B ≤ wa.heap.size := by have := hBa.size; omega
        have hC6 := hCa.grown hrowa hg6
        have hR6 := grown_far12 hrowa hg6 hRa (by decide)
        have hV6 := grown_far12 hrowa hg6 hVa (by decide)
        have hl6 := hla.kept hg6 (.inr (fun e => hVl g rfl e.symm))
        have hB6 := grown_below hrowa hg6 hBa (Nat.le_refl _) hBaz
        have hne6 : ∀ g', (Value.slice (some ⟨g, 0, none⟩) L.length c).ownBlock = some g' → V6.ownBlock ≠ some g' := fun g' hg' e => by
          have eg : g = g' := by injection hg'
          subst eg
          rcases hat6 with h | h
          · exact hVl g rfl (h.symm.trans e)
          · rw [h] at e
            have e' := Option.some.inj e
            omega
        have ho7 : w6.ownsRow B 44 2 V6 (ys ++ [(⟨ym, yv⟩ : Cb)]).length (cbsV (ys ++ [(⟨ym, yv⟩ : Cb)])) := by
          rw [cbsV_snoc, List.length_append]
          exact ho6
        rw [← hsucc.out] at ho7
        have hC7 := hC6.put1 (x := V6) hV6
        have hR7 := keep_set (u := V6) (a := ⟨p11, 0, none⟩) (blk_ne12 hR6 hV6 (by decide)) hR6
        have hV7 := pt1_12 (x := V6) hV6
        have hrow7 := own_set ho7 (own_ne ho7 hV6 (by decide)) 0 V6
        have hl7 := own_set hl6 (own_ne hl6 hV6 (by decide)) 0 V6
        have hB7 := (hB6.setCell hB11 V6 : Below B w (w6.setCell ⟨p11, 0, none⟩ V6))
        have J := Lib.hid (And.intro hC7 (And.intro hR7 (And.intro hV7 (And.intro hrow7 (And.intro hl7 (And.intro hne6 hB7))))))
        obtain ⟨A6, c6, e6⟩ := own_form ho6
        obtain ⟨v0, vf⟩ := now1_12 hV6
        clear hCa hRa hVa hrowa hla hBa hga hC6 hR6 hl6 hB6 ho6 hg6 hat6 ho7 hC7 hR7 hV7 hrow7 hl7 hB7 hne6 hVl hsucc hV6
        subst e6
        go_wp2
        go_roundw
        case rel => exact ⟨k + 1, _, by omega, by go_num, J.out.1, J.out.2.1, J.out.2.2.1, J.out.2.2.2.1, J.out.2.2.2.2.1, J.out.2.2.2.2.2.1, J.out.2.2.2.2.2.2⟩
        case measure => simp [intOf]; omega
    · have e : k = L.length := by omega
      have hkd : decide ((k : Int) < (L.length : Int)) = false := decide_eq_false (by omega)
      rw [e, List.take_length] at hrow
      clear e hl hVl hrt hfr
      go_wp2
      go_end0
      exact ⟨rfl, V', hC, by rw [hRR.out]; exact hR, hV, hrow, hB⟩
set_option maxHeartbeats 4000000 in
set_option maxRecDepth 100000 in
theorem cwith1_any {n f : Nat} (hn : n ≤ 8) (hf : f ≤ 8) (IH : IsoC n f) (i : Nat) (hin : i < n) (hfi : n < f + (i + 1)) (B p4 p9 p10 p7 p12 p11 : Nat) (O0 O1 M0 M1 R : BitVec 256) (V : Value) (xs : List Cb) (hxs : xs.length ≤ 100000)
    (hI : Iso n (i + 1) (bts (O1 &&& ~~~M0)) (bts M1)) (w : World) (hC : CvB w p4 p9 p10 p7 n i O0 O1 M0 M1) (hR : w.heap[p12]? = some (.cells (sa R) 24 (0, 0))) (hV : w.heap[p11]? = some (.cells #[V] 33 (0, 0)))
    (hrow : w.ownsRow B 44 2 V xs.length (cbsV xs)) (hBw : B ≤ w.heap.size) (hB12 : B ≤ p12) (hB11 : B ≤ p11) :
    Calls Try.prog 54 #[.int .i64 1, .pointer (some ⟨p4, 0, none⟩), .pointer (some ⟨p9, 0, none⟩), .pointer (some ⟨p10, 0, none⟩), .pointer (some ⟨p7, 0, none⟩), .pointer (some ⟨p12, 0, none⟩), .pointer (some ⟨p11, 0, none⟩)] w
      fun e w' => e = .returned (.tuple #[]) ∧ CvPost B p4 p9 p10 p7 p12 p11 n i O0 O1 M0 M1 (R ||| (O1 &&& ~~~ptsU n (isoF n f (bts (O1 &&& ~~~M0)) (bts M1) (i + 1)) (-1) (isoF n f (bts (O1 &&& ~~~M0)) (bts M1) (i + 1)).length)) (xs ++ (isoF n f (bts (O1 &&& ~~~M0)) (bts M1) (i + 1)).map fun x => lit12 x i true) w w' := by
  have HLs := fun w => less_any O1 M0 w
  have HCv := fun w => IH (O1 &&& ~~~M0) M1 (i + 1) w hfi hI
  have hIs := iso_is n f _ _ (i + 1) hfi hI
  have hlenL := iso_len n f (bts (O1 &&& ~~~M0)) (bts M1) (i + 1)
  generalize isoF n f (bts (O1 &&& ~~~M0)) (bts M1) (i + 1) = L at *
  have hlen : L.length ≤ 6561 := Nat.le_trans hlenL (Nat.pow_le_pow_right (by decide) hf)
  have hrt := Lib.hid hIs.right
  have hfr := Lib.hid hIs.free
  clear hlenL hIs hI IH
  generalize O1 &&& ~~~M0 = D at *
  have hi1 : ((i + 1 : Nat) : Int) = (i : Int) + 1 := by omega
  have hwr : wrap64 ((i : Int) + 1) = (i : Int) + 1 := by unfold wrap64; omega
  rw [hi1] at HCv
  have hsp := hC.sp
  have hon := hC.on
  have hmy := hC.may
  have hii := hC.ii
  unfold spcV at hsp HCv
  unfold sdV at hon hmy
  unfold sv wv at HLs HCv
  obtain ⟨a0, a1, a2, a3, a4, -⟩ : (∀ X : After w, _) ∧ (∀ X : After w, _) ∧ (∀ X : After w, _) ∧ (∀ X : After w, _) ∧ (∀ X : After w, _) ∧ True := ⟨fun X => (now5 (X.same hsp)).1, fun X => (now5 (X.same hsp)).2.1, fun X => (now5 (X.same hsp)).2.2.1, fun X => (now5 (X.same hsp)).2.2.2.1, fun X => (now5 (X.same hsp)).2.2.2.2.1, trivial⟩
  obtain ⟨b0, b1, b2, b3⟩ : (∀ X : After w, _) ∧ (∀ X : After w, _) ∧ (∀ X : After w, _) ∧ (∀ X : After w, _) := ⟨fun X => (now8 (X.same hon)).2.2.2.2.1, fun X => (now8 (X.same hon)).2.2.2.2.2.1, fun X => (now8 (X.same hon)).2.2.2.2.2.2.1, fun X => (now8 (X.same hon)).2.2.2.2.2.2.2.1⟩
  obtain ⟨c0, c1, c2, c3, c4, c5, c6, c7⟩ : (∀ X : After w, _) ∧ (∀ X : After w, _) ∧ (∀ X : After w, _) ∧ (∀ X : After w, _) ∧ (∀ X : After w, _) ∧ (∀ X : After w, _) ∧ (∀ X : After w, _) ∧ (∀ X : After w, _) := ⟨fun X => (now8 (X.same hmy)).1, fun X => (now8 (X.same hmy)).2.1, fun X => (now8 (X.same hmy)).2.2.1, fun X => (now8 (X.same hmy)).2.2.2.1, fun X => (now8 (X.same hmy)).2.2.2.2.1, fun X => (now8 (X.same hmy)).2.2.2.2.2.1, fun X => (now8 (X.same hmy)).2.2.2.2.2.2.1, fun X => (now8 (X.same hmy)).2.2.2.2.2.2.2.1⟩
  have d0 := box1_12 hii
  go_enter Try.func54, Try.ntmps54
  go_upto_region 0 with (fail)
  refine wp_region_after_tail 14 (by kernel_rfl) (by kernel_rfl) ?_
  simp only [List.take_succ_cons, List.take_zero, List.drop_succ_cons, List.drop_zero]
  repeat (first | go_big_quiet_step (first | (go_at_call 47; exact Calls.after_of (HLs _))))
  refine wpQuiet_nil ?_
  intro X
  have hC1 := hC.below X.2
  have hR1 := X.same hR
  have hV1 := X.same hV
  have hrow1 := owns_below hrow X.2
  have hB1 : Below w.heap.size w X.1 := X.2
  have hz1 := hB1.size
  have hCv1 := HCv X.1
  clear hsp hon hmy hii hC hR hV hrow HLs HCv a0 a1 a2 a3 a4 b0 b1 b2 b3 c0 c1 c2 c3 c4 c5 c6 c7 d0
  generalize X.1 = W1 at *
  clear X
  go_wp2_with fail
  refine hCv1.mono ?_
  rintro e w2 ⟨lv, rfl, hl2, hb2⟩
  have hC2 := hC1.below hb2
  have hR2 := keep_blk hb2 hR1
  have hV2 := keep_blk hb2 hV1
  have hrow2 := owns_below hrow1 hb2
  have hB2 := hB1.trans (hb2.mono hz1)
  have hVl : ∀ g, lv.ownBlock = some g → V.ownBlock ≠ some g := fun g hg e => by
    have h1 := (hl2.lt g hg).1
    have h2 := (hrow1.lt g e).2
    omega
  have hz2 := hB2.size
  clear hC1 hR1 hV1 hrow1 hCv1 hb2
  -- region 1: the rest
  have hcl : CbsAt w2 w2.heap.size lv L := own_cbs hl2
  have HPt := fun X : After w2 => ipoints_any n L hrt.out lv X.1 ((hcl.below X.2).more X.2.size)
  have HLs := fun w => less_any O1 (ptsU n L (-1) L.length) w
  generalize hU0 : ptsU n L (-1) L.length = U at *
  have HOr := fun w => or_any R (O1 &&& ~~~U) w
  generalize hR' : R ||| (O1 &&& ~~~U) = R' at *
  have hRR : Hid (R ||| (O1 &&& ~~~ptsU n L (-1) L.length) = R') := Lib.hid (by rw [hU0]; exact hR')
  clear hU0 hR'
  generalize O1 &&& ~~~U = E at *
  have hsp := hC2.sp
  have hon := hC2.on
  unfold spcV at hsp HPt
  unfold sdV at hon
  unfold sa at hR2
  unfold sv at HPt HLs HOr
  unfold wv at *
  obtain ⟨a0, a1, a2, a3, a4, -⟩ : (∀ X : After w2, _) ∧ (∀ X : After w2, _) ∧ (∀ X : After w2, _) ∧ (∀ X : After w2, _) ∧ (∀ X : After w2, _) ∧ True := ⟨fun X => (now5 (X.same hsp)).1, fun X => (now5 (X.same hsp)).2.1, fun X => (now5 (X.same hsp)).2.2.1, fun X => (now5 (X.same hsp)).2.2.2.1, fun X => (now5 (X.same hsp)).2.2.2.2.1, trivial⟩
  obtain ⟨b0, b1, b2, b3⟩ : (∀ X : After w2, _) ∧ (∀ X : After w2, _) ∧ (∀ X : After w2, _) ∧ (∀ X : After w2, _) := ⟨fun X => (now8 (X.same hon)).2.2.2.2.1, fun X => (now8 (X.same hon)).2.2.2.2.2.1, fun X => (now8 (X.same hon)).2.2.2.2.2.2.1, fun X => (now8 (X.same hon)).2.2.2.2.2.2.2.1⟩
  obtain ⟨r0, r1, r2, r3, -⟩ := box4 hR2 rfl
  obtain ⟨A, c, rfl⟩ := own_form hl2
  go_upto_region 1 with (fail)
  refine wp_region_after_tail 9 (by kernel_rfl) (by kernel_rfl) ?_
  simp only [List.take_succ_cons, List.take_zero, List.drop_succ_cons, List.drop_zero]
  repeat (first | go_big_quiet_step (first | (go_at_call 55; exact Calls.after_of (HPt _)) | (go_at_call 47; exact Calls.after_of (HLs _)) | (go_at_call 38; exact Calls.after_of (HOr _))))
  refine wpQuiet_nil ?_
  intro X
  have hR3 := X.same hR2
  have hC3 := (hC2.below X.2).put4 (x0 := .int .u64 (wd R' 0).toNat) (x1 := .int .u64 (wd R' 1).toNat) (x2 := .int .u64 (wd R' 2).toNat) (x3 := .int .u64 (wd R' 3).toNat) hR3
  have hV3 := keep_set4 (x0 := .int .u64 (wd R' 0).toNat) (x1 := .int .u64 (wd R' 1).toNat) (x2 := .int .u64 (wd R' 2).toNat) (x3 := .int .u64 (wd R' 3).toNat) (blk_ne12 (X.same hV2) hR3 (by decide)) (X.same hV2)
  have hrow3 := own_set4_12 (x0 := .int .u64 (wd R' 0).toNat) (x1 := .int .u64 (wd R' 1).toNat) (x2 := .int .u64 (wd R' 2).toNat) (x3 := .int .u64 (wd R' 3).toNat) (owns_below hrow2 X.2) hR3 (by decide)
  have hl3 := own_set4_12 (x0 := .int .u64 (wd R' 0).toNat) (x1 := .int .u64 (wd R' 1).toNat) (x2 := .int .u64 (wd R' 2).toNat) (x3 := .int .u64 (wd R' 3).toNat) (owns_below hl2 X.2) hR3 (by decide)
  have hB3 := below4 (x0 := .int .u64 (wd R' 0).toNat) (x1 := .int .u64 (wd R' 1).toNat) (x2 := .int .u64 (wd R' 2).toNat) (x3 := .int .u64 (wd R' 3).toNat) hB12 ((hB2.mono hBw).trans (X.2.mono (by omega)))
  have hRn := put4 (x0 := .int .u64 (wd R' 0).toNat) (x1 := .int .u64 (wd R' 1).toNat) (x2 := .int .u64 (wd R' 2).toNat) (x3 := .int .u64 (wd R' 3).toNat) hR3
  have J := Lib.hid (And.intro hC3 (And.intro hRn (And.intro hV3 (And.intro hrow3 (And.intro hl3 hB3)))))
  obtain ⟨q0, q1, q2, q3, qf⟩ := now4 hR3 rfl
  clear hC2 hR2 hV2 hrow2 hl2 hB2 hcl HPt HLs HOr hsp hon a0 a1 a2 a3 a4 b0 b1 b2 b3 r0 r1 r2 r3 hC3 hRn hV3 hrow3 hl3 hB3 hR3 hB1
  go_wp2
  clear q0 q1 q2 q3 qf
  generalize ((((X.1.setCell _ _).setCell _ _).setCell _ _).setCell _ _) = W3 at *
  clear X
  go_loopw [10, 11, 12, 39] (fun _ _ _ t wr => ∃ (k : Nat) (V' : Value), k ≤ L.length ∧ t = .int .i64 k ∧ CvB wr p4 p9 p10 p7 n i O0 O1 M0 M1 ∧ wr.heap[p12]? = some (.cells #[.int .u64 (wd R' 0).toNat, .int .u64 (wd R' 1).toNat, .int .u64 (wd R' 2).toNat, .int .u64 (wd R' 3).toNat] 24 (0, 0)) ∧ wr.heap[p11]? = some (.cells #[V'] 33 (0, 0)) ∧
    wr.ownsRow B 44 2 V' (xs ++ (L.take k).map fun x => lit12 x i true).length (cbsV (xs ++ (L.take k).map fun x => lit12 x i true)) ∧ wr.ownsRow W1.heap.size 44 2 (.slice A L.length c) L.length (cbsV L) ∧
    (∀ g, (Value.slice A L.length c).ownBlock = some g → V'.ownBlock ≠ some g) ∧ Below B w wr) (fun _ _ _ t _ => L.length - (intOf t).toNat)
  case atStart =>
    refine ⟨0, V, by omega, rfl, J.out.1, J.out.2.1, J.out.2.2.1, ?_, J.out.2.2.2.2.1, hVl, J.out.2.2.2.2.2⟩
    rw [List.take_zero, List.map_nil, List.append_nil]
    exact J.out.2.2.2.1
  case round =>
    clear J hVl
    obtain ⟨k, V', hk, rfl, hC, hR, hV, hrow, hl, hVl, hB⟩ := hrel
    by_cases hlt : k < L.length
    · obtain ⟨g, c', hv, -, hgl, -, hcell⟩ := own_cellq hl (by omega)
      injection hv with hA _ hcc
      subst hA
      subst hcc
      obtain ⟨x, hx⟩ : ∃ x, L[k]? = some x := ⟨_, List.getElem?_eq_getElem hlt⟩
      obtain ⟨e0, e1⟩ := cbsV_at L k x hx
      have z0 := hcell _ _ e0
      have z1 := hcell _ _ e1
      have hxm := List.mem_of_getElem? hx
      have hfi := hfr.out x hxm i (by omega)
      have hvm := ((rightB_iff _ _ _).1 (hrt.out x hxm)).2.2.2
      have hcl := lit_clash12 (by omega) hfi true
      have hlv := lit_val12 (by omega) hfi hvm true
      have hsucc : Hid (xs ++ (L.take (k + 1)).map (fun x => lit12 x i true) = (xs ++ (L.take k).map fun x => lit12 x i true) ++ [lit12 x i true]) := Lib.hid (by
        rw [List.take_add_one, hx, List.map_append, ← List.append_assoc]; rfl)
      have hysl : (xs ++ (L.take k).map fun x => lit12 x i true).length ≤ 200000 := by
        rw [List.length_append, List.length_map, List.length_take]; omega
      generalize hys : (xs ++ (L.take k).map fun x => lit12 x i true) = ys at *
      have hlm : (lit12 x i true).m = x.m ||| BitVec.twoPow 8 i := rfl
      have HMt := fun w => meet_yes x.m x.v (BitVec.twoPow 8 i) (ltV12 i true) hcl w
      rw [hlv, ← hlm] at HMt
      have HLit := fun w => ilit_any i (by omega) true w
      generalize lit12 x i true = y at *
      generalize BitVec.twoPow 8 i = tp at *
      generalize ltV12 i true = tv at *
      obtain ⟨xm, xv⟩ := x
      obtain ⟨ym, yv⟩ := y
      simp only at HMt z0 z1
      clear hcell e0 e1 hxm hfi hvm hcl hlv hlm hx hys hrt hfr
      have hx4 := heap_alloc_new wr (cb xm xv)
      have hC4 := hC.below (below_alloc1 wr (cb xm xv))
      have hR4 := keep_alloc (x := cb xm xv) hR
      have hV4 := keep_alloc (x := cb xm xv) hV
      have hrow4 := hrow.alloc (cb xm xv)
      have hl4 := hl.alloc (cb xm xv)
      have hB4 := hB.alloc (by have := hB.size; omega) (cb xm xv)
      have hgl4 : g < (wr.alloc (cb xm xv)).heap.size := by simp; omega
      unfold cv cb bvv at *
      simp only [if_true] at HLit
      clear hC hR hV hrow hl hB hgl
      go_upto_region 5 with (fail)
      generalize hW4 : wr.alloc _ = W4 at *
      clear hW4 z0 z1
      obtain ⟨x0, x1, -⟩ := box2 hx4 rfl
      have d0 := box1_12 hC4.ii
      go_cut [11, 12] from 43 to 51 (fun s11 s12 wc => ∃ bq : Nat, s11 = .pointer (some ⟨bq, 0, none⟩) ∧ s12 = .bool true ∧ wc.heap[bq]? = some (.cells #[.int .u8 ym.toNat, .int .u8 yv.toNat] 44 (0, 0)) ∧ Below W4.heap.size W4 wc)
      case first =>
        clear hC4 hR4 hV4 hrow4 hl4 hB4 hVl hsucc hx4
        refine wp_region_held_drew (S := fun W_ => Below W4.heap.size W4 W_) rfl (Below.refl _ W4).drew (fun hHeld => ?_)
        obtain ⟨X0, hX0⟩ : ∃ X0, X0 = W4.drew := ⟨_, rfl⟩
        rw [← hX0] at hHeld ⊢
        clear hX0
        refine wpAnyH_take (i := 0) (oi := _) (v := ?_) rfl (by kernel_rfl) (by kernel_rfl) (by kernel_rfl) (fun _ _ _ h => h) (Or.inl ⟨by rfl, ?_⟩) (by assumption) ?_
        rotate_left 1
        · intro w_ hSw
          have q_x0 := x0 ⟨w_, hSw⟩
          have q_x1 := x1 ⟨w_, hSw⟩
          dsimp only at q_x0 q_x1
          go_simp
          try with_reducible rfl
        try simp only [Act.put, List.setIfInBounds_toArray]
        refine wpAnyH_take (i := 1) (oi := _) (v := ?_) rfl (by kernel_rfl) (by kernel_rfl) (by kernel_rfl) (fun _ _ _ h => h) (Or.inl ⟨by rfl, ?_⟩) (by assumption) ?_
        rotate_left 1
        · intro w_ hSw
          have q_d0 := d0 ⟨w_, hSw⟩
          dsimp only at q_d0
          go_simp
          try with_reducible rfl
        try simp only [Act.put]
        refine wpAnyH_take (i := 2) (oi := _) (v := ?_) rfl (by kernel_rfl) (by kernel_rfl) (by kernel_rfl) (fun _ _ _ h => h) (Or.inl ⟨by rfl, ?_⟩) (by assumption) ?_
        rotate_left 1
        · intro w_ hSw
          go_simp
          try with_reducible rfl
        try simp only [Act.put]
        refine wpAnyH_ready (rs := [3, 8]) (by kernel_rfl) (by simp) ?_
        refine AllReadyH.cons (o := _) rfl (fun _ hK => ?_) ?_
        · go_simp
          refine (HLit X0).mono ?_
          rintro e X1 ⟨rfl, hbr⟩
          try go_simp
          refine hK.out _ _ (hHeld.trans (hbr.mono hHeld.size)) (fun hHeld => ?_)
          clear hbr
          clear hK
          try simp only [Act.put, List.setIfInBounds_toArray, List.set_cons_zero, List.set_cons_succ]
          refine wpAnyH_ready (rs := [4, 8]) (by kernel_rfl) (by simp) ?_
          refine AllReadyH.cons (o := _) rfl (fun _ hK => ?_) ?_
          · go_simp
            refine (HMt X1).mono ?_
            rintro e X2 ⟨rfl, hbr⟩
            try go_simp
            refine hK.out _ _ (hHeld.trans (hbr.mono hHeld.size)) (fun hHeld => ?_)
            clear hbr
            clear hK
            try simp only [Act.put, List.setIfInBounds_toArray, List.set_cons_zero, List.set_cons_succ]
            refine wpAnyH_take (i := 5) (oi := _) (v := ?_) rfl (by kernel_rfl) (by kernel_rfl) (by kernel_rfl) (fun _ _ _ h => h) (Or.inl ⟨by rfl, ?_⟩) (by assumption) ?_
            rotate_left 1
            · intro w_ hSw
              go_simp
              try with_reducible rfl
            try simp only [Act.put, List.setIfInBounds_toArray]
            refine wpAnyH_take (i := 6) (oi := _) (v := ?_) rfl (by kernel_rfl) (by kernel_rfl) (by kernel_rfl) (fun _ _ _ h => h) (Or.inl ⟨by rfl, ?_⟩) (by assumption) ?_
            rotate_left 1
            · intro w_ hSw
              go_simp
              try with_reducible rfl
            try simp only [Act.put]
            refine wpAnyH_take (i := 7) (oi := _) (v := ?_) rfl (by kernel_rfl) (by kernel_rfl) (by kernel_rfl) (fun _ _ _ h => h) (Or.inl ⟨by rfl, ?_⟩) (by assumption) ?_
            rotate_left 1
            · intro w_ hSw
              go_simp
              try with_reducible rfl
            try simp only [Act.put]
            refine wpAnyH_ready (rs := [8]) (by kernel_rfl) (by simp) ?_
            refine AllReadyH.cons (o := _) rfl (fun _ hK => ?_) AllReadyH.nil
            go_simp
            have nq := heap_alloc_new X2 (.cells #[.int .u8 0, .int .u8 0] 44)
            have hal := hHeld.alloc hHeld.size (.cells #[.int .u8 0, .int .u8 0] 44)
            have lq := hHeld.size
            generalize X2.heap.size = bq at *
            generalize X2.alloc (.cells #[.int .u8 0, .int .u8 0] 44) = X3 at *
            refine hK.out _ _ hal (fun hHeld => ?_)
            clear hal
            clear hK
            try simp only [Act.put, List.setIfInBounds_toArray, List.set_cons_zero, List.set_cons_succ]
            refine wpAnyH_ready (rs := [9]) (by kernel_rfl) (by simp) ?_
            refine AllReadyH.cons (o := _) rfl (fun _ hK => ?_) AllReadyH.nil
            obtain ⟨y0, y1, yf⟩ := now2 nq rfl
            go_simp
            clear y0 y1 yf
            refine hK.out _ _ ((hHeld.setCell (by show W4.heap.size ≤ bq; omega) _).setCell (by show W4.heap.size ≤ bq; omega) _) (fun hHeld => ?_)
            replace nq := put2 (x0 := .int .u8 ym.toNat) (x1 := .int .u8 yv.toNat) nq
            clear hK
            try simp only [Act.put, List.setIfInBounds_toArray, List.set_cons_zero, List.set_cons_succ]
            refine wpAnyH_ready (rs := [10]) (by kernel_rfl) (by simp) ?_
            refine AllReadyH.cons (o := _) rfl (fun _ hK => ?_) AllReadyH.nil
            go_simp
            refine hK.out _ _ hHeld (fun hHeld => ?_)
            clear hK
            try simp only [Act.put, List.setIfInBounds_toArray, List.set_cons_zero, List.set_cons_succ]
            refine wpAnyH_done (by kernel_rfl) ?_ _
            go_wp2_with fail
            go_meet
            exact ⟨bq, rfl, rfl, nq, hHeld⟩
          refine AllReadyH.cons (o := _) rfl (fun _ hK => ?_) AllReadyH.nil
          go_simp
          have nq := heap_alloc_new X1 (.cells #[.int .u8 0, .int .u8 0] 44)
          have hal := hHeld.alloc hHeld.size (.cells #[.int .u8 0, .int .u8 0] 44)
          have lq := hHeld.size
          generalize X1.heap.size = bq at *
          generalize X1.alloc (.cells #[.int .u8 0, .int .u8 0] 44) = X2 at *
          refine hK.out _ _ hal (fun hHeld => ?_)
          clear hal
          clear hK
          try simp only [Act.put, List.setIfInBounds_toArray, List.set_cons_zero, List.set_cons_succ]
          refine wpAnyH_ready (rs := [4]) (by kernel_rfl) (by simp) ?_
          refine AllReadyH.cons (o := _) rfl (fun _ hK => ?_) AllReadyH.nil
          go_simp
          refine (HMt X2).mono ?_
          rintro e X3 ⟨rfl, hbr⟩
          replace nq := keep_blk hbr nq
          try go_simp
          refine hK.out _ _ (hHeld.trans (hbr.mono hHeld.size)) (fun hHeld => ?_)
          clear hbr
          clear hK
          try simp only [Act.put, List.setIfInBounds_toArray, List.set_cons_zero, List.set_cons_succ]
          refine wpAnyH_take (i := 5) (oi := _) (v := ?_) rfl (by kernel_rfl) (by kernel_rfl) (by kernel_rfl) (fun _ _ _ h => h) (Or.inl ⟨by rfl, ?_⟩) (by assumption) ?_
          rotate_left 1
          · intro w_ hSw
            go_simp
            try with_reducible rfl
          try simp only [Act.put, List.setIfInBounds_toArray]
          refine wpAnyH_take (i := 6) (oi := _) (v := ?_) rfl (by kernel_rfl) (by kernel_rfl) (by kernel_rfl) (fun _ _ _ h => h) (Or.inl ⟨by rfl, ?_⟩) (by assumption) ?_
          rotate_left 1
          · intro w_ hSw
            go_simp
            try with_reducible rfl
          try simp only [Act.put]
          refine wpAnyH_take (i := 7) (oi := _) (v := ?_) rfl (by kernel_rfl) (by kernel_rfl) (by kernel_rfl) (fun _ _ _ h => h) (Or.inl ⟨by rfl, ?_⟩) (by assumption) ?_
          rotate_left 1
          · intro w_ hSw
            go_simp
            try with_reducible rfl
          try simp only [Act.put]
          refine wpAnyH_ready (rs := [9]) (by kernel_rfl) (by simp) ?_
          refine AllReadyH.cons (o := _) rfl (fun _ hK => ?_) AllReadyH.nil
          obtain ⟨y0, y1, yf⟩ := now2 nq rfl
          go_simp
          clear y0 y1 yf
          refine hK.out _ _ ((hHeld.setCell (by show W4.heap.size ≤ bq; omega) _).setCell (by show W4.heap.size ≤ bq; omega) _) (fun hHeld => ?_)
          replace nq := put2 (x0 := .int .u8 ym.toNat) (x1 := .int .u8 yv.toNat) nq
          clear hK
          try simp only [Act.put, List.setIfInBounds_toArray, List.set_cons_zero, List.set_cons_succ]
          refine wpAnyH_ready (rs := [10]) (by kernel_rfl) (by simp) ?_
          refine AllReadyH.cons (o := _) rfl (fun _ hK => ?_) AllReadyH.nil
          go_simp
          refine hK.out _ _ hHeld (fun hHeld => ?_)
          clear hK
          try simp only [Act.put, List.setIfInBounds_toArray, List.set_cons_zero, List.set_cons_succ]
          refine wpAnyH_done (by kernel_rfl) ?_ _
          go_wp2_with fail
          go_meet
          exact ⟨bq, rfl, rfl, nq, hHeld⟩
        refine AllReadyH.cons (o := _) rfl (fun _ hK => ?_) AllReadyH.nil
        go_simp
        have nq := heap_alloc_new X0 (.cells #[.int .u8 0, .int .u8 0] 44)
        have hal := hHeld.alloc hHeld.size (.cells #[.int .u8 0, .int .u8 0] 44)
        have lq := hHeld.size
        generalize X0.heap.size = bq at *
        generalize X0.alloc (.cells #[.int .u8 0, .int .u8 0] 44) = X1 at *
        refine hK.out _ _ hal (fun hHeld => ?_)
        clear hal
        clear hK
        try simp only [Act.put, List.setIfInBounds_toArray, List.set_cons_zero, List.set_cons_succ]
        refine wpAnyH_ready (rs := [3]) (by kernel_rfl) (by simp) ?_
        refine AllReadyH.cons (o := _) rfl (fun _ hK => ?_) AllReadyH.nil
        go_simp
        refine (HLit X1).mono ?_
        rintro e X2 ⟨rfl, hbr⟩
        replace nq := keep_blk hbr nq
        try go_simp
        refine hK.out _ _ (hHeld.trans (hbr.mono hHeld.size)) (fun hHeld => ?_)
        clear hbr
        clear hK
        try simp only [Act.put, List.setIfInBounds_toArray, List.set_cons_zero, List.set_cons_succ]
        refine wpAnyH_ready (rs := [4]) (by kernel_rfl) (by simp) ?_
        refine AllReadyH.cons (o := _) rfl (fun _ hK => ?_) AllReadyH.nil
        go_simp
        refine (HMt X2).mono ?_
        rintro e X3 ⟨rfl, hbr⟩
        replace nq := keep_blk hbr nq
        try go_simp
        refine hK.out _ _ (hHeld.trans (hbr.mono hHeld.size)) (fun hHeld => ?_)
        clear hbr
        clear hK
        try simp only [Act.put, List.setIfInBounds_toArray, List.set_cons_zero, List.set_cons_succ]
        refine wpAnyH_take (i := 5) (oi := _) (v := ?_) rfl (by kernel_rfl) (by kernel_rfl) (by kernel_rfl) (fun _ _ _ h => h) (Or.inl ⟨by rfl, ?_⟩) (by assumption) ?_
        rotate_left 1
        · intro w_ hSw
          go_simp
          try with_reducible rfl
        try simp only [Act.put, List.setIfInBounds_toArray]
        refine wpAnyH_take (i := 6) (oi := _) (v := ?_) rfl (by kernel_rfl) (by kernel_rfl) (by kernel_rfl) (fun _ _ _ h => h) (Or.inl ⟨by rfl, ?_⟩) (by assumption) ?_
        rotate_left 1
        · intro w_ hSw
          go_simp
          try with_reducible rfl
        try simp only [Act.put]
        refine wpAnyH_take (i := 7) (oi := _) (v := ?_) rfl (by kernel_rfl) (by kernel_rfl) (by kernel_rfl) (fun _ _ _ h => h) (Or.inl ⟨by rfl, ?_⟩) (by assumption) ?_
        rotate_left 1
        · intro w_ hSw
          go_simp
          try with_reducible rfl
        try simp only [Act.put]
        refine wpAnyH_ready (rs := [9]) (by kernel_rfl) (by simp) ?_
        refine AllReadyH.cons (o := _) rfl (fun _ hK => ?_) AllReadyH.nil
        obtain ⟨y0, y1, yf⟩ := now2 nq rfl
        go_simp
        clear y0 y1 yf
        refine hK.out _ _ ((hHeld.setCell (by show W4.heap.size ≤ bq; omega) _).setCell (by show W4.heap.size ≤ bq; omega) _) (fun hHeld => ?_)
        replace nq := put2 (x0 := .int .u8 ym.toNat) (x1 := .int .u8 yv.toNat) nq
        clear hK
        try simp only [Act.put, List.setIfInBounds_toArray, List.set_cons_zero, List.set_cons_succ]
        refine wpAnyH_ready (rs := [10]) (by kernel_rfl) (by simp) ?_
        refine AllReadyH.cons (o := _) rfl (fun _ hK => ?_) AllReadyH.nil
        go_simp
        refine hK.out _ _ hHeld (fun hHeld => ?_)
        clear hK
        try simp only [Act.put, List.setIfInBounds_toArray, List.set_cons_zero, List.set_cons_succ]
        refine wpAnyH_done (by kernel_rfl) ?_ _
        go_wp2_with fail
        go_meet
        exact ⟨bq, rfl, rfl, nq, hHeld⟩
      case rest =>
        obtain ⟨bq, rfl, rfl, hq, hc⟩ := hcut
        clear HMt HLit x0 x1 d0 hx4
        have hC5 := hC4.below hc
        have hR5 := keep_blk hc hR4
        have hV5 := keep_blk hc hV4
        have hrow5 := owns_below hrow4 hc
        have hl5 := owns_below hl4 hc
        have hB5 := hB4.trans (hc.mono (by have := hB4.size; omega))
        have hgl5 : g < wc.heap.size := Nat.lt_of_lt_of_le hgl4 hc.size
        clear hC4 hR4 hV4 hrow4 hl4 hB4 hgl4 hc
        obtain ⟨i0, hi0, hz0, hz1, hz2⟩ := info_parts Try.infoCube9
        obtain ⟨q0, q1, -⟩ := now2 hq rfl
        obtain ⟨v0, -⟩ := now1_12 hV5
        have hBsz := hB5.size
        go_upto_region 6 with (fail)
        go_wp2_with (at_builtin; go_loud (refine wpList_append_own_at _ rfl _ _ 33 rfl B 44 i0 (.agg #[.int .u8 0, .int .u8 0]) 2 2 Try.underlying33 hi0 hz0 hz1 hz2 rfl (by decide) _ _ _ rfl (hrow5.alloc _) ⟨wc.heap.size, 0, none⟩ 1 1 [.int .u8 ym.toNat, .int .u8 yv.toNat] rfl rfl ?c1 ?c2 ?c3 ?c4 ?c5 ?_))
        first | (case c1 => exact World.news_of_block (cs := #[.int .u8 ym.toNat, .int .u8 yv.toNat]) (t := 44) (fr := (0, 0)) (heap_alloc_new wc _)) | skip
        case c2 => exact ⟨rfl, rfl⟩
        case c3 => unfold maxLen; omega
        case c4 => omega
        case c5 => omega
        intro V6 w6 ho6 hg6 _ hat6
        have hCa := hC5.below (below_alloc1 wc (.cells #[.int .u8 ym.toNat, .int .u8 yv.toNat] 44))
        have hRa := keep_alloc (x := .cells #[.int .u8 ym.toNat, .int .u8 yv.toNat] 44) hR5
        have hVa := keep_alloc (x := .cells #[.int .u8 ym.toNat, .int .u8 yv.toNat] 44) hV5
        have hrowa := hrow5.alloc (.cells #[.int .u8 ym.toNat, .int .u8 yv.toNat] 44)
        have hla := hl5.alloc (.cells #[.int .u8 ym.toNat, .int .u8 yv.toNat] 44)
        have hBa := hB5.alloc (by omega) (.cells #[.int .u8 ym.toNat, .int .u8 yv.toNat] 44)
        have hga : g < (wc.alloc (.cells #[.int .u8 ym.toNat, .int .u8 yv.toNat] 44)).heap.size := by simp; omega
        have hwz : (wc.alloc (.cells #[.int .u8 ym.toNat, .int .u8 yv.toNat] 44)).heap.size = wc.heap.size + 1 := by simp
        clear hC5 hR5 hV5 hrow5 hl5 hB5 hgl5 v0 q0 q1 hq
        generalize wc.alloc _ = wa at *
        have hBaz : B ≤ wa.heap.size := by have := hBa.size; omega
        have hC6 := hCa.grown hrowa hg6
        have hR6 := grown_far12 hrowa hg6 hRa (by decide)
        have hV6 := grown_far12 hrowa hg6 hVa (by decide)
        have hl6 := hla.kept hg6 (.inr (fun e => hVl g rfl e.symm))
        have hB6 := grown_below hrowa hg6 hBa (Nat.le_refl _) hBaz
        have hne6 : ∀ g', (Value.slice (some ⟨g, 0, none⟩) L.length c).ownBlock = some g' → V6.ownBlock ≠ some g' := fun g' hg' e => by
          have eg : g = g' := by injection hg'
          subst eg
          rcases hat6 with h | h
          · exact hVl g rfl (h.symm.trans e)
          · rw [h] at e
            have e' := Option.some.inj e
            omega
        have ho7 : w6.ownsRow B 44 2 V6 (ys ++ [(⟨ym, yv⟩ : Cb)]).length (cbsV (ys ++ [(⟨ym, yv⟩ : Cb)])) := by
          rw [cbsV_snoc, List.length_append]
          exact ho6
        rw [← hsucc.out] at ho7
        have hC7 := hC6.put1 (x := V6) hV6
        have hR7 := keep_set (u := V6) (a := ⟨p11, 0, none⟩) (blk_ne12 hR6 hV6 (by decide)) hR6
        have hV7 := pt1_12 (x := V6) hV6
        have hrow7 := own_set ho7 (own_ne ho7 hV6 (by decide)) 0 V6
        have hl7 := own_set hl6 (own_ne hl6 hV6 (by decide)) 0 V6
        have hB7 := (hB6.setCell hB11 V6 : Below B w (w6.setCell ⟨p11, 0, none⟩ V6))
        have J := Lib.hid (And.intro hC7 (And.intro hR7 (And.intro hV7 (And.intro hrow7 (And.intro hl7 (And.intro hne6 hB7))))))
        obtain ⟨A6, c6, e6⟩ := own_form ho6
        obtain ⟨v0, vf⟩ := now1_12 hV6
        clear hCa hRa hVa hrowa hla hBa hga hC6 hR6 hl6 hB6 ho6 hg6 hat6 ho7 hC7 hR7 hV7 hrow7 hl7 hB7 hne6 hVl hsucc hV6
        subst e6
        go_wp2
        go_roundw
        case rel => exact ⟨k + 1, _, by omega, by go_num, J.out.1, J.out.2.1, J.out.2.2.1, J.out.2.2.2.1, J.out.2.2.2.2.1, J.out.2.2.2.2.2.1, J.out.2.2.2.2.2.2⟩
        case measure => simp [intOf]; omega
    · have e : k = L.length := by omega
      have hkd : decide ((k : Int) < (L.length : Int)) = false := decide_eq_false (by omega)
      rw [e, List.take_length] at hrow
      clear e hl hVl hrt hfr
      go_wp2
      go_end0
      exact ⟨rfl, V', hC, by rw [hRR.out]; exact hR, hV, hrow, hB⟩
end Go.Proofs.Ytnddepijbbchiaa
