/- The document's held and with of layer 12. -/
import Derived.Test.YtnddepijbbchiaaRsd12
import Derived.Test.YtnddepijbbchiaaCbs09
namespace Go.Proofs.Ytnddepijbbchiaa
open Go.RowKit Go.Joins

/-- The points of n inputs that cubes hold. -/
def heldN (n : Nat) (cs : List Cb) (p : Nat) : Bool := decide (p < 2 ^ n) && heldF cs p
theorem heldN_snoc (n : Nat) (cs : List Cb) (k : Nat) (x : Cb) (h : cs[k]? = some x) (p : Nat) (hn : n ≤ 8) :
    (heldN n (cs.take k) p || (cpts x.m x.v n 8).getLsbD p) = heldN n (cs.take (k + 1)) p := by
  unfold heldN
  rw [List.take_add_one, h, heldF_append, cpts_bit _ _ _ _ _ hn]
  show _ = (_ && (_ || heldF [x] p))
  have e : heldF [x] p = fits x.m x.v 8 p := by unfold heldF; simp
  rw [e]
  cases decide (p < 2 ^ n) <;> simp
set_option maxHeartbeats 2000000 in
set_option maxRecDepth 1000000 in
theorem held12_any (cs : List Cb) (n : Nat) (hn : n ≤ 8) (v : Value) (w : World) (h : CbsAt w w.heap.size v cs) :
    Calls Try.prog 35 #[v, .int .i64 n] w fun e w' => GivesF w (heldN n cs) e w' := by
  obtain ⟨A, c, rfl, hl, hcs⟩ := h
  have hmk := make256
  generalize hfa : flagsA (fun _ => false) = FA at hmk
  have hfa2 := Lib.hid hfa
  clear hfa
  have HP := fun m v w => rpoints_any m v n hn w
  have HF := fun S w => flags_any2 S w
  have HE := fun A B ba ca bb cb w hA hB => either12_any A B ba ca bb cb w hA hB
  go_enter Try.func35, Try.ntmps35
  go_wp2
  go_loopw [5, 6] (fun V t wr => ∃ k b : Nat, k ≤ cs.length ∧ t = .int .i64 k ∧ V = .slice (some ⟨b, 0, none⟩) 256 256 ∧ w.heap.size ≤ b ∧ FlAt wr b (heldN n (cs.take k)) ∧ Below w.heap.size w wr) (fun _ t _ => cs.length - (intOf t).toNat)
  case atStart =>
    refine ⟨0, _, by omega, rfl, rfl, Nat.le_refl _, ?_, below_alloc1 _ _⟩
    refine (FlAt.of_block (by rw [hfa2.out]; exact heap_alloc_new _ _)).ext fun p _ => ?_
    unfold heldN heldF; simp
  case round =>
    clear hfa2 hmk
    obtain ⟨k, b, hk, rfl, rfl, hbw, hfl, hb⟩ := hrel
    by_cases hlt : k < cs.length
    · obtain ⟨cb', off, rfl, hB, hc⟩ := hcs (by omega)
      obtain ⟨x, hx⟩ : ∃ x, cs[k]? = some x := ⟨_, List.getElem?_eq_getElem hlt⟩
      obtain ⟨x0, x1⟩ := hc k x hx
      have q0 := (hb.cell (p := ⟨cb', off + k * 2, none⟩) hB).trans x0
      have q1 := (hb.cell (p := ⟨cb', off + k * 2 + 1, none⟩) hB).trans x1
      have hst := Lib.hid (fun p => heldN_snoc n cs k x hx p hn)
      obtain ⟨m, v⟩ := x
      have HP1 := fun w => HP m v w
      unfold cv at HP1
      unfold bvv at q0 q1 HP1
      clear hx x0 x1 hc HP
      go_wp2_with fail
      refine (HP1 _).mono ?_
      rintro e w1 ⟨rfl, hb1⟩
      have k1 := hb.trans (hb1.mono hb.size)
      have f1 := hfl.below hb1 hfl.1
      clear q0 q1
      go_wp2_with fail
      refine (HF _ _).mono ?_
      rintro e w2 ⟨b2, c2, rfl, l2, h2, f2, hb2⟩
      have k2 := k1.trans (hb2.mono k1.size)
      have f1' := f1.below hb2 f1.1
      go_wp2_with fail
      refine (HE _ (fun p => (cpts m v n 8).getLsbD p) _ _ _ _ _ f1' ⟨h2, f2⟩).mono ?_
      rintro e w3 ⟨b3, rfl, l3, f3, hb3⟩
      have k3 := k2.trans (hb3.mono k2.size)
      clear hfl f1 f1' f2 hb1 hb2 hb3
      go_wp2
      go_roundw
      case rel => exact ⟨k + 1, b3, by omega, by go_num, rfl, Nat.le_trans k2.size l3, f3.ext fun p _ => hst.out p, k3⟩
      case measure => simp [intOf]; omega
    · have e : k = cs.length := by omega
      have e2 := Lib.hid e
      clear e
      go_wp2
      go_ret
      refine ⟨b, rfl, hbw, ?_, hb⟩
      rw [e2.out, List.take_length] at hfl
      exact hfl

/-- The literals of a cube, with one set. -/
def seG (m v : BitVec 8) (i : Nat) (b : Bool) (j : Nat) : Nat := if j = i then (if b = true then 1 else 0) else lit m v j
theorem seG_le (m v : BitVec 8) (i : Nat) (b : Bool) (j : Nat) : seG m v i b j ≤ 2 := by
  unfold seG
  split
  · split <;> omega
  · exact lit_le m v j
theorem seG_m (m v : BitVec 8) (i : Nat) (hi : i < 8) (b : Bool) : mB (seG m v i b) 8 = m ||| BitVec.twoPow 8 i := by
  apply BitVec.eq_of_getLsbD_eq
  intro j hj
  rw [mB_bit, BitVec.getLsbD_or, two_bit hi]
  unfold seG
  by_cases e : j = i
  · subst e
    cases b <;> simp [hj]
  · rw [if_neg e, decide_eq_false e, decide_eq_true hj, Bool.true_and, Bool.true_and, Bool.or_false]
    unfold lit
    cases m.getLsbD j <;> cases v.getLsbD j <;> rfl
theorem seG_v (m v : BitVec 8) (i : Nat) (hi : i < 8) (b : Bool) (h : v &&& m = v) : vB (seG m v i b) 8 = if b = true then v ||| BitVec.twoPow 8 i else drM v i := by
  apply BitVec.eq_of_getLsbD_eq
  intro j hj
  have hb := congrArg (fun z => z.getLsbD j) h
  simp only [BitVec.getLsbD_and] at hb
  rw [vB_bit, decide_eq_true hj, Bool.true_and, Bool.true_and]
  unfold seG
  by_cases e : j = i
  · subst e
    cases b
    · simp [drM_bit]
    · simp only [if_true, BitVec.getLsbD_or, two_bit hi]; simp
  · rw [if_neg e]
    have hl : decide (lit m v j = 1) = v.getLsbD j := by
      unfold lit
      revert hb
      cases m.getLsbD j <;> cases v.getLsbD j <;> simp
    rw [hl]
    cases b
    · simp [drM_bit, e]
    · simp only [if_true, BitVec.getLsbD_or, two_bit hi, decide_eq_false e, Bool.or_false]
theorem seG_at {w : World} {base g cap i : Nat} {m v : BitVec 8} (b : Bool) (h : w.ownsRow base 3 1 (.slice (some ⟨g, 0, none⟩) 8 cap) 8 (litV m v 8)) (hi : i < 8) :
    GAt (seG m v i b) 8 (some ⟨g, 0, none⟩) (w.setCell ⟨g, i, none⟩ (.int .i64 (if b = true then 1 else 0))) := by
  obtain ⟨o0, -⟩ := h.stored i (.int .i64 (if b = true then 1 else 0))
  intro j hj
  refine ⟨g, rfl, ?_⟩
  rw [o0.cellAt j (by omega)]
  unfold seG
  by_cases e : j = i
  · subst e
    rw [List.getElem?_set_self (by unfold litV; simpa using hi), if_pos rfl]
    cases b <;> rfl
  · rw [List.getElem?_set_ne (fun h => e h.symm), litV_get m v 8 j hj, if_neg e]
set_option maxHeartbeats 4000000 in
set_option maxRecDepth 1000000 in
theorem with12_any (cs : List Cb) (hcv : ∀ x ∈ cs, x.v &&& x.m = x.v) (i : Nat) (hi : i < 8) (b : Bool) (v : Value) (w : World) (h : CbsAt w w.heap.size v cs) (hlen : cs.length ≤ 1000000) :
    Calls Try.prog 37 #[v, .int .i64 i, .int .i64 (if b = true then 1 else 0)] w fun e w' => ∃ v', e = .returned v' ∧ w'.ownsRow w.heap.size 44 2 v' cs.length (cbsV (cs.map fun x => lit12 x i b)) ∧ Below w.heap.size w w' := by
  obtain ⟨A, c, rfl, hl, hcs⟩ := h
  obtain ⟨i0, hi0, hz0, hz1, hz2⟩ := info_parts Try.infoCube9
  have HL := fun m v w => lits_own m v w
  have HC := fun m v (w1 : World) (g cap : Nat) (h : GAt (seG m v i b) 8 (some ⟨g, 0, none⟩) w1) => rcube_any (seG m v i b) 8 (by omega) (fun j _ => seG_le m v i b j) (some ⟨g, 0, none⟩) cap w1 h
  have hsv := Lib.hid (fun (k : Nat) (x : Cb) (h : cs[k]? = some x) => seG_v x.m x.v i hi b (hcv x (List.mem_of_getElem? h)))
  have hat := Lib.hid (fun (w : World) (base g cap : Nat) (m v : BitVec 8) h => seG_at (w := w) (base := base) (g := g) (cap := cap) (m := m) (v := v) b h hi)
  generalize hlv : (if b = true then (1 : Int) else 0) = lv at *
  clear hlv hcv
  go_enter Try.func37, Try.ntmps37
  go_wp2
  go_loopw [7, 8] (fun V t wr => ∃ k : Nat, k ≤ cs.length ∧ t = .int .i64 k ∧ wr.ownsRow w.heap.size 44 2 V k (cbsV ((cs.take k).map fun x => lit12 x i b)) ∧ Below w.heap.size w wr) (fun _ t _ => cs.length - (intOf t).toNat)
  case atStart => exact ⟨0, by omega, rfl, World.ownsRow_nil _ _ _ _, Below.refl _ _⟩
  case round =>
    obtain ⟨k, hk, rfl, hown, hb⟩ := hrel
    by_cases hlt : k < cs.length
    · obtain ⟨cb', off, rfl, hB, hc⟩ := hcs (by omega)
      obtain ⟨x, hx⟩ : ∃ x, cs[k]? = some x := ⟨_, List.getElem?_eq_getElem hlt⟩
      obtain ⟨x0, x1⟩ := hc k x hx
      have q0 := (hb.cell (p := ⟨cb', off + k * 2, none⟩) hB).trans x0
      have q1 := (hb.cell (p := ⟨cb', off + k * 2 + 1, none⟩) hB).trans x1
      have hst : Hid ((cs.take (k + 1)).map (fun x => lit12 x i b) = (cs.take k).map (fun x => lit12 x i b) ++ [lit12 x i b]) := Lib.hid (by rw [List.take_add_one, hx, List.map_append]; rfl)
      have hv1 := hsv.out k x hx
      obtain ⟨m, v⟩ := x
      simp only at hv1 x0 x1 q0 q1
      have HC1 := HC m v
      rw [seG_m m v i hi b, hv1] at HC1
      have HL1 := HL m v
      have hat1 := Lib.hid (fun w base g cap h => hat.out w base g cap m v h)
      unfold cv at HL1
      unfold bvv at q0 q1 HL1
      clear hx x0 x1 hc HC HL hv1 hat hsv
      go_wp2_with fail
      refine (HL1 _).mono ?_
      rintro e w1 ⟨r, rfl, ho1, hb1⟩
      obtain ⟨g, cap, rfl⟩ := ownsRow_form ho1 (by decide)
      have hg := ho1.lt g rfl
      have df := ho1.frozenAt
      have hcl : ∃ u, w1.cell? ⟨g, i, none⟩ = some u := ⟨_, (ho1.cellAt i (by omega)).trans (litV_get m v 8 i hi)⟩
      obtain ⟨u, hu⟩ := hcl
      have hG := hat1.out _ _ g cap ho1
      have hgw : wr.heap.size ≤ g := hg.1
      have hb1' := hb1.setCell (p := ⟨g, i, none⟩) hgw (.int .i64 lv)
      have HC2 := HC1 _ g cap hG
      have hbz := hb.size
      have i0' : ¬ (i : Int) < 0 := by omega
      have i8 : (i : Int) < 8 := by omega
      clear ho1 hb1 HL1 HC1 hG hg hat1
      go_wp2_with fail
      refine HC2.mono ?_
      rintro e w2 ⟨rfl, hb2⟩
      have hb3 := hb1'.trans (hb2.mono hb1'.size)
      have k3 := hb.trans (hb3.mono hbz)
      have ho3 := owns_below hown hb3
      have s3 := k3.size
      clear HC2 hb1' hb2 hb3 hown hb df hu q0 q1
      generalize hlt12 : (lit12 ⟨m, v⟩ i b) = y at hst
      have hy1 : m ||| BitVec.twoPow 8 i = y.m := by rw [← hlt12]; rfl
      have hy2 : (if b = true then v ||| BitVec.twoPow 8 i else drM v i) = y.v := by rw [← hlt12]; rfl
      rw [hy1, hy2]
      clear hlt12 hy1 hy2
      obtain ⟨M, V⟩ := y
      unfold cv bvv
      go_wp2_with (at_builtin; go_loud (refine wpList_append_own _ rfl _ _ 33 rfl w.heap.size 44 i0 (.agg #[.int .u8 0, .int .u8 0]) 2 2 Try.underlying33 hi0 hz0 hz1 hz2 rfl (by decide) _ _ _ rfl (ho3.alloc _) ⟨w2.heap.size, 0, none⟩ 1 1 [.int .u8 M.toNat, .int .u8 V.toNat] rfl rfl ?c1 ?c2 ?c3 ?c4 ?c5 ?_))
      case c1 => exact World.news_of_block (cs := #[.int .u8 M.toNat, .int .u8 V.toNat]) (t := 44) (fr := (0, 0)) (heap_alloc_new w2 _)
      case c2 => intro u hu; simp at hu; rcases hu with rfl | rfl <;> rfl
      case c3 => unfold maxLen; omega
      case c4 => omega
      case c5 => simp; omega
      intro v' w8 ho8 hg8 _
      have hB8 := grown_below (ho3.alloc (.cells #[.int .u8 M.toNat, .int .u8 V.toNat] 44)) hg8 (k3.alloc s3 _) (Nat.le_refl _) (by simp; omega)
      have ho9 : w8.ownsRow w.heap.size 44 2 v' (k + 1) (cbsV ((cs.take (k + 1)).map fun x => lit12 x i b)) := by
        rw [hst.out, cbsV_snoc, List.map_take]
        exact ho8
      clear hg8 ho8 ho3 k3
      go_wp2
      go_roundw
      case rel => exact ⟨k + 1, by omega, by go_num, ho9, hB8⟩
      case measure => simp [intOf]; omega
    · have e : k = cs.length := by omega
      have e2 := Lib.hid e
      clear e
      go_wp2
      go_ret
      refine ⟨_, rfl, ?_, hb⟩
      rw [e2.out, List.take_length] at hown
      exact hown
end Go.Proofs.Ytnddepijbbchiaa
