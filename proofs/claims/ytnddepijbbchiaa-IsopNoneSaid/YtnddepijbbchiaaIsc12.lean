/- Package isop: cover, by recursion: the document's cover of sets. -/
import Derived.Test.YtnddepijbbchiaaIsb12
namespace Go.Proofs.Ytnddepijbbchiaa
open Go.RowKit Go.Joins

theorem below_alloc4_12 (w : World) (o1 o2 o3 o4 : Obj) : ((((w.alloc o1).alloc o2).alloc o3).alloc o4).heap[w.heap.size]? = some o1 ∧ ((((w.alloc o1).alloc o2).alloc o3).alloc o4).heap[w.heap.size + 1]? = some o2 ∧ ((((w.alloc o1).alloc o2).alloc o3).alloc o4).heap[w.heap.size + 1 + 1]? = some o3 ∧
    ((((w.alloc o1).alloc o2).alloc o3).alloc o4).heap[w.heap.size + 1 + 1 + 1]? = some o4 ∧ Below w.heap.size w ((((w.alloc o1).alloc o2).alloc o3).alloc o4) := by
  have hB := below_alloc3 w o1 o2 o3
  refine ⟨keep_alloc (heap_alloc3_a _ _ _ _), keep_alloc (heap_alloc3_b _ _ _ _), keep_alloc (heap_alloc3_c _ _ _ _), ?_, hB.alloc hB.size _⟩
  have e : w.heap.size + 1 + 1 + 1 = (((w.alloc o1).alloc o2).alloc o3).heap.size := by simp
  rw [e]
  exact heap_alloc_new _ _
theorem keep_set8 {w : World} {c b : Nat} {o : Obj} {x0 x1 x2 x3 x4 x5 x6 x7 : Value} (hne : b ≠ c) (h : w.heap[b]? = some o) :
    ((((((((w.setCell ⟨c, 0, none⟩ x0).setCell ⟨c, 1, none⟩ x1).setCell ⟨c, 2, none⟩ x2).setCell ⟨c, 3, none⟩ x3).setCell ⟨c, 4, none⟩ x4).setCell ⟨c, 5, none⟩ x5).setCell ⟨c, 6, none⟩ x6).setCell ⟨c, 7, none⟩ x7).heap[b]? = some o :=
  keep_set hne (keep_set hne (keep_set hne (keep_set hne (keep_set hne (keep_set hne (keep_set hne (keep_set hne h)))))))
theorem sid_fun12 {S : BitVec 256} {i : Nat} (hi : i < 8) (b : Bool) : bts (sidB S i b) = sideF (bts S) i b := by
  funext p
  show (sidB S i b).getLsbD p = _
  unfold sidB
  rw [if_pos ⟨by omega, by omega⟩, bvOf_bit, Int.toNat_natCast]
  by_cases h : p < 256
  · rw [decide_eq_true h, Bool.true_and]
  · rw [decide_eq_false h, Bool.false_and]
    have : ¬ sb12 p i b < 2 ^ 8 := fun q => h (sb12_back (n := 8) hi q)
    exact (BitVec.getLsbD_of_ge S _ (by omega)).symm
theorem bts_less12 (A B : BitVec 256) : bts (A &&& ~~~B) = fun p => bts A p && !bts B p := by
  funext p
  show (A &&& ~~~B).getLsbD p = (A.getLsbD p && !B.getLsbD p)
  rw [BitVec.getLsbD_and, BitVec.getLsbD_not]
  by_cases h : p < 256
  · rw [decide_eq_true h, Bool.true_and]
  · rw [BitVec.getLsbD_of_ge A p (by omega)]; rfl
theorem bts_and12 (A B : BitVec 256) : bts (A &&& B) = fun p => bts A p && bts B p := by
  funext p
  exact BitVec.getLsbD_and
theorem bts_or12 (A B : BitVec 256) : bts (A ||| B) = fun p => bts A p || bts B p := by
  funext p
  exact BitVec.getLsbD_or
theorem empty12_iff (S : BitVec 256) : emptyF (bts S) = true ↔ S = 0 := by
  rw [emptyF_iff (fun p hp => by
    rcases Nat.lt_or_ge p 256 with h | h
    · exact h
    · rw [show bts S p = S.getLsbD p from rfl, BitVec.getLsbD_of_ge S p h] at hp; cases hp)]
  constructor
  · intro h
    apply BitVec.eq_of_getLsbD_eq
    intro p _
    rw [show S.getLsbD p = bts S p from rfl, h]
    simp
  · intro h p
    rw [h]
    simp [bts]
theorem full12_iff {n : Nat} (hn : n ≤ 8) {M : BitVec 256} (hM : ∀ p, bts M p = true → p < 2 ^ n) : fullF n (bts M) = true ↔ M = allB n := by
  unfold fullF
  rw [List.all_eq_true]
  have h8 : 2 ^ n ≤ 256 := Nat.pow_le_pow_right (n := 2) (by decide) hn
  constructor
  · intro h
    apply BitVec.eq_of_getLsbD_eq
    intro p hp
    unfold allB
    rw [bvOf_bit, decide_eq_true hp, Bool.true_and]
    by_cases hl : p < 2 ^ n
    · rw [decide_eq_true hl]; exact h p (List.mem_range.2 hl)
    · rw [decide_eq_false hl, Bool.eq_false_iff]
      intro hh
      exact hl (hM p hh)
  · intro h p hp
    have hl := List.mem_range.1 hp
    rw [h]
    show (allB n).getLsbD p = true
    unfold allB
    rw [bvOf_bit, decide_eq_true hl, decide_eq_true (by omega)]; rfl
/-- What one level makes, of sets. -/
theorem iso_sets12 {n f i : Nat} {S M : BitVec 256} (h : Iso n i (bts S) (bts M)) (hi : i < n) (he : ¬ S = 0) (hu : ¬ M = allB n) (La Lb : List Cb)
    (ha : La = isoF n f (bts (sidB S i false &&& ~~~sidB M i true)) (bts (sidB M i false)) (i + 1)) (hb : Lb = isoF n f (bts (sidB S i true &&& ~~~sidB M i false)) (bts (sidB M i true)) (i + 1)) :
    isoF n (f + 1) (bts S) (bts M) i = (La.map fun x => lit12 x i false) ++ (Lb.map fun x => lit12 x i true) ++ isoF n f (bts ((0 ||| (sidB S i false &&& ~~~ptsU n La (-1) La.length)) ||| (sidB S i true &&& ~~~ptsU n Lb (-1) Lb.length))) (bts (sidB M i false &&& sidB M i true)) (i + 1) := by
  have h8 := h.n8
  have hi8 : i < 8 := by omega
  have e1 : ¬ emptyF (bts S) = true := fun q => he ((empty12_iff S).1 q)
  have e2 : ¬ fullF n (bts M) = true := fun q => hu ((full12_iff h8 h.low).1 q)
  rw [bts_less12, sid_fun12 hi8, sid_fun12 hi8, sid_fun12 hi8] at ha hb
  have hc : bts ((0 ||| (sidB S i false &&& ~~~ptsU n La (-1) La.length)) ||| (sidB S i true &&& ~~~ptsU n Lb (-1) Lb.length)) = fun p => (sideF (bts S) i false p && !heldF La p) || (sideF (bts S) i true p && !heldF Lb p) := by
    rw [bts_or12, bts_or12, bts_less12, bts_less12, sid_fun12 hi8, sid_fun12 hi8]
    funext p
    show ((bts 0 p || (sideF (bts S) i false p && !bts (ptsU n La (-1) La.length) p)) || (sideF (bts S) i true p && !bts (ptsU n Lb (-1) Lb.length) p)) = _
    rw [show bts 0 p = false from by simp [bts], Bool.false_or, show bts (ptsU n La (-1) La.length) p = heldN n La p from pts_all n h8 La p, show bts (ptsU n Lb (-1) Lb.length) p = heldN n Lb p from pts_all n h8 Lb p]
    exact heldN_rest h hi La Lb p
  rw [hc, bts_and12, sid_fun12 hi8, sid_fun12 hi8]
  conv => lhs; unfold isoF
  rw [if_neg e1, if_neg e2]
  simp only
  rw [← ha, ← hb]
theorem iso_a12 {n i : Nat} {S M : BitVec 256} (h : Iso n i (bts S) (bts M)) (hi : i < n) : Iso n (i + 1) (bts (sidB S i false &&& ~~~sidB M i true)) (bts (sidB M i false)) := by
  have h8 := h.n8
  have hi8 : i < 8 := by omega
  rw [bts_less12, sid_fun12 hi8, sid_fun12 hi8, sid_fun12 hi8]
  exact iso_half h hi false
theorem iso_b12 {n i : Nat} {S M : BitVec 256} (h : Iso n i (bts S) (bts M)) (hi : i < n) : Iso n (i + 1) (bts (sidB S i true &&& ~~~sidB M i false)) (bts (sidB M i true)) := by
  have h8 := h.n8
  have hi8 : i < 8 := by omega
  rw [bts_less12, sid_fun12 hi8, sid_fun12 hi8, sid_fun12 hi8]
  exact iso_half h hi true
theorem iso_c12 {n f i : Nat} {S M : BitVec 256} (h : Iso n i (bts S) (bts M)) (hi : i < n) (hf : n < f + (i + 1)) (La Lb : List Cb)
    (ha : La = isoF n f (bts (sidB S i false &&& ~~~sidB M i true)) (bts (sidB M i false)) (i + 1)) (hb : Lb = isoF n f (bts (sidB S i true &&& ~~~sidB M i false)) (bts (sidB M i true)) (i + 1)) :
    Iso n (i + 1) (bts ((0 ||| (sidB S i false &&& ~~~ptsU n La (-1) La.length)) ||| (sidB S i true &&& ~~~ptsU n Lb (-1) Lb.length))) (bts (sidB M i false &&& sidB M i true)) := by
  have h8 := h.n8
  have hi8 : i < 8 := by omega
  have hIa := iso_is n f _ _ (i + 1) hf (iso_a12 h hi)
  have hIb := iso_is n f _ _ (i + 1) hf (iso_b12 h hi)
  rw [← ha] at hIa
  rw [← hb] at hIb
  rw [bts_less12, sid_fun12 hi8, sid_fun12 hi8, sid_fun12 hi8] at hIa hIb
  have hc : bts ((0 ||| (sidB S i false &&& ~~~ptsU n La (-1) La.length)) ||| (sidB S i true &&& ~~~ptsU n Lb (-1) Lb.length)) = fun p => (sideF (bts S) i false p && !heldF La p) || (sideF (bts S) i true p && !heldF Lb p) := by
    rw [bts_or12, bts_or12, bts_less12, bts_less12, sid_fun12 hi8, sid_fun12 hi8]
    funext p
    show ((bts 0 p || (sideF (bts S) i false p && !bts (ptsU n La (-1) La.length) p)) || (sideF (bts S) i true p && !bts (ptsU n Lb (-1) Lb.length) p)) = _
    rw [show bts 0 p = false from by simp [bts], Bool.false_or, show bts (ptsU n La (-1) La.length) p = heldN n La p from pts_all n h8 La p, show bts (ptsU n Lb (-1) Lb.length) p = heldN n Lb p from pts_all n h8 Lb p]
    exact heldN_rest h hi La Lb p
  rw [hc, bts_and12, sid_fun12 hi8, sid_fun12 hi8]
  exact iso_rest h hi hIa hIb
/-- A row of one cube, laid anew. -/
theorem own_one12 (w : World) : (w.alloc (.cells #[.int .u8 0, .int .u8 0] 44)).ownsRow w.heap.size 44 2 (.slice (some ⟨w.heap.size, 0, none⟩) 1 1) ([⟨0, 0⟩] : List Cb).length (cbsV [⟨0, 0⟩]) :=
  ⟨rfl, .inr ⟨w.heap.size, 1, #[.int .u8 0, .int .u8 0], rfl, Nat.le_refl _, heap_alloc_new _ _, by decide, by decide, rfl, rfl⟩⟩
set_option maxHeartbeats 8000000 in
set_option maxRecDepth 1000000 in
theorem icover_any (n : Nat) (hn : n ≤ 8) : ∀ (f : Nat), f ≤ 9 → IsoC n f
  | 0, _ => fun _ _ i _ hf h => absurd h.le (by omega)
  | f + 1, hf9 => by
    have IH := icover_any n hn f (by omega)
    intro S M i w hf h
    have E1 := fun w => eq4_zero S w
    have E2 := fun w => eq4_set M (allB n) w
    have hW := below_alloc4_12 w (.cells (spcV n) 55) (.cells (sa S) 24) (.cells (sa M) 24) (.cells #[.int .i64 i] 3)
    obtain ⟨hb4, hb5, hb6, hb7, hB⟩ := hW
    by_cases he : S = 0
    · rw [decide_eq_true he] at E1
      have hL : isoF n (f + 1) (bts S) (bts M) i = [] := by
        unfold isoF
        rw [if_pos ((empty12_iff S).2 he)]
      rw [hL]
      clear hL he IH E2
      unfold spcV sv sa wv at *
      go_enter Try.func30, Try.ntmps30
      go_upto_region 1 with (fail)
      generalize (((w.alloc _).alloc _).alloc _).alloc _ = W at *
      obtain ⟨s0, s1, s2, s3, -⟩ := now4 hb5 rfl
      clear hb4 hb5 hb6 hb7
      go_wp2
      go_ret
      exact ⟨_, rfl, World.ownsRow_nil _ _ _ _, hB⟩
    · rw [decide_eq_false he] at E1
      by_cases hu : M = allB n
      · rw [decide_eq_true hu] at E2
        have hL : isoF n (f + 1) (bts S) (bts M) i = [⟨0, 0⟩] := by
          unfold isoF
          rw [if_neg (fun q => he ((empty12_iff S).1 q)), if_pos ((full12_iff hn h.low).2 hu)]
        rw [hL]
        clear hL he hu IH
        unfold spcV sv sa wv at *
        go_enter Try.func30, Try.ntmps30
        go_upto_region 1 with (fail)
        generalize (((w.alloc _).alloc _).alloc _).alloc _ = W at *
        obtain ⟨s0, s1, s2, s3, -⟩ := now4 hb5 rfl
        obtain ⟨t0, t1, t2, t3, -⟩ := now4 hb6 rfl
        obtain ⟨-, p1, p2, p3, p4, -⟩ := now5 hb4
        clear hb4 hb5 hb6 hb7
        go_wp2
        go_ret
        exact ⟨_, rfl, own_more (own_one12 W) hB.size, hB.trans ((below_alloc1 W _).mono hB.size)⟩
      · rw [decide_eq_false hu] at E2
        have hi : i < n := by
          refine fullF_no h (p := (Classical.byContradiction fun hn => he ((empty12_iff S).1 ((emptyF_iff (fun p hp => ?_)).2 fun p => ?_)) : ∃ p, bts S p = true).choose) ?_ (Bool.eq_false_iff.2 fun q => hu ((full12_iff hn h.low).1 q))
          · exact Nat.lt_of_lt_of_le (h.low p (h.sub p hp)) (Nat.pow_le_pow_right (n := 2) (by decide) h.n8)
          · rw [Bool.eq_false_iff]
            exact fun hp => hn ⟨p, hp⟩
          · exact (Classical.byContradiction fun hn => he ((empty12_iff S).1 ((emptyF_iff (fun p hp => Nat.lt_of_lt_of_le (h.low p (h.sub p hp)) (Nat.pow_le_pow_right (n := 2) (by decide) h.n8))).2 fun p => by
              rw [Bool.eq_false_iff]
              exact fun hp => hn ⟨p, hp⟩)) : ∃ p, bts S p = true).choose_spec
        have hiA := iso_a12 h hi
        have hiB := iso_b12 h hi
        have hiC := fun La Lb ha hb => iso_c12 (f := f) h hi (by omega) La Lb ha hb
        have hL := fun La Lb ha hb => iso_sets12 (f := f) h hi he hu La Lb ha hb
        have HBs := fun w => both_any S i w
        have HBm := fun w => both_any M i w
        have i0' : (n : Nat) < f + (i + 1) := by omega
        clear he hu h hf
        obtain ⟨La, hLa⟩ : ∃ La, La = isoF n f (bts (sidB S i false &&& ~~~sidB M i true)) (bts (sidB M i false)) (i + 1) := ⟨_, rfl⟩
        obtain ⟨Lb, hLb⟩ : ∃ Lb, Lb = isoF n f (bts (sidB S i true &&& ~~~sidB M i false)) (bts (sidB M i true)) (i + 1) := ⟨_, rfl⟩
        have hL := hL La Lb hLa hLb
        have hiC := hiC La Lb hLa hLb
        have hla : La.length ≤ 6561 := by rw [hLa]; exact Nat.le_trans (iso_len n f _ _ _) (Nat.pow_le_pow_right (n := 3) (by decide) (show f ≤ 8 by omega))
        have hlb : Lb.length ≤ 6561 := by rw [hLb]; exact Nat.le_trans (iso_len n f _ _ _) (Nat.pow_le_pow_right (n := 3) (by decide) (show f ≤ 8 by omega))
        obtain ⟨Z, hZ⟩ : ∃ Z, Z = isoF n (f + 1) (bts S) (bts M) i := ⟨_, rfl⟩
        rw [← hZ]
        rw [hL] at hZ
        clear hL
        generalize sidB S i false = O0 at *
        generalize sidB S i true = O1 at *
        generalize sidB M i false = M0 at *
        generalize sidB M i true = M1 at *
        unfold sdV at HBs HBm
        unfold spcV sv sa wv at *
        go_enter Try.func30, Try.ntmps30
        go_upto_region 1 with (fail)
        generalize (((w.alloc _).alloc _).alloc _).alloc _ = W at *
        obtain ⟨s0, s1, s2, s3, -⟩ := now4 hb5 rfl
        obtain ⟨t0, t1, t2, t3, -⟩ := now4 hb6 rfl
        obtain ⟨-, p1, p2, p3, p4, -⟩ := now5 hb4
        go_upto_region 5 with (fail)
        clear s0 s1 s2 s3 t0 t1 t2 t3 p1 p2 p3 p4 E1 E2
        obtain ⟨s0, s1, s2, s3, -⟩ := box4 hb5 rfl
        obtain ⟨t0, t1, t2, t3, -⟩ := box4 hb6 rfl
        have j0 := box1_12 hb7
        go_cut [9, 10] from 25 to 31 (fun s9 s10 wc => ∃ bp bq : Nat, s9 = .pointer (some ⟨bp, 0, none⟩) ∧ s10 = .pointer (some ⟨bq, 0, none⟩) ∧ wc.heap[bp]? = some (.cells #[.int .u64 (wd O0 0).toNat, .int .u64 (wd O0 1).toNat, .int .u64 (wd O0 2).toNat, .int .u64 (wd O0 3).toNat, .int .u64 (wd O1 0).toNat, .int .u64 (wd O1 1).toNat, .int .u64 (wd O1 2).toNat, .int .u64 (wd O1 3).toNat] 74 (0, 0)) ∧ wc.heap[bq]? = some (.cells #[.int .u64 (wd M0 0).toNat, .int .u64 (wd M0 1).toNat, .int .u64 (wd M0 2).toNat, .int .u64 (wd M0 3).toNat, .int .u64 (wd M1 0).toNat, .int .u64 (wd M1 1).toNat, .int .u64 (wd M1 2).toNat, .int .u64 (wd M1 3).toNat] 74 (0, 0)) ∧ Below W.heap.size W wc)
        case first =>
          clear hZ hiC hiA hiB hLa hLb hla hlb IH hb4 hB
          refine wp_region_held_drew (S := fun W_ => Below W.heap.size W W_) rfl (Below.refl _ W).drew (fun hHeld => ?_)
          obtain ⟨X0, hX0⟩ : ∃ X0, X0 = W.drew := ⟨_, rfl⟩
          rw [← hX0] at hHeld ⊢
          clear hX0
          refine wpAnyH_take (i := 0) (oi := _) (v := ?_) rfl (by kernel_rfl) (by kernel_rfl) (by kernel_rfl) (fun _ _ _ h => h) (Or.inl ⟨by rfl, ?_⟩) (by assumption) ?_
          rotate_left 1
          · intro w_ hSw
            have q_s0 := s0 ⟨w_, hSw⟩
            have q_s1 := s1 ⟨w_, hSw⟩
            have q_s2 := s2 ⟨w_, hSw⟩
            have q_s3 := s3 ⟨w_, hSw⟩
            dsimp only at q_s0 q_s1 q_s2 q_s3
            go_simp
            try with_reducible rfl
          try simp only [Act.put, List.setIfInBounds_toArray]
          refine wpAnyH_take (i := 1) (oi := _) (v := ?_) rfl (by kernel_rfl) (by kernel_rfl) (by kernel_rfl) (fun _ _ _ h => h) (Or.inl ⟨by rfl, ?_⟩) (by assumption) ?_
          rotate_left 1
          · intro w_ hSw
            have q_j0 := j0 ⟨w_, hSw⟩
            dsimp only at q_j0
            go_simp
            try with_reducible rfl
          try simp only [Act.put]
          refine wpAnyH_take (i := 3) (oi := _) (v := ?_) rfl (by kernel_rfl) (by kernel_rfl) (by kernel_rfl) (fun _ _ _ h => h) (Or.inl ⟨by rfl, ?_⟩) (by assumption) ?_
          rotate_left 1
          · intro w_ hSw
            have q_t0 := t0 ⟨w_, hSw⟩
            have q_t1 := t1 ⟨w_, hSw⟩
            have q_t2 := t2 ⟨w_, hSw⟩
            have q_t3 := t3 ⟨w_, hSw⟩
            dsimp only at q_t0 q_t1 q_t2 q_t3
            go_simp
            try with_reducible rfl
          try simp only [Act.put]
          refine wpAnyH_take (i := 4) (oi := _) (v := ?_) rfl (by kernel_rfl) (by kernel_rfl) (by kernel_rfl) (fun _ _ _ h => h) (Or.inl ⟨by rfl, ?_⟩) (by assumption) ?_
          rotate_left 1
          · intro w_ hSw
            have q_j0 := j0 ⟨w_, hSw⟩
            dsimp only at q_j0
            go_simp
            try with_reducible rfl
          try simp only [Act.put]
          refine wpAnyH_ready (rs := [2, 6, 7]) (by kernel_rfl) (by simp) ?_
          refine AllReadyH.cons (o := _) rfl (fun _ hK => ?_) ?_
          · go_simp
            refine (HBs X0).mono ?_
            rintro e X1 ⟨rfl, hbr⟩
            try go_simp
            refine hK.out _ _ (hHeld.trans (hbr.mono hHeld.size)) (fun hHeld => ?_)
            clear hbr
            clear hK
            try simp only [Act.put, List.setIfInBounds_toArray, List.set_cons_zero, List.set_cons_succ]
            refine wpAnyH_ready (rs := [5, 6, 7]) (by kernel_rfl) (by simp) ?_
            refine AllReadyH.cons (o := _) rfl (fun _ hK => ?_) ?_
            · go_simp
              refine (HBm X1).mono ?_
              rintro e X2 ⟨rfl, hbr⟩
              try go_simp
              refine hK.out _ _ (hHeld.trans (hbr.mono hHeld.size)) (fun hHeld => ?_)
              clear hbr
              clear hK
              try simp only [Act.put, List.setIfInBounds_toArray, List.set_cons_zero, List.set_cons_succ]
              refine wpAnyH_ready (rs := [6, 7]) (by kernel_rfl) (by simp) ?_
              refine AllReadyH.cons (o := _) rfl (fun _ hK => ?_) ?_
              · go_simp
                have np := heap_alloc_new X2 (.cells #[.int .u64 0, .int .u64 0, .int .u64 0, .int .u64 0, .int .u64 0, .int .u64 0, .int .u64 0, .int .u64 0] 74)
                have hal := hHeld.alloc hHeld.size (.cells #[.int .u64 0, .int .u64 0, .int .u64 0, .int .u64 0, .int .u64 0, .int .u64 0, .int .u64 0, .int .u64 0] 74)
                have lp := hHeld.size
                generalize X2.heap.size = bp at *
                generalize X2.alloc (.cells #[.int .u64 0, .int .u64 0, .int .u64 0, .int .u64 0, .int .u64 0, .int .u64 0, .int .u64 0, .int .u64 0] 74) = X3 at *
                refine hK.out _ _ hal (fun hHeld => ?_)
                clear hal
                clear hK
                try simp only [Act.put, List.setIfInBounds_toArray, List.set_cons_zero, List.set_cons_succ]
                refine wpAnyH_ready (rs := [7]) (by kernel_rfl) (by simp) ?_
                refine AllReadyH.cons (o := _) rfl (fun _ hK => ?_) AllReadyH.nil
                go_simp
                have nq := heap_alloc_new X3 (.cells #[.int .u64 0, .int .u64 0, .int .u64 0, .int .u64 0, .int .u64 0, .int .u64 0, .int .u64 0, .int .u64 0] 74)
                have hal := hHeld.alloc hHeld.size (.cells #[.int .u64 0, .int .u64 0, .int .u64 0, .int .u64 0, .int .u64 0, .int .u64 0, .int .u64 0, .int .u64 0] 74)
                have lq := hHeld.size
                have dpq := size_of_block np
                replace np := keep_alloc (x := .cells #[.int .u64 0, .int .u64 0, .int .u64 0, .int .u64 0, .int .u64 0, .int .u64 0, .int .u64 0, .int .u64 0] 74) np
                generalize X3.heap.size = bq at *
                generalize X3.alloc (.cells #[.int .u64 0, .int .u64 0, .int .u64 0, .int .u64 0, .int .u64 0, .int .u64 0, .int .u64 0, .int .u64 0] 74) = X4 at *
                refine hK.out _ _ hal (fun hHeld => ?_)
                clear hal
                clear hK
                try simp only [Act.put, List.setIfInBounds_toArray, List.set_cons_zero, List.set_cons_succ]
                refine wpAnyH_ready (rs := [8]) (by kernel_rfl) (by simp) ?_
                refine AllReadyH.cons (o := _) rfl (fun _ hK => ?_) AllReadyH.nil
                obtain ⟨y0, y1, y2, y3, y4, y5, y6, y7, yf⟩ := now8 np
                go_simp
                clear y0 y1 y2 y3 y4 y5 y6 y7 yf
                refine hK.out _ _ ((((((((hHeld.setCell (by show W.heap.size ≤ bp; omega) _).setCell (by show W.heap.size ≤ bp; omega) _).setCell (by show W.heap.size ≤ bp; omega) _).setCell (by show W.heap.size ≤ bp; omega) _).setCell (by show W.heap.size ≤ bp; omega) _).setCell (by show W.heap.size ≤ bp; omega) _).setCell (by show W.heap.size ≤ bp; omega) _).setCell (by show W.heap.size ≤ bp; omega) _) (fun hHeld => ?_)
                replace np := put8 (x0 := .int .u64 (wd O0 0).toNat) (x1 := .int .u64 (wd O0 1).toNat) (x2 := .int .u64 (wd O0 2).toNat) (x3 := .int .u64 (wd O0 3).toNat) (x4 := .int .u64 (wd O1 0).toNat) (x5 := .int .u64 (wd O1 1).toNat) (x6 := .int .u64 (wd O1 2).toNat) (x7 := .int .u64 (wd O1 3).toNat) np
                replace nq := keep_set8 (c := bp) (x0 := .int .u64 (wd O0 0).toNat) (x1 := .int .u64 (wd O0 1).toNat) (x2 := .int .u64 (wd O0 2).toNat) (x3 := .int .u64 (wd O0 3).toNat) (x4 := .int .u64 (wd O1 0).toNat) (x5 := .int .u64 (wd O1 1).toNat) (x6 := .int .u64 (wd O1 2).toNat) (x7 := .int .u64 (wd O1 3).toNat) (by omega) nq
                generalize (((((((X4.setCell _ _).setCell _ _).setCell _ _).setCell _ _).setCell _ _).setCell _ _).setCell _ _).setCell _ _ = X5 at *
                clear hK
                try simp only [Act.put, List.setIfInBounds_toArray, List.set_cons_zero, List.set_cons_succ]
                refine wpAnyH_ready (rs := [9]) (by kernel_rfl) (by simp) ?_
                refine AllReadyH.cons (o := _) rfl (fun _ hK => ?_) AllReadyH.nil
                obtain ⟨y0, y1, y2, y3, y4, y5, y6, y7, yf⟩ := now8 nq
                go_simp
                clear y0 y1 y2 y3 y4 y5 y6 y7 yf
                refine hK.out _ _ ((((((((hHeld.setCell (by show W.heap.size ≤ bq; omega) _).setCell (by show W.heap.size ≤ bq; omega) _).setCell (by show W.heap.size ≤ bq; omega) _).setCell (by show W.heap.size ≤ bq; omega) _).setCell (by show W.heap.size ≤ bq; omega) _).setCell (by show W.heap.size ≤ bq; omega) _).setCell (by show W.heap.size ≤ bq; omega) _).setCell (by show W.heap.size ≤ bq; omega) _) (fun hHeld => ?_)
                replace nq := put8 (x0 := .int .u64 (wd M0 0).toNat) (x1 := .int .u64 (wd M0 1).toNat) (x2 := .int .u64 (wd M0 2).toNat) (x3 := .int .u64 (wd M0 3).toNat) (x4 := .int .u64 (wd M1 0).toNat) (x5 := .int .u64 (wd M1 1).toNat) (x6 := .int .u64 (wd M1 2).toNat) (x7 := .int .u64 (wd M1 3).toNat) nq
                replace np := keep_set8 (c := bq) (x0 := .int .u64 (wd M0 0).toNat) (x1 := .int .u64 (wd M0 1).toNat) (x2 := .int .u64 (wd M0 2).toNat) (x3 := .int .u64 (wd M0 3).toNat) (x4 := .int .u64 (wd M1 0).toNat) (x5 := .int .u64 (wd M1 1).toNat) (x6 := .int .u64 (wd M1 2).toNat) (x7 := .int .u64 (wd M1 3).toNat) (by omega) np
                generalize (((((((X5.setCell _ _).setCell _ _).setCell _ _).setCell _ _).setCell _ _).setCell _ _).setCell _ _).setCell _ _ = X6 at *
                clear hK
                try simp only [Act.put, List.setIfInBounds_toArray, List.set_cons_zero, List.set_cons_succ]
                refine wpAnyH_done (by kernel_rfl) ?_ _
                go_wp2_with fail
                go_meet
                exact ⟨bp, bq, rfl, rfl, np, nq, hHeld⟩
              refine AllReadyH.cons (o := _) rfl (fun _ hK => ?_) AllReadyH.nil
              go_simp
              have nq := heap_alloc_new X2 (.cells #[.int .u64 0, .int .u64 0, .int .u64 0, .int .u64 0, .int .u64 0, .int .u64 0, .int .u64 0, .int .u64 0] 74)
              have hal := hHeld.alloc hHeld.size (.cells #[.int .u64 0, .int .u64 0, .int .u64 0, .int .u64 0, .int .u64 0, .int .u64 0, .int .u64 0, .int .u64 0] 74)
              have lq := hHeld.size
              generalize X2.heap.size = bq at *
              generalize X2.alloc (.cells #[.int .u64 0, .int .u64 0, .int .u64 0, .int .u64 0, .int .u64 0, .int .u64 0, .int .u64 0, .int .u64 0] 74) = X3 at *
              refine hK.out _ _ hal (fun hHeld => ?_)
              clear hal
              clear hK
              try simp only [Act.put, List.setIfInBounds_toArray, List.set_cons_zero, List.set_cons_succ]
              refine wpAnyH_ready (rs := [6]) (by kernel_rfl) (by simp) ?_
              refine AllReadyH.cons (o := _) rfl (fun _ hK => ?_) AllReadyH.nil
              go_simp
              have np := heap_alloc_new X3 (.cells #[.int .u64 0, .int .u64 0, .int .u64 0, .int .u64 0, .int .u64 0, .int .u64 0, .int .u64 0, .int .u64 0] 74)
              have hal := hHeld.alloc hHeld.size (.cells #[.int .u64 0, .int .u64 0, .int .u64 0, .int .u64 0, .int .u64 0, .int .u64 0, .int .u64 0, .int .u64 0] 74)
              have lp := hHeld.size
              have dqp := size_of_block nq
              replace nq := keep_alloc (x := .cells #[.int .u64 0, .int .u64 0, .int .u64 0, .int .u64 0, .int .u64 0, .int .u64 0, .int .u64 0, .int .u64 0] 74) nq
              generalize X3.heap.size = bp at *
              generalize X3.alloc (.cells #[.int .u64 0, .int .u64 0, .int .u64 0, .int .u64 0, .int .u64 0, .int .u64 0, .int .u64 0, .int .u64 0] 74) = X4 at *
              refine hK.out _ _ hal (fun hHeld => ?_)
              clear hal
              clear hK
              try simp only [Act.put, List.setIfInBounds_toArray, List.set_cons_zero, List.set_cons_succ]
              refine wpAnyH_ready (rs := [8]) (by kernel_rfl) (by simp) ?_
              refine AllReadyH.cons (o := _) rfl (fun _ hK => ?_) AllReadyH.nil
              obtain ⟨y0, y1, y2, y3, y4, y5, y6, y7, yf⟩ := now8 np
              go_simp
              clear y0 y1 y2 y3 y4 y5 y6 y7 yf
              refine hK.out _ _ ((((((((hHeld.setCell (by show W.heap.size ≤ bp; omega) _).setCell (by show W.heap.size ≤ bp; omega) _).setCell (by show W.heap.size ≤ bp; omega) _).setCell (by show W.heap.size ≤ bp; omega) _).setCell (by show W.heap.size ≤ bp; omega) _).setCell (by show W.heap.size ≤ bp; omega) _).setCell (by show W.heap.size ≤ bp; omega) _).setCell (by show W.heap.size ≤ bp; omega) _) (fun hHeld => ?_)
              replace np := put8 (x0 := .int .u64 (wd O0 0).toNat) (x1 := .int .u64 (wd O0 1).toNat) (x2 := .int .u64 (wd O0 2).toNat) (x3 := .int .u64 (wd O0 3).toNat) (x4 := .int .u64 (wd O1 0).toNat) (x5 := .int .u64 (wd O1 1).toNat) (x6 := .int .u64 (wd O1 2).toNat) (x7 := .int .u64 (wd O1 3).toNat) np
              replace nq := keep_set8 (c := bp) (x0 := .int .u64 (wd O0 0).toNat) (x1 := .int .u64 (wd O0 1).toNat) (x2 := .int .u64 (wd O0 2).toNat) (x3 := .int .u64 (wd O0 3).toNat) (x4 := .int .u64 (wd O1 0).toNat) (x5 := .int .u64 (wd O1 1).toNat) (x6 := .int .u64 (wd O1 2).toNat) (x7 := .int .u64 (wd O1 3).toNat) (by omega) nq
              generalize (((((((X4.setCell _ _).setCell _ _).setCell _ _).setCell _ _).setCell _ _).setCell _ _).setCell _ _).setCell _ _ = X5 at *
              clear hK
              try simp only [Act.put, List.setIfInBounds_toArray, List.set_cons_zero, List.set_cons_succ]
              refine wpAnyH_ready (rs := [9]) (by kernel_rfl) (by simp) ?_
              refine AllReadyH.cons (o := _) rfl (fun _ hK => ?_) AllReadyH.nil
              obtain ⟨y0, y1, y2, y3, y4, y5, y6, y7, yf⟩ := now8 nq
              go_simp
              clear y0 y1 y2 y3 y4 y5 y6 y7 yf
              refine hK.out _ _ ((((((((hHeld.setCell (by show W.heap.size ≤ bq; omega) _).setCell (by show W.heap.size ≤ bq; omega) _).setCell (by show W.heap.size ≤ bq; omega) _).setCell (by show W.heap.size ≤ bq; omega) _).setCell (by show W.heap.size ≤ bq; omega) _).setCell (by show W.heap.size ≤ bq; omega) _).setCell (by show W.heap.size ≤ bq; omega) _).setCell (by show W.heap.size ≤ bq; omega) _) (fun hHeld => ?_)
              replace nq := put8 (x0 := .int .u64 (wd M0 0).toNat) (x1 := .int .u64 (wd M0 1).toNat) (x2 := .int .u64 (wd M0 2).toNat) (x3 := .int .u64 (wd M0 3).toNat) (x4 := .int .u64 (wd M1 0).toNat) (x5 := .int .u64 (wd M1 1).toNat) (x6 := .int .u64 (wd M1 2).toNat) (x7 := .int .u64 (wd M1 3).toNat) nq
              replace np := keep_set8 (c := bq) (x0 := .int .u64 (wd M0 0).toNat) (x1 := .int .u64 (wd M0 1).toNat) (x2 := .int .u64 (wd M0 2).toNat) (x3 := .int .u64 (wd M0 3).toNat) (x4 := .int .u64 (wd M1 0).toNat) (x5 := .int .u64 (wd M1 1).toNat) (x6 := .int .u64 (wd M1 2).toNat) (x7 := .int .u64 (wd M1 3).toNat) (by omega) np
              generalize (((((((X5.setCell _ _).setCell _ _).setCell _ _).setCell _ _).setCell _ _).setCell _ _).setCell _ _).setCell _ _ = X6 at *
              clear hK
              try simp only [Act.put, List.setIfInBounds_toArray, List.set_cons_zero, List.set_cons_succ]
              refine wpAnyH_done (by kernel_rfl) ?_ _
              go_wp2_with fail
              go_meet
              exact ⟨bp, bq, rfl, rfl, np, nq, hHeld⟩
            refine AllReadyH.cons (o := _) rfl (fun _ hK => ?_) ?_
            · go_simp
              have np := heap_alloc_new X1 (.cells #[.int .u64 0, .int .u64 0, .int .u64 0, .int .u64 0, .int .u64 0, .int .u64 0, .int .u64 0, .int .u64 0] 74)
              have hal := hHeld.alloc hHeld.size (.cells #[.int .u64 0, .int .u64 0, .int .u64 0, .int .u64 0, .int .u64 0, .int .u64 0, .int .u64 0, .int .u64 0] 74)
              have lp := hHeld.size
              generalize X1.heap.size = bp at *
              generalize X1.alloc (.cells #[.int .u64 0, .int .u64 0, .int .u64 0, .int .u64 0, .int .u64 0, .int .u64 0, .int .u64 0, .int .u64 0] 74) = X2 at *
              refine hK.out _ _ hal (fun hHeld => ?_)
              clear hal
              clear hK
              try simp only [Act.put, List.setIfInBounds_toArray, List.set_cons_zero, List.set_cons_succ]
              refine wpAnyH_ready (rs := [5, 7]) (by kernel_rfl) (by simp) ?_
              refine AllReadyH.cons (o := _) rfl (fun _ hK => ?_) ?_
              · go_simp
                refine (HBm X2).mono ?_
                rintro e X3 ⟨rfl, hbr⟩
                replace np := keep_blk hbr np
                try go_simp
                refine hK.out _ _ (hHeld.trans (hbr.mono hHeld.size)) (fun hHeld => ?_)
                clear hbr
                clear hK
                try simp only [Act.put, List.setIfInBounds_toArray, List.set_cons_zero, List.set_cons_succ]
                refine wpAnyH_ready (rs := [7]) (by kernel_rfl) (by simp) ?_
                refine AllReadyH.cons (o := _) rfl (fun _ hK => ?_) AllReadyH.nil
                go_simp
                have nq := heap_alloc_new X3 (.cells #[.int .u64 0, .int .u64 0, .int .u64 0, .int .u64 0, .int .u64 0, .int .u64 0, .int .u64 0, .int .u64 0] 74)
                have hal := hHeld.alloc hHeld.size (.cells #[.int .u64 0, .int .u64 0, .int .u64 0, .int .u64 0, .int .u64 0, .int .u64 0, .int .u64 0, .int .u64 0] 74)
                have lq := hHeld.size
                have dpq := size_of_block np
                replace np := keep_alloc (x := .cells #[.int .u64 0, .int .u64 0, .int .u64 0, .int .u64 0, .int .u64 0, .int .u64 0, .int .u64 0, .int .u64 0] 74) np
                generalize X3.heap.size = bq at *
                generalize X3.alloc (.cells #[.int .u64 0, .int .u64 0, .int .u64 0, .int .u64 0, .int .u64 0, .int .u64 0, .int .u64 0, .int .u64 0] 74) = X4 at *
                refine hK.out _ _ hal (fun hHeld => ?_)
                clear hal
                clear hK
                try simp only [Act.put, List.setIfInBounds_toArray, List.set_cons_zero, List.set_cons_succ]
                refine wpAnyH_ready (rs := [8]) (by kernel_rfl) (by simp) ?_
                refine AllReadyH.cons (o := _) rfl (fun _ hK => ?_) AllReadyH.nil
                obtain ⟨y0, y1, y2, y3, y4, y5, y6, y7, yf⟩ := now8 np
                go_simp
                clear y0 y1 y2 y3 y4 y5 y6 y7 yf
                refine hK.out _ _ ((((((((hHeld.setCell (by show W.heap.size ≤ bp; omega) _).setCell (by show W.heap.size ≤ bp; omega) _).setCell (by show W.heap.size ≤ bp; omega) _).setCell (by show W.heap.size ≤ bp; omega) _).setCell (by show W.heap.size ≤ bp; omega) _).setCell (by show W.heap.size ≤ bp; omega) _).setCell (by show W.heap.size ≤ bp; omega) _).setCell (by show W.heap.size ≤ bp; omega) _) (fun hHeld => ?_)
                replace np := put8 (x0 := .int .u64 (wd O0 0).toNat) (x1 := .int .u64 (wd O0 1).toNat) (x2 := .int .u64 (wd O0 2).toNat) (x3 := .int .u64 (wd O0 3).toNat) (x4 := .int .u64 (wd O1 0).toNat) (x5 := .int .u64 (wd O1 1).toNat) (x6 := .int .u64 (wd O1 2).toNat) (x7 := .int .u64 (wd O1 3).toNat) np
                replace nq := keep_set8 (c := bp) (x0 := .int .u64 (wd O0 0).toNat) (x1 := .int .u64 (wd O0 1).toNat) (x2 := .int .u64 (wd O0 2).toNat) (x3 := .int .u64 (wd O0 3).toNat) (x4 := .int .u64 (wd O1 0).toNat) (x5 := .int .u64 (wd O1 1).toNat) (x6 := .int .u64 (wd O1 2).toNat) (x7 := .int .u64 (wd O1 3).toNat) (by omega) nq
                generalize (((((((X4.setCell _ _).setCell _ _).setCell _ _).setCell _ _).setCell _ _).setCell _ _).setCell _ _).setCell _ _ = X5 at *
                clear hK
                try simp only [Act.put, List.setIfInBounds_toArray, List.set_cons_zero, List.set_cons_succ]
                refine wpAnyH_ready (rs := [9]) (by kernel_rfl) (by simp) ?_
                refine AllReadyH.cons (o := _) rfl (fun _ hK => ?_) AllReadyH.nil
                obtain ⟨y0, y1, y2, y3, y4, y5, y6, y7, yf⟩ := now8 nq
                go_simp
                clear y0 y1 y2 y3 y4 y5 y6 y7 yf
                refine hK.out _ _ ((((((((hHeld.setCell (by show W.heap.size ≤ bq; omega) _).setCell (by show W.heap.size ≤ bq; omega) _).setCell (by show W.heap.size ≤ bq; omega) _).setCell (by show W.heap.size ≤ bq; omega) _).setCell (by show W.heap.size ≤ bq; omega) _).setCell (by show W.heap.size ≤ bq; omega) _).setCell (by show W.heap.size ≤ bq; omega) _).setCell (by show W.heap.size ≤ bq; omega) _) (fun hHeld => ?_)
                replace nq := put8 (x0 := .int .u64 (wd M0 0).toNat) (x1 := .int .u64 (wd M0 1).toNat) (x2 := .int .u64 (wd M0 2).toNat) (x3 := .int .u64 (wd M0 3).toNat) (x4 := .int .u64 (wd M1 0).toNat) (x5 := .int .u64 (wd M1 1).toNat) (x6 := .int .u64 (wd M1 2).toNat) (x7 := .int .u64 (wd M1 3).toNat) nq
                replace np := keep_set8 (c := bq) (x0 := .int .u64 (wd M0 0).toNat) (x1 := .int .u64 (wd M0 1).toNat) (x2 := .int .u64 (wd M0 2).toNat) (x3 := .int .u64 (wd M0 3).toNat) (x4 := .int .u64 (wd M1 0).toNat) (x5 := .int .u64 (wd M1 1).toNat) (x6 := .int .u64 (wd M1 2).toNat) (x7 := .int .u64 (wd M1 3).toNat) (by omega) np
                generalize (((((((X5.setCell _ _).setCell _ _).setCell _ _).setCell _ _).setCell _ _).setCell _ _).setCell _ _).setCell _ _ = X6 at *
                clear hK
                try simp only [Act.put, List.setIfInBounds_toArray, List.set_cons_zero, List.set_cons_succ]
                refine wpAnyH_done (by kernel_rfl) ?_ _
                go_wp2_with fail
                go_meet
                exact ⟨bp, bq, rfl, rfl, np, nq, hHeld⟩
              refine AllReadyH.cons (o := _) rfl (fun _ hK => ?_) AllReadyH.nil
              go_simp
              have nq := heap_alloc_new X2 (.cells #[.int .u64 0, .int .u64 0, .int .u64 0, .int .u64 0, .int .u64 0, .int .u64 0, .int .u64 0, .int .u64 0] 74)
              have hal := hHeld.alloc hHeld.size (.cells #[.int .u64 0, .int .u64 0, .int .u64 0, .int .u64 0, .int .u64 0, .int .u64 0, .int .u64 0, .int .u64 0] 74)
              have lq := hHeld.size
              have dpq := size_of_block np
              replace np := keep_alloc (x := .cells #[.int .u64 0, .int .u64 0, .int .u64 0, .int .u64 0, .int .u64 0, .int .u64 0, .int .u64 0, .int .u64 0] 74) np
              generalize X2.heap.size = bq at *
              generalize X2.alloc (.cells #[.int .u64 0, .int .u64 0, .int .u64 0, .int .u64 0, .int .u64 0, .int .u64 0, .int .u64 0, .int .u64 0] 74) = X3 at *
              refine hK.out _ _ hal (fun hHeld => ?_)
              clear hal
              clear hK
              try simp only [Act.put, List.setIfInBounds_toArray, List.set_cons_zero, List.set_cons_succ]
              refine wpAnyH_ready (rs := [5]) (by kernel_rfl) (by simp) ?_
              refine AllReadyH.cons (o := _) rfl (fun _ hK => ?_) AllReadyH.nil
              go_simp
              refine (HBm X3).mono ?_
              rintro e X4 ⟨rfl, hbr⟩
              replace np := keep_blk hbr np
              replace nq := keep_blk hbr nq
              try go_simp
              refine hK.out _ _ (hHeld.trans (hbr.mono hHeld.size)) (fun hHeld => ?_)
              clear hbr
              clear hK
              try simp only [Act.put, List.setIfInBounds_toArray, List.set_cons_zero, List.set_cons_succ]
              refine wpAnyH_ready (rs := [8]) (by kernel_rfl) (by simp) ?_
              refine AllReadyH.cons (o := _) rfl (fun _ hK => ?_) AllReadyH.nil
              obtain ⟨y0, y1, y2, y3, y4, y5, y6, y7, yf⟩ := now8 np
              go_simp
              clear y0 y1 y2 y3 y4 y5 y6 y7 yf
              refine hK.out _ _ ((((((((hHeld.setCell (by show W.heap.size ≤ bp; omega) _).setCell (by show W.heap.size ≤ bp; omega) _).setCell (by show W.heap.size ≤ bp; omega) _).setCell (by show W.heap.size ≤ bp; omega) _).setCell (by show W.heap.size ≤ bp; omega) _).setCell (by show W.heap.size ≤ bp; omega) _).setCell (by show W.heap.size ≤ bp; omega) _).setCell (by show W.heap.size ≤ bp; omega) _) (fun hHeld => ?_)
              replace np := put8 (x0 := .int .u64 (wd O0 0).toNat) (x1 := .int .u64 (wd O0 1).toNat) (x2 := .int .u64 (wd O0 2).toNat) (x3 := .int .u64 (wd O0 3).toNat) (x4 := .int .u64 (wd O1 0).toNat) (x5 := .int .u64 (wd O1 1).toNat) (x6 := .int .u64 (wd O1 2).toNat) (x7 := .int .u64 (wd O1 3).toNat) np
              replace nq := keep_set8 (c := bp) (x0 := .int .u64 (wd O0 0).toNat) (x1 := .int .u64 (wd O0 1).toNat) (x2 := .int .u64 (wd O0 2).toNat) (x3 := .int .u64 (wd O0 3).toNat) (x4 := .int .u64 (wd O1 0).toNat) (x5 := .int .u64 (wd O1 1).toNat) (x6 := .int .u64 (wd O1 2).toNat) (x7 := .int .u64 (wd O1 3).toNat) (by omega) nq
              generalize (((((((X4.setCell _ _).setCell _ _).setCell _ _).setCell _ _).setCell _ _).setCell _ _).setCell _ _).setCell _ _ = X5 at *
              clear hK
              try simp only [Act.put, List.setIfInBounds_toArray, List.set_cons_zero, List.set_cons_succ]
              refine wpAnyH_ready (rs := [9]) (by kernel_rfl) (by simp) ?_
              refine AllReadyH.cons (o := _) rfl (fun _ hK => ?_) AllReadyH.nil
              obtain ⟨y0, y1, y2, y3, y4, y5, y6, y7, yf⟩ := now8 nq
              go_simp
              clear y0 y1 y2 y3 y4 y5 y6 y7 yf
              refine hK.out _ _ ((((((((hHeld.setCell (by show W.heap.size ≤ bq; omega) _).setCell (by show W.heap.size ≤ bq; omega) _).setCell (by show W.heap.size ≤ bq; omega) _).setCell (by show W.heap.size ≤ bq; omega) _).setCell (by show W.heap.size ≤ bq; omega) _).setCell (by show W.heap.size ≤ bq; omega) _).setCell (by show W.heap.size ≤ bq; omega) _).setCell (by show W.heap.size ≤ bq; omega) _) (fun hHeld => ?_)
              replace nq := put8 (x0 := .int .u64 (wd M0 0).toNat) (x1 := .int .u64 (wd M0 1).toNat) (x2 := .int .u64 (wd M0 2).toNat) (x3 := .int .u64 (wd M0 3).toNat) (x4 := .int .u64 (wd M1 0).toNat) (x5 := .int .u64 (wd M1 1).toNat) (x6 := .int .u64 (wd M1 2).toNat) (x7 := .int .u64 (wd M1 3).toNat) nq
              replace np := keep_set8 (c := bq) (x0 := .int .u64 (wd M0 0).toNat) (x1 := .int .u64 (wd M0 1).toNat) (x2 := .int .u64 (wd M0 2).toNat) (x3 := .int .u64 (wd M0 3).toNat) (x4 := .int .u64 (wd M1 0).toNat) (x5 := .int .u64 (wd M1 1).toNat) (x6 := .int .u64 (wd M1 2).toNat) (x7 := .int .u64 (wd M1 3).toNat) (by omega) np
              generalize (((((((X5.setCell _ _).setCell _ _).setCell _ _).setCell _ _).setCell _ _).setCell _ _).setCell _ _).setCell _ _ = X6 at *
              clear hK
              try simp only [Act.put, List.setIfInBounds_toArray, List.set_cons_zero, List.set_cons_succ]
              refine wpAnyH_done (by kernel_rfl) ?_ _
              go_wp2_with fail
              go_meet
              exact ⟨bp, bq, rfl, rfl, np, nq, hHeld⟩
            refine AllReadyH.cons (o := _) rfl (fun _ hK => ?_) AllReadyH.nil
            go_simp
            have nq := heap_alloc_new X1 (.cells #[.int .u64 0, .int .u64 0, .int .u64 0, .int .u64 0, .int .u64 0, .int .u64 0, .int .u64 0, .int .u64 0] 74)
            have hal := hHeld.alloc hHeld.size (.cells #[.int .u64 0, .int .u64 0, .int .u64 0, .int .u64 0, .int .u64 0, .int .u64 0, .int .u64 0, .int .u64 0] 74)
            have lq := hHeld.size
            generalize X1.heap.size = bq at *
            generalize X1.alloc (.cells #[.int .u64 0, .int .u64 0, .int .u64 0, .int .u64 0, .int .u64 0, .int .u64 0, .int .u64 0, .int .u64 0] 74) = X2 at *
            refine hK.out _ _ hal (fun hHeld => ?_)
            clear hal
            clear hK
            try simp only [Act.put, List.setIfInBounds_toArray, List.set_cons_zero, List.set_cons_succ]
            refine wpAnyH_ready (rs := [5, 6]) (by kernel_rfl) (by simp) ?_
            refine AllReadyH.cons (o := _) rfl (fun _ hK => ?_) ?_
            · go_simp
              refine (HBm X2).mono ?_
              rintro e X3 ⟨rfl, hbr⟩
              replace nq := keep_blk hbr nq
              try go_simp
              refine hK.out _ _ (hHeld.trans (hbr.mono hHeld.size)) (fun hHeld => ?_)
              clear hbr
              clear hK
              try simp only [Act.put, List.setIfInBounds_toArray, List.set_cons_zero, List.set_cons_succ]
              refine wpAnyH_ready (rs := [6]) (by kernel_rfl) (by simp) ?_
              refine AllReadyH.cons (o := _) rfl (fun _ hK => ?_) AllReadyH.nil
              go_simp
              have np := heap_alloc_new X3 (.cells #[.int .u64 0, .int .u64 0, .int .u64 0, .int .u64 0, .int .u64 0, .int .u64 0, .int .u64 0, .int .u64 0] 74)
              have hal := hHeld.alloc hHeld.size (.cells #[.int .u64 0, .int .u64 0, .int .u64 0, .int .u64 0, .int .u64 0, .int .u64 0, .int .u64 0, .int .u64 0] 74)
              have lp := hHeld.size
              have dqp := size_of_block nq
              replace nq := keep_alloc (x := .cells #[.int .u64 0, .int .u64 0, .int .u64 0, .int .u64 0, .int .u64 0, .int .u64 0, .int .u64 0, .int .u64 0] 74) nq
              generalize X3.heap.size = bp at *
              generalize X3.alloc (.cells #[.int .u64 0, .int .u64 0, .int .u64 0, .int .u64 0, .int .u64 0, .int .u64 0, .int .u64 0, .int .u64 0] 74) = X4 at *
              refine hK.out _ _ hal (fun hHeld => ?_)
              clear hal
              clear hK
              try simp only [Act.put, List.setIfInBounds_toArray, List.set_cons_zero, List.set_cons_succ]
              refine wpAnyH_ready (rs := [8]) (by kernel_rfl) (by simp) ?_
              refine AllReadyH.cons (o := _) rfl (fun _ hK => ?_) AllReadyH.nil
              obtain ⟨y0, y1, y2, y3, y4, y5, y6, y7, yf⟩ := now8 np
              go_simp
              clear y0 y1 y2 y3 y4 y5 y6 y7 yf
              refine hK.out _ _ ((((((((hHeld.setCell (by show W.heap.size ≤ bp; omega) _).setCell (by show W.heap.size ≤ bp; omega) _).setCell (by show W.heap.size ≤ bp; omega) _).setCell (by show W.heap.size ≤ bp; omega) _).setCell (by show W.heap.size ≤ bp; omega) _).setCell (by show W.heap.size ≤ bp; omega) _).setCell (by show W.heap.size ≤ bp; omega) _).setCell (by show W.heap.size ≤ bp; omega) _) (fun hHeld => ?_)
              replace np := put8 (x0 := .int .u64 (wd O0 0).toNat) (x1 := .int .u64 (wd O0 1).toNat) (x2 := .int .u64 (wd O0 2).toNat) (x3 := .int .u64 (wd O0 3).toNat) (x4 := .int .u64 (wd O1 0).toNat) (x5 := .int .u64 (wd O1 1).toNat) (x6 := .int .u64 (wd O1 2).toNat) (x7 := .int .u64 (wd O1 3).toNat) np
              replace nq := keep_set8 (c := bp) (x0 := .int .u64 (wd O0 0).toNat) (x1 := .int .u64 (wd O0 1).toNat) (x2 := .int .u64 (wd O0 2).toNat) (x3 := .int .u64 (wd O0 3).toNat) (x4 := .int .u64 (wd O1 0).toNat) (x5 := .int .u64 (wd O1 1).toNat) (x6 := .int .u64 (wd O1 2).toNat) (x7 := .int .u64 (wd O1 3).toNat) (by omega) nq
              generalize (((((((X4.setCell _ _).setCell _ _).setCell _ _).setCell _ _).setCell _ _).setCell _ _).setCell _ _).setCell _ _ = X5 at *
              clear hK
              try simp only [Act.put, List.setIfInBounds_toArray, List.set_cons_zero, List.set_cons_succ]
              refine wpAnyH_ready (rs := [9]) (by kernel_rfl) (by simp) ?_
              refine AllReadyH.cons (o := _) rfl (fun _ hK => ?_) AllReadyH.nil
              obtain ⟨y0, y1, y2, y3, y4, y5, y6, y7, yf⟩ := now8 nq
              go_simp
              clear y0 y1 y2 y3 y4 y5 y6 y7 yf
              refine hK.out _ _ ((((((((hHeld.setCell (by show W.heap.size ≤ bq; omega) _).setCell (by show W.heap.size ≤ bq; omega) _).setCell (by show W.heap.size ≤ bq; omega) _).setCell (by show W.heap.size ≤ bq; omega) _).setCell (by show W.heap.size ≤ bq; omega) _).setCell (by show W.heap.size ≤ bq; omega) _).setCell (by show W.heap.size ≤ bq; omega) _).setCell (by show W.heap.size ≤ bq; omega) _) (fun hHeld => ?_)
              replace nq := put8 (x0 := .int .u64 (wd M0 0).toNat) (x1 := .int .u64 (wd M0 1).toNat) (x2 := .int .u64 (wd M0 2).toNat) (x3 := .int .u64 (wd M0 3).toNat) (x4 := .int .u64 (wd M1 0).toNat) (x5 := .int .u64 (wd M1 1).toNat) (x6 := .int .u64 (wd M1 2).toNat) (x7 := .int .u64 (wd M1 3).toNat) nq
              replace np := keep_set8 (c := bq) (x0 := .int .u64 (wd M0 0).toNat) (x1 := .int .u64 (wd M0 1).toNat) (x2 := .int .u64 (wd M0 2).toNat) (x3 := .int .u64 (wd M0 3).toNat) (x4 := .int .u64 (wd M1 0).toNat) (x5 := .int .u64 (wd M1 1).toNat) (x6 := .int .u64 (wd M1 2).toNat) (x7 := .int .u64 (wd M1 3).toNat) (by omega) np
              generalize (((((((X5.setCell _ _).setCell _ _).setCell _ _).setCell _ _).setCell _ _).setCell _ _).setCell _ _).setCell _ _ = X6 at *
              clear hK
              try simp only [Act.put, List.setIfInBounds_toArray, List.set_cons_zero, List.set_cons_succ]
              refine wpAnyH_done (by kernel_rfl) ?_ _
              go_wp2_with fail
              go_meet
              exact ⟨bp, bq, rfl, rfl, np, nq, hHeld⟩
            refine AllReadyH.cons (o := _) rfl (fun _ hK => ?_) AllReadyH.nil
            go_simp
            have np := heap_alloc_new X2 (.cells #[.int .u64 0, .int .u64 0, .int .u64 0, .int .u64 0, .int .u64 0, .int .u64 0, .int .u64 0, .int .u64 0] 74)
            have hal := hHeld.alloc hHeld.size (.cells #[.int .u64 0, .int .u64 0, .int .u64 0, .int .u64 0, .int .u64 0, .int .u64 0, .int .u64 0, .int .u64 0] 74)
            have lp := hHeld.size
            have dqp := size_of_block nq
            replace nq := keep_alloc (x := .cells #[.int .u64 0, .int .u64 0, .int .u64 0, .int .u64 0, .int .u64 0, .int .u64 0, .int .u64 0, .int .u64 0] 74) nq
            generalize X2.heap.size = bp at *
            generalize X2.alloc (.cells #[.int .u64 0, .int .u64 0, .int .u64 0, .int .u64 0, .int .u64 0, .int .u64 0, .int .u64 0, .int .u64 0] 74) = X3 at *
            refine hK.out _ _ hal (fun hHeld => ?_)
            clear hal
            clear hK
            try simp only [Act.put, List.setIfInBounds_toArray, List.set_cons_zero, List.set_cons_succ]
            refine wpAnyH_ready (rs := [5]) (by kernel_rfl) (by simp) ?_
            refine AllReadyH.cons (o := _) rfl (fun _ hK => ?_) AllReadyH.nil
            go_simp
            refine (HBm X3).mono ?_
            rintro e X4 ⟨rfl, hbr⟩
            replace nq := keep_blk hbr nq
            replace np := keep_blk hbr np
            try go_simp
            refine hK.out _ _ (hHeld.trans (hbr.mono hHeld.size)) (fun hHeld => ?_)
            clear hbr
            clear hK
            try simp only [Act.put, List.setIfInBounds_toArray, List.set_cons_zero, List.set_cons_succ]
            refine wpAnyH_ready (rs := [8]) (by kernel_rfl) (by simp) ?_
            refine AllReadyH.cons (o := _) rfl (fun _ hK => ?_) AllReadyH.nil
            obtain ⟨y0, y1, y2, y3, y4, y5, y6, y7, yf⟩ := now8 np
            go_simp
            clear y0 y1 y2 y3 y4 y5 y6 y7 yf
            refine hK.out _ _ ((((((((hHeld.setCell (by show W.heap.size ≤ bp; omega) _).setCell (by show W.heap.size ≤ bp; omega) _).setCell (by show W.heap.size ≤ bp; omega) _).setCell (by show W.heap.size ≤ bp; omega) _).setCell (by show W.heap.size ≤ bp; omega) _).setCell (by show W.heap.size ≤ bp; omega) _).setCell (by show W.heap.size ≤ bp; omega) _).setCell (by show W.heap.size ≤ bp; omega) _) (fun hHeld => ?_)
            replace np := put8 (x0 := .int .u64 (wd O0 0).toNat) (x1 := .int .u64 (wd O0 1).toNat) (x2 := .int .u64 (wd O0 2).toNat) (x3 := .int .u64 (wd O0 3).toNat) (x4 := .int .u64 (wd O1 0).toNat) (x5 := .int .u64 (wd O1 1).toNat) (x6 := .int .u64 (wd O1 2).toNat) (x7 := .int .u64 (wd O1 3).toNat) np
            replace nq := keep_set8 (c := bp) (x0 := .int .u64 (wd O0 0).toNat) (x1 := .int .u64 (wd O0 1).toNat) (x2 := .int .u64 (wd O0 2).toNat) (x3 := .int .u64 (wd O0 3).toNat) (x4 := .int .u64 (wd O1 0).toNat) (x5 := .int .u64 (wd O1 1).toNat) (x6 := .int .u64 (wd O1 2).toNat) (x7 := .int .u64 (wd O1 3).toNat) (by omega) nq
            generalize (((((((X4.setCell _ _).setCell _ _).setCell _ _).setCell _ _).setCell _ _).setCell _ _).setCell _ _).setCell _ _ = X5 at *
            clear hK
            try simp only [Act.put, List.setIfInBounds_toArray, List.set_cons_zero, List.set_cons_succ]
            refine wpAnyH_ready (rs := [9]) (by kernel_rfl) (by simp) ?_
            refine AllReadyH.cons (o := _) rfl (fun _ hK => ?_) AllReadyH.nil
            obtain ⟨y0, y1, y2, y3, y4, y5, y6, y7, yf⟩ := now8 nq
            go_simp
            clear y0 y1 y2 y3 y4 y5 y6 y7 yf
            refine hK.out _ _ ((((((((hHeld.setCell (by show W.heap.size ≤ bq; omega) _).setCell (by show W.heap.size ≤ bq; omega) _).setCell (by show W.heap.size ≤ bq; omega) _).setCell (by show W.heap.size ≤ bq; omega) _).setCell (by show W.heap.size ≤ bq; omega) _).setCell (by show W.heap.size ≤ bq; omega) _).setCell (by show W.heap.size ≤ bq; omega) _).setCell (by show W.heap.size ≤ bq; omega) _) (fun hHeld => ?_)
            replace nq := put8 (x0 := .int .u64 (wd M0 0).toNat) (x1 := .int .u64 (wd M0 1).toNat) (x2 := .int .u64 (wd M0 2).toNat) (x3 := .int .u64 (wd M0 3).toNat) (x4 := .int .u64 (wd M1 0).toNat) (x5 := .int .u64 (wd M1 1).toNat) (x6 := .int .u64 (wd M1 2).toNat) (x7 := .int .u64 (wd M1 3).toNat) nq
            replace np := keep_set8 (c := bq) (x0 := .int .u64 (wd M0 0).toNat) (x1 := .int .u64 (wd M0 1).toNat) (x2 := .int .u64 (wd M0 2).toNat) (x3 := .int .u64 (wd M0 3).toNat) (x4 := .int .u64 (wd M1 0).toNat) (x5 := .int .u64 (wd M1 1).toNat) (x6 := .int .u64 (wd M1 2).toNat) (x7 := .int .u64 (wd M1 3).toNat) (by omega) np
            generalize (((((((X5.setCell _ _).setCell _ _).setCell _ _).setCell _ _).setCell _ _).setCell _ _).setCell _ _).setCell _ _ = X6 at *
            clear hK
            try simp only [Act.put, List.setIfInBounds_toArray, List.set_cons_zero, List.set_cons_succ]
            refine wpAnyH_done (by kernel_rfl) ?_ _
            go_wp2_with fail
            go_meet
            exact ⟨bp, bq, rfl, rfl, np, nq, hHeld⟩
          refine AllReadyH.cons (o := _) rfl (fun _ hK => ?_) ?_
          · go_simp
            have np := heap_alloc_new X0 (.cells #[.int .u64 0, .int .u64 0, .int .u64 0, .int .u64 0, .int .u64 0, .int .u64 0, .int .u64 0, .int .u64 0] 74)
            have hal := hHeld.alloc hHeld.size (.cells #[.int .u64 0, .int .u64 0, .int .u64 0, .int .u64 0, .int .u64 0, .int .u64 0, .int .u64 0, .int .u64 0] 74)
            have lp := hHeld.size
            generalize X0.heap.size = bp at *
            generalize X0.alloc (.cells #[.int .u64 0, .int .u64 0, .int .u64 0, .int .u64 0, .int .u64 0, .int .u64 0, .int .u64 0, .int .u64 0] 74) = X1 at *
            refine hK.out _ _ hal (fun hHeld => ?_)
            clear hal
            clear hK
            try simp only [Act.put, List.setIfInBounds_toArray, List.set_cons_zero, List.set_cons_succ]
            refine wpAnyH_ready (rs := [2, 7]) (by kernel_rfl) (by simp) ?_
            refine AllReadyH.cons (o := _) rfl (fun _ hK => ?_) ?_
            · go_simp
              refine (HBs X1).mono ?_
              rintro e X2 ⟨rfl, hbr⟩
              replace np := keep_blk hbr np
              try go_simp
              refine hK.out _ _ (hHeld.trans (hbr.mono hHeld.size)) (fun hHeld => ?_)
              clear hbr
              clear hK
              try simp only [Act.put, List.setIfInBounds_toArray, List.set_cons_zero, List.set_cons_succ]
              refine wpAnyH_ready (rs := [5, 7]) (by kernel_rfl) (by simp) ?_
              refine AllReadyH.cons (o := _) rfl (fun _ hK => ?_) ?_
              · go_simp
                refine (HBm X2).mono ?_
                rintro e X3 ⟨rfl, hbr⟩
                replace np := keep_blk hbr np
                try go_simp
                refine hK.out _ _ (hHeld.trans (hbr.mono hHeld.size)) (fun hHeld => ?_)
                clear hbr
                clear hK
                try simp only [Act.put, List.setIfInBounds_toArray, List.set_cons_zero, List.set_cons_succ]
                refine wpAnyH_ready (rs := [7]) (by kernel_rfl) (by simp) ?_
                refine AllReadyH.cons (o := _) rfl (fun _ hK => ?_) AllReadyH.nil
                go_simp
                have nq := heap_alloc_new X3 (.cells #[.int .u64 0, .int .u64 0, .int .u64 0, .int .u64 0, .int .u64 0, .int .u64 0, .int .u64 0, .int .u64 0] 74)
                have hal := hHeld.alloc hHeld.size (.cells #[.int .u64 0, .int .u64 0, .int .u64 0, .int .u64 0, .int .u64 0, .int .u64 0, .int .u64 0, .int .u64 0] 74)
                have lq := hHeld.size
                have dpq := size_of_block np
                replace np := keep_alloc (x := .cells #[.int .u64 0, .int .u64 0, .int .u64 0, .int .u64 0, .int .u64 0, .int .u64 0, .int .u64 0, .int .u64 0] 74) np
                generalize X3.heap.size = bq at *
                generalize X3.alloc (.cells #[.int .u64 0, .int .u64 0, .int .u64 0, .int .u64 0, .int .u64 0, .int .u64 0, .int .u64 0, .int .u64 0] 74) = X4 at *
                refine hK.out _ _ hal (fun hHeld => ?_)
                clear hal
                clear hK
                try simp only [Act.put, List.setIfInBounds_toArray, List.set_cons_zero, List.set_cons_succ]
                refine wpAnyH_ready (rs := [8]) (by kernel_rfl) (by simp) ?_
                refine AllReadyH.cons (o := _) rfl (fun _ hK => ?_) AllReadyH.nil
                obtain ⟨y0, y1, y2, y3, y4, y5, y6, y7, yf⟩ := now8 np
                go_simp
                clear y0 y1 y2 y3 y4 y5 y6 y7 yf
                refine hK.out _ _ ((((((((hHeld.setCell (by show W.heap.size ≤ bp; omega) _).setCell (by show W.heap.size ≤ bp; omega) _).setCell (by show W.heap.size ≤ bp; omega) _).setCell (by show W.heap.size ≤ bp; omega) _).setCell (by show W.heap.size ≤ bp; omega) _).setCell (by show W.heap.size ≤ bp; omega) _).setCell (by show W.heap.size ≤ bp; omega) _).setCell (by show W.heap.size ≤ bp; omega) _) (fun hHeld => ?_)
                replace np := put8 (x0 := .int .u64 (wd O0 0).toNat) (x1 := .int .u64 (wd O0 1).toNat) (x2 := .int .u64 (wd O0 2).toNat) (x3 := .int .u64 (wd O0 3).toNat) (x4 := .int .u64 (wd O1 0).toNat) (x5 := .int .u64 (wd O1 1).toNat) (x6 := .int .u64 (wd O1 2).toNat) (x7 := .int .u64 (wd O1 3).toNat) np
                replace nq := keep_set8 (c := bp) (x0 := .int .u64 (wd O0 0).toNat) (x1 := .int .u64 (wd O0 1).toNat) (x2 := .int .u64 (wd O0 2).toNat) (x3 := .int .u64 (wd O0 3).toNat) (x4 := .int .u64 (wd O1 0).toNat) (x5 := .int .u64 (wd O1 1).toNat) (x6 := .int .u64 (wd O1 2).toNat) (x7 := .int .u64 (wd O1 3).toNat) (by omega) nq
                generalize (((((((X4.setCell _ _).setCell _ _).setCell _ _).setCell _ _).setCell _ _).setCell _ _).setCell _ _).setCell _ _ = X5 at *
                clear hK
                try simp only [Act.put, List.setIfInBounds_toArray, List.set_cons_zero, List.set_cons_succ]
                refine wpAnyH_ready (rs := [9]) (by kernel_rfl) (by simp) ?_
                refine AllReadyH.cons (o := _) rfl (fun _ hK => ?_) AllReadyH.nil
                obtain ⟨y0, y1, y2, y3, y4, y5, y6, y7, yf⟩ := now8 nq
                go_simp
                clear y0 y1 y2 y3 y4 y5 y6 y7 yf
                refine hK.out _ _ ((((((((hHeld.setCell (by show W.heap.size ≤ bq; omega) _).setCell (by show W.heap.size ≤ bq; omega) _).setCell (by show W.heap.size ≤ bq; omega) _).setCell (by show W.heap.size ≤ bq; omega) _).setCell (by show W.heap.size ≤ bq; omega) _).setCell (by show W.heap.size ≤ bq; omega) _).setCell (by show W.heap.size ≤ bq; omega) _).setCell (by show W.heap.size ≤ bq; omega) _) (fun hHeld => ?_)
                replace nq := put8 (x0 := .int .u64 (wd M0 0).toNat) (x1 := .int .u64 (wd M0 1).toNat) (x2 := .int .u64 (wd M0 2).toNat) (x3 := .int .u64 (wd M0 3).toNat) (x4 := .int .u64 (wd M1 0).toNat) (x5 := .int .u64 (wd M1 1).toNat) (x6 := .int .u64 (wd M1 2).toNat) (x7 := .int .u64 (wd M1 3).toNat) nq
                replace np := keep_set8 (c := bq) (x0 := .int .u64 (wd M0 0).toNat) (x1 := .int .u64 (wd M0 1).toNat) (x2 := .int .u64 (wd M0 2).toNat) (x3 := .int .u64 (wd M0 3).toNat) (x4 := .int .u64 (wd M1 0).toNat) (x5 := .int .u64 (wd M1 1).toNat) (x6 := .int .u64 (wd M1 2).toNat) (x7 := .int .u64 (wd M1 3).toNat) (by omega) np
                generalize (((((((X5.setCell _ _).setCell _ _).setCell _ _).setCell _ _).setCell _ _).setCell _ _).setCell _ _).setCell _ _ = X6 at *
                clear hK
                try simp only [Act.put, List.setIfInBounds_toArray, List.set_cons_zero, List.set_cons_succ]
                refine wpAnyH_done (by kernel_rfl) ?_ _
                go_wp2_with fail
                go_meet
                exact ⟨bp, bq, rfl, rfl, np, nq, hHeld⟩
              refine AllReadyH.cons (o := _) rfl (fun _ hK => ?_) AllReadyH.nil
              go_simp
              have nq := heap_alloc_new X2 (.cells #[.int .u64 0, .int .u64 0, .int .u64 0, .int .u64 0, .int .u64 0, .int .u64 0, .int .u64 0, .int .u64 0] 74)
              have hal := hHeld.alloc hHeld.size (.cells #[.int .u64 0, .int .u64 0, .int .u64 0, .int .u64 0, .int .u64 0, .int .u64 0, .int .u64 0, .int .u64 0] 74)
              have lq := hHeld.size
              have dpq := size_of_block np
              replace np := keep_alloc (x := .cells #[.int .u64 0, .int .u64 0, .int .u64 0, .int .u64 0, .int .u64 0, .int .u64 0, .int .u64 0, .int .u64 0] 74) np
              generalize X2.heap.size = bq at *
              generalize X2.alloc (.cells #[.int .u64 0, .int .u64 0, .int .u64 0, .int .u64 0, .int .u64 0, .int .u64 0, .int .u64 0, .int .u64 0] 74) = X3 at *
              refine hK.out _ _ hal (fun hHeld => ?_)
              clear hal
              clear hK
              try simp only [Act.put, List.setIfInBounds_toArray, List.set_cons_zero, List.set_cons_succ]
              refine wpAnyH_ready (rs := [5]) (by kernel_rfl) (by simp) ?_
              refine AllReadyH.cons (o := _) rfl (fun _ hK => ?_) AllReadyH.nil
              go_simp
              refine (HBm X3).mono ?_
              rintro e X4 ⟨rfl, hbr⟩
              replace np := keep_blk hbr np
              replace nq := keep_blk hbr nq
              try go_simp
              refine hK.out _ _ (hHeld.trans (hbr.mono hHeld.size)) (fun hHeld => ?_)
              clear hbr
              clear hK
              try simp only [Act.put, List.setIfInBounds_toArray, List.set_cons_zero, List.set_cons_succ]
              refine wpAnyH_ready (rs := [8]) (by kernel_rfl) (by simp) ?_
              refine AllReadyH.cons (o := _) rfl (fun _ hK => ?_) AllReadyH.nil
              obtain ⟨y0, y1, y2, y3, y4, y5, y6, y7, yf⟩ := now8 np
              go_simp
              clear y0 y1 y2 y3 y4 y5 y6 y7 yf
              refine hK.out _ _ ((((((((hHeld.setCell (by show W.heap.size ≤ bp; omega) _).setCell (by show W.heap.size ≤ bp; omega) _).setCell (by show W.heap.size ≤ bp; omega) _).setCell (by show W.heap.size ≤ bp; omega) _).setCell (by show W.heap.size ≤ bp; omega) _).setCell (by show W.heap.size ≤ bp; omega) _).setCell (by show W.heap.size ≤ bp; omega) _).setCell (by show W.heap.size ≤ bp; omega) _) (fun hHeld => ?_)
              replace np := put8 (x0 := .int .u64 (wd O0 0).toNat) (x1 := .int .u64 (wd O0 1).toNat) (x2 := .int .u64 (wd O0 2).toNat) (x3 := .int .u64 (wd O0 3).toNat) (x4 := .int .u64 (wd O1 0).toNat) (x5 := .int .u64 (wd O1 1).toNat) (x6 := .int .u64 (wd O1 2).toNat) (x7 := .int .u64 (wd O1 3).toNat) np
              replace nq := keep_set8 (c := bp) (x0 := .int .u64 (wd O0 0).toNat) (x1 := .int .u64 (wd O0 1).toNat) (x2 := .int .u64 (wd O0 2).toNat) (x3 := .int .u64 (wd O0 3).toNat) (x4 := .int .u64 (wd O1 0).toNat) (x5 := .int .u64 (wd O1 1).toNat) (x6 := .int .u64 (wd O1 2).toNat) (x7 := .int .u64 (wd O1 3).toNat) (by omega) nq
              generalize (((((((X4.setCell _ _).setCell _ _).setCell _ _).setCell _ _).setCell _ _).setCell _ _).setCell _ _).setCell _ _ = X5 at *
              clear hK
              try simp only [Act.put, List.setIfInBounds_toArray, List.set_cons_zero, List.set_cons_succ]
              refine wpAnyH_ready (rs := [9]) (by kernel_rfl) (by simp) ?_
              refine AllReadyH.cons (o := _) rfl (fun _ hK => ?_) AllReadyH.nil
              obtain ⟨y0, y1, y2, y3, y4, y5, y6, y7, yf⟩ := now8 nq
              go_simp
              clear y0 y1 y2 y3 y4 y5 y6 y7 yf
              refine hK.out _ _ ((((((((hHeld.setCell (by show W.heap.size ≤ bq; omega) _).setCell (by show W.heap.size ≤ bq; omega) _).setCell (by show W.heap.size ≤ bq; omega) _).setCell (by show W.heap.size ≤ bq; omega) _).setCell (by show W.heap.size ≤ bq; omega) _).setCell (by show W.heap.size ≤ bq; omega) _).setCell (by show W.heap.size ≤ bq; omega) _).setCell (by show W.heap.size ≤ bq; omega) _) (fun hHeld => ?_)
              replace nq := put8 (x0 := .int .u64 (wd M0 0).toNat) (x1 := .int .u64 (wd M0 1).toNat) (x2 := .int .u64 (wd M0 2).toNat) (x3 := .int .u64 (wd M0 3).toNat) (x4 := .int .u64 (wd M1 0).toNat) (x5 := .int .u64 (wd M1 1).toNat) (x6 := .int .u64 (wd M1 2).toNat) (x7 := .int .u64 (wd M1 3).toNat) nq
              replace np := keep_set8 (c := bq) (x0 := .int .u64 (wd M0 0).toNat) (x1 := .int .u64 (wd M0 1).toNat) (x2 := .int .u64 (wd M0 2).toNat) (x3 := .int .u64 (wd M0 3).toNat) (x4 := .int .u64 (wd M1 0).toNat) (x5 := .int .u64 (wd M1 1).toNat) (x6 := .int .u64 (wd M1 2).toNat) (x7 := .int .u64 (wd M1 3).toNat) (by omega) np
              generalize (((((((X5.setCell _ _).setCell _ _).setCell _ _).setCell _ _).setCell _ _).setCell _ _).setCell _ _).setCell _ _ = X6 at *
              clear hK
              try simp only [Act.put, List.setIfInBounds_toArray, List.set_cons_zero, List.set_cons_succ]
              refine wpAnyH_done (by kernel_rfl) ?_ _
              go_wp2_with fail
              go_meet
              exact ⟨bp, bq, rfl, rfl, np, nq, hHeld⟩
            refine AllReadyH.cons (o := _) rfl (fun _ hK => ?_) AllReadyH.nil
            go_simp
            have nq := heap_alloc_new X1 (.cells #[.int .u64 0, .int .u64 0, .int .u64 0, .int .u64 0, .int .u64 0, .int .u64 0, .int .u64 0, .int .u64 0] 74)
            have hal := hHeld.alloc hHeld.size (.cells #[.int .u64 0, .int .u64 0, .int .u64 0, .int .u64 0, .int .u64 0, .int .u64 0, .int .u64 0, .int .u64 0] 74)
            have lq := hHeld.size
            have dpq := size_of_block np
            replace np := keep_alloc (x := .cells #[.int .u64 0, .int .u64 0, .int .u64 0, .int .u64 0, .int .u64 0, .int .u64 0, .int .u64 0, .int .u64 0] 74) np
            generalize X1.heap.size = bq at *
            generalize X1.alloc (.cells #[.int .u64 0, .int .u64 0, .int .u64 0, .int .u64 0, .int .u64 0, .int .u64 0, .int .u64 0, .int .u64 0] 74) = X2 at *
            refine hK.out _ _ hal (fun hHeld => ?_)
            clear hal
            clear hK
            try simp only [Act.put, List.setIfInBounds_toArray, List.set_cons_zero, List.set_cons_succ]
            refine wpAnyH_ready (rs := [2]) (by kernel_rfl) (by simp) ?_
            refine AllReadyH.cons (o := _) rfl (fun _ hK => ?_) AllReadyH.nil
            go_simp
            refine (HBs X2).mono ?_
            rintro e X3 ⟨rfl, hbr⟩
            replace np := keep_blk hbr np
            replace nq := keep_blk hbr nq
            try go_simp
            refine hK.out _ _ (hHeld.trans (hbr.mono hHeld.size)) (fun hHeld => ?_)
            clear hbr
            clear hK
            try simp only [Act.put, List.setIfInBounds_toArray, List.set_cons_zero, List.set_cons_succ]
            refine wpAnyH_ready (rs := [5]) (by kernel_rfl) (by simp) ?_
            refine AllReadyH.cons (o := _) rfl (fun _ hK => ?_) AllReadyH.nil
            go_simp
            refine (HBm X3).mono ?_
            rintro e X4 ⟨rfl, hbr⟩
            replace np := keep_blk hbr np
            replace nq := keep_blk hbr nq
            try go_simp
            refine hK.out _ _ (hHeld.trans (hbr.mono hHeld.size)) (fun hHeld => ?_)
            clear hbr
            clear hK
            try simp only [Act.put, List.setIfInBounds_toArray, List.set_cons_zero, List.set_cons_succ]
            refine wpAnyH_ready (rs := [8]) (by kernel_rfl) (by simp) ?_
            refine AllReadyH.cons (o := _) rfl (fun _ hK => ?_) AllReadyH.nil
            obtain ⟨y0, y1, y2, y3, y4, y5, y6, y7, yf⟩ := now8 np
            go_simp
            clear y0 y1 y2 y3 y4 y5 y6 y7 yf
            refine hK.out _ _ ((((((((hHeld.setCell (by show W.heap.size ≤ bp; omega) _).setCell (by show W.heap.size ≤ bp; omega) _).setCell (by show W.heap.size ≤ bp; omega) _).setCell (by show W.heap.size ≤ bp; omega) _).setCell (by show W.heap.size ≤ bp; omega) _).setCell (by show W.heap.size ≤ bp; omega) _).setCell (by show W.heap.size ≤ bp; omega) _).setCell (by show W.heap.size ≤ bp; omega) _) (fun hHeld => ?_)
            replace np := put8 (x0 := .int .u64 (wd O0 0).toNat) (x1 := .int .u64 (wd O0 1).toNat) (x2 := .int .u64 (wd O0 2).toNat) (x3 := .int .u64 (wd O0 3).toNat) (x4 := .int .u64 (wd O1 0).toNat) (x5 := .int .u64 (wd O1 1).toNat) (x6 := .int .u64 (wd O1 2).toNat) (x7 := .int .u64 (wd O1 3).toNat) np
            replace nq := keep_set8 (c := bp) (x0 := .int .u64 (wd O0 0).toNat) (x1 := .int .u64 (wd O0 1).toNat) (x2 := .int .u64 (wd O0 2).toNat) (x3 := .int .u64 (wd O0 3).toNat) (x4 := .int .u64 (wd O1 0).toNat) (x5 := .int .u64 (wd O1 1).toNat) (x6 := .int .u64 (wd O1 2).toNat) (x7 := .int .u64 (wd O1 3).toNat) (by omega) nq
            generalize (((((((X4.setCell _ _).setCell _ _).setCell _ _).setCell _ _).setCell _ _).setCell _ _).setCell _ _).setCell _ _ = X5 at *
            clear hK
            try simp only [Act.put, List.setIfInBounds_toArray, List.set_cons_zero, List.set_cons_succ]
            refine wpAnyH_ready (rs := [9]) (by kernel_rfl) (by simp) ?_
            refine AllReadyH.cons (o := _) rfl (fun _ hK => ?_) AllReadyH.nil
            obtain ⟨y0, y1, y2, y3, y4, y5, y6, y7, yf⟩ := now8 nq
            go_simp
            clear y0 y1 y2 y3 y4 y5 y6 y7 yf
            refine hK.out _ _ ((((((((hHeld.setCell (by show W.heap.size ≤ bq; omega) _).setCell (by show W.heap.size ≤ bq; omega) _).setCell (by show W.heap.size ≤ bq; omega) _).setCell (by show W.heap.size ≤ bq; omega) _).setCell (by show W.heap.size ≤ bq; omega) _).setCell (by show W.heap.size ≤ bq; omega) _).setCell (by show W.heap.size ≤ bq; omega) _).setCell (by show W.heap.size ≤ bq; omega) _) (fun hHeld => ?_)
            replace nq := put8 (x0 := .int .u64 (wd M0 0).toNat) (x1 := .int .u64 (wd M0 1).toNat) (x2 := .int .u64 (wd M0 2).toNat) (x3 := .int .u64 (wd M0 3).toNat) (x4 := .int .u64 (wd M1 0).toNat) (x5 := .int .u64 (wd M1 1).toNat) (x6 := .int .u64 (wd M1 2).toNat) (x7 := .int .u64 (wd M1 3).toNat) nq
            replace np := keep_set8 (c := bq) (x0 := .int .u64 (wd M0 0).toNat) (x1 := .int .u64 (wd M0 1).toNat) (x2 := .int .u64 (wd M0 2).toNat) (x3 := .int .u64 (wd M0 3).toNat) (x4 := .int .u64 (wd M1 0).toNat) (x5 := .int .u64 (wd M1 1).toNat) (x6 := .int .u64 (wd M1 2).toNat) (x7 := .int .u64 (wd M1 3).toNat) (by omega) np
            generalize (((((((X5.setCell _ _).setCell _ _).setCell _ _).setCell _ _).setCell _ _).setCell _ _).setCell _ _).setCell _ _ = X6 at *
            clear hK
            try simp only [Act.put, List.setIfInBounds_toArray, List.set_cons_zero, List.set_cons_succ]
            refine wpAnyH_done (by kernel_rfl) ?_ _
            go_wp2_with fail
            go_meet
            exact ⟨bp, bq, rfl, rfl, np, nq, hHeld⟩
          refine AllReadyH.cons (o := _) rfl (fun _ hK => ?_) AllReadyH.nil
          go_simp
          have nq := heap_alloc_new X0 (.cells #[.int .u64 0, .int .u64 0, .int .u64 0, .int .u64 0, .int .u64 0, .int .u64 0, .int .u64 0, .int .u64 0] 74)
          have hal := hHeld.alloc hHeld.size (.cells #[.int .u64 0, .int .u64 0, .int .u64 0, .int .u64 0, .int .u64 0, .int .u64 0, .int .u64 0, .int .u64 0] 74)
          have lq := hHeld.size
          generalize X0.heap.size = bq at *
          generalize X0.alloc (.cells #[.int .u64 0, .int .u64 0, .int .u64 0, .int .u64 0, .int .u64 0, .int .u64 0, .int .u64 0, .int .u64 0] 74) = X1 at *
          refine hK.out _ _ hal (fun hHeld => ?_)
          clear hal
          clear hK
          try simp only [Act.put, List.setIfInBounds_toArray, List.set_cons_zero, List.set_cons_succ]
          refine wpAnyH_ready (rs := [2, 6]) (by kernel_rfl) (by simp) ?_
          refine AllReadyH.cons (o := _) rfl (fun _ hK => ?_) ?_
          · go_simp
            refine (HBs X1).mono ?_
            rintro e X2 ⟨rfl, hbr⟩
            replace nq := keep_blk hbr nq
            try go_simp
            refine hK.out _ _ (hHeld.trans (hbr.mono hHeld.size)) (fun hHeld => ?_)
            clear hbr
            clear hK
            try simp only [Act.put, List.setIfInBounds_toArray, List.set_cons_zero, List.set_cons_succ]
            refine wpAnyH_ready (rs := [5, 6]) (by kernel_rfl) (by simp) ?_
            refine AllReadyH.cons (o := _) rfl (fun _ hK => ?_) ?_
            · go_simp
              refine (HBm X2).mono ?_
              rintro e X3 ⟨rfl, hbr⟩
              replace nq := keep_blk hbr nq
              try go_simp
              refine hK.out _ _ (hHeld.trans (hbr.mono hHeld.size)) (fun hHeld => ?_)
              clear hbr
              clear hK
              try simp only [Act.put, List.setIfInBounds_toArray, List.set_cons_zero, List.set_cons_succ]
              refine wpAnyH_ready (rs := [6]) (by kernel_rfl) (by simp) ?_
              refine AllReadyH.cons (o := _) rfl (fun _ hK => ?_) AllReadyH.nil
              go_simp
              have np := heap_alloc_new X3 (.cells #[.int .u64 0, .int .u64 0, .int .u64 0, .int .u64 0, .int .u64 0, .int .u64 0, .int .u64 0, .int .u64 0] 74)
              have hal := hHeld.alloc hHeld.size (.cells #[.int .u64 0, .int .u64 0, .int .u64 0, .int .u64 0, .int .u64 0, .int .u64 0, .int .u64 0, .int .u64 0] 74)
              have lp := hHeld.size
              have dqp := size_of_block nq
              replace nq := keep_alloc (x := .cells #[.int .u64 0, .int .u64 0, .int .u64 0, .int .u64 0, .int .u64 0, .int .u64 0, .int .u64 0, .int .u64 0] 74) nq
              generalize X3.heap.size = bp at *
              generalize X3.alloc (.cells #[.int .u64 0, .int .u64 0, .int .u64 0, .int .u64 0, .int .u64 0, .int .u64 0, .int .u64 0, .int .u64 0] 74) = X4 at *
              refine hK.out _ _ hal (fun hHeld => ?_)
              clear hal
              clear hK
              try simp only [Act.put, List.setIfInBounds_toArray, List.set_cons_zero, List.set_cons_succ]
              refine wpAnyH_ready (rs := [8]) (by kernel_rfl) (by simp) ?_
              refine AllReadyH.cons (o := _) rfl (fun _ hK => ?_) AllReadyH.nil
              obtain ⟨y0, y1, y2, y3, y4, y5, y6, y7, yf⟩ := now8 np
              go_simp
              clear y0 y1 y2 y3 y4 y5 y6 y7 yf
              refine hK.out _ _ ((((((((hHeld.setCell (by show W.heap.size ≤ bp; omega) _).setCell (by show W.heap.size ≤ bp; omega) _).setCell (by show W.heap.size ≤ bp; omega) _).setCell (by show W.heap.size ≤ bp; omega) _).setCell (by show W.heap.size ≤ bp; omega) _).setCell (by show W.heap.size ≤ bp; omega) _).setCell (by show W.heap.size ≤ bp; omega) _).setCell (by show W.heap.size ≤ bp; omega) _) (fun hHeld => ?_)
              replace np := put8 (x0 := .int .u64 (wd O0 0).toNat) (x1 := .int .u64 (wd O0 1).toNat) (x2 := .int .u64 (wd O0 2).toNat) (x3 := .int .u64 (wd O0 3).toNat) (x4 := .int .u64 (wd O1 0).toNat) (x5 := .int .u64 (wd O1 1).toNat) (x6 := .int .u64 (wd O1 2).toNat) (x7 := .int .u64 (wd O1 3).toNat) np
              replace nq := keep_set8 (c := bp) (x0 := .int .u64 (wd O0 0).toNat) (x1 := .int .u64 (wd O0 1).toNat) (x2 := .int .u64 (wd O0 2).toNat) (x3 := .int .u64 (wd O0 3).toNat) (x4 := .int .u64 (wd O1 0).toNat) (x5 := .int .u64 (wd O1 1).toNat) (x6 := .int .u64 (wd O1 2).toNat) (x7 := .int .u64 (wd O1 3).toNat) (by omega) nq
              generalize (((((((X4.setCell _ _).setCell _ _).setCell _ _).setCell _ _).setCell _ _).setCell _ _).setCell _ _).setCell _ _ = X5 at *
              clear hK
              try simp only [Act.put, List.setIfInBounds_toArray, List.set_cons_zero, List.set_cons_succ]
              refine wpAnyH_ready (rs := [9]) (by kernel_rfl) (by simp) ?_
              refine AllReadyH.cons (o := _) rfl (fun _ hK => ?_) AllReadyH.nil
              obtain ⟨y0, y1, y2, y3, y4, y5, y6, y7, yf⟩ := now8 nq
              go_simp
              clear y0 y1 y2 y3 y4 y5 y6 y7 yf
              refine hK.out _ _ ((((((((hHeld.setCell (by show W.heap.size ≤ bq; omega) _).setCell (by show W.heap.size ≤ bq; omega) _).setCell (by show W.heap.size ≤ bq; omega) _).setCell (by show W.heap.size ≤ bq; omega) _).setCell (by show W.heap.size ≤ bq; omega) _).setCell (by show W.heap.size ≤ bq; omega) _).setCell (by show W.heap.size ≤ bq; omega) _).setCell (by show W.heap.size ≤ bq; omega) _) (fun hHeld => ?_)
              replace nq := put8 (x0 := .int .u64 (wd M0 0).toNat) (x1 := .int .u64 (wd M0 1).toNat) (x2 := .int .u64 (wd M0 2).toNat) (x3 := .int .u64 (wd M0 3).toNat) (x4 := .int .u64 (wd M1 0).toNat) (x5 := .int .u64 (wd M1 1).toNat) (x6 := .int .u64 (wd M1 2).toNat) (x7 := .int .u64 (wd M1 3).toNat) nq
              replace np := keep_set8 (c := bq) (x0 := .int .u64 (wd M0 0).toNat) (x1 := .int .u64 (wd M0 1).toNat) (x2 := .int .u64 (wd M0 2).toNat) (x3 := .int .u64 (wd M0 3).toNat) (x4 := .int .u64 (wd M1 0).toNat) (x5 := .int .u64 (wd M1 1).toNat) (x6 := .int .u64 (wd M1 2).toNat) (x7 := .int .u64 (wd M1 3).toNat) (by omega) np
              generalize (((((((X5.setCell _ _).setCell _ _).setCell _ _).setCell _ _).setCell _ _).setCell _ _).setCell _ _).setCell _ _ = X6 at *
              clear hK
              try simp only [Act.put, List.setIfInBounds_toArray, List.set_cons_zero, List.set_cons_succ]
              refine wpAnyH_done (by kernel_rfl) ?_ _
              go_wp2_with fail
              go_meet
              exact ⟨bp, bq, rfl, rfl, np, nq, hHeld⟩
            refine AllReadyH.cons (o := _) rfl (fun _ hK => ?_) AllReadyH.nil
            go_simp
            have np := heap_alloc_new X2 (.cells #[.int .u64 0, .int .u64 0, .int .u64 0, .int .u64 0, .int .u64 0, .int .u64 0, .int .u64 0, .int .u64 0] 74)
            have hal := hHeld.alloc hHeld.size (.cells #[.int .u64 0, .int .u64 0, .int .u64 0, .int .u64 0, .int .u64 0, .int .u64 0, .int .u64 0, .int .u64 0] 74)
            have lp := hHeld.size
            have dqp := size_of_block nq
            replace nq := keep_alloc (x := .cells #[.int .u64 0, .int .u64 0, .int .u64 0, .int .u64 0, .int .u64 0, .int .u64 0, .int .u64 0, .int .u64 0] 74) nq
            generalize X2.heap.size = bp at *
            generalize X2.alloc (.cells #[.int .u64 0, .int .u64 0, .int .u64 0, .int .u64 0, .int .u64 0, .int .u64 0, .int .u64 0, .int .u64 0] 74) = X3 at *
            refine hK.out _ _ hal (fun hHeld => ?_)
            clear hal
            clear hK
            try simp only [Act.put, List.setIfInBounds_toArray, List.set_cons_zero, List.set_cons_succ]
            refine wpAnyH_ready (rs := [5]) (by kernel_rfl) (by simp) ?_
            refine AllReadyH.cons (o := _) rfl (fun _ hK => ?_) AllReadyH.nil
            go_simp
            refine (HBm X3).mono ?_
            rintro e X4 ⟨rfl, hbr⟩
            replace nq := keep_blk hbr nq
            replace np := keep_blk hbr np
            try go_simp
            refine hK.out _ _ (hHeld.trans (hbr.mono hHeld.size)) (fun hHeld => ?_)
            clear hbr
            clear hK
            try simp only [Act.put, List.setIfInBounds_toArray, List.set_cons_zero, List.set_cons_succ]
            refine wpAnyH_ready (rs := [8]) (by kernel_rfl) (by simp) ?_
            refine AllReadyH.cons (o := _) rfl (fun _ hK => ?_) AllReadyH.nil
            obtain ⟨y0, y1, y2, y3, y4, y5, y6, y7, yf⟩ := now8 np
            go_simp
            clear y0 y1 y2 y3 y4 y5 y6 y7 yf
            refine hK.out _ _ ((((((((hHeld.setCell (by show W.heap.size ≤ bp; omega) _).setCell (by show W.heap.size ≤ bp; omega) _).setCell (by show W.heap.size ≤ bp; omega) _).setCell (by show W.heap.size ≤ bp; omega) _).setCell (by show W.heap.size ≤ bp; omega) _).setCell (by show W.heap.size ≤ bp; omega) _).setCell (by show W.heap.size ≤ bp; omega) _).setCell (by show W.heap.size ≤ bp; omega) _) (fun hHeld => ?_)
            replace np := put8 (x0 := .int .u64 (wd O0 0).toNat) (x1 := .int .u64 (wd O0 1).toNat) (x2 := .int .u64 (wd O0 2).toNat) (x3 := .int .u64 (wd O0 3).toNat) (x4 := .int .u64 (wd O1 0).toNat) (x5 := .int .u64 (wd O1 1).toNat) (x6 := .int .u64 (wd O1 2).toNat) (x7 := .int .u64 (wd O1 3).toNat) np
            replace nq := keep_set8 (c := bp) (x0 := .int .u64 (wd O0 0).toNat) (x1 := .int .u64 (wd O0 1).toNat) (x2 := .int .u64 (wd O0 2).toNat) (x3 := .int .u64 (wd O0 3).toNat) (x4 := .int .u64 (wd O1 0).toNat) (x5 := .int .u64 (wd O1 1).toNat) (x6 := .int .u64 (wd O1 2).toNat) (x7 := .int .u64 (wd O1 3).toNat) (by omega) nq
            generalize (((((((X4.setCell _ _).setCell _ _).setCell _ _).setCell _ _).setCell _ _).setCell _ _).setCell _ _).setCell _ _ = X5 at *
            clear hK
            try simp only [Act.put, List.setIfInBounds_toArray, List.set_cons_zero, List.set_cons_succ]
            refine wpAnyH_ready (rs := [9]) (by kernel_rfl) (by simp) ?_
            refine AllReadyH.cons (o := _) rfl (fun _ hK => ?_) AllReadyH.nil
            obtain ⟨y0, y1, y2, y3, y4, y5, y6, y7, yf⟩ := now8 nq
            go_simp
            clear y0 y1 y2 y3 y4 y5 y6 y7 yf
            refine hK.out _ _ ((((((((hHeld.setCell (by show W.heap.size ≤ bq; omega) _).setCell (by show W.heap.size ≤ bq; omega) _).setCell (by show W.heap.size ≤ bq; omega) _).setCell (by show W.heap.size ≤ bq; omega) _).setCell (by show W.heap.size ≤ bq; omega) _).setCell (by show W.heap.size ≤ bq; omega) _).setCell (by show W.heap.size ≤ bq; omega) _).setCell (by show W.heap.size ≤ bq; omega) _) (fun hHeld => ?_)
            replace nq := put8 (x0 := .int .u64 (wd M0 0).toNat) (x1 := .int .u64 (wd M0 1).toNat) (x2 := .int .u64 (wd M0 2).toNat) (x3 := .int .u64 (wd M0 3).toNat) (x4 := .int .u64 (wd M1 0).toNat) (x5 := .int .u64 (wd M1 1).toNat) (x6 := .int .u64 (wd M1 2).toNat) (x7 := .int .u64 (wd M1 3).toNat) nq
            replace np := keep_set8 (c := bq) (x0 := .int .u64 (wd M0 0).toNat) (x1 := .int .u64 (wd M0 1).toNat) (x2 := .int .u64 (wd M0 2).toNat) (x3 := .int .u64 (wd M0 3).toNat) (x4 := .int .u64 (wd M1 0).toNat) (x5 := .int .u64 (wd M1 1).toNat) (x6 := .int .u64 (wd M1 2).toNat) (x7 := .int .u64 (wd M1 3).toNat) (by omega) np
            generalize (((((((X5.setCell _ _).setCell _ _).setCell _ _).setCell _ _).setCell _ _).setCell _ _).setCell _ _).setCell _ _ = X6 at *
            clear hK
            try simp only [Act.put, List.setIfInBounds_toArray, List.set_cons_zero, List.set_cons_succ]
            refine wpAnyH_done (by kernel_rfl) ?_ _
            go_wp2_with fail
            go_meet
            exact ⟨bp, bq, rfl, rfl, np, nq, hHeld⟩
          refine AllReadyH.cons (o := _) rfl (fun _ hK => ?_) AllReadyH.nil
          go_simp
          have np := heap_alloc_new X1 (.cells #[.int .u64 0, .int .u64 0, .int .u64 0, .int .u64 0, .int .u64 0, .int .u64 0, .int .u64 0, .int .u64 0] 74)
          have hal := hHeld.alloc hHeld.size (.cells #[.int .u64 0, .int .u64 0, .int .u64 0, .int .u64 0, .int .u64 0, .int .u64 0, .int .u64 0, .int .u64 0] 74)
          have lp := hHeld.size
          have dqp := size_of_block nq
          replace nq := keep_alloc (x := .cells #[.int .u64 0, .int .u64 0, .int .u64 0, .int .u64 0, .int .u64 0, .int .u64 0, .int .u64 0, .int .u64 0] 74) nq
          generalize X1.heap.size = bp at *
          generalize X1.alloc (.cells #[.int .u64 0, .int .u64 0, .int .u64 0, .int .u64 0, .int .u64 0, .int .u64 0, .int .u64 0, .int .u64 0] 74) = X2 at *
          refine hK.out _ _ hal (fun hHeld => ?_)
          clear hal
          clear hK
          try simp only [Act.put, List.setIfInBounds_toArray, List.set_cons_zero, List.set_cons_succ]
          refine wpAnyH_ready (rs := [2]) (by kernel_rfl) (by simp) ?_
          refine AllReadyH.cons (o := _) rfl (fun _ hK => ?_) AllReadyH.nil
          go_simp
          refine (HBs X2).mono ?_
          rintro e X3 ⟨rfl, hbr⟩
          replace nq := keep_blk hbr nq
          replace np := keep_blk hbr np
          try go_simp
          refine hK.out _ _ (hHeld.trans (hbr.mono hHeld.size)) (fun hHeld => ?_)
          clear hbr
          clear hK
          try simp only [Act.put, List.setIfInBounds_toArray, List.set_cons_zero, List.set_cons_succ]
          refine wpAnyH_ready (rs := [5]) (by kernel_rfl) (by simp) ?_
          refine AllReadyH.cons (o := _) rfl (fun _ hK => ?_) AllReadyH.nil
          go_simp
          refine (HBm X3).mono ?_
          rintro e X4 ⟨rfl, hbr⟩
          replace nq := keep_blk hbr nq
          replace np := keep_blk hbr np
          try go_simp
          refine hK.out _ _ (hHeld.trans (hbr.mono hHeld.size)) (fun hHeld => ?_)
          clear hbr
          clear hK
          try simp only [Act.put, List.setIfInBounds_toArray, List.set_cons_zero, List.set_cons_succ]
          refine wpAnyH_ready (rs := [8]) (by kernel_rfl) (by simp) ?_
          refine AllReadyH.cons (o := _) rfl (fun _ hK => ?_) AllReadyH.nil
          obtain ⟨y0, y1, y2, y3, y4, y5, y6, y7, yf⟩ := now8 np
          go_simp
          clear y0 y1 y2 y3 y4 y5 y6 y7 yf
          refine hK.out _ _ ((((((((hHeld.setCell (by show W.heap.size ≤ bp; omega) _).setCell (by show W.heap.size ≤ bp; omega) _).setCell (by show W.heap.size ≤ bp; omega) _).setCell (by show W.heap.size ≤ bp; omega) _).setCell (by show W.heap.size ≤ bp; omega) _).setCell (by show W.heap.size ≤ bp; omega) _).setCell (by show W.heap.size ≤ bp; omega) _).setCell (by show W.heap.size ≤ bp; omega) _) (fun hHeld => ?_)
          replace np := put8 (x0 := .int .u64 (wd O0 0).toNat) (x1 := .int .u64 (wd O0 1).toNat) (x2 := .int .u64 (wd O0 2).toNat) (x3 := .int .u64 (wd O0 3).toNat) (x4 := .int .u64 (wd O1 0).toNat) (x5 := .int .u64 (wd O1 1).toNat) (x6 := .int .u64 (wd O1 2).toNat) (x7 := .int .u64 (wd O1 3).toNat) np
          replace nq := keep_set8 (c := bp) (x0 := .int .u64 (wd O0 0).toNat) (x1 := .int .u64 (wd O0 1).toNat) (x2 := .int .u64 (wd O0 2).toNat) (x3 := .int .u64 (wd O0 3).toNat) (x4 := .int .u64 (wd O1 0).toNat) (x5 := .int .u64 (wd O1 1).toNat) (x6 := .int .u64 (wd O1 2).toNat) (x7 := .int .u64 (wd O1 3).toNat) (by omega) nq
          generalize (((((((X4.setCell _ _).setCell _ _).setCell _ _).setCell _ _).setCell _ _).setCell _ _).setCell _ _).setCell _ _ = X5 at *
          clear hK
          try simp only [Act.put, List.setIfInBounds_toArray, List.set_cons_zero, List.set_cons_succ]
          refine wpAnyH_ready (rs := [9]) (by kernel_rfl) (by simp) ?_
          refine AllReadyH.cons (o := _) rfl (fun _ hK => ?_) AllReadyH.nil
          obtain ⟨y0, y1, y2, y3, y4, y5, y6, y7, yf⟩ := now8 nq
          go_simp
          clear y0 y1 y2 y3 y4 y5 y6 y7 yf
          refine hK.out _ _ ((((((((hHeld.setCell (by show W.heap.size ≤ bq; omega) _).setCell (by show W.heap.size ≤ bq; omega) _).setCell (by show W.heap.size ≤ bq; omega) _).setCell (by show W.heap.size ≤ bq; omega) _).setCell (by show W.heap.size ≤ bq; omega) _).setCell (by show W.heap.size ≤ bq; omega) _).setCell (by show W.heap.size ≤ bq; omega) _).setCell (by show W.heap.size ≤ bq; omega) _) (fun hHeld => ?_)
          replace nq := put8 (x0 := .int .u64 (wd M0 0).toNat) (x1 := .int .u64 (wd M0 1).toNat) (x2 := .int .u64 (wd M0 2).toNat) (x3 := .int .u64 (wd M0 3).toNat) (x4 := .int .u64 (wd M1 0).toNat) (x5 := .int .u64 (wd M1 1).toNat) (x6 := .int .u64 (wd M1 2).toNat) (x7 := .int .u64 (wd M1 3).toNat) nq
          replace np := keep_set8 (c := bq) (x0 := .int .u64 (wd M0 0).toNat) (x1 := .int .u64 (wd M0 1).toNat) (x2 := .int .u64 (wd M0 2).toNat) (x3 := .int .u64 (wd M0 3).toNat) (x4 := .int .u64 (wd M1 0).toNat) (x5 := .int .u64 (wd M1 1).toNat) (x6 := .int .u64 (wd M1 2).toNat) (x7 := .int .u64 (wd M1 3).toNat) (by omega) np
          generalize (((((((X5.setCell _ _).setCell _ _).setCell _ _).setCell _ _).setCell _ _).setCell _ _).setCell _ _).setCell _ _ = X6 at *
          clear hK
          try simp only [Act.put, List.setIfInBounds_toArray, List.set_cons_zero, List.set_cons_succ]
          refine wpAnyH_done (by kernel_rfl) ?_ _
          go_wp2_with fail
          go_meet
          exact ⟨bp, bq, rfl, rfl, np, nq, hHeld⟩
        case rest =>
          obtain ⟨p9, p10, rfl, rfl, h9, h10, hc⟩ := hcut
          have hmf : ∀ (fn : Fn) (first cap : Array Value) (w : World), (Instr.makeFunc fn first cap).run Try.prog w = .ok (.func fn first cap) w := fun _ _ _ _ => rfl
          have hC : CvB wc w.heap.size p9 p10 (w.heap.size + 1 + 1 + 1) n i O0 O1 M0 M1 := ⟨keep_blk hc hb4, h9, h10, keep_blk hc hb7⟩
          have hBc := hB.trans (hc.mono hB.size)
          have hx := below_alloc2 wc (.cells #[.slice none 0 0] 33) (.cells #[.int .u64 0, .int .u64 0, .int .u64 0, .int .u64 0] 24)
          have hV2 := heap_alloc2_old wc (.cells #[.slice none 0 0] 33) (.cells #[.int .u64 0, .int .u64 0, .int .u64 0, .int .u64 0] 24)
          have hR2 := heap_alloc2_new wc (.cells #[.slice none 0 0] 33) (.cells #[.int .u64 0, .int .u64 0, .int .u64 0, .int .u64 0] 24)
          have hC2 := hC.below hx
          have hB2 := hBc.trans (hx.mono hBc.size)
          have hlo := hBc.size
          clear HBs HBm s0 s1 s2 s3 t0 t1 t2 t3 j0 hb4 hb5 hb6 hb7 hB h9 h10 hc hC hx hBc
          go_upto_region 9 with (fail)
          generalize (wc.alloc _).alloc _ = W2 at *
          generalize wc.heap.size = p11 at *
          have hsz2 := hB2.size
          have HW0 := cwith0_any hn (by omega) IH i hi i0' w.heap.size w.heap.size p9 p10 (w.heap.size + 1 + 1 + 1) (p11 + 1) p11 O0 O1 M0 M1 0 (.slice none 0 0) [] (by simp) hiA W2 hC2 hR2 hV2 (World.ownsRow_nil _ _ _ _) hsz2 (by omega) (by omega)
          rw [← hLa] at HW0
          clear hiA hC2 hR2 hV2 hmf
          go_wp2_with fail
          refine HW0.mono ?_
          rintro e w3 ⟨rfl, V3, hC3, hR3, hV3, hrow3, hB3⟩
          have hB03 := hB2.trans hB3
          have hsz3 := hB03.size
          have HW1 := cwith1_any hn (by omega) IH i hi i0' w.heap.size w.heap.size p9 p10 (w.heap.size + 1 + 1 + 1) (p11 + 1) p11 O0 O1 M0 M1 _ V3 _ (by rw [List.length_append, List.length_map, List.length_nil]; omega) hiB w3 hC3 hR3 hV3 hrow3 hsz3 (by omega) (by omega)
          rw [← hLb] at HW1
          clear HW0 hiB hC3 hR3 hV3 hrow3 hB3 hB2
          go_wp2_with fail
          refine HW1.mono ?_
          rintro e w4 ⟨rfl, V4, hC4, hR4, hV4, hrow4, hB4⟩
          have hB04 := hB03.trans hB4
          have hsz4 := hB04.size
          have hyl : ([] ++ List.map (fun x => lit12 x i false) La ++ List.map (fun x => lit12 x i true) Lb).length ≤ 20000 := by
            rw [List.length_append, List.length_append, List.length_map, List.length_map, List.length_nil]; omega
          rw [List.nil_append] at hyl hrow4
          clear HW1 hB03 hB4 hLa hLb hla hlb
          generalize List.map (fun x => lit12 x i false) La ++ List.map (fun x => lit12 x i true) Lb = ys at *
          generalize (0 ||| O0 &&& ~~~ptsU n La (-1) La.length) ||| O1 &&& ~~~ptsU n Lb (-1) Lb.length = R4 at *
          have HAnd := fun w => and_any M0 M1 w
          have HCv := fun w => IH R4 (M0 &&& M1) (i + 1) w i0' hiC
          have hlc := iso_len n f (bts R4) (bts (M0 &&& M1)) (i + 1)
          generalize isoF n f (bts R4) (bts (M0 &&& M1)) (i + 1) = Lc at *
          have hlc : Lc.length ≤ 6561 := Nat.le_trans hlc (Nat.pow_le_pow_right (n := 3) (by decide) (show f ≤ 8 by omega))
          have hZ2 := Lib.hid hZ
          clear hZ
          have hi1 : ((i + 1 : Nat) : Int) = (i : Int) + 1 := by omega
          have hwr : IntKind.i64.wrap ((i : Int) + 1) = (i : Int) + 1 := by rw [IntKind.wrap_i64]; omega
          rw [hi1, ← hwr] at HCv
          clear hwr
          generalize M0 &&& M1 = MM at *
          clear hiC IH
          have hsp := hC4.sp
          have hmy := hC4.may
          have hii := hC4.ii
          unfold spcV at hsp HCv
          unfold sdV at hmy
          unfold sa at hR4
          unfold sv at HAnd HCv
          unfold wv at *
          obtain ⟨a0, a1, a2, a3, a4, -⟩ : (∀ X : After w4, _) ∧ (∀ X : After w4, _) ∧ (∀ X : After w4, _) ∧ (∀ X : After w4, _) ∧ (∀ X : After w4, _) ∧ True := ⟨fun X => (now5 (X.same hsp)).1, fun X => (now5 (X.same hsp)).2.1, fun X => (now5 (X.same hsp)).2.2.1, fun X => (now5 (X.same hsp)).2.2.2.1, fun X => (now5 (X.same hsp)).2.2.2.2.1, trivial⟩
          obtain ⟨c0, c1, c2, c3, c4, c5, c6, c7⟩ : (∀ X : After w4, _) ∧ (∀ X : After w4, _) ∧ (∀ X : After w4, _) ∧ (∀ X : After w4, _) ∧ (∀ X : After w4, _) ∧ (∀ X : After w4, _) ∧ (∀ X : After w4, _) ∧ (∀ X : After w4, _) := ⟨fun X => (now8 (X.same hmy)).1, fun X => (now8 (X.same hmy)).2.1, fun X => (now8 (X.same hmy)).2.2.1, fun X => (now8 (X.same hmy)).2.2.2.1, fun X => (now8 (X.same hmy)).2.2.2.2.1, fun X => (now8 (X.same hmy)).2.2.2.2.2.1, fun X => (now8 (X.same hmy)).2.2.2.2.2.2.1, fun X => (now8 (X.same hmy)).2.2.2.2.2.2.2.1⟩
          obtain ⟨r0, r1, r2, r3, -⟩ := box4 hR4 rfl
          have d0 := box1_12 hii
          have v0 := box1_12 hV4
          go_upto_region 11 with (fail)
          refine wp_region_held_tail 11 (fun W_ => Below w4.heap.size w4 W_) (by kernel_rfl) (by kernel_rfl) (Below.refl _ w4).drew (fun hF hHeld => ?_)
          refine takeL12 (i := 0) (v := ?_) hF rfl (by kernel_rfl) (by kernel_rfl) (by kernel_rfl) (fun _ _ _ h => h) (Or.inl ⟨by rfl, ?_⟩) (by assumption) ?_
          rotate_left 1
          · intro w_ hSw
            have q_v0 := v0 ⟨w_, hSw⟩
            dsimp only at q_v0
            go_simp
            try with_reducible rfl
          try simp only [Act.put, List.setIfInBounds_toArray, List.set_cons_zero, List.set_cons_succ]
          refine takeL12 (i := 1) (v := ?_) hF rfl (by kernel_rfl) (by kernel_rfl) (by kernel_rfl) (fun _ _ _ h => h) (Or.inl ⟨by rfl, ?_⟩) (by assumption) ?_
          rotate_left 1
          · intro w_ hSw
            have q_a0 := a0 ⟨w_, hSw⟩
            have q_a1 := a1 ⟨w_, hSw⟩
            have q_a2 := a2 ⟨w_, hSw⟩
            have q_a3 := a3 ⟨w_, hSw⟩
            have q_a4 := a4 ⟨w_, hSw⟩
            dsimp only at q_a0 q_a1 q_a2 q_a3 q_a4
            go_simp
            try with_reducible rfl
          try simp only [Act.put, List.setIfInBounds_toArray, List.set_cons_zero, List.set_cons_succ]
          refine takeL12 (i := 2) (v := ?_) hF rfl (by kernel_rfl) (by kernel_rfl) (by kernel_rfl) (fun _ _ _ h => h) (Or.inl ⟨by rfl, ?_⟩) (by assumption) ?_
          rotate_left 1
          · intro w_ hSw
            have q_r0 := r0 ⟨w_, hSw⟩
            have q_r1 := r1 ⟨w_, hSw⟩
            have q_r2 := r2 ⟨w_, hSw⟩
            have q_r3 := r3 ⟨w_, hSw⟩
            dsimp only at q_r0 q_r1 q_r2 q_r3
            go_simp
            try with_reducible rfl
          try simp only [Act.put, List.setIfInBounds_toArray, List.set_cons_zero, List.set_cons_succ]
          refine takeL12 (i := 3) (v := ?_) hF rfl (by kernel_rfl) (by kernel_rfl) (by kernel_rfl) (fun _ _ _ h => h) (Or.inl ⟨by rfl, ?_⟩) (by assumption) ?_
          rotate_left 1
          · intro w_ hSw
            go_simp
            try with_reducible rfl
          try simp only [Act.put, List.setIfInBounds_toArray, List.set_cons_zero, List.set_cons_succ]
          refine takeL12 (i := 4) (v := ?_) hF rfl (by kernel_rfl) (by kernel_rfl) (by kernel_rfl) (fun _ _ _ h => h) (Or.inl ⟨by rfl, ?_⟩) (by assumption) ?_
          rotate_left 1
          · intro w_ hSw
            have q_c0 := c0 ⟨w_, hSw⟩
            have q_c1 := c1 ⟨w_, hSw⟩
            have q_c2 := c2 ⟨w_, hSw⟩
            have q_c3 := c3 ⟨w_, hSw⟩
            dsimp only at q_c0 q_c1 q_c2 q_c3
            go_simp
            try with_reducible rfl
          try simp only [Act.put, List.setIfInBounds_toArray, List.set_cons_zero, List.set_cons_succ]
          refine takeL12 (i := 5) (v := ?_) hF rfl (by kernel_rfl) (by kernel_rfl) (by kernel_rfl) (fun _ _ _ h => h) (Or.inl ⟨by rfl, ?_⟩) (by assumption) ?_
          rotate_left 1
          · intro w_ hSw
            go_simp
            try with_reducible rfl
          try simp only [Act.put, List.setIfInBounds_toArray, List.set_cons_zero, List.set_cons_succ]
          refine takeL12 (i := 6) (v := ?_) hF rfl (by kernel_rfl) (by kernel_rfl) (by kernel_rfl) (fun _ _ _ h => h) (Or.inl ⟨by rfl, ?_⟩) (by assumption) ?_
          rotate_left 1
          · intro w_ hSw
            have q_c4 := c4 ⟨w_, hSw⟩
            have q_c5 := c5 ⟨w_, hSw⟩
            have q_c6 := c6 ⟨w_, hSw⟩
            have q_c7 := c7 ⟨w_, hSw⟩
            dsimp only at q_c4 q_c5 q_c6 q_c7
            go_simp
            try with_reducible rfl
          try simp only [Act.put, List.setIfInBounds_toArray, List.set_cons_zero, List.set_cons_succ]
          refine takeL12 (i := 8) (v := ?_) hF rfl (by kernel_rfl) (by kernel_rfl) (by kernel_rfl) (fun _ _ _ h => h) (Or.inl ⟨by rfl, ?_⟩) (by assumption) ?_
          rotate_left 1
          · intro w_ hSw
            have q_d0 := d0 ⟨w_, hSw⟩
            dsimp only at q_d0
            go_simp
            try with_reducible rfl
          try simp only [Act.put, List.setIfInBounds_toArray, List.set_cons_zero, List.set_cons_succ]
          refine takeL12 (i := 9) (v := ?_) hF rfl (by kernel_rfl) (by kernel_rfl) (by kernel_rfl) (fun _ _ _ h => h) (Or.inl ⟨by rfl, ?_⟩) (by assumption) ?_
          rotate_left 1
          · intro w_ hSw
            go_simp
            try with_reducible rfl
          try simp only [Act.put, List.setIfInBounds_toArray, List.set_cons_zero, List.set_cons_succ]
          refine oneL12 (i := 7) (by kernel_rfl) (by kernel_rfl) rfl (fun _ hK => ?_)
          go_simp
          refine (HAnd _).mono ?_
          rintro e wa ⟨rfl, hba⟩
          have hHa := hHeld.trans (hba.mono hHeld.size)
          have hrow5 := owns_below (owns_below hrow4 hHeld) hba
          try go_simp
          refine hK.out _ _ hHa (fun hHeld => ?_)
          clear hK
          try simp only [Act.put, List.setIfInBounds_toArray, List.set_cons_zero, List.set_cons_succ]
          refine oneL12 (i := 10) (by kernel_rfl) (by kernel_rfl) rfl (fun _ hK => ?_)
          go_simp
          refine (HCv _).mono ?_
          rintro e wb ⟨vc, rfl, hl6, hbb⟩
          have hHb := hHa.trans (hbb.mono hHa.size)
          have hrow6 := owns_below hrow5 hbb
          try go_simp
          refine hK.out _ _ hHb (fun hHeld => ?_)
          clear hK
          try simp only [Act.put, List.setIfInBounds_toArray, List.set_cons_zero, List.set_cons_succ]
          refine ⟨by kernel_rfl, ?_⟩
          simp only [List.drop_succ_cons, List.drop_zero]
          obtain ⟨v22, w22, rn22, o22, b22⟩ := appendC 33 hrow6 (by have := hHb.size; omega) (own_cbs hl6) (by omega) (by omega)
          have kB := (hB04.trans (hHb.mono hsz4)).trans b22
          clear hHeld hHa hHb hrow6 hl6 b22 hrow4 hB04 hC4 hR4 hV4 hsp hmy hii a0 a1 a2 a3 a4 c0 c1 c2 c3 c4 c5 c6 c7 r0 r1 r2 r3 d0 v0 HAnd HCv
          go_wp2_with (at_builtin; refine wpList_appendC rfl _ _ rfl V4 vc v22 w22 rfl rfl rn22 ?_)
          go_ret
          exact ⟨_, rfl, by rw [hZ2.out]; exact o22, kB⟩
end Go.Proofs.Ytnddepijbbchiaa
