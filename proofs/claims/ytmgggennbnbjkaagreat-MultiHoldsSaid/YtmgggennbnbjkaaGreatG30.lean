/- Package multi: Holds, Within, Grow, Prime. -/
import Derived.Test.YtmgggennbnbjkaaGreatG26
import Derived.Test.YtmgggennbnbjkaaGreatG29
namespace Go.Proofs.YtmgggennbnbjkaaGreat
open Go.RowKit Go.Joins

/-- What is known of a spec that is right. -/
theorem sp_known {i : Int} {on may : List (BitVec 256)} (h : spB ⟨i, on, may⟩ = true) : ∃ n : Nat, i = n ∧ n ≤ 8 ∧ 1 ≤ on.length ∧ on.length ≤ 4 ∧ on.length = may.length := by
  obtain ⟨h1, h2, h3⟩ := (headS_iff _).1 (sp_iff.1 h).1
  simp only at h1 h2 h3
  exact ⟨i.toNat, by omega, by omega, h2.1, h2.2, h3⟩
set_option maxHeartbeats 2000000 in
set_option maxRecDepth 100000 in
theorem mwithin_no (i : Int) (A C : Value) (on may : List (BitVec 256)) (x : Rw) (hs : spB ⟨i, on, may⟩ = false) (w : World) (hA : SetsAt w w.heap.size A on) (hC : SetsAt w w.heap.size C may) :
    Calls Tryz.prog 34 #[spv i A C, rwv x] w fun e w' => e = .returned (.bool false) ∧ Below w.heap.size w w' := by
  have hB := below_alloc2 w (spb i A C) (rwB3 x)
  have hsp : ((w.alloc (spb i A C)).alloc (rwB3 x)).heap[w.heap.size]? = some (spb i A C) := by rw [heap_alloc2_old]
  have HR := sright_any i A C on may _ ((hA.below hB).more hB.size) ((hC.below hB).more hB.size)
  rw [hs] at HR
  obtain ⟨A, ac, rfl, -, -⟩ := hA
  obtain ⟨C, cc, rfl, -, -⟩ := hC
  clear hs
  unfold spv spb rwv rwB3 bvv at *
  go_enter Tryz.func34, Tryz.ntmps34
  go_upto_region 1 with (fail)
  generalize (w.alloc _).alloc _ = W at *
  obtain ⟨s0, s1, s2, -⟩ := now3 hsp rfl
  go_wp2_with fail
  refine HR.mono ?_
  rintro e w1 ⟨rfl, hb1⟩
  have hB1 := hB.trans (hb1.mono hB.size)
  clear HR s0 s1 s2 hsp hB hb1
  go_wp2
  go_ret
  exact ⟨rfl, hB1⟩
set_option maxHeartbeats 2000000 in
set_option maxRecDepth 100000 in
theorem mwithin_yes (n : Nat) (hn : n ≤ 8) (A C : Value) (on may : List (BitVec 256)) (x : Rw) (hs : spB ⟨n, on, may⟩ = true) (w : World) (hA : SetsAt w w.heap.size A on) (hC : SetsAt w w.heap.size C may) (h4 : may.length ≤ 4) :
    Calls Tryz.prog 34 #[spv n A C, rwv x] w fun e w' => e = .returned (.bool (outsB x.o may.length && inB (comS ⟨n, on, may⟩ x.o) n x.m x.v)) ∧ Below w.heap.size w w' := by
  have hB := below_alloc2 w (spb n A C) (rwB3 x)
  have hsp : ((w.alloc (spb n A C)).alloc (rwB3 x)).heap[w.heap.size]? = some (spb n A C) := by rw [heap_alloc2_old]
  have hxp : ((w.alloc (spb n A C)).alloc (rwB3 x)).heap[w.heap.size + 1]? = some (rwB3 x) := by rw [heap_alloc2_new]
  have HR := sright_any n A C on may _ ((hA.below hB).more hB.size) ((hC.below hB).more hB.size)
  rw [hs] at HR
  have HC := fun w1 (hb : Below w.heap.size w w1) => mcommon_any n hn A C on may x.o w1 ((hC.below hb).more hb.size)
  have HW := fun w => pwithin_any x.m x.v (comS ⟨n, on, may⟩ x.o) n w
  generalize inB (comS ⟨n, on, may⟩ x.o) n x.m x.v = qin at *
  generalize comS ⟨n, on, may⟩ x.o = Z at *
  have hq : (x.o.toNat : Int) / 2 ^ may.length = ((x.o.toNat / 2 ^ may.length : Nat) : Int) := by rw [Int.natCast_ediv]; simp
  obtain ⟨A, ac, rfl, -, -⟩ := hA
  obtain ⟨C, cc, rfl, -, -⟩ := hC
  have h48 : may.length ≤ 8 := by omega
  clear hs h4
  unfold spv spb rwv rwB3 cv sv wv at *
  unfold bvv at *
  by_cases h0 : x.o = 0
  · have hR : Hid (outsB x.o may.length = false) := Lib.hid (by unfold outsB; simp [h0])
    have hz : ((x.o.toNat : Int) == 0) = true := by rw [h0]; rfl
    clear h0 hq
    go_enter Tryz.func34, Tryz.ntmps34
    go_upto_region 1 with (fail)
    generalize (w.alloc _).alloc _ = W at *
    obtain ⟨s0, s1, s2, -⟩ := now3 hsp rfl
    go_wp2_with fail
    refine HR.mono ?_
    rintro e w1 ⟨rfl, hb1⟩
    have hB1 := hB.trans (hb1.mono hB.size)
    have hx1 := keep_blk hb1 hxp
    obtain ⟨x0, x1, x2, -⟩ := now3 hx1 rfl
    clear HR s0 s1 s2 hsp hB hb1
    go_wp2
    go_ret
    exact ⟨by rw [hR.out]; rfl, hB1⟩
  · have hz : ((x.o.toNat : Int) == 0) = false := by
      rw [beq_eq_false_iff_ne]; intro e; exact h0 (BitVec.eq_of_toNat_eq (by simpa using e))
    by_cases h1 : x.o.toNat / 2 ^ may.length = 0
    · have hR : Hid (outsB x.o may.length = true) := Lib.hid (by unfold outsB; rw [decide_eq_true h0, decide_eq_true h1]; rfl)
      have hz1 : ((x.o.toNat : Int) / 2 ^ may.length != 0) = false := by rw [hq, h1]; rfl
      clear h0 h1 hq
      go_enter Tryz.func34, Tryz.ntmps34
      go_upto_region 1 with (fail)
      generalize (w.alloc _).alloc _ = W at *
      obtain ⟨s0, s1, s2, -⟩ := now3 hsp rfl
      go_wp2_with fail
      refine HR.mono ?_
      rintro e w1 ⟨rfl, hb1⟩
      have hB1 := hB.trans (hb1.mono hB.size)
      have hx1 := keep_blk hb1 hxp
      have hs1 := keep_blk hb1 hsp
      obtain ⟨x0, x1, x2, -⟩ := now3 hx1 rfl
      obtain ⟨s0, s1, s2, -⟩ := now3 hs1 rfl
      clear HR hsp hB hb1 hxp
      go_upto_region 3 with (fail)
      clear x0 x1 x2 s0 s1 s2
      obtain ⟨x0, x1, x2, -⟩ := box3 hx1 rfl
      obtain ⟨s0, s1, s2, -⟩ := box3 hs1 rfl
      have HCx := fun X : After w1 => HC X.1 (hB1.trans (X.2.mono hB1.size))
      clear HC
      refine wp_region_after_tail 9 (by kernel_rfl) (by kernel_rfl) ?_
      simp only [List.take_succ_cons, List.take_zero, List.drop_succ_cons, List.drop_zero]
      repeat (first | go_big_quiet_step (first | (go_at_call 18; exact Calls.after_of (HCx _)) | (go_at_call 44; exact Calls.after_of (HW _))))
      refine wpQuiet_nil ?_
      intro y
      clear x0 x1 x2 s0 s1 s2 HCx HW
      go_wp2
      go_ret
      exact ⟨by rw [hR.out]; rfl, hB1.trans (y.2.mono hB1.size)⟩
    · have hR : Hid (outsB x.o may.length = false) := Lib.hid (by unfold outsB; simp [h1])
      have hz1 : ((x.o.toNat : Int) / 2 ^ may.length != 0) = true := by rw [hq, bne_iff_ne]; intro e; exact h1 (by exact_mod_cast e)
      clear h0 h1 hq
      go_enter Tryz.func34, Tryz.ntmps34
      go_upto_region 1 with (fail)
      generalize (w.alloc _).alloc _ = W at *
      obtain ⟨s0, s1, s2, -⟩ := now3 hsp rfl
      go_wp2_with fail
      refine HR.mono ?_
      rintro e w1 ⟨rfl, hb1⟩
      have hB1 := hB.trans (hb1.mono hB.size)
      have hx1 := keep_blk hb1 hxp
      have hs1 := keep_blk hb1 hsp
      obtain ⟨x0, x1, x2, -⟩ := now3 hx1 rfl
      obtain ⟨s0, s1, s2, -⟩ := now3 hs1 rfl
      clear HR hsp hB hb1 hxp
      go_wp2
      go_ret
      exact ⟨by rw [hR.out]; rfl, hB1⟩
theorem mwithin_any : WithinM := by
  intro i A C on may x w hA hC
  cases hs : spB ⟨i, on, may⟩
  · exact mwithin_no i A C on may x hs w hA hC
  · obtain ⟨n, rfl, hn, h1, h4, hl⟩ := sp_known hs
    rw [Bool.true_and, rowin_com (s := ⟨n, on, may⟩) rfl hn, show (⟨n, on, may⟩ : Sp).on.length = may.length from hl]
    exact mwithin_yes n hn A C on may x hs w hA hC (by omega)

theorem eq_row (a b : Rw) (w : World) : (Op.equalIn 10000 28 (.agg #[.int .u8 a.m.toNat, .int .u8 a.v.toNat, .int .u8 a.o.toNat]) (.agg #[.int .u8 b.m.toNat, .int .u8 b.v.toNat, .int .u8 b.o.toNat])).run Tryz.prog w = .ok (decide (a.m = b.m ∧ a.v = b.v ∧ a.o = b.o)) w := by
  simp [go_sem]
  have e : ∀ a b : BitVec 8, ((a.toNat : Int) = (b.toNat : Int)) ↔ a = b := fun a b => ⟨fun h => BitVec.eq_of_toNat_eq (by exact_mod_cast h), fun h => by rw [h]⟩
  simp only [e]
  by_cases h1 : a.m = b.m <;> by_cases h2 : a.v = b.v <;> by_cases h3 : a.o = b.o <;> simp [h1, h2, h3]
set_option maxHeartbeats 2000000 in
set_option maxRecDepth 100000 in
theorem mgrow_no (i : Int) (A C : Value) (on may : List (BitVec 256)) (x : Rw) (hs : (spB ⟨i, on, may⟩ && rowIn ⟨i, on, may⟩ x) = false) (w : World) (hA : SetsAt w w.heap.size A on) (hC : SetsAt w w.heap.size C may) :
    Calls Tryz.prog 15 #[spv i A C, rwv x] w fun e w' => e = .returned (.tuple #[rwv ⟨0, 0, 0⟩, .int .i64 1]) ∧ Below w.heap.size w w' := by
  have hB := below_alloc3 w (spb i A C) (rwB3 x) rwZ
  have hsp := heap_alloc3_a w (spb i A C) (rwB3 x) rwZ
  have hxp := heap_alloc3_b w (spb i A C) (rwB3 x) rwZ
  have hzp := heap_alloc3_c w (spb i A C) (rwB3 x) rwZ
  have HW := mwithin_any i A C on may x _ ((hA.below hB).more hB.size) ((hC.below hB).more hB.size)
  rw [hs] at HW
  obtain ⟨A, ac, rfl, -, -⟩ := hA
  obtain ⟨C, cc, rfl, -, -⟩ := hC
  clear hs
  rw [show rwv ⟨0, 0, 0⟩ = .agg #[.int .u8 0, .int .u8 0, .int .u8 0] from rfl]
  unfold spv spb rwv rwB3 rwZ bvv at *
  go_enter Tryz.func15, Tryz.ntmps15
  go_upto_region 1 with (fail)
  generalize ((w.alloc _).alloc _).alloc _ = W at *
  obtain ⟨s0, s1, s2, -⟩ := now3 hsp rfl
  obtain ⟨x0, x1, x2, -⟩ := now3 hxp rfl
  go_wp2_with fail
  refine HW.mono ?_
  rintro e w1 ⟨rfl, hb1⟩
  have hB1 := hB.trans (hb1.mono hB.size)
  have hz1 := keep_blk hb1 hzp
  clear HW s0 s1 s2 x0 x1 x2 hsp hxp hzp hB hb1
  obtain ⟨z0, z1, z2, zf⟩ := now3 hz1 rfl
  have hput := put3 (x0 := .int .u8 0) (x1 := .int .u8 0) (x2 := .int .u8 0) hz1
  obtain ⟨q0, q1, q2, -⟩ := now3 hput rfl
  have hBz : Below w.heap.size w (((w1.setCell ⟨w.heap.size + 2, 0, none⟩ (.int .u8 0)).setCell ⟨w.heap.size + 2, 1, none⟩ (.int .u8 0)).setCell ⟨w.heap.size + 2, 2, none⟩ (.int .u8 0)) := ((hB1.setCell (by simp) _).setCell (by simp) _).setCell (by simp) _
  clear hput hz1 hB1
  go_wp2
  exact bodyPost_ret (v := .tuple #[.agg #[.int .u8 0, .int .u8 0, .int .u8 0], .int .i64 1]) (by simp [results, Tryz.results15, go_sem, q0, q1, q2]) rfl ⟨rfl, hBz⟩
set_option maxHeartbeats 4000000 in
set_option maxRecDepth 100000 in
theorem mgrow_yes (n : Nat) (hn : n ≤ 8) (A C : Value) (on may : List (BitVec 256)) (x : Rw) (hs : (spB ⟨n, on, may⟩ && rowIn ⟨n, on, may⟩ x) = true) (w : World) (hA : SetsAt w w.heap.size A on) (hC : SetsAt w w.heap.size C may) (h4 : on.length ≤ 8) (hl : on.length = may.length) :
    Calls Tryz.prog 15 #[spv n A C, rwv x] w fun e w' => e = .returned (.tuple #[rwv (growR ⟨n, on, may⟩ x), .int .i64 0]) ∧ Below w.heap.size w w' := by
  have hB := below_alloc3 w (spb n A C) (rwB3 x) rwZ
  have hsp := heap_alloc3_a w (spb n A C) (rwB3 x) rwZ
  have hxp := heap_alloc3_b w (spb n A C) (rwB3 x) rwZ
  have hzp := heap_alloc3_c w (spb n A C) (rwB3 x) rwZ
  have HW := mwithin_any n A C on may x _ ((hA.below hB).more hB.size) ((hC.below hB).more hB.size)
  rw [hs] at HW
  obtain ⟨-, hin⟩ := Bool.and_eq_true_iff.1 hs
  rw [growR_com (s := ⟨n, on, may⟩) rfl hn h4 hl hin]
  rw [rowin_com (s := ⟨n, on, may⟩) rfl hn, Bool.and_eq_true] at hin
  have HC := fun w1 (hb : Below w.heap.size w w1) => mcommon_any n hn A C on may x.o w1 ((hC.below hb).more hb.size)
  have HG := fun w => pgrow_yes x.m x.v (comS ⟨n, on, may⟩ x.o) n hin.2 w
  have HO := fun m v w1 (hb : Below w.heap.size w w1) => moutputs_any n A C on may m v (by omega) w1 ((hC.below hb).more hb.size)
  generalize growC (comS ⟨n, on, may⟩ x.o) n x.m x.v = y at *
  obtain ⟨ym, yv⟩ := y
  dsimp only at *
  have HO := HO ym yv
  generalize comS ⟨n, on, may⟩ x.o = Z at *
  generalize outS ⟨n, on, may⟩ ym yv = yo at *
  obtain ⟨A, ac, rfl, -, -⟩ := hA
  obtain ⟨C, cc, rfl, -, -⟩ := hC
  clear hs hin hl h4 hn
  unfold spv spb rwv rwB3 rwZ cv sv wv at *
  unfold bvv at *
  go_enter Tryz.func15, Tryz.ntmps15
  go_upto_region 1 with (fail)
  generalize ((w.alloc _).alloc _).alloc _ = W at *
  obtain ⟨s0, s1, s2, -⟩ := now3 hsp rfl
  obtain ⟨x0, x1, x2, -⟩ := now3 hxp rfl
  go_wp2_with fail
  refine HW.mono ?_
  rintro e w1 ⟨rfl, hb1⟩
  have hB1 := hB.trans (hb1.mono hB.size)
  have hz1 := keep_blk hb1 hzp
  have hs1 := keep_blk hb1 hsp
  have hx1 := keep_blk hb1 hxp
  clear HW s0 s1 s2 x0 x1 x2 hsp hxp hzp hB hb1
  go_upto_region 3 with (fail)
  have HC1 := fun X (h : Below w1.heap.size w1 X) => HC X (hB1.trans (h.mono hB1.size))
  have HO1 := fun X (h : Below w1.heap.size w1 X) => HO X (hB1.trans (h.mono hB1.size))
  clear HC HO
  go_cut [6, 7] from 13 to 25 (fun s6 s7 wc => ∃ by' : Nat, s6 = .pointer (some ⟨by', 0, none⟩) ∧ s7 = .int .i64 0 ∧ wc.heap[by']? = some (.cells #[.int .u8 ym.toNat, .int .u8 yv.toNat] 26 (0, 0)) ∧ Below w1.heap.size w1 wc)
  case first =>
    clear HO1
    obtain ⟨s0, s1, s2, -⟩ := box3 hs1 rfl
    obtain ⟨x0, x1, x2, -⟩ := box3 hx1 rfl
    refine wp_region_held_drew (S := fun W_ => Below w1.heap.size w1 W_) rfl (Below.refl _ w1).drew (fun hHeld => ?_)
    obtain ⟨X0, hX0⟩ : ∃ X0, X0 = w1.drew := ⟨_, rfl⟩
    rw [← hX0] at hHeld ⊢
    clear hX0
    refine wpAnyH_take (i := 0) (oi := _) (v := ?_) rfl (by kernel_rfl) (by kernel_rfl) (by kernel_rfl) (fun _ _ _ h => h) (Or.inl ⟨by rfl, ?_⟩) (by assumption) ?_
    rotate_left 1
    · intro w_ hSw
      go_simp
      try with_reducible rfl
    try simp only [Act.put, List.setIfInBounds_toArray]
    refine wpAnyH_take (i := 1) (oi := _) (v := ?_) rfl (by kernel_rfl) (by kernel_rfl) (by kernel_rfl) (fun _ _ _ h => h) (Or.inl ⟨by rfl, ?_⟩) (by assumption) ?_
    rotate_left 1
    · intro w_ hSw
      have q_x0 := x0 ⟨w_, hSw⟩
      have q_x1 := x1 ⟨w_, hSw⟩
      dsimp only at q_x0 q_x1
      go_simp
      try with_reducible rfl
    try simp only [Act.put]
    refine wpAnyH_take (i := 2) (oi := _) (v := ?_) rfl (by kernel_rfl) (by kernel_rfl) (by kernel_rfl) (fun _ _ _ h => h) (Or.inl ⟨by rfl, ?_⟩) (by assumption) ?_
    rotate_left 1
    · intro w_ hSw
      have q_s0 := s0 ⟨w_, hSw⟩
      have q_s1 := s1 ⟨w_, hSw⟩
      have q_s2 := s2 ⟨w_, hSw⟩
      dsimp only at q_s0 q_s1 q_s2
      go_simp
      try with_reducible rfl
    try simp only [Act.put]
    refine wpAnyH_take (i := 3) (oi := _) (v := ?_) rfl (by kernel_rfl) (by kernel_rfl) (by kernel_rfl) (fun _ _ _ h => h) (Or.inl ⟨by rfl, ?_⟩) (by assumption) ?_
    rotate_left 1
    · intro w_ hSw
      go_simp
      try with_reducible rfl
    try simp only [Act.put]
    refine wpAnyH_take (i := 4) (oi := _) (v := ?_) rfl (by kernel_rfl) (by kernel_rfl) (by kernel_rfl) (fun _ _ _ h => h) (Or.inl ⟨by rfl, ?_⟩) (by assumption) ?_
    rotate_left 1
    · intro w_ hSw
      have q_x2 := x2 ⟨w_, hSw⟩
      dsimp only at q_x2
      go_simp
      try with_reducible rfl
    try simp only [Act.put]
    refine wpAnyH_take (i := 6) (oi := _) (v := ?_) rfl (by kernel_rfl) (by kernel_rfl) (by kernel_rfl) (fun _ _ _ h => h) (Or.inl ⟨by rfl, ?_⟩) (by assumption) ?_
    rotate_left 1
    · intro w_ hSw
      go_simp
      try with_reducible rfl
    try simp only [Act.put]
    refine wpAnyH_take (i := 7) (oi := _) (v := ?_) rfl (by kernel_rfl) (by kernel_rfl) (by kernel_rfl) (fun _ _ _ h => h) (Or.inl ⟨by rfl, ?_⟩) (by assumption) ?_
    rotate_left 1
    · intro w_ hSw
      have q_s0 := s0 ⟨w_, hSw⟩
      dsimp only at q_s0
      go_simp
      try with_reducible rfl
    try simp only [Act.put]
    refine wpAnyH_ready (rs := [5, 12]) (by kernel_rfl) (by simp) ?_
    refine AllReadyH.cons (o := _) rfl (fun _ hK => ?_) ?_
    · go_simp
      refine (HC1 X0 hHeld).mono ?_
      rintro e X1 ⟨rfl, hbr⟩
      try go_simp
      refine hK.out _ _ (hHeld.trans (hbr.mono hHeld.size)) (fun hHeld => ?_)
      clear hbr
      clear hK
      try simp only [Act.put, List.setIfInBounds_toArray, List.set_cons_zero, List.set_cons_succ]
      refine wpAnyH_ready (rs := [8, 12]) (by kernel_rfl) (by simp) ?_
      refine AllReadyH.cons (o := _) rfl (fun _ hK => ?_) ?_
      · go_simp
        refine (HG X1).mono ?_
        rintro e X2 ⟨rfl, hbr⟩
        try go_simp
        refine hK.out _ _ (hHeld.trans (hbr.mono hHeld.size)) (fun hHeld => ?_)
        clear hbr
        clear hK
        try simp only [Act.put, List.setIfInBounds_toArray, List.set_cons_zero, List.set_cons_succ]
        refine wpAnyH_take (i := 9) (oi := _) (v := ?_) rfl (by kernel_rfl) (by kernel_rfl) (by kernel_rfl) (fun _ _ _ h => h) (Or.inl ⟨by rfl, ?_⟩) (by assumption) ?_
        rotate_left 1
        · intro w_ hSw
          go_simp
          try with_reducible rfl
        try simp only [Act.put, List.setIfInBounds_toArray]
        refine wpAnyH_take (i := 10) (oi := _) (v := ?_) rfl (by kernel_rfl) (by kernel_rfl) (by kernel_rfl) (fun _ _ _ h => h) (Or.inl ⟨by rfl, ?_⟩) (by assumption) ?_
        rotate_left 1
        · intro w_ hSw
          go_simp
          try with_reducible rfl
        try simp only [Act.put]
        refine wpAnyH_take (i := 11) (oi := _) (v := ?_) rfl (by kernel_rfl) (by kernel_rfl) (by kernel_rfl) (fun _ _ _ h => h) (Or.inl ⟨by rfl, ?_⟩) (by assumption) ?_
        rotate_left 1
        · intro w_ hSw
          go_simp
          try with_reducible rfl
        try simp only [Act.put]
        refine wpAnyH_ready (rs := [12]) (by kernel_rfl) (by simp) ?_
        refine AllReadyH.cons (o := _) rfl (fun _ hK => ?_) AllReadyH.nil
        go_simp
        have nq := heap_alloc_new X2 (.cells #[.int .u8 0, .int .u8 0] 26)
        have hal := hHeld.alloc hHeld.size (.cells #[.int .u8 0, .int .u8 0] 26)
        have lq := hHeld.size
        generalize X2.heap.size = bq at *
        generalize X2.alloc (.cells #[.int .u8 0, .int .u8 0] 26) = X3 at *
        refine hK.out _ _ hal (fun hHeld => ?_)
        clear hal
        clear hK
        try simp only [Act.put, List.setIfInBounds_toArray, List.set_cons_zero, List.set_cons_succ]
        refine wpAnyH_ready (rs := [13]) (by kernel_rfl) (by simp) ?_
        refine AllReadyH.cons (o := _) rfl (fun _ hK => ?_) AllReadyH.nil
        obtain ⟨y0, y1, yf⟩ := now2 nq rfl
        go_simp
        clear y0 y1 yf
        refine hK.out _ _ ((hHeld.setCell (by show w1.heap.size ≤ bq; omega) _).setCell (by show w1.heap.size ≤ bq; omega) _) (fun hHeld => ?_)
        replace nq := put2 (x0 := .int .u8 ym.toNat) (x1 := .int .u8 yv.toNat) nq
        clear hK
        try simp only [Act.put, List.setIfInBounds_toArray, List.set_cons_zero, List.set_cons_succ]
        refine wpAnyH_ready (rs := [14]) (by kernel_rfl) (by simp) ?_
        refine AllReadyH.cons (o := _) rfl (fun _ hK => ?_) AllReadyH.nil
        go_simp
        refine hK.out _ _ hHeld (fun hHeld => ?_)
        clear hK
        try simp only [Act.put, List.setIfInBounds_toArray, List.set_cons_zero, List.set_cons_succ]
        refine wpAnyH_done (by kernel_rfl) ?_ _
        go_wp2_with fail
        go_meet
        exact ⟨bq, rfl, rfl, nq, hHeld⟩
      refine AllReadyH.cons (o := _) rfl (fun _ hK => ?_) AllReadyH.nil
      go_simp
      have nq := heap_alloc_new X1 (.cells #[.int .u8 0, .int .u8 0] 26)
      have hal := hHeld.alloc hHeld.size (.cells #[.int .u8 0, .int .u8 0] 26)
      have lq := hHeld.size
      generalize X1.heap.size = bq at *
      generalize X1.alloc (.cells #[.int .u8 0, .int .u8 0] 26) = X2 at *
      refine hK.out _ _ hal (fun hHeld => ?_)
      clear hal
      clear hK
      try simp only [Act.put, List.setIfInBounds_toArray, List.set_cons_zero, List.set_cons_succ]
      refine wpAnyH_ready (rs := [8]) (by kernel_rfl) (by simp) ?_
      refine AllReadyH.cons (o := _) rfl (fun _ hK => ?_) AllReadyH.nil
      go_simp
      refine (HG X2).mono ?_
      rintro e X3 ⟨rfl, hbr⟩
      replace nq := keep_blk hbr nq
      try go_simp
      refine hK.out _ _ (hHeld.trans (hbr.mono hHeld.size)) (fun hHeld => ?_)
      clear hbr
      clear hK
      try simp only [Act.put, List.setIfInBounds_toArray, List.set_cons_zero, List.set_cons_succ]
      refine wpAnyH_take (i := 9) (oi := _) (v := ?_) rfl (by kernel_rfl) (by kernel_rfl) (by kernel_rfl) (fun _ _ _ h => h) (Or.inl ⟨by rfl, ?_⟩) (by assumption) ?_
      rotate_left 1
      · intro w_ hSw
        go_simp
        try with_reducible rfl
      try simp only [Act.put, List.setIfInBounds_toArray]
      refine wpAnyH_take (i := 10) (oi := _) (v := ?_) rfl (by kernel_rfl) (by kernel_rfl) (by kernel_rfl) (fun _ _ _ h => h) (Or.inl ⟨by rfl, ?_⟩) (by assumption) ?_
      rotate_left 1
      · intro w_ hSw
        go_simp
        try with_reducible rfl
      try simp only [Act.put]
      refine wpAnyH_take (i := 11) (oi := _) (v := ?_) rfl (by kernel_rfl) (by kernel_rfl) (by kernel_rfl) (fun _ _ _ h => h) (Or.inl ⟨by rfl, ?_⟩) (by assumption) ?_
      rotate_left 1
      · intro w_ hSw
        go_simp
        try with_reducible rfl
      try simp only [Act.put]
      refine wpAnyH_ready (rs := [13]) (by kernel_rfl) (by simp) ?_
      refine AllReadyH.cons (o := _) rfl (fun _ hK => ?_) AllReadyH.nil
      obtain ⟨y0, y1, yf⟩ := now2 nq rfl
      go_simp
      clear y0 y1 yf
      refine hK.out _ _ ((hHeld.setCell (by show w1.heap.size ≤ bq; omega) _).setCell (by show w1.heap.size ≤ bq; omega) _) (fun hHeld => ?_)
      replace nq := put2 (x0 := .int .u8 ym.toNat) (x1 := .int .u8 yv.toNat) nq
      clear hK
      try simp only [Act.put, List.setIfInBounds_toArray, List.set_cons_zero, List.set_cons_succ]
      refine wpAnyH_ready (rs := [14]) (by kernel_rfl) (by simp) ?_
      refine AllReadyH.cons (o := _) rfl (fun _ hK => ?_) AllReadyH.nil
      go_simp
      refine hK.out _ _ hHeld (fun hHeld => ?_)
      clear hK
      try simp only [Act.put, List.setIfInBounds_toArray, List.set_cons_zero, List.set_cons_succ]
      refine wpAnyH_done (by kernel_rfl) ?_ _
      go_wp2_with fail
      go_meet
      exact ⟨bq, rfl, rfl, nq, hHeld⟩
    refine AllReadyH.cons (o := _) rfl (fun _ hK => ?_) AllReadyH.nil
    go_simp
    have nq := heap_alloc_new X0 (.cells #[.int .u8 0, .int .u8 0] 26)
    have hal := hHeld.alloc hHeld.size (.cells #[.int .u8 0, .int .u8 0] 26)
    have lq := hHeld.size
    generalize X0.heap.size = bq at *
    generalize X0.alloc (.cells #[.int .u8 0, .int .u8 0] 26) = X1 at *
    refine hK.out _ _ hal (fun hHeld => ?_)
    clear hal
    clear hK
    try simp only [Act.put, List.setIfInBounds_toArray, List.set_cons_zero, List.set_cons_succ]
    refine wpAnyH_ready (rs := [5]) (by kernel_rfl) (by simp) ?_
    refine AllReadyH.cons (o := _) rfl (fun _ hK => ?_) AllReadyH.nil
    go_simp
    refine (HC1 X1 hHeld).mono ?_
    rintro e X2 ⟨rfl, hbr⟩
    replace nq := keep_blk hbr nq
    try go_simp
    refine hK.out _ _ (hHeld.trans (hbr.mono hHeld.size)) (fun hHeld => ?_)
    clear hbr
    clear hK
    try simp only [Act.put, List.setIfInBounds_toArray, List.set_cons_zero, List.set_cons_succ]
    refine wpAnyH_ready (rs := [8]) (by kernel_rfl) (by simp) ?_
    refine AllReadyH.cons (o := _) rfl (fun _ hK => ?_) AllReadyH.nil
    go_simp
    refine (HG X2).mono ?_
    rintro e X3 ⟨rfl, hbr⟩
    replace nq := keep_blk hbr nq
    try go_simp
    refine hK.out _ _ (hHeld.trans (hbr.mono hHeld.size)) (fun hHeld => ?_)
    clear hbr
    clear hK
    try simp only [Act.put, List.setIfInBounds_toArray, List.set_cons_zero, List.set_cons_succ]
    refine wpAnyH_take (i := 9) (oi := _) (v := ?_) rfl (by kernel_rfl) (by kernel_rfl) (by kernel_rfl) (fun _ _ _ h => h) (Or.inl ⟨by rfl, ?_⟩) (by assumption) ?_
    rotate_left 1
    · intro w_ hSw
      go_simp
      try with_reducible rfl
    try simp only [Act.put, List.setIfInBounds_toArray]
    refine wpAnyH_take (i := 10) (oi := _) (v := ?_) rfl (by kernel_rfl) (by kernel_rfl) (by kernel_rfl) (fun _ _ _ h => h) (Or.inl ⟨by rfl, ?_⟩) (by assumption) ?_
    rotate_left 1
    · intro w_ hSw
      go_simp
      try with_reducible rfl
    try simp only [Act.put]
    refine wpAnyH_take (i := 11) (oi := _) (v := ?_) rfl (by kernel_rfl) (by kernel_rfl) (by kernel_rfl) (fun _ _ _ h => h) (Or.inl ⟨by rfl, ?_⟩) (by assumption) ?_
    rotate_left 1
    · intro w_ hSw
      go_simp
      try with_reducible rfl
    try simp only [Act.put]
    refine wpAnyH_ready (rs := [13]) (by kernel_rfl) (by simp) ?_
    refine AllReadyH.cons (o := _) rfl (fun _ hK => ?_) AllReadyH.nil
    obtain ⟨y0, y1, yf⟩ := now2 nq rfl
    go_simp
    clear y0 y1 yf
    refine hK.out _ _ ((hHeld.setCell (by show w1.heap.size ≤ bq; omega) _).setCell (by show w1.heap.size ≤ bq; omega) _) (fun hHeld => ?_)
    replace nq := put2 (x0 := .int .u8 ym.toNat) (x1 := .int .u8 yv.toNat) nq
    clear hK
    try simp only [Act.put, List.setIfInBounds_toArray, List.set_cons_zero, List.set_cons_succ]
    refine wpAnyH_ready (rs := [14]) (by kernel_rfl) (by simp) ?_
    refine AllReadyH.cons (o := _) rfl (fun _ hK => ?_) AllReadyH.nil
    go_simp
    refine hK.out _ _ hHeld (fun hHeld => ?_)
    clear hK
    try simp only [Act.put, List.setIfInBounds_toArray, List.set_cons_zero, List.set_cons_succ]
    refine wpAnyH_done (by kernel_rfl) ?_ _
    go_wp2_with fail
    go_meet
    exact ⟨bq, rfl, rfl, nq, hHeld⟩
  case rest =>
    obtain ⟨by', rfl, rfl, hy, hc⟩ := hcut
    clear HC1 HG
    have hB2 := hB1.trans (hc.mono hB1.size)
    have hs2 := keep_blk hc hs1
    have hz2 := keep_blk hc hz1
    have HO2 := fun X : After wc => HO1 X.1 (hc.trans (X.2.mono hc.size))
    clear HO1 hs1 hx1 hz1 hB1
    go_upto_region 6 with (fail)
    obtain ⟨s0, s1, s2, -⟩ := box3 hs2 rfl
    obtain ⟨y0, y1, -⟩ := box2 hy rfl
    refine wp_region_after_tail 5 (by kernel_rfl) (by kernel_rfl) ?_
    simp only [List.take_succ_cons, List.take_zero, List.drop_succ_cons, List.drop_zero]
    repeat (first | go_big_quiet_step ((go_at_call 19; exact Calls.after_of (HO2 _))))
    refine wpQuiet_nil ?_
    intro X
    have hz3 := X.same hz2
    have hB3 := hB2.trans (X.2.mono hB2.size)
    clear s0 s1 s2 y0 y1 HO2 hz2 hs2 hy hB2 hc
    obtain ⟨z0, z1, z2, zf⟩ := now3 hz3 rfl
    have hput := put3 (x0 := .int .u8 ym.toNat) (x1 := .int .u8 yv.toNat) (x2 := .int .u8 yo.toNat) hz3
    obtain ⟨q0, q1, q2, -⟩ := now3 hput rfl
    have hBz : Below w.heap.size w (((X.1.setCell ⟨w.heap.size + 2, 0, none⟩ (.int .u8 ym.toNat)).setCell ⟨w.heap.size + 2, 1, none⟩ (.int .u8 yv.toNat)).setCell ⟨w.heap.size + 2, 2, none⟩ (.int .u8 yo.toNat)) := ((hB3.setCell (by simp) _).setCell (by simp) _).setCell (by simp) _
    clear hput hz3 hB3
    go_wp2
    exact bodyPost_ret (v := .tuple #[.agg #[.int .u8 ym.toNat, .int .u8 yv.toNat, .int .u8 yo.toNat], .int .i64 0]) (by simp [results, Tryz.results15, go_sem, q0, q1, q2]) rfl ⟨rfl, hBz⟩
theorem mgrow_any : GrowM := by
  intro i A C on may x w hA hC
  cases hs : (spB ⟨i, on, may⟩ && rowIn ⟨i, on, may⟩ x)
  · exact mgrow_no i A C on may x hs w hA hC
  · obtain ⟨n, rfl, hn, h1, h4, hl⟩ := sp_known (Bool.and_eq_true_iff.1 hs).1
    exact mgrow_yes n hn A C on may x hs w hA hC (by omega) hl
set_option maxHeartbeats 2000000 in
set_option maxRecDepth 100000 in
theorem mprime_any : PrimeM := by
  intro i A C on may x w hA hC
  have hB := below_alloc2 w (spb i A C) (rwB3 x)
  have hsp : ((w.alloc (spb i A C)).alloc (rwB3 x)).heap[w.heap.size]? = some (spb i A C) := by rw [heap_alloc2_old]
  have hxp : ((w.alloc (spb i A C)).alloc (rwB3 x)).heap[w.heap.size + 1]? = some (rwB3 x) := by rw [heap_alloc2_new]
  have HG := mgrow_any i A C on may x _ ((hA.below hB).more hB.size) ((hC.below hB).more hB.size)
  cases hs : (spB ⟨i, on, may⟩ && rowIn ⟨i, on, may⟩ x)
  · have e : (spB ⟨i, on, may⟩ && primR ⟨i, on, may⟩ x) = false := by
      rw [Bool.eq_false_iff]
      intro h
      rw [Bool.and_eq_true] at h
      rw [h.1, prim_in h.2] at hs
      cases hs
    rw [e]
    rw [hs, if_neg (by decide), if_neg (by decide)] at HG
    rw [show rwv ⟨0, 0, 0⟩ = .agg #[.int .u8 0, .int .u8 0, .int .u8 0] from rfl] at HG
    obtain ⟨A, ac, rfl, -, -⟩ := hA
    obtain ⟨C, cc, rfl, -, -⟩ := hC
    clear hs e
    unfold spv spb rwv rwB3 bvv at *
    go_enter Tryz.func9, Tryz.ntmps9
    go_upto_region 1 with (fail)
    generalize (w.alloc _).alloc _ = W at *
    obtain ⟨s0, s1, s2, -⟩ := now3 hsp rfl
    obtain ⟨x0, x1, x2, -⟩ := now3 hxp rfl
    go_wp2_with fail
    refine HG.mono ?_
    rintro e w1 ⟨rfl, hb1⟩
    have hB1 := hB.trans (hb1.mono hB.size)
    clear HG s0 s1 s2 x0 x1 x2 hsp hxp hB hb1
    go_wp2
    go_ret
    exact ⟨rfl, hB1.trans ((below_alloc1 _ _).mono hB1.size)⟩
  · obtain ⟨n, rfl, hn, h1, h4, hl⟩ := sp_known (Bool.and_eq_true_iff.1 hs).1
    have e : (spB ⟨n, on, may⟩ && primR ⟨n, on, may⟩ x) = decide ((growR ⟨n, on, may⟩ x).m = x.m ∧ (growR ⟨n, on, may⟩ x).v = x.v ∧ (growR ⟨n, on, may⟩ x).o = x.o) := by
      rw [(Bool.and_eq_true_iff.1 hs).1, Bool.true_and, Bool.eq_iff_iff, decide_eq_true_iff, ← grow_same (s := ⟨n, on, may⟩) (show on.length ≤ 8 by omega) (Bool.and_eq_true_iff.1 hs).2]
      generalize growR ⟨n, on, may⟩ x = y
      cases x; cases y
      simp
    rw [e]
    have EQ := fun w => eq_row (growR ⟨n, on, may⟩ x) x w
    rw [hs, if_pos rfl, if_pos rfl] at HG
    generalize growR ⟨n, on, may⟩ x = y at *
    generalize decide (y.m = x.m ∧ y.v = x.v ∧ y.o = x.o) = q at *
    obtain ⟨A, ac, rfl, -, -⟩ := hA
    obtain ⟨C, cc, rfl, -, -⟩ := hC
    clear hs e h1 h4 hl hn
    unfold spv spb rwv rwB3 bvv at *
    go_enter Tryz.func9, Tryz.ntmps9
    go_upto_region 1 with (fail)
    generalize (w.alloc _).alloc _ = W at *
    obtain ⟨s0, s1, s2, -⟩ := now3 hsp rfl
    obtain ⟨x0, x1, x2, -⟩ := now3 hxp rfl
    go_wp2_with fail
    refine HG.mono ?_
    rintro e w1 ⟨rfl, hb1⟩
    have hB1 := hB.trans (hb1.mono hB.size)
    have hx1 := keep_blk hb1 hxp
    clear HG s0 s1 s2 x0 x1 x2 hsp hxp hB hb1
    have hx2 := keep_alloc (x := .cells #[.int .u8 y.m.toNat, .int .u8 y.v.toNat, .int .u8 y.o.toNat] 28) hx1
    have hy2 := heap_alloc_new w1 (.cells #[.int .u8 y.m.toNat, .int .u8 y.v.toNat, .int .u8 y.o.toNat] 28)
    have hB2 := hB1.trans ((below_alloc1 w1 (.cells #[.int .u8 y.m.toNat, .int .u8 y.v.toNat, .int .u8 y.o.toNat] 28)).mono hB1.size)
    go_upto_region 2 with (fail)
    generalize w1.alloc _ = w2 at *
    obtain ⟨x0, x1, x2, -⟩ := now3 hx2 rfl
    obtain ⟨y0, y1, y2, -⟩ := now3 hy2 rfl
    go_wp2
    go_ret
    exact ⟨rfl, hB2⟩
end Go.Proofs.YtmgggennbnbjkaaGreat
