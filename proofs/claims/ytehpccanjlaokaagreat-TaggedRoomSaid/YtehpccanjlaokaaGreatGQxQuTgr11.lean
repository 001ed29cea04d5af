/- The primes of a part: what is made of both its halves; all parts. -/
import Derived.Test.YtehpccanjlaokaaGreatGQ33
namespace Go.Proofs.YtehpccanjlaokaaGreat
open Go.RowKit Go.Joins

theorem Kz.putNew {M N : Nat → Prop} {W1 X : World} {b : Nat} {T : TypeId} {A : Array Value} {z : Nat × Nat} (hS : Kz no8 M N W1 X) (h : X.heap[b]? = some (.cells A T z)) (hb : W1.heap.size ≤ b) (hN : ¬ N b) (v : Value) : Kz no8 M N W1 (X.setCell ⟨b, 0, none⟩ v) :=
  ((hS.mono (C' := fun q => q = b) (M' := M) (N' := N) (fun _ hq => hq.elim) (fun _ h => h) (fun _ h => h)).trans (Kz.put1 (C := fun q => q = b) (M := M) h rfl hN v)).fresh (fun q hq => .inr (by rw [hq]; exact hb)) (fun q hq => .inl hq)
set_option maxHeartbeats 8000000 in
set_option maxRecDepth 100000 in
theorem tcombine_any {n k : Nat} (hn : n ≤ 6) (IH : PrimesOk n k) {N : Nat → Prop} {w : World} {zb ab bm drb mm : Nat} {v : Value} {full : Nat} {S : St} {C : Nat} (hd : ZdAt w N zb ab bm v 20000 full S) (hdr : DrAt w drb zb n mm) (hr : RemP w mm n S C) (hne : mm ≠ bm) (hN : ¬ N mm)
    (X : BitVec 256) (i : Nat) (hik : i + (k + 1) = n) (hX : LowI n i X) (hroom : cnt S + cN (k + 1) < 20000) (hC : C + 3 * eN k ≤ 1000000) :
    Calls Tryz.prog 77 #[.pointer (some ⟨drb, 0, none⟩), sv X, .int .i64 i] w (DfPost N w zb ab bm n mm S C (cN (k + 1)) (3 * eN k) (FI n i X)) := by
  have hV := hd.zst.vst
  have hb3 := below_alloc3 w (.cells #[.pointer (some ⟨drb, 0, none⟩)] 92) (.cells (sa X) 51) (.cells #[.int .i64 i] 3)
  have hbd := heap_alloc3_a w (.cells #[.pointer (some ⟨drb, 0, none⟩)] 92) (.cells (sa X) 51) (.cells #[.int .i64 i] 3)
  have hbs := heap_alloc3_b w (.cells #[.pointer (some ⟨drb, 0, none⟩)] 92) (.cells (sa X) 51) (.cells #[.int .i64 i] 3)
  have hbi := heap_alloc3_c w (.cells #[.pointer (some ⟨drb, 0, none⟩)] 92) (.cells (sa X) 51) (.cells #[.int .i64 i] 3)
  have hd1 := hd.below hb3
  have hdr1 := hdr.below hb3
  have hr1 := hr.below hb3
  have hk1 : Kz no8 (MZ bm mm) N w (((w.alloc (.cells #[.pointer (some ⟨drb, 0, none⟩)] 92)).alloc (.cells (sa X) 51)).alloc (.cells #[.int .i64 i] 3)) := Kz.of_below hb3
  have hsz := hb3.size
  have HZ := fun w => half_any X (i : Int) false w
  have HO1 := fun w => half_any X (i : Int) true w
  have HO2 := fun w => tlowered_any (halfB X i true) i (by omega) w
  rw [lwS_half X (by omega : i < 8)] at HO2
  have hLz := low_zero (by omega : n ≤ 8) (by omega : i < n) hX
  have hLo := low_one hX
  have hLb := lowI_and (T := loB X i) hLz
  have hFI := FI_halves (S := X) (by omega : n ≤ 8) (by omega : i < n)
  generalize halfB X i false = Z at *
  generalize halfB X i true = O1 at *
  generalize loB X i = O at *
  unfold sv sa wv at *
  go_enter Tryz.func77, Tryz.ntmps77
  go_upto_region 1 with (fail)
  generalize ((w.alloc _).alloc _).alloc _ = W1 at *
  obtain ⟨s0, s1, s2, s3, -⟩ := box4 hbs rfl
  obtain ⟨i0, -⟩ := boxz1 hbi rfl
  have hN1 : ∀ q, N q → q < w.heap.size := fun q hq => (hd.off q hq).1
  go_cut [8, 9] from 14 (fun s8 s9 wc => ∃ bz bo : Nat, s8 = .pointer (some ⟨bz, 0, none⟩) ∧ s9 = .pointer (some ⟨bo, 0, none⟩) ∧ wc.heap[bz]? = some (.cells #[.int .u64 (wd Z 0).toNat, .int .u64 (wd Z 1).toNat, .int .u64 (wd Z 2).toNat, .int .u64 (wd Z 3).toNat] 51 (0, 0)) ∧ wc.heap[bo]? = some (.cells #[.int .u64 (wd O 0).toNat, .int .u64 (wd O 1).toNat, .int .u64 (wd O 2).toNat, .int .u64 (wd O 3).toNat] 51 (0, 0)) ∧ Below W1.heap.size W1 wc)
  case first =>
    clear IH hd1 hdr1 hr1 hk1 hd hdr hr hLz hLo hLb hFI hroom hC hX hbd hbs hbi hb3 hV hik hN1
    refine wp_region_held_drew (S := fun W_ => Below W1.heap.size W1 W_) rfl (Below.refl _ W1).drew (fun hHeld => ?_)
    obtain ⟨X0, hX0⟩ : ∃ X0, X0 = W1.drew := ⟨_, rfl⟩
    rw [← hX0] at hHeld ⊢
    clear hX0
    refine wpAnyH_take (i := 0) (oi := _) (v := ?_) rfl (by kernel_rfl) (by kernel_rfl) (by kernel_rfl) (fun _ _ _ h => h) (Or.inl ⟨by rfl, ?_⟩) (by assumption) ?_
    rotate_left 1
    · intro w_ hSw
      have q_s0 := s0 ⟨w_, hSw⟩
      have q_s1 := s1 ⟨w_, hSw⟩
      have q_s2 := s2 ⟨w_, hSw⟩
      have q_s3 := s3 ⟨w_, hSw⟩
      dsimp only at q_s0 q_s1 q_s2 q_s3
      go_simp
      try with_reducible rfl
    try simp only [Act.put, List.setIfInBounds_toArray]
    refine wpAnyH_take (i := 1) (oi := _) (v := ?_) rfl (by kernel_rfl) (by kernel_rfl) (by kernel_rfl) (fun _ _ _ h => h) (Or.inl ⟨by rfl, ?_⟩) (by assumption) ?_
    rotate_left 1
    · intro w_ hSw
      have q_i0 := i0 ⟨w_, hSw⟩
      dsimp only at q_i0
      go_simp
      try with_reducible rfl
    try simp only [Act.put]
    refine wpAnyH_take (i := 3) (oi := _) (v := ?_) rfl (by kernel_rfl) (by kernel_rfl) (by kernel_rfl) (fun _ _ _ h => h) (Or.inl ⟨by rfl, ?_⟩) (by assumption) ?_
    rotate_left 1
    · intro w_ hSw
      have q_s0 := s0 ⟨w_, hSw⟩
      have q_s1 := s1 ⟨w_, hSw⟩
      have q_s2 := s2 ⟨w_, hSw⟩
      have q_s3 := s3 ⟨w_, hSw⟩
      dsimp only at q_s0 q_s1 q_s2 q_s3
      go_simp
      try with_reducible rfl
    try simp only [Act.put]
    refine wpAnyH_take (i := 4) (oi := _) (v := ?_) rfl (by kernel_rfl) (by kernel_rfl) (by kernel_rfl) (fun _ _ _ h => h) (Or.inl ⟨by rfl, ?_⟩) (by assumption) ?_
    rotate_left 1
    · intro w_ hSw
      have q_i0 := i0 ⟨w_, hSw⟩
      dsimp only at q_i0
      go_simp
      try with_reducible rfl
    try simp only [Act.put]
    refine wpAnyH_take (i := 6) (oi := _) (v := ?_) rfl (by kernel_rfl) (by kernel_rfl) (by kernel_rfl) (fun _ _ _ h => h) (Or.inl ⟨by rfl, ?_⟩) (by assumption) ?_
    rotate_left 1
    · intro w_ hSw
      have q_i0 := i0 ⟨w_, hSw⟩
      dsimp only at q_i0
      go_simp
      try with_reducible rfl
    try simp only [Act.put]
    refine wpAnyH_ready (rs := [2, 8, 9]) (by kernel_rfl) (by simp) ?_
    refine AllReadyH.cons (o := _) rfl (fun _ hK => ?_) ?_
    · go_simp
      refine (HZ X0).mono ?_
      rintro e X1 ⟨rfl, hbr⟩
      try go_simp
      refine hK.out _ _ (hHeld.trans (hbr.mono hHeld.size)) (fun hHeld => ?_)
      clear hbr
      clear hK
      try simp only [Act.put, List.setIfInBounds_toArray, List.set_cons_zero, List.set_cons_succ]
      refine wpAnyH_ready (rs := [5, 8, 9]) (by kernel_rfl) (by simp) ?_
      refine AllReadyH.cons (o := _) rfl (fun _ hK => ?_) ?_
      · go_simp
        refine (HO1 X1).mono ?_
        rintro e X2 ⟨rfl, hbr⟩
        try go_simp
        refine hK.out _ _ (hHeld.trans (hbr.mono hHeld.size)) (fun hHeld => ?_)
        clear hbr
        clear hK
        try simp only [Act.put, List.setIfInBounds_toArray, List.set_cons_zero, List.set_cons_succ]
        refine wpAnyH_ready (rs := [7, 8, 9]) (by kernel_rfl) (by simp) ?_
        refine AllReadyH.cons (o := _) rfl (fun _ hK => ?_) ?_
        · go_simp
          refine (HO2 X2).mono ?_
          rintro e X3 ⟨rfl, hbr⟩
          try go_simp
          refine hK.out _ _ (hHeld.trans (hbr.mono hHeld.size)) (fun hHeld => ?_)
          clear hbr
          clear hK
          try simp only [Act.put, List.setIfInBounds_toArray, List.set_cons_zero, List.set_cons_succ]
          refine wpAnyH_ready (rs := [8, 9]) (by kernel_rfl) (by simp) ?_
          refine AllReadyH.cons (o := _) rfl (fun _ hK => ?_) ?_
          · go_simp
            have nz := heap_alloc_new X3 (.cells #[.int .u64 0, .int .u64 0, .int .u64 0, .int .u64 0] 51 (0, 0))
            have hal := hHeld.alloc hHeld.size (.cells #[.int .u64 0, .int .u64 0, .int .u64 0, .int .u64 0] 51 (0, 0))
            have lz := hHeld.size
            generalize X3.heap.size = bz at *
            generalize X3.alloc (.cells #[.int .u64 0, .int .u64 0, .int .u64 0, .int .u64 0] 51 (0, 0)) = X4 at *
            refine hK.out _ _ hal (fun hHeld => ?_)
            clear hal
            clear hK
            try simp only [Act.put, List.setIfInBounds_toArray, List.set_cons_zero, List.set_cons_succ]
            refine wpAnyH_ready (rs := [9]) (by kernel_rfl) (by simp) ?_
            refine AllReadyH.cons (o := _) rfl (fun _ hK => ?_) AllReadyH.nil
            go_simp
            have no := heap_alloc_new X4 (.cells #[.int .u64 0, .int .u64 0, .int .u64 0, .int .u64 0] 51 (0, 0))
            have hal := hHeld.alloc hHeld.size (.cells #[.int .u64 0, .int .u64 0, .int .u64 0, .int .u64 0] 51 (0, 0))
            have lo := hHeld.size
            have dzo := size_of_block nz
            replace nz := keep_alloc (x := .cells #[.int .u64 0, .int .u64 0, .int .u64 0, .int .u64 0] 51 (0, 0)) nz
            generalize X4.heap.size = bo at *
            generalize X4.alloc (.cells #[.int .u64 0, .int .u64 0, .int .u64 0, .int .u64 0] 51 (0, 0)) = X5 at *
            refine hK.out _ _ hal (fun hHeld => ?_)
            clear hal
            clear hK
            try simp only [Act.put, List.setIfInBounds_toArray, List.set_cons_zero, List.set_cons_succ]
            refine wpAnyH_ready (rs := [10]) (by kernel_rfl) (by simp) ?_
            refine AllReadyH.cons (o := _) rfl (fun _ hK => ?_) AllReadyH.nil
            obtain ⟨y0, y1, y2, y3, yf⟩ := now4 nz rfl
            go_simp
            clear y0 y1 y2 y3 yf
            refine hK.out _ _ ((((hHeld.setCell (by show W1.heap.size ≤ bz; omega) _).setCell (by show W1.heap.size ≤ bz; omega) _).setCell (by show W1.heap.size ≤ bz; omega) _).setCell (by show W1.heap.size ≤ bz; omega) _) (fun hHeld => ?_)
            replace nz := put4 (x0 := .int .u64 (wd Z 0).toNat) (x1 := .int .u64 (wd Z 1).toNat) (x2 := .int .u64 (wd Z 2).toNat) (x3 := .int .u64 (wd Z 3).toNat) nz
            replace no := keep_set4 (c := bz) (x0 := .int .u64 (wd Z 0).toNat) (x1 := .int .u64 (wd Z 1).toNat) (x2 := .int .u64 (wd Z 2).toNat) (x3 := .int .u64 (wd Z 3).toNat) (by omega) no
            clear hK
            try simp only [Act.put, List.setIfInBounds_toArray, List.set_cons_zero, List.set_cons_succ]
            refine wpAnyH_ready (rs := [11]) (by kernel_rfl) (by simp) ?_
            refine AllReadyH.cons (o := _) rfl (fun _ hK => ?_) AllReadyH.nil
            obtain ⟨y0, y1, y2, y3, yf⟩ := now4 no rfl
            go_simp
            clear y0 y1 y2 y3 yf
            refine hK.out _ _ ((((hHeld.setCell (by show W1.heap.size ≤ bo; omega) _).setCell (by show W1.heap.size ≤ bo; omega) _).setCell (by show W1.heap.size ≤ bo; omega) _).setCell (by show W1.heap.size ≤ bo; omega) _) (fun hHeld => ?_)
            replace no := put4 (x0 := .int .u64 (wd O 0).toNat) (x1 := .int .u64 (wd O 1).toNat) (x2 := .int .u64 (wd O 2).toNat) (x3 := .int .u64 (wd O 3).toNat) no
            replace nz := keep_set4 (c := bo) (x0 := .int .u64 (wd O 0).toNat) (x1 := .int .u64 (wd O 1).toNat) (x2 := .int .u64 (wd O 2).toNat) (x3 := .int .u64 (wd O 3).toNat) (by omega) nz
            clear hK
            try simp only [Act.put, List.setIfInBounds_toArray, List.set_cons_zero, List.set_cons_succ]
            refine wpAnyH_done (by kernel_rfl) ?_ _
            go_wp2_with fail
            go_meet
            exact ⟨bz, bo, rfl, rfl, nz, no, hHeld⟩
          refine AllReadyH.cons (o := _) rfl (fun _ hK => ?_) AllReadyH.nil
          go_simp
          have no := heap_alloc_new X3 (.cells #[.int .u64 0, .int .u64 0, .int .u64 0, .int .u64 0] 51 (0, 0))
          have hal := hHeld.alloc hHeld.size (.cells #[.int .u64 0, .int .u64 0, .int .u64 0, .int .u64 0] 51 (0, 0))
          have lo := hHeld.size
          generalize X3.heap.size = bo at *
          generalize X3.alloc (.cells #[.int .u64 0, .int .u64 0, .int .u64 0, .int .u64 0] 51 (0, 0)) = X4 at *
          refine hK.out _ _ hal (fun hHeld => ?_)
          clear hal
          clear hK
          try simp only [Act.put, List.setIfInBounds_toArray, List.set_cons_zero, List.set_cons_succ]
          refine wpAnyH_ready (rs := [8]) (by kernel_rfl) (by simp) ?_
          refine AllReadyH.cons (o := _) rfl (fun _ hK => ?_) AllReadyH.nil
          go_simp
          have nz := heap_alloc_new X4 (.cells #[.int .u64 0, .int .u64 0, .int .u64 0, .int .u64 0] 51 (0, 0))
          have hal := hHeld.alloc hHeld.size (.cells #[.int .u64 0, .int .u64 0, .int .u64 0, .int .u64 0] 51 (0, 0))
          have lz := hHeld.size
          have doz := size_of_block no
          replace no := keep_alloc (x := .cells #[.int .u64 0, .int .u64 0, .int .u64 0, .int .u64 0] 51 (0, 0)) no
          generalize X4.heap.size = bz at *
          generalize X4.alloc (.cells #[.int .u64 0, .int .u64 0, .int .u64 0, .int .u64 0] 51 (0, 0)) = X5 at *
          refine hK.out _ _ hal (fun hHeld => ?_)
          clear hal
          clear hK
          try simp only [Act.put, List.setIfInBounds_toArray, List.set_cons_zero, List.set_cons_succ]
          refine wpAnyH_ready (rs := [10]) (by kernel_rfl) (by simp) ?_
          refine AllReadyH.cons (o := _) rfl (fun _ hK => ?_) AllReadyH.nil
          obtain ⟨y0, y1, y2, y3, yf⟩ := now4 nz rfl
          go_simp
          clear y0 y1 y2 y3 yf
          refine hK.out _ _ ((((hHeld.setCell (by show W1.heap.size ≤ bz; omega) _).setCell (by show W1.heap.size ≤ bz; omega) _).setCell (by show W1.heap.size ≤ bz; omega) _).setCell (by show W1.heap.size ≤ bz; omega) _) (fun hHeld => ?_)
          replace nz := put4 (x0 := .int .u64 (wd Z 0).toNat) (x1 := .int .u64 (wd Z 1).toNat) (x2 := .int .u64 (wd Z 2).toNat) (x3 := .int .u64 (wd Z 3).toNat) nz
          replace no := keep_set4 (c := bz) (x0 := .int .u64 (wd Z 0).toNat) (x1 := .int .u64 (wd Z 1).toNat) (x2 := .int .u64 (wd Z 2).toNat) (x3 := .int .u64 (wd Z 3).toNat) (by omega) no
          clear hK
          try simp only [Act.put, List.setIfInBounds_toArray, List.set_cons_zero, List.set_cons_succ]
          refine wpAnyH_ready (rs := [11]) (by kernel_rfl) (by simp) ?_
          refine AllReadyH.cons (o := _) rfl (fun _ hK => ?_) AllReadyH.nil
          obtain ⟨y0, y1, y2, y3, yf⟩ := now4 no rfl
          go_simp
          clear y0 y1 y2 y3 yf
          refine hK.out _ _ ((((hHeld.setCell (by show W1.heap.size ≤ bo; omega) _).setCell (by show W1.heap.size ≤ bo; omega) _).setCell (by show W1.heap.size ≤ bo; omega) _).setCell (by show W1.heap.size ≤ bo; omega) _) (fun hHeld => ?_)
          replace no := put4 (x0 := .int .u64 (wd O 0).toNat) (x1 := .int .u64 (wd O 1).toNat) (x2 := .int .u64 (wd O 2).toNat) (x3 := .int .u64 (wd O 3).toNat) no
          replace nz := keep_set4 (c := bo) (x0 := .int .u64 (wd O 0).toNat) (x1 := .int .u64 (wd O 1).toNat) (x2 := .int .u64 (wd O 2).toNat) (x3 := .int .u64 (wd O 3).toNat) (by omega) nz
          clear hK
          try simp only [Act.put, List.setIfInBounds_toArray, List.set_cons_zero, List.set_cons_succ]
          refine wpAnyH_done (by kernel_rfl) ?_ _
          go_wp2_with fail
          go_meet
          exact ⟨bz, bo, rfl, rfl, nz, no, hHeld⟩
        refine AllReadyH.cons (o := _) rfl (fun _ hK => ?_) ?_
        · go_simp
          have nz := heap_alloc_new X2 (.cells #[.int .u64 0, .int .u64 0, .int .u64 0, .int .u64 0] 51 (0, 0))
          have hal := hHeld.alloc hHeld.size (.cells #[.int .u64 0, .int .u64 0, .int .u64 0, .int .u64 0] 51 (0, 0))
          have lz := hHeld.size
          generalize X2.heap.size = bz at *
          generalize X2.alloc (.cells #[.int .u64 0, .int .u64 0, .int .u64 0, .int .u64 0] 51 (0, 0)) = X3 at *
          refine hK.out _ _ hal (fun hHeld => ?_)
          clear hal
          clear hK
          try simp only [Act.put, List.setIfInBounds_toArray, List.set_cons_zero, List.set_cons_succ]
          refine wpAnyH_ready (rs := [7, 9]) (by kernel_rfl) (by simp) ?_
          refine AllReadyH.cons (o := _) rfl (fun _ hK => ?_) ?_
          · go_simp
            refine (HO2 X3).mono ?_
            rintro e X4 ⟨rfl, hbr⟩
            replace nz := keep_blk hbr nz
            try go_simp
            refine hK.out _ _ (hHeld.trans (hbr.mono hHeld.size)) (fun hHeld => ?_)
            clear hbr
            clear hK
            try simp only [Act.put, List.setIfInBounds_toArray, List.set_cons_zero, List.set_cons_succ]
            refine wpAnyH_ready (rs := [9]) (by kernel_rfl) (by simp) ?_
            refine AllReadyH.cons (o := _) rfl (fun _ hK => ?_) AllReadyH.nil
            go_simp
            have no := heap_alloc_new X4 (.cells #[.int .u64 0, .int .u64 0, .int .u64 0, .int .u64 0] 51 (0, 0))
            have hal := hHeld.alloc hHeld.size (.cells #[.int .u64 0, .int .u64 0, .int .u64 0, .int .u64 0] 51 (0, 0))
            have lo := hHeld.size
            have dzo := size_of_block nz
            replace nz := keep_alloc (x := .cells #[.int .u64 0, .int .u64 0, .int .u64 0, .int .u64 0] 51 (0, 0)) nz
            generalize X4.heap.size = bo at *
            generalize X4.alloc (.cells #[.int .u64 0, .int .u64 0, .int .u64 0, .int .u64 0] 51 (0, 0)) = X5 at *
            refine hK.out _ _ hal (fun hHeld => ?_)
            clear hal
            clear hK
            try simp only [Act.put, List.setIfInBounds_toArray, List.set_cons_zero, List.set_cons_succ]
            refine wpAnyH_ready (rs := [10]) (by kernel_rfl) (by simp) ?_
            refine AllReadyH.cons (o := _) rfl (fun _ hK => ?_) AllReadyH.nil
            obtain ⟨y0, y1, y2, y3, yf⟩ := now4 nz rfl
            go_simp
            clear y0 y1 y2 y3 yf
            refine hK.out _ _ ((((hHeld.setCell (by show W1.heap.size ≤ bz; omega) _).setCell (by show W1.heap.size ≤ bz; omega) _).setCell (by show W1.heap.size ≤ bz; omega) _).setCell (by show W1.heap.size ≤ bz; omega) _) (fun hHeld => ?_)
            replace nz := put4 (x0 := .int .u64 (wd Z 0).toNat) (x1 := .int .u64 (wd Z 1).toNat) (x2 := .int .u64 (wd Z 2).toNat) (x3 := .int .u64 (wd Z 3).toNat) nz
            replace no := keep_set4 (c := bz) (x0 := .int .u64 (wd Z 0).toNat) (x1 := .int .u64 (wd Z 1).toNat) (x2 := .int .u64 (wd Z 2).toNat) (x3 := .int .u64 (wd Z 3).toNat) (by omega) no
            clear hK
            try simp only [Act.put, List.setIfInBounds_toArray, List.set_cons_zero, List.set_cons_succ]
            refine wpAnyH_ready (rs := [11]) (by kernel_rfl) (by simp) ?_
            refine AllReadyH.cons (o := _) rfl (fun _ hK => ?_) AllReadyH.nil
            obtain ⟨y0, y1, y2, y3, yf⟩ := now4 no rfl
            go_simp
            clear y0 y1 y2 y3 yf
            refine hK.out _ _ ((((hHeld.setCell (by show W1.heap.size ≤ bo; omega) _).setCell (by show W1.heap.size ≤ bo; omega) _).setCell (by show W1.heap.size ≤ bo; omega) _).setCell (by show W1.heap.size ≤ bo; omega) _) (fun hHeld => ?_)
            replace no := put4 (x0 := .int .u64 (wd O 0).toNat) (x1 := .int .u64 (wd O 1).toNat) (x2 := .int .u64 (wd O 2).toNat) (x3 := .int .u64 (wd O 3).toNat) no
            replace nz := keep_set4 (c := bo) (x0 := .int .u64 (wd O 0).toNat) (x1 := .int .u64 (wd O 1).toNat) (x2 := .int .u64 (wd O 2).toNat) (x3 := .int .u64 (wd O 3).toNat) (by omega) nz
            clear hK
            try simp only [Act.put, List.setIfInBounds_toArray, List.set_cons_zero, List.set_cons_succ]
            refine wpAnyH_done (by kernel_rfl) ?_ _
            go_wp2_with fail
            go_meet
            exact ⟨bz, bo, rfl, rfl, nz, no, hHeld⟩
          refine AllReadyH.cons (o := _) rfl (fun _ hK => ?_) AllReadyH.nil
          go_simp
          have no := heap_alloc_new X3 (.cells #[.int .u64 0, .int .u64 0, .int .u64 0, .int .u64 0] 51 (0, 0))
          have hal := hHeld.alloc hHeld.size (.cells #[.int .u64 0, .int .u64 0, .int .u64 0, .int .u64 0] 51 (0, 0))
          have lo := hHeld.size
          have dzo := size_of_block nz
          replace nz := keep_alloc (x := .cells #[.int .u64 0, .int .u64 0, .int .u64 0, .int .u64 0] 51 (0, 0)) nz
          generalize X3.heap.size = bo at *
          generalize X3.alloc (.cells #[.int .u64 0, .int .u64 0, .int .u64 0, .int .u64 0] 51 (0, 0)) = X4 at *
          refine hK.out _ _ hal (fun hHeld => ?_)
          clear hal
          clear hK
          try simp only [Act.put, List.setIfInBounds_toArray, List.set_cons_zero, List.set_cons_succ]
          refine wpAnyH_ready (rs := [7]) (by kernel_rfl) (by simp) ?_
          refine AllReadyH.cons (o := _) rfl (fun _ hK => ?_) AllReadyH.nil
          go_simp
          refine (HO2 X4).mono ?_
          rintro e X5 ⟨rfl, hbr⟩
          replace nz := keep_blk hbr nz
          replace no := keep_blk hbr no
          try go_simp
          refine hK.out _ _ (hHeld.trans (hbr.mono hHeld.size)) (fun hHeld => ?_)
          clear hbr
          clear hK
          try simp only [Act.put, List.setIfInBounds_toArray, List.set_cons_zero, List.set_cons_succ]
          refine wpAnyH_ready (rs := [10]) (by kernel_rfl) (by simp) ?_
          refine AllReadyH.cons (o := _) rfl (fun _ hK => ?_) AllReadyH.nil
          obtain ⟨y0, y1, y2, y3, yf⟩ := now4 nz rfl
          go_simp
          clear y0 y1 y2 y3 yf
          refine hK.out _ _ ((((hHeld.setCell (by show W1.heap.size ≤ bz; omega) _).setCell (by show W1.heap.size ≤ bz; omega) _).setCell (by show W1.heap.size ≤ bz; omega) _).setCell (by show W1.heap.size ≤ bz; omega) _) (fun hHeld => ?_)
          replace nz := put4 (x0 := .int .u64 (wd Z 0).toNat) (x1 := .int .u64 (wd Z 1).toNat) (x2 := .int .u64 (wd Z 2).toNat) (x3 := .int .u64 (wd Z 3).toNat) nz
          replace no := keep_set4 (c := bz) (x0 := .int .u64 (wd Z 0).toNat) (x1 := .int .u64 (wd Z 1).toNat) (x2 := .int .u64 (wd Z 2).toNat) (x3 := .int .u64 (wd Z 3).toNat) (by omega) no
          clear hK
          try simp only [Act.put, List.setIfInBounds_toArray, List.set_cons_zero, List.set_cons_succ]
          refine wpAnyH_ready (rs := [11]) (by kernel_rfl) (by simp) ?_
          refine AllReadyH.cons (o := _) rfl (fun _ hK => ?_) AllReadyH.nil
          obtain ⟨y0, y1, y2, y3, yf⟩ := now4 no rfl
          go_simp
          clear y0 y1 y2 y3 yf
          refine hK.out _ _ ((((hHeld.setCell (by show W1.heap.size ≤ bo; omega) _).setCell (by show W1.heap.size ≤ bo; omega) _).setCell (by show W1.heap.size ≤ bo; omega) _).setCell (by show W1.heap.size ≤ bo; omega) _) (fun hHeld => ?_)
          replace no := put4 (x0 := .int .u64 (wd O 0).toNat) (x1 := .int .u64 (wd O 1).toNat) (x2 := .int .u64 (wd O 2).toNat) (x3 := .int .u64 (wd O 3).toNat) no
          replace nz := keep_set4 (c := bo) (x0 := .int .u64 (wd O 0).toNat) (x1 := .int .u64 (wd O 1).toNat) (x2 := .int .u64 (wd O 2).toNat) (x3 := .int .u64 (wd O 3).toNat) (by omega) nz
          clear hK
          try simp only [Act.put, List.setIfInBounds_toArray, List.set_cons_zero, List.set_cons_succ]
          refine wpAnyH_done (by kernel_rfl) ?_ _
          go_wp2_with fail
          go_meet
          exact ⟨bz, bo, rfl, rfl, nz, no, hHeld⟩
        refine AllReadyH.cons (o := _) rfl (fun _ hK => ?_) AllReadyH.nil
        go_simp
        have no := heap_alloc_new X2 (.cells #[.int .u64 0, .int .u64 0, .int .u64 0, .int .u64 0] 51 (0, 0))
        have hal := hHeld.alloc hHeld.size (.cells #[.int .u64 0, .int .u64 0, .int .u64 0, .int .u64 0] 51 (0, 0))
        have lo := hHeld.size
        generalize X2.heap.size = bo at *
        generalize X2.alloc (.cells #[.int .u64 0, .int .u64 0, .int .u64 0, .int .u64 0] 51 (0, 0)) = X3 at *
        refine hK.out _ _ hal (fun hHeld => ?_)
        clear hal
        clear hK
        try simp only [Act.put, List.setIfInBounds_toArray, List.set_cons_zero, List.set_cons_succ]
        refine wpAnyH_ready (rs := [7, 8]) (by kernel_rfl) (by simp) ?_
        refine AllReadyH.cons (o := _) rfl (fun _ hK => ?_) ?_
        · go_simp
          refine (HO2 X3).mono ?_
          rintro e X4 ⟨rfl, hbr⟩
          replace no := keep_blk hbr no
          try go_simp
          refine hK.out _ _ (hHeld.trans (hbr.mono hHeld.size)) (fun hHeld => ?_)
          clear hbr
          clear hK
          try simp only [Act.put, List.setIfInBounds_toArray, List.set_cons_zero, List.set_cons_succ]
          refine wpAnyH_ready (rs := [8]) (by kernel_rfl) (by simp) ?_
          refine AllReadyH.cons (o := _) rfl (fun _ hK => ?_) AllReadyH.nil
          go_simp
          have nz := heap_alloc_new X4 (.cells #[.int .u64 0, .int .u64 0, .int .u64 0, .int .u64 0] 51 (0, 0))
          have hal := hHeld.alloc hHeld.size (.cells #[.int .u64 0, .int .u64 0, .int .u64 0, .int .u64 0] 51 (0, 0))
          have lz := hHeld.size
          have doz := size_of_block no
          replace no := keep_alloc (x := .cells #[.int .u64 0, .int .u64 0, .int .u64 0, .int .u64 0] 51 (0, 0)) no
          generalize X4.heap.size = bz at *
          generalize X4.alloc (.cells #[.int .u64 0, .int .u64 0, .int .u64 0, .int .u64 0] 51 (0, 0)) = X5 at *
          refine hK.out _ _ hal (fun hHeld => ?_)
          clear hal
          clear hK
          try simp only [Act.put, List.setIfInBounds_toArray, List.set_cons_zero, List.set_cons_succ]
          refine wpAnyH_ready (rs := [10]) (by kernel_rfl) (by simp) ?_
          refine AllReadyH.cons (o := _) rfl (fun _ hK => ?_) AllReadyH.nil
          obtain ⟨y0, y1, y2, y3, yf⟩ := now4 nz rfl
          go_simp
          clear y0 y1 y2 y3 yf
          refine hK.out _ _ ((((hHeld.setCell (by show W1.heap.size ≤ bz; omega) _).setCell (by show W1.heap.size ≤ bz; omega) _).setCell (by show W1.heap.size ≤ bz; omega) _).setCell (by show W1.heap.size ≤ bz; omega) _) (fun hHeld => ?_)
          replace nz := put4 (x0 := .int .u64 (wd Z 0).toNat) (x1 := .int .u64 (wd Z 1).toNat) (x2 := .int .u64 (wd Z 2).toNat) (x3 := .int .u64 (wd Z 3).toNat) nz
          replace no := keep_set4 (c := bz) (x0 := .int .u64 (wd Z 0).toNat) (x1 := .int .u64 (wd Z 1).toNat) (x2 := .int .u64 (wd Z 2).toNat) (x3 := .int .u64 (wd Z 3).toNat) (by omega) no
          clear hK
          try simp only [Act.put, List.setIfInBounds_toArray, List.set_cons_zero, List.set_cons_succ]
          refine wpAnyH_ready (rs := [11]) (by kernel_rfl) (by simp) ?_
          refine AllReadyH.cons (o := _) rfl (fun _ hK => ?_) AllReadyH.nil
          obtain ⟨y0, y1, y2, y3, yf⟩ := now4 no rfl
          go_simp
          clear y0 y1 y2 y3 yf
          refine hK.out _ _ ((((hHeld.setCell (by show W1.heap.size ≤ bo; omega) _).setCell (by show W1.heap.size ≤ bo; omega) _).setCell (by show W1.heap.size ≤ bo; omega) _).setCell (by show W1.heap.size ≤ bo; omega) _) (fun hHeld => ?_)
          replace no := put4 (x0 := .int .u64 (wd O 0).toNat) (x1 := .int .u64 (wd O 1).toNat) (x2 := .int .u64 (wd O 2).toNat) (x3 := .int .u64 (wd O 3).toNat) no
          replace nz := keep_set4 (c := bo) (x0 := .int .u64 (wd O 0).toNat) (x1 := .int .u64 (wd O 1).toNat) (x2 := .int .u64 (wd O 2).toNat) (x3 := .int .u64 (wd O 3).toNat) (by omega) nz
          clear hK
          try simp only [Act.put, List.setIfInBounds_toArray, List.set_cons_zero, List.set_cons_succ]
          refine wpAnyH_done (by kernel_rfl) ?_ _
          go_wp2_with fail
          go_meet
          exact ⟨bz, bo, rfl, rfl, nz, no, hHeld⟩
        refine AllReadyH.cons (o := _) rfl (fun _ hK => ?_) AllReadyH.nil
        go_simp
        have nz := heap_alloc_new X3 (.cells #[.int .u64 0, .int .u64 0, .int .u64 0, .int .u64 0] 51 (0, 0))
        have hal := hHeld.alloc hHeld.size (.cells #[.int .u64 0, .int .u64 0, .int .u64 0, .int .u64 0] 51 (0, 0))
        have lz := hHeld.size
        have doz := size_of_block no
        replace no := keep_alloc (x := .cells #[.int .u64 0, .int .u64 0, .int .u64 0, .int .u64 0] 51 (0, 0)) no
        generalize X3.heap.size = bz at *
        generalize X3.alloc (.cells #[.int .u64 0, .int .u64 0, .int .u64 0, .int .u64 0] 51 (0, 0)) = X4 at *
        refine hK.out _ _ hal (fun hHeld => ?_)
        clear hal
        clear hK
        try simp only [Act.put, List.setIfInBounds_toArray, List.set_cons_zero, List.set_cons_succ]
        refine wpAnyH_ready (rs := [7]) (by kernel_rfl) (by simp) ?_
        refine AllReadyH.cons (o := _) rfl (fun _ hK => ?_) AllReadyH.nil
        go_simp
        refine (HO2 X4).mono ?_
        rintro e X5 ⟨rfl, hbr⟩
        replace no := keep_blk hbr no
        replace nz := keep_blk hbr nz
        try go_simp
        refine hK.out _ _ (hHeld.trans (hbr.mono hHeld.size)) (fun hHeld => ?_)
        clear hbr
        clear hK
        try simp only [Act.put, List.setIfInBounds_toArray, List.set_cons_zero, List.set_cons_succ]
        refine wpAnyH_ready (rs := [10]) (by kernel_rfl) (by simp) ?_
        refine AllReadyH.cons (o := _) rfl (fun _ hK => ?_) AllReadyH.nil
        obtain ⟨y0, y1, y2, y3, yf⟩ := now4 nz rfl
        go_simp
        clear y0 y1 y2 y3 yf
        refine hK.out _ _ ((((hHeld.setCell (by show W1.heap.size ≤ bz; omega) _).setCell (by show W1.heap.size ≤ bz; omega) _).setCell (by show W1.heap.size ≤ bz; omega) _).setCell (by show W1.heap.size ≤ bz; omega) _) (fun hHeld => ?_)
        replace nz := put4 (x0 := .int .u64 (wd Z 0).toNat) (x1 := .int .u64 (wd Z 1).toNat) (x2 := .int .u64 (wd Z 2).toNat) (x3 := .int .u64 (wd Z 3).toNat) nz
        replace no := keep_set4 (c := bz) (x0 := .int .u64 (wd Z 0).toNat) (x1 := .int .u64 (wd Z 1).toNat) (x2 := .int .u64 (wd Z 2).toNat) (x3 := .int .u64 (wd Z 3).toNat) (by omega) no
        clear hK
        try simp only [Act.put, List.setIfInBounds_toArray, List.set_cons_zero, List.set_cons_succ]
        refine wpAnyH_ready (rs := [11]) (by kernel_rfl) (by simp) ?_
        refine AllReadyH.cons (o := _) rfl (fun _ hK => ?_) AllReadyH.nil
        obtain ⟨y0, y1, y2, y3, yf⟩ := now4 no rfl
        go_simp
        clear y0 y1 y2 y3 yf
        refine hK.out _ _ ((((hHeld.setCell (by show W1.heap.size ≤ bo; omega) _).setCell (by show W1.heap.size ≤ bo; omega) _).setCell (by show W1.heap.size ≤ bo; omega) _).setCell (by show W1.heap.size ≤ bo; omega) _) (fun hHeld => ?_)
        replace no := put4 (x0 := .int .u64 (wd O 0).toNat) (x1 := .int .u64 (wd O 1).toNat) (x2 := .int .u64 (wd O 2).toNat) (x3 := .int .u64 (wd O 3).toNat) no
        replace nz := keep_set4 (c := bo) (x0 := .int .u64 (wd O 0).toNat) (x1 := .int .u64 (wd O 1).toNat) (x2 := .int .u64 (wd O 2).toNat) (x3 := .int .u64 (wd O 3).toNat) (by omega) nz
        clear hK
        try simp only [Act.put, List.setIfInBounds_toArray, List.set_cons_zero, List.set_cons_succ]
        refine wpAnyH_done (by kernel_rfl) ?_ _
        go_wp2_with fail
        go_meet
        exact ⟨bz, bo, rfl, rfl, nz, no, hHeld⟩
      refine AllReadyH.cons (o := _) rfl (fun _ hK => ?_) ?_
      · go_simp
        have nz := heap_alloc_new X1 (.cells #[.int .u64 0, .int .u64 0, .int .u64 0, .int .u64 0] 51 (0, 0))
        have hal := hHeld.alloc hHeld.size (.cells #[.int .u64 0, .int .u64 0, .int .u64 0, .int .u64 0] 51 (0, 0))
        have lz := hHeld.size
        generalize X1.heap.size = bz at *
        generalize X1.alloc (.cells #[.int .u64 0, .int .u64 0, .int .u64 0, .int .u64 0] 51 (0, 0)) = X2 at *
        refine hK.out _ _ hal (fun hHeld => ?_)
        clear hal
        clear hK
        try simp only [Act.put, List.setIfInBounds_toArray, List.set_cons_zero, List.set_cons_succ]
        refine wpAnyH_ready (rs := [5, 9]) (by kernel_rfl) (by simp) ?_
        refine AllReadyH.cons (o := _) rfl (fun _ hK => ?_) ?_
        · go_simp
          refine (HO1 X2).mono ?_
          rintro e X3 ⟨rfl, hbr⟩
          replace nz := keep_blk hbr nz
          try go_simp
          refine hK.out _ _ (hHeld.trans (hbr.mono hHeld.size)) (fun hHeld => ?_)
          clear hbr
          clear hK
          try simp only [Act.put, List.setIfInBounds_toArray, List.set_cons_zero, List.set_cons_succ]
          refine wpAnyH_ready (rs := [7, 9]) (by kernel_rfl) (by simp) ?_
          refine AllReadyH.cons (o := _) rfl (fun _ hK => ?_) ?_
          · go_simp
            refine (HO2 X3).mono ?_
            rintro e X4 ⟨rfl, hbr⟩
            replace nz := keep_blk hbr nz
            try go_simp
            refine hK.out _ _ (hHeld.trans (hbr.mono hHeld.size)) (fun hHeld => ?_)
            clear hbr
            clear hK
            try simp only [Act.put, List.setIfInBounds_toArray, List.set_cons_zero, List.set_cons_succ]
            refine wpAnyH_ready (rs := [9]) (by kernel_rfl) (by simp) ?_
            refine AllReadyH.cons (o := _) rfl (fun _ hK => ?_) AllReadyH.nil
            go_simp
            have no := heap_alloc_new X4 (.cells #[.int .u64 0, .int .u64 0, .int .u64 0, .int .u64 0] 51 (0, 0))
            have hal := hHeld.alloc hHeld.size (.cells #[.int .u64 0, .int .u64 0, .int .u64 0, .int .u64 0] 51 (0, 0))
            have lo := hHeld.size
            have dzo := size_of_block nz
            replace nz := keep_alloc (x := .cells #[.int .u64 0, .int .u64 0, .int .u64 0, .int .u64 0] 51 (0, 0)) nz
            generalize X4.heap.size = bo at *
            generalize X4.alloc (.cells #[.int .u64 0, .int .u64 0, .int .u64 0, .int .u64 0] 51 (0, 0)) = X5 at *
            refine hK.out _ _ hal (fun hHeld => ?_)
            clear hal
            clear hK
            try simp only [Act.put, List.setIfInBounds_toArray, List.set_cons_zero, List.set_cons_succ]
            refine wpAnyH_ready (rs := [10]) (by kernel_rfl) (by simp) ?_
            refine AllReadyH.cons (o := _) rfl (fun _ hK => ?_) AllReadyH.nil
            obtain ⟨y0, y1, y2, y3, yf⟩ := now4 nz rfl
            go_simp
            clear y0 y1 y2 y3 yf
            refine hK.out _ _ ((((hHeld.setCell (by show W1.heap.size ≤ bz; omega) _).setCell (by show W1.heap.size ≤ bz; omega) _).setCell (by show W1.heap.size ≤ bz; omega) _).setCell (by show W1.heap.size ≤ bz; omega) _) (fun hHeld => ?_)
            replace nz := put4 (x0 := .int .u64 (wd Z 0).toNat) (x1 := .int .u64 (wd Z 1).toNat) (x2 := .int .u64 (wd Z 2).toNat) (x3 := .int .u64 (wd Z 3).toNat) nz
            replace no := keep_set4 (c := bz) (x0 := .int .u64 (wd Z 0).toNat) (x1 := .int .u64 (wd Z 1).toNat) (x2 := .int .u64 (wd Z 2).toNat) (x3 := .int .u64 (wd Z 3).toNat) (by omega) no
            clear hK
            try simp only [Act.put, List.setIfInBounds_toArray, List.set_cons_zero, List.set_cons_succ]
            refine wpAnyH_ready (rs := [11]) (by kernel_rfl) (by simp) ?_
            refine AllReadyH.cons (o := _) rfl (fun _ hK => ?_) AllReadyH.nil
            obtain ⟨y0, y1, y2, y3, yf⟩ := now4 no rfl
            go_simp
            clear y0 y1 y2 y3 yf
            refine hK.out _ _ ((((hHeld.setCell (by show W1.heap.size ≤ bo; omega) _).setCell (by show W1.heap.size ≤ bo; omega) _).setCell (by show W1.heap.size ≤ bo; omega) _).setCell (by show W1.heap.size ≤ bo; omega) _) (fun hHeld => ?_)
            replace no := put4 (x0 := .int .u64 (wd O 0).toNat) (x1 := .int .u64 (wd O 1).toNat) (x2 := .int .u64 (wd O 2).toNat) (x3 := .int .u64 (wd O 3).toNat) no
            replace nz := keep_set4 (c := bo) (x0 := .int .u64 (wd O 0).toNat) (x1 := .int .u64 (wd O 1).toNat) (x2 := .int .u64 (wd O 2).toNat) (x3 := .int .u64 (wd O 3).toNat) (by omega) nz
            clear hK
            try simp only [Act.put, List.setIfInBounds_toArray, List.set_cons_zero, List.set_cons_succ]
            refine wpAnyH_done (by kernel_rfl) ?_ _
            go_wp2_with fail
            go_meet
            exact ⟨bz, bo, rfl, rfl, nz, no, hHeld⟩
          refine AllReadyH.cons (o := _) rfl (fun _ hK => ?_) AllReadyH.nil
          go_simp
          have no := heap_alloc_new X3 (.cells #[.int .u64 0, .int .u64 0, .int .u64 0, .int .u64 0] 51 (0, 0))
          have hal := hHeld.alloc hHeld.size (.cells #[.int .u64 0, .int .u64 0, .int .u64 0, .int .u64 0] 51 (0, 0))
          have lo := hHeld.size
          have dzo := size_of_block nz
          replace nz := keep_alloc (x := .cells #[.int .u64 0, .int .u64 0, .int .u64 0, .int .u64 0] 51 (0, 0)) nz
          generalize X3.heap.size = bo at *
          generalize X3.alloc (.cells #[.int .u64 0, .int .u64 0, .int .u64 0, .int .u64 0] 51 (0, 0)) = X4 at *
          refine hK.out _ _ hal (fun hHeld => ?_)
          clear hal
          clear hK
          try simp only [Act.put, List.setIfInBounds_toArray, List.set_cons_zero, List.set_cons_succ]
          refine wpAnyH_ready (rs := [7]) (by kernel_rfl) (by simp) ?_
          refine AllReadyH.cons (o := _) rfl (fun _ hK => ?_) AllReadyH.nil
          go_simp
          refine (HO2 X4).mono ?_
          rintro e X5 ⟨rfl, hbr⟩
          replace nz := keep_blk hbr nz
          replace no := keep_blk hbr no
          try go_simp
          refine hK.out _ _ (hHeld.trans (hbr.mono hHeld.size)) (fun hHeld => ?_)
          clear hbr
          clear hK
          try simp only [Act.put, List.setIfInBounds_toArray, List.set_cons_zero, List.set_cons_succ]
          refine wpAnyH_ready (rs := [10]) (by kernel_rfl) (by simp) ?_
          refine AllReadyH.cons (o := _) rfl (fun _ hK => ?_) AllReadyH.nil
          obtain ⟨y0, y1, y2, y3, yf⟩ := now4 nz rfl
          go_simp
          clear y0 y1 y2 y3 yf
          refine hK.out _ _ ((((hHeld.setCell (by show W1.heap.size ≤ bz; omega) _).setCell (by show W1.heap.size ≤ bz; omega) _).setCell (by show W1.heap.size ≤ bz; omega) _).setCell (by show W1.heap.size ≤ bz; omega) _) (fun hHeld => ?_)
          replace nz := put4 (x0 := .int .u64 (wd Z 0).toNat) (x1 := .int .u64 (wd Z 1).toNat) (x2 := .int .u64 (wd Z 2).toNat) (x3 := .int .u64 (wd Z 3).toNat) nz
          replace no := keep_set4 (c := bz) (x0 := .int .u64 (wd Z 0).toNat) (x1 := .int .u64 (wd Z 1).toNat) (x2 := .int .u64 (wd Z 2).toNat) (x3 := .int .u64 (wd Z 3).toNat) (by omega) no
          clear hK
          try simp only [Act.put, List.setIfInBounds_toArray, List.set_cons_zero, List.set_cons_succ]
          refine wpAnyH_ready (rs := [11]) (by kernel_rfl) (by simp) ?_
          refine AllReadyH.cons (o := _) rfl (fun _ hK => ?_) AllReadyH.nil
          obtain ⟨y0, y1, y2, y3, yf⟩ := now4 no rfl
          go_simp
          clear y0 y1 y2 y3 yf
          refine hK.out _ _ ((((hHeld.setCell (by show W1.heap.size ≤ bo; omega) _).setCell (by show W1.heap.size ≤ bo; omega) _).setCell (by show W1.heap.size ≤ bo; omega) _).setCell (by show W1.heap.size ≤ bo; omega) _) (fun hHeld => ?_)
          replace no := put4 (x0 := .int .u64 (wd O 0).toNat) (x1 := .int .u64 (wd O 1).toNat) (x2 := .int .u64 (wd O 2).toNat) (x3 := .int .u64 (wd O 3).toNat) no
          replace nz := keep_set4 (c := bo) (x0 := .int .u64 (wd O 0).toNat) (x1 := .int .u64 (wd O 1).toNat) (x2 := .int .u64 (wd O 2).toNat) (x3 := .int .u64 (wd O 3).toNat) (by omega) nz
          clear hK
          try simp only [Act.put, List.setIfInBounds_toArray, List.set_cons_zero, List.set_cons_succ]
          refine wpAnyH_done (by kernel_rfl) ?_ _
          go_wp2_with fail
          go_meet
          exact ⟨bz, bo, rfl, rfl, nz, no, hHeld⟩
        refine AllReadyH.cons (o := _) rfl (fun _ hK => ?_) AllReadyH.nil
        go_simp
        have no := heap_alloc_new X2 (.cells #[.int .u64 0, .int .u64 0, .int .u64 0, .int .u64 0] 51 (0, 0))
        have hal := hHeld.alloc hHeld.size (.cells #[.int .u64 0, .int .u64 0, .int .u64 0, .int .u64 0] 51 (0, 0))
        have lo := hHeld.size
        have dzo := size_of_block nz
        replace nz := keep_alloc (x := .cells #[.int .u64 0, .int .u64 0, .int .u64 0, .int .u64 0] 51 (0, 0)) nz
        generalize X2.heap.size = bo at *
        generalize X2.alloc (.cells #[.int .u64 0, .int .u64 0, .int .u64 0, .int .u64 0] 51 (0, 0)) = X3 at *
        refine hK.out _ _ hal (fun hHeld => ?_)
        clear hal
        clear hK
        try simp only [Act.put, List.setIfInBounds_toArray, List.set_cons_zero, List.set_cons_succ]
        refine wpAnyH_ready (rs := [5]) (by kernel_rfl) (by simp) ?_
        refine AllReadyH.cons (o := _) rfl (fun _ hK => ?_) AllReadyH.nil
        go_simp
        refine (HO1 X3).mono ?_
        rintro e X4 ⟨rfl, hbr⟩
        replace nz := keep_blk hbr nz
        replace no := keep_blk hbr no
        try go_simp
        refine hK.out _ _ (hHeld.trans (hbr.mono hHeld.size)) (fun hHeld => ?_)
        clear hbr
        clear hK
        try simp only [Act.put, List.setIfInBounds_toArray, List.set_cons_zero, List.set_cons_succ]
        refine wpAnyH_ready (rs := [7]) (by kernel_rfl) (by simp) ?_
        refine AllReadyH.cons (o := _) rfl (fun _ hK => ?_) AllReadyH.nil
        go_simp
        refine (HO2 X4).mono ?_
        rintro e X5 ⟨rfl, hbr⟩
        replace nz := keep_blk hbr nz
        replace no := keep_blk hbr no
        try go_simp
        refine hK.out _ _ (hHeld.trans (hbr.mono hHeld.size)) (fun hHeld => ?_)
        clear hbr
        clear hK
        try simp only [Act.put, List.setIfInBounds_toArray, List.set_cons_zero, List.set_cons_succ]
        refine wpAnyH_ready (rs := [10]) (by kernel_rfl) (by simp) ?_
        refine AllReadyH.cons (o := _) rfl (fun _ hK => ?_) AllReadyH.nil
        obtain ⟨y0, y1, y2, y3, yf⟩ := now4 nz rfl
        go_simp
        clear y0 y1 y2 y3 yf
        refine hK.out _ _ ((((hHeld.setCell (by show W1.heap.size ≤ bz; omega) _).setCell (by show W1.heap.size ≤ bz; omega) _).setCell (by show W1.heap.size ≤ bz; omega) _).setCell (by show W1.heap.size ≤ bz; omega) _) (fun hHeld => ?_)
        replace nz := put4 (x0 := .int .u64 (wd Z 0).toNat) (x1 := .int .u64 (wd Z 1).toNat) (x2 := .int .u64 (wd Z 2).toNat) (x3 := .int .u64 (wd Z 3).toNat) nz
        replace no := keep_set4 (c := bz) (x0 := .int .u64 (wd Z 0).toNat) (x1 := .int .u64 (wd Z 1).toNat) (x2 := .int .u64 (wd Z 2).toNat) (x3 := .int .u64 (wd Z 3).toNat) (by omega) no
        clear hK
        try simp only [Act.put, List.setIfInBounds_toArray, List.set_cons_zero, List.set_cons_succ]
        refine wpAnyH_ready (rs := [11]) (by kernel_rfl) (by simp) ?_
        refine AllReadyH.cons (o := _) rfl (fun _ hK => ?_) AllReadyH.nil
        obtain ⟨y0, y1, y2, y3, yf⟩ := now4 no rfl
        go_simp
        clear y0 y1 y2 y3 yf
        refine hK.out _ _ ((((hHeld.setCell (by show W1.heap.size ≤ bo; omega) _).setCell (by show W1.heap.size ≤ bo; omega) _).setCell (by show W1.heap.size ≤ bo; omega) _).setCell (by show W1.heap.size ≤ bo; omega) _) (fun hHeld => ?_)
        replace no := put4 (x0 := .int .u64 (wd O 0).toNat) (x1 := .int .u64 (wd O 1).toNat) (x2 := .int .u64 (wd O 2).toNat) (x3 := .int .u64 (wd O 3).toNat) no
        replace nz := keep_set4 (c := bo) (x0 := .int .u64 (wd O 0).toNat) (x1 := .int .u64 (wd O 1).toNat) (x2 := .int .u64 (wd O 2).toNat) (x3 := .int .u64 (wd O 3).toNat) (by omega) nz
        clear hK
        try simp only [Act.put, List.setIfInBounds_toArray, List.set_cons_zero, List.set_cons_succ]
        refine wpAnyH_done (by kernel_rfl) ?_ _
        go_wp2_with fail
        go_meet
        exact ⟨bz, bo, rfl, rfl, nz, no, hHeld⟩
      refine AllReadyH.cons (o := _) rfl (fun _ hK => ?_) AllReadyH.nil
      go_simp
      have no := heap_alloc_new X1 (.cells #[.int .u64 0, .int .u64 0, .int .u64 0, .int .u64 0] 51 (0, 0))
      have hal := hHeld.alloc hHeld.size (.cells #[.int .u64 0, .int .u64 0, .int .u64 0, .int .u64 0] 51 (0, 0))
      have lo := hHeld.size
      generalize X1.heap.size = bo at *
      generalize X1.alloc (.cells #[.int .u64 0, .int .u64 0, .int .u64 0, .int .u64 0] 51 (0, 0)) = X2 at *
      refine hK.out _ _ hal (fun hHeld => ?_)
      clear hal
      clear hK
      try simp only [Act.put, List.setIfInBounds_toArray, List.set_cons_zero, List.set_cons_succ]
      refine wpAnyH_ready (rs := [5, 8]) (by kernel_rfl) (by simp) ?_
      refine AllReadyH.cons (o := _) rfl (fun _ hK => ?_) ?_
      · go_simp
        refine (HO1 X2).mono ?_
        rintro e X3 ⟨rfl, hbr⟩
        replace no := keep_blk hbr no
        try go_simp
        refine hK.out _ _ (hHeld.trans (hbr.mono hHeld.size)) (fun hHeld => ?_)
        clear hbr
        clear hK
        try simp only [Act.put, List.setIfInBounds_toArray, List.set_cons_zero, List.set_cons_succ]
        refine wpAnyH_ready (rs := [7, 8]) (by kernel_rfl) (by simp) ?_
        refine AllReadyH.cons (o := _) rfl (fun _ hK => ?_) ?_
        · go_simp
          refine (HO2 X3).mono ?_
          rintro e X4 ⟨rfl, hbr⟩
          replace no := keep_blk hbr no
          try go_simp
          refine hK.out _ _ (hHeld.trans (hbr.mono hHeld.size)) (fun hHeld => ?_)
          clear hbr
          clear hK
          try simp only [Act.put, List.setIfInBounds_toArray, List.set_cons_zero, List.set_cons_succ]
          refine wpAnyH_ready (rs := [8]) (by kernel_rfl) (by simp) ?_
          refine AllReadyH.cons (o := _) rfl (fun _ hK => ?_) AllReadyH.nil
          go_simp
          have nz := heap_alloc_new X4 (.cells #[.int .u64 0, .int .u64 0, .int .u64 0, .int .u64 0] 51 (0, 0))
          have hal := hHeld.alloc hHeld.size (.cells #[.int .u64 0, .int .u64 0, .int .u64 0, .int .u64 0] 51 (0, 0))
          have lz := hHeld.size
          have doz := size_of_block no
          replace no := keep_alloc (x := .cells #[.int .u64 0, .int .u64 0, .int .u64 0, .int .u64 0] 51 (0, 0)) no
          generalize X4.heap.size = bz at *
          generalize X4.alloc (.cells #[.int .u64 0, .int .u64 0, .int .u64 0, .int .u64 0] 51 (0, 0)) = X5 at *
          refine hK.out _ _ hal (fun hHeld => ?_)
          clear hal
          clear hK
          try simp only [Act.put, List.setIfInBounds_toArray, List.set_cons_zero, List.set_cons_succ]
          refine wpAnyH_ready (rs := [10]) (by kernel_rfl) (by simp) ?_
          refine AllReadyH.cons (o := _) rfl (fun _ hK => ?_) AllReadyH.nil
          obtain ⟨y0, y1, y2, y3, yf⟩ := now4 nz rfl
          go_simp
          clear y0 y1 y2 y3 yf
          refine hK.out _ _ ((((hHeld.setCell (by show W1.heap.size ≤ bz; omega) _).setCell (by show W1.heap.size ≤ bz; omega) _).setCell (by show W1.heap.size ≤ bz; omega) _).setCell (by show W1.heap.size ≤ bz; omega) _) (fun hHeld => ?_)
          replace nz := put4 (x0 := .int .u64 (wd Z 0).toNat) (x1 := .int .u64 (wd Z 1).toNat) (x2 := .int .u64 (wd Z 2).toNat) (x3 := .int .u64 (wd Z 3).toNat) nz
          replace no := keep_set4 (c := bz) (x0 := .int .u64 (wd Z 0).toNat) (x1 := .int .u64 (wd Z 1).toNat) (x2 := .int .u64 (wd Z 2).toNat) (x3 := .int .u64 (wd Z 3).toNat) (by omega) no
          clear hK
          try simp only [Act.put, List.setIfInBounds_toArray, List.set_cons_zero, List.set_cons_succ]
          refine wpAnyH_ready (rs := [11]) (by kernel_rfl) (by simp) ?_
          refine AllReadyH.cons (o := _) rfl (fun _ hK => ?_) AllReadyH.nil
          obtain ⟨y0, y1, y2, y3, yf⟩ := now4 no rfl
          go_simp
          clear y0 y1 y2 y3 yf
          refine hK.out _ _ ((((hHeld.setCell (by show W1.heap.size ≤ bo; omega) _).setCell (by show W1.heap.size ≤ bo; omega) _).setCell (by show W1.heap.size ≤ bo; omega) _).setCell (by show W1.heap.size ≤ bo; omega) _) (fun hHeld => ?_)
          replace no := put4 (x0 := .int .u64 (wd O 0).toNat) (x1 := .int .u64 (wd O 1).toNat) (x2 := .int .u64 (wd O 2).toNat) (x3 := .int .u64 (wd O 3).toNat) no
          replace nz := keep_set4 (c := bo) (x0 := .int .u64 (wd O 0).toNat) (x1 := .int .u64 (wd O 1).toNat) (x2 := .int .u64 (wd O 2).toNat) (x3 := .int .u64 (wd O 3).toNat) (by omega) nz
          clear hK
          try simp only [Act.put, List.setIfInBounds_toArray, List.set_cons_zero, List.set_cons_succ]
          refine wpAnyH_done (by kernel_rfl) ?_ _
          go_wp2_with fail
          go_meet
          exact ⟨bz, bo, rfl, rfl, nz, no, hHeld⟩
        refine AllReadyH.cons (o := _) rfl (fun _ hK => ?_) AllReadyH.nil
        go_simp
        have nz := heap_alloc_new X3 (.cells #[.int .u64 0, .int .u64 0, .int .u64 0, .int .u64 0] 51 (0, 0))
        have hal := hHeld.alloc hHeld.size (.cells #[.int .u64 0, .int .u64 0, .int .u64 0, .int .u64 0] 51 (0, 0))
        have lz := hHeld.size
        have doz := size_of_block no
        replace no := keep_alloc (x := .cells #[.int .u64 0, .int .u64 0, .int .u64 0, .int .u64 0] 51 (0, 0)) no
        generalize X3.heap.size = bz at *
        generalize X3.alloc (.cells #[.int .u64 0, .int .u64 0, .int .u64 0, .int .u64 0] 51 (0, 0)) = X4 at *
        refine hK.out _ _ hal (fun hHeld => ?_)
        clear hal
        clear hK
        try simp only [Act.put, List.setIfInBounds_toArray, List.set_cons_zero, List.set_cons_succ]
        refine wpAnyH_ready (rs := [7]) (by kernel_rfl) (by simp) ?_
        refine AllReadyH.cons (o := _) rfl (fun _ hK => ?_) AllReadyH.nil
        go_simp
        refine (HO2 X4).mono ?_
        rintro e X5 ⟨rfl, hbr⟩
        replace no := keep_blk hbr no
        replace nz := keep_blk hbr nz
        try go_simp
        refine hK.out _ _ (hHeld.trans (hbr.mono hHeld.size)) (fun hHeld => ?_)
        clear hbr
        clear hK
        try simp only [Act.put, List.setIfInBounds_toArray, List.set_cons_zero, List.set_cons_succ]
        refine wpAnyH_ready (rs := [10]) (by kernel_rfl) (by simp) ?_
        refine AllReadyH.cons (o := _) rfl (fun _ hK => ?_) AllReadyH.nil
        obtain ⟨y0, y1, y2, y3, yf⟩ := now4 nz rfl
        go_simp
        clear y0 y1 y2 y3 yf
        refine hK.out _ _ ((((hHeld.setCell (by show W1.heap.size ≤ bz; omega) _).setCell (by show W1.heap.size ≤ bz; omega) _).setCell (by show W1.heap.size ≤ bz; omega) _).setCell (by show W1.heap.size ≤ bz; omega) _) (fun hHeld => ?_)
        replace nz := put4 (x0 := .int .u64 (wd Z 0).toNat) (x1 := .int .u64 (wd Z 1).toNat) (x2 := .int .u64 (wd Z 2).toNat) (x3 := .int .u64 (wd Z 3).toNat) nz
        replace no := keep_set4 (c := bz) (x0 := .int .u64 (wd Z 0).toNat) (x1 := .int .u64 (wd Z 1).toNat) (x2 := .int .u64 (wd Z 2).toNat) (x3 := .int .u64 (wd Z 3).toNat) (by omega) no
        clear hK
        try simp only [Act.put, List.setIfInBounds_toArray, List.set_cons_zero, List.set_cons_succ]
        refine wpAnyH_ready (rs := [11]) (by kernel_rfl) (by simp) ?_
        refine AllReadyH.cons (o := _) rfl (fun _ hK => ?_) AllReadyH.nil
        obtain ⟨y0, y1, y2, y3, yf⟩ := now4 no rfl
        go_simp
        clear y0 y1 y2 y3 yf
        refine hK.out _ _ ((((hHeld.setCell (by show W1.heap.size ≤ bo; omega) _).setCell (by show W1.heap.size ≤ bo; omega) _).setCell (by show W1.heap.size ≤ bo; omega) _).setCell (by show W1.heap.size ≤ bo; omega) _) (fun hHeld => ?_)
        replace no := put4 (x0 := .int .u64 (wd O 0).toNat) (x1 := .int .u64 (wd O 1).toNat) (x2 := .int .u64 (wd O 2).toNat) (x3 := .int .u64 (wd O 3).toNat) no
        replace nz := keep_set4 (c := bo) (x0 := .int .u64 (wd O 0).toNat) (x1 := .int .u64 (wd O 1).toNat) (x2 := .int .u64 (wd O 2).toNat) (x3 := .int .u64 (wd O 3).toNat) (by omega) nz
        clear hK
        try simp only [Act.put, List.setIfInBounds_toArray, List.set_cons_zero, List.set_cons_succ]
        refine wpAnyH_done (by kernel_rfl) ?_ _
        go_wp2_with fail
        go_meet
        exact ⟨bz, bo, rfl, rfl, nz, no, hHeld⟩
      refine AllReadyH.cons (o := _) rfl (fun _ hK => ?_) AllReadyH.nil
      go_simp
      have nz := heap_alloc_new X2 (.cells #[.int .u64 0, .int .u64 0, .int .u64 0, .int .u64 0] 51 (0, 0))
      have hal := hHeld.alloc hHeld.size (.cells #[.int .u64 0, .int .u64 0, .int .u64 0, .int .u64 0] 51 (0, 0))
      have lz := hHeld.size
      have doz := size_of_block no
      replace no := keep_alloc (x := .cells #[.int .u64 0, .int .u64 0, .int .u64 0, .int .u64 0] 51 (0, 0)) no
      generalize X2.heap.size = bz at *
      generalize X2.alloc (.cells #[.int .u64 0, .int .u64 0, .int .u64 0, .int .u64 0] 51 (0, 0)) = X3 at *
      refine hK.out _ _ hal (fun hHeld => ?_)
      clear hal
      clear hK
      try simp only [Act.put, List.setIfInBounds_toArray, List.set_cons_zero, List.set_cons_succ]
      refine wpAnyH_ready (rs := [5]) (by kernel_rfl) (by simp) ?_
      refine AllReadyH.cons (o := _) rfl (fun _ hK => ?_) AllReadyH.nil
      go_simp
      refine (HO1 X3).mono ?_
      rintro e X4 ⟨rfl, hbr⟩
      replace no := keep_blk hbr no
      replace nz := keep_blk hbr nz
      try go_simp
      refine hK.out _ _ (hHeld.trans (hbr.mono hHeld.size)) (fun hHeld => ?_)
      clear hbr
      clear hK
      try simp only [Act.put, List.setIfInBounds_toArray, List.set_cons_zero, List.set_cons_succ]
      refine wpAnyH_ready (rs := [7]) (by kernel_rfl) (by simp) ?_
      refine AllReadyH.cons (o := _) rfl (fun _ hK => ?_) AllReadyH.nil
      go_simp
      refine (HO2 X4).mono ?_
      rintro e X5 ⟨rfl, hbr⟩
      replace no := keep_blk hbr no
      replace nz := keep_blk hbr nz
      try go_simp
      refine hK.out _ _ (hHeld.trans (hbr.mono hHeld.size)) (fun hHeld => ?_)
      clear hbr
      clear hK
      try simp only [Act.put, List.setIfInBounds_toArray, List.set_cons_zero, List.set_cons_succ]
      refine wpAnyH_ready (rs := [10]) (by kernel_rfl) (by simp) ?_
      refine AllReadyH.cons (o := _) rfl (fun _ hK => ?_) AllReadyH.nil
      obtain ⟨y0, y1, y2, y3, yf⟩ := now4 nz rfl
      go_simp
      clear y0 y1 y2 y3 yf
      refine hK.out _ _ ((((hHeld.setCell (by show W1.heap.size ≤ bz; omega) _).setCell (by show W1.heap.size ≤ bz; omega) _).setCell (by show W1.heap.size ≤ bz; omega) _).setCell (by show W1.heap.size ≤ bz; omega) _) (fun hHeld => ?_)
      replace nz := put4 (x0 := .int .u64 (wd Z 0).toNat) (x1 := .int .u64 (wd Z 1).toNat) (x2 := .int .u64 (wd Z 2).toNat) (x3 := .int .u64 (wd Z 3).toNat) nz
      replace no := keep_set4 (c := bz) (x0 := .int .u64 (wd Z 0).toNat) (x1 := .int .u64 (wd Z 1).toNat) (x2 := .int .u64 (wd Z 2).toNat) (x3 := .int .u64 (wd Z 3).toNat) (by omega) no
      clear hK
      try simp only [Act.put, List.setIfInBounds_toArray, List.set_cons_zero, List.set_cons_succ]
      refine wpAnyH_ready (rs := [11]) (by kernel_rfl) (by simp) ?_
      refine AllReadyH.cons (o := _) rfl (fun _ hK => ?_) AllReadyH.nil
      obtain ⟨y0, y1, y2, y3, yf⟩ := now4 no rfl
      go_simp
      clear y0 y1 y2 y3 yf
      refine hK.out _ _ ((((hHeld.setCell (by show W1.heap.size ≤ bo; omega) _).setCell (by show W1.heap.size ≤ bo; omega) _).setCell (by show W1.heap.size ≤ bo; omega) _).setCell (by show W1.heap.size ≤ bo; omega) _) (fun hHeld => ?_)
      replace no := put4 (x0 := .int .u64 (wd O 0).toNat) (x1 := .int .u64 (wd O 1).toNat) (x2 := .int .u64 (wd O 2).toNat) (x3 := .int .u64 (wd O 3).toNat) no
      replace nz := keep_set4 (c := bo) (x0 := .int .u64 (wd O 0).toNat) (x1 := .int .u64 (wd O 1).toNat) (x2 := .int .u64 (wd O 2).toNat) (x3 := .int .u64 (wd O 3).toNat) (by omega) nz
      clear hK
      try simp only [Act.put, List.setIfInBounds_toArray, List.set_cons_zero, List.set_cons_succ]
      refine wpAnyH_done (by kernel_rfl) ?_ _
      go_wp2_with fail
      go_meet
      exact ⟨bz, bo, rfl, rfl, nz, no, hHeld⟩
    refine AllReadyH.cons (o := _) rfl (fun _ hK => ?_) ?_
    · go_simp
      have nz := heap_alloc_new X0 (.cells #[.int .u64 0, .int .u64 0, .int .u64 0, .int .u64 0] 51 (0, 0))
      have hal := hHeld.alloc hHeld.size (.cells #[.int .u64 0, .int .u64 0, .int .u64 0, .int .u64 0] 51 (0, 0))
      have lz := hHeld.size
      generalize X0.heap.size = bz at *
      generalize X0.alloc (.cells #[.int .u64 0, .int .u64 0, .int .u64 0, .int .u64 0] 51 (0, 0)) = X1 at *
      refine hK.out _ _ hal (fun hHeld => ?_)
      clear hal
      clear hK
      try simp only [Act.put, List.setIfInBounds_toArray, List.set_cons_zero, List.set_cons_succ]
      refine wpAnyH_ready (rs := [2, 9]) (by kernel_rfl) (by simp) ?_
      refine AllReadyH.cons (o := _) rfl (fun _ hK => ?_) ?_
      · go_simp
        refine (HZ X1).mono ?_
        rintro e X2 ⟨rfl, hbr⟩
        replace nz := keep_blk hbr nz
        try go_simp
        refine hK.out _ _ (hHeld.trans (hbr.mono hHeld.size)) (fun hHeld => ?_)
        clear hbr
        clear hK
        try simp only [Act.put, List.setIfInBounds_toArray, List.set_cons_zero, List.set_cons_succ]
        refine wpAnyH_ready (rs := [5, 9]) (by kernel_rfl) (by simp) ?_
        refine AllReadyH.cons (o := _) rfl (fun _ hK => ?_) ?_
        · go_simp
          refine (HO1 X2).mono ?_
          rintro e X3 ⟨rfl, hbr⟩
          replace nz := keep_blk hbr nz
          try go_simp
          refine hK.out _ _ (hHeld.trans (hbr.mono hHeld.size)) (fun hHeld => ?_)
          clear hbr
          clear hK
          try simp only [Act.put, List.setIfInBounds_toArray, List.set_cons_zero, List.set_cons_succ]
          refine wpAnyH_ready (rs := [7, 9]) (by kernel_rfl) (by simp) ?_
          refine AllReadyH.cons (o := _) rfl (fun _ hK => ?_) ?_
          · go_simp
            refine (HO2 X3).mono ?_
            rintro e X4 ⟨rfl, hbr⟩
            replace nz := keep_blk hbr nz
            try go_simp
            refine hK.out _ _ (hHeld.trans (hbr.mono hHeld.size)) (fun hHeld => ?_)
            clear hbr
            clear hK
            try simp only [Act.put, List.setIfInBounds_toArray, List.set_cons_zero, List.set_cons_succ]
            refine wpAnyH_ready (rs := [9]) (by kernel_rfl) (by simp) ?_
            refine AllReadyH.cons (o := _) rfl (fun _ hK => ?_) AllReadyH.nil
            go_simp
            have no := heap_alloc_new X4 (.cells #[.int .u64 0, .int .u64 0, .int .u64 0, .int .u64 0] 51 (0, 0))
            have hal := hHeld.alloc hHeld.size (.cells #[.int .u64 0, .int .u64 0, .int .u64 0, .int .u64 0] 51 (0, 0))
            have lo := hHeld.size
            have dzo := size_of_block nz
            replace nz := keep_alloc (x := .cells #[.int .u64 0, .int .u64 0, .int .u64 0, .int .u64 0] 51 (0, 0)) nz
            generalize X4.heap.size = bo at *
            generalize X4.alloc (.cells #[.int .u64 0, .int .u64 0, .int .u64 0, .int .u64 0] 51 (0, 0)) = X5 at *
            refine hK.out _ _ hal (fun hHeld => ?_)
            clear hal
            clear hK
            try simp only [Act.put, List.setIfInBounds_toArray, List.set_cons_zero, List.set_cons_succ]
            refine wpAnyH_ready (rs := [10]) (by kernel_rfl) (by simp) ?_
            refine AllReadyH.cons (o := _) rfl (fun _ hK => ?_) AllReadyH.nil
            obtain ⟨y0, y1, y2, y3, yf⟩ := now4 nz rfl
            go_simp
            clear y0 y1 y2 y3 yf
            refine hK.out _ _ ((((hHeld.setCell (by show W1.heap.size ≤ bz; omega) _).setCell (by show W1.heap.size ≤ bz; omega) _).setCell (by show W1.heap.size ≤ bz; omega) _).setCell (by show W1.heap.size ≤ bz; omega) _) (fun hHeld => ?_)
            replace nz := put4 (x0 := .int .u64 (wd Z 0).toNat) (x1 := .int .u64 (wd Z 1).toNat) (x2 := .int .u64 (wd Z 2).toNat) (x3 := .int .u64 (wd Z 3).toNat) nz
            replace no := keep_set4 (c := bz) (x0 := .int .u64 (wd Z 0).toNat) (x1 := .int .u64 (wd Z 1).toNat) (x2 := .int .u64 (wd Z 2).toNat) (x3 := .int .u64 (wd Z 3).toNat) (by omega) no
            clear hK
            try simp only [Act.put, List.setIfInBounds_toArray, List.set_cons_zero, List.set_cons_succ]
            refine wpAnyH_ready (rs := [11]) (by kernel_rfl) (by simp) ?_
            refine AllReadyH.cons (o := _) rfl (fun _ hK => ?_) AllReadyH.nil
            obtain ⟨y0, y1, y2, y3, yf⟩ := now4 no rfl
            go_simp
            clear y0 y1 y2 y3 yf
            refine hK.out _ _ ((((hHeld.setCell (by show W1.heap.size ≤ bo; omega) _).setCell (by show W1.heap.size ≤ bo; omega) _).setCell (by show W1.heap.size ≤ bo; omega) _).setCell (by show W1.heap.size ≤ bo; omega) _) (fun hHeld => ?_)
            replace no := put4 (x0 := .int .u64 (wd O 0).toNat) (x1 := .int .u64 (wd O 1).toNat) (x2 := .int .u64 (wd O 2).toNat) (x3 := .int .u64 (wd O 3).toNat) no
            replace nz := keep_set4 (c := bo) (x0 := .int .u64 (wd O 0).toNat) (x1 := .int .u64 (wd O 1).toNat) (x2 := .int .u64 (wd O 2).toNat) (x3 := .int .u64 (wd O 3).toNat) (by omega) nz
            clear hK
            try simp only [Act.put, List.setIfInBounds_toArray, List.set_cons_zero, List.set_cons_succ]
            refine wpAnyH_done (by kernel_rfl) ?_ _
            go_wp2_with fail
            go_meet
            exact ⟨bz, bo, rfl, rfl, nz, no, hHeld⟩
          refine AllReadyH.cons (o := _) rfl (fun _ hK => ?_) AllReadyH.nil
          go_simp
          have no := heap_alloc_new X3 (.cells #[.int .u64 0, .int .u64 0, .int .u64 0, .int .u64 0] 51 (0, 0))
          have hal := hHeld.alloc hHeld.size (.cells #[.int .u64 0, .int .u64 0, .int .u64 0, .int .u64 0] 51 (0, 0))
          have lo := hHeld.size
          have dzo := size_of_block nz
          replace nz := keep_alloc (x := .cells #[.int .u64 0, .int .u64 0, .int .u64 0, .int .u64 0] 51 (0, 0)) nz
          generalize X3.heap.size = bo at *
          generalize X3.alloc (.cells #[.int .u64 0, .int .u64 0, .int .u64 0, .int .u64 0] 51 (0, 0)) = X4 at *
          refine hK.out _ _ hal (fun hHeld => ?_)
          clear hal
          clear hK
          try simp only [Act.put, List.setIfInBounds_toArray, List.set_cons_zero, List.set_cons_succ]
          refine wpAnyH_ready (rs := [7]) (by kernel_rfl) (by simp) ?_
          refine AllReadyH.cons (o := _) rfl (fun _ hK => ?_) AllReadyH.nil
          go_simp
          refine (HO2 X4).mono ?_
          rintro e X5 ⟨rfl, hbr⟩
          replace nz := keep_blk hbr nz
          replace no := keep_blk hbr no
          try go_simp
          refine hK.out _ _ (hHeld.trans (hbr.mono hHeld.size)) (fun hHeld => ?_)
          clear hbr
          clear hK
          try simp only [Act.put, List.setIfInBounds_toArray, List.set_cons_zero, List.set_cons_succ]
          refine wpAnyH_ready (rs := [10]) (by kernel_rfl) (by simp) ?_
          refine AllReadyH.cons (o := _) rfl (fun _ hK => ?_) AllReadyH.nil
          obtain ⟨y0, y1, y2, y3, yf⟩ := now4 nz rfl
          go_simp
          clear y0 y1 y2 y3 yf
          refine hK.out _ _ ((((hHeld.setCell (by show W1.heap.size ≤ bz; omega) _).setCell (by show W1.heap.size ≤ bz; omega) _).setCell (by show W1.heap.size ≤ bz; omega) _).setCell (by show W1.heap.size ≤ bz; omega) _) (fun hHeld => ?_)
          replace nz := put4 (x0 := .int .u64 (wd Z 0).toNat) (x1 := .int .u64 (wd Z 1).toNat) (x2 := .int .u64 (wd Z 2).toNat) (x3 := .int .u64 (wd Z 3).toNat) nz
          replace no := keep_set4 (c := bz) (x0 := .int .u64 (wd Z 0).toNat) (x1 := .int .u64 (wd Z 1).toNat) (x2 := .int .u64 (wd Z 2).toNat) (x3 := .int .u64 (wd Z 3).toNat) (by omega) no
          clear hK
          try simp only [Act.put, List.setIfInBounds_toArray, List.set_cons_zero, List.set_cons_succ]
          refine wpAnyH_ready (rs := [11]) (by kernel_rfl) (by simp) ?_
          refine AllReadyH.cons (o := _) rfl (fun _ hK => ?_) AllReadyH.nil
          obtain ⟨y0, y1, y2, y3, yf⟩ := now4 no rfl
          go_simp
          clear y0 y1 y2 y3 yf
          refine hK.out _ _ ((((hHeld.setCell (by show W1.heap.size ≤ bo; omega) _).setCell (by show W1.heap.size ≤ bo; omega) _).setCell (by show W1.heap.size ≤ bo; omega) _).setCell (by show W1.heap.size ≤ bo; omega) _) (fun hHeld => ?_)
          replace no := put4 (x0 := .int .u64 (wd O 0).toNat) (x1 := .int .u64 (wd O 1).toNat) (x2 := .int .u64 (wd O 2).toNat) (x3 := .int .u64 (wd O 3).toNat) no
          replace nz := keep_set4 (c := bo) (x0 := .int .u64 (wd O 0).toNat) (x1 := .int .u64 (wd O 1).toNat) (x2 := .int .u64 (wd O 2).toNat) (x3 := .int .u64 (wd O 3).toNat) (by omega) nz
          clear hK
          try simp only [Act.put, List.setIfInBounds_toArray, List.set_cons_zero, List.set_cons_succ]
          refine wpAnyH_done (by kernel_rfl) ?_ _
          go_wp2_with fail
          go_meet
          exact ⟨bz, bo, rfl, rfl, nz, no, hHeld⟩
        refine AllReadyH.cons (o := _) rfl (fun _ hK => ?_) AllReadyH.nil
        go_simp
        have no := heap_alloc_new X2 (.cells #[.int .u64 0, .int .u64 0, .int .u64 0, .int .u64 0] 51 (0, 0))
        have hal := hHeld.alloc hHeld.size (.cells #[.int .u64 0, .int .u64 0, .int .u64 0, .int .u64 0] 51 (0, 0))
        have lo := hHeld.size
        have dzo := size_of_block nz
        replace nz := keep_alloc (x := .cells #[.int .u64 0, .int .u64 0, .int .u64 0, .int .u64 0] 51 (0, 0)) nz
        generalize X2.heap.size = bo at *
        generalize X2.alloc (.cells #[.int .u64 0, .int .u64 0, .int .u64 0, .int .u64 0] 51 (0, 0)) = X3 at *
        refine hK.out _ _ hal (fun hHeld => ?_)
        clear hal
        clear hK
        try simp only [Act.put, List.setIfInBounds_toArray, List.set_cons_zero, List.set_cons_succ]
        refine wpAnyH_ready (rs := [5]) (by kernel_rfl) (by simp) ?_
        refine AllReadyH.cons (o := _) rfl (fun _ hK => ?_) AllReadyH.nil
        go_simp
        refine (HO1 X3).mono ?_
        rintro e X4 ⟨rfl, hbr⟩
        replace nz := keep_blk hbr nz
        replace no := keep_blk hbr no
        try go_simp
        refine hK.out _ _ (hHeld.trans (hbr.mono hHeld.size)) (fun hHeld => ?_)
        clear hbr
        clear hK
        try simp only [Act.put, List.setIfInBounds_toArray, List.set_cons_zero, List.set_cons_succ]
        refine wpAnyH_ready (rs := [7]) (by kernel_rfl) (by simp) ?_
        refine AllReadyH.cons (o := _) rfl (fun _ hK => ?_) AllReadyH.nil
        go_simp
        refine (HO2 X4).mono ?_
        rintro e X5 ⟨rfl, hbr⟩
        replace nz := keep_blk hbr nz
        replace no := keep_blk hbr no
        try go_simp
        refine hK.out _ _ (hHeld.trans (hbr.mono hHeld.size)) (fun hHeld => ?_)
        clear hbr
        clear hK
        try simp only [Act.put, List.setIfInBounds_toArray, List.set_cons_zero, List.set_cons_succ]
        refine wpAnyH_ready (rs := [10]) (by kernel_rfl) (by simp) ?_
        refine AllReadyH.cons (o := _) rfl (fun _ hK => ?_) AllReadyH.nil
        obtain ⟨y0, y1, y2, y3, yf⟩ := now4 nz rfl
        go_simp
        clear y0 y1 y2 y3 yf
        refine hK.out _ _ ((((hHeld.setCell (by show W1.heap.size ≤ bz; omega) _).setCell (by show W1.heap.size ≤ bz; omega) _).setCell (by show W1.heap.size ≤ bz; omega) _).setCell (by show W1.heap.size ≤ bz; omega) _) (fun hHeld => ?_)
        replace nz := put4 (x0 := .int .u64 (wd Z 0).toNat) (x1 := .int .u64 (wd Z 1).toNat) (x2 := .int .u64 (wd Z 2).toNat) (x3 := .int .u64 (wd Z 3).toNat) nz
        replace no := keep_set4 (c := bz) (x0 := .int .u64 (wd Z 0).toNat) (x1 := .int .u64 (wd Z 1).toNat) (x2 := .int .u64 (wd Z 2).toNat) (x3 := .int .u64 (wd Z 3).toNat) (by omega) no
        clear hK
        try simp only [Act.put, List.setIfInBounds_toArray, List.set_cons_zero, List.set_cons_succ]
        refine wpAnyH_ready (rs := [11]) (by kernel_rfl) (by simp) ?_
        refine AllReadyH.cons (o := _) rfl (fun _ hK => ?_) AllReadyH.nil
        obtain ⟨y0, y1, y2, y3, yf⟩ := now4 no rfl
        go_simp
        clear y0 y1 y2 y3 yf
        refine hK.out _ _ ((((hHeld.setCell (by show W1.heap.size ≤ bo; omega) _).setCell (by show W1.heap.size ≤ bo; omega) _).setCell (by show W1.heap.size ≤ bo; omega) _).setCell (by show W1.heap.size ≤ bo; omega) _) (fun hHeld => ?_)
        replace no := put4 (x0 := .int .u64 (wd O 0).toNat) (x1 := .int .u64 (wd O 1).toNat) (x2 := .int .u64 (wd O 2).toNat) (x3 := .int .u64 (wd O 3).toNat) no
        replace nz := keep_set4 (c := bo) (x0 := .int .u64 (wd O 0).toNat) (x1 := .int .u64 (wd O 1).toNat) (x2 := .int .u64 (wd O 2).toNat) (x3 := .int .u64 (wd O 3).toNat) (by omega) nz
        clear hK
        try simp only [Act.put, List.setIfInBounds_toArray, List.set_cons_zero, List.set_cons_succ]
        refine wpAnyH_done (by kernel_rfl) ?_ _
        go_wp2_with fail
        go_meet
        exact ⟨bz, bo, rfl, rfl, nz, no, hHeld⟩
      refine AllReadyH.cons (o := _) rfl (fun _ hK => ?_) AllReadyH.nil
      go_simp
      have no := heap_alloc_new X1 (.cells #[.int .u64 0, .int .u64 0, .int .u64 0, .int .u64 0] 51 (0, 0))
      have hal := hHeld.alloc hHeld.size (.cells #[.int .u64 0, .int .u64 0, .int .u64 0, .int .u64 0] 51 (0, 0))
      have lo := hHeld.size
      have dzo := size_of_block nz
      replace nz := keep_alloc (x := .cells #[.int .u64 0, .int .u64 0, .int .u64 0, .int .u64 0] 51 (0, 0)) nz
      generalize X1.heap.size = bo at *
      generalize X1.alloc (.cells #[.int .u64 0, .int .u64 0, .int .u64 0, .int .u64 0] 51 (0, 0)) = X2 at *
      refine hK.out _ _ hal (fun hHeld => ?_)
      clear hal
      clear hK
      try simp only [Act.put, List.setIfInBounds_toArray, List.set_cons_zero, List.set_cons_succ]
      refine wpAnyH_ready (rs := [2]) (by kernel_rfl) (by simp) ?_
      refine AllReadyH.cons (o := _) rfl (fun _ hK => ?_) AllReadyH.nil
      go_simp
      refine (HZ X2).mono ?_
      rintro e X3 ⟨rfl, hbr⟩
      replace nz := keep_blk hbr nz
      replace no := keep_blk hbr no
      try go_simp
      refine hK.out _ _ (hHeld.trans (hbr.mono hHeld.size)) (fun hHeld => ?_)
      clear hbr
      clear hK
      try simp only [Act.put, List.setIfInBounds_toArray, List.set_cons_zero, List.set_cons_succ]
      refine wpAnyH_ready (rs := [5]) (by kernel_rfl) (by simp) ?_
      refine AllReadyH.cons (o := _) rfl (fun _ hK => ?_) AllReadyH.nil
      go_simp
      refine (HO1 X3).mono ?_
      rintro e X4 ⟨rfl, hbr⟩
      replace nz := keep_blk hbr nz
      replace no := keep_blk hbr no
      try go_simp
      refine hK.out _ _ (hHeld.trans (hbr.mono hHeld.size)) (fun hHeld => ?_)
      clear hbr
      clear hK
      try simp only [Act.put, List.setIfInBounds_toArray, List.set_cons_zero, List.set_cons_succ]
      refine wpAnyH_ready (rs := [7]) (by kernel_rfl) (by simp) ?_
      refine AllReadyH.cons (o := _) rfl (fun _ hK => ?_) AllReadyH.nil
      go_simp
      refine (HO2 X4).mono ?_
      rintro e X5 ⟨rfl, hbr⟩
      replace nz := keep_blk hbr nz
      replace no := keep_blk hbr no
      try go_simp
      refine hK.out _ _ (hHeld.trans (hbr.mono hHeld.size)) (fun hHeld => ?_)
      clear hbr
      clear hK
      try simp only [Act.put, List.setIfInBounds_toArray, List.set_cons_zero, List.set_cons_succ]
      refine wpAnyH_ready (rs := [10]) (by kernel_rfl) (by simp) ?_
      refine AllReadyH.cons (o := _) rfl (fun _ hK => ?_) AllReadyH.nil
      obtain ⟨y0, y1, y2, y3, yf⟩ := now4 nz rfl
      go_simp
      clear y0 y1 y2 y3 yf
      refine hK.out _ _ ((((hHeld.setCell (by show W1.heap.size ≤ bz; omega) _).setCell (by show W1.heap.size ≤ bz; omega) _).setCell (by show W1.heap.size ≤ bz; omega) _).setCell (by show W1.heap.size ≤ bz; omega) _) (fun hHeld => ?_)
      replace nz := put4 (x0 := .int .u64 (wd Z 0).toNat) (x1 := .int .u64 (wd Z 1).toNat) (x2 := .int .u64 (wd Z 2).toNat) (x3 := .int .u64 (wd Z 3).toNat) nz
      replace no := keep_set4 (c := bz) (x0 := .int .u64 (wd Z 0).toNat) (x1 := .int .u64 (wd Z 1).toNat) (x2 := .int .u64 (wd Z 2).toNat) (x3 := .int .u64 (wd Z 3).toNat) (by omega) no
      clear hK
      try simp only [Act.put, List.setIfInBounds_toArray, List.set_cons_zero, List.set_cons_succ]
      refine wpAnyH_ready (rs := [11]) (by kernel_rfl) (by simp) ?_
      refine AllReadyH.cons (o := _) rfl (fun _ hK => ?_) AllReadyH.nil
      obtain ⟨y0, y1, y2, y3, yf⟩ := now4 no rfl
      go_simp
      clear y0 y1 y2 y3 yf
      refine hK.out _ _ ((((hHeld.setCell (by show W1.heap.size ≤ bo; omega) _).setCell (by show W1.heap.size ≤ bo; omega) _).setCell (by show W1.heap.size ≤ bo; omega) _).setCell (by show W1.heap.size ≤ bo; omega) _) (fun hHeld => ?_)
      replace no := put4 (x0 := .int .u64 (wd O 0).toNat) (x1 := .int .u64 (wd O 1).toNat) (x2 := .int .u64 (wd O 2).toNat) (x3 := .int .u64 (wd O 3).toNat) no
      replace nz := keep_set4 (c := bo) (x0 := .int .u64 (wd O 0).toNat) (x1 := .int .u64 (wd O 1).toNat) (x2 := .int .u64 (wd O 2).toNat) (x3 := .int .u64 (wd O 3).toNat) (by omega) nz
      clear hK
      try simp only [Act.put, List.setIfInBounds_toArray, List.set_cons_zero, List.set_cons_succ]
      refine wpAnyH_done (by kernel_rfl) ?_ _
      go_wp2_with fail
      go_meet
      exact ⟨bz, bo, rfl, rfl, nz, no, hHeld⟩
    refine AllReadyH.cons (o := _) rfl (fun _ hK => ?_) AllReadyH.nil
    go_simp
    have no := heap_alloc_new X0 (.cells #[.int .u64 0, .int .u64 0, .int .u64 0, .int .u64 0] 51 (0, 0))
    have hal := hHeld.alloc hHeld.size (.cells #[.int .u64 0, .int .u64 0, .int .u64 0, .int .u64 0] 51 (0, 0))
    have lo := hHeld.size
    generalize X0.heap.size = bo at *
    generalize X0.alloc (.cells #[.int .u64 0, .int .u64 0, .int .u64 0, .int .u64 0] 51 (0, 0)) = X1 at *
    refine hK.out _ _ hal (fun hHeld => ?_)
    clear hal
    clear hK
    try simp only [Act.put, List.setIfInBounds_toArray, List.set_cons_zero, List.set_cons_succ]
    refine wpAnyH_ready (rs := [2, 8]) (by kernel_rfl) (by simp) ?_
    refine AllReadyH.cons (o := _) rfl (fun _ hK => ?_) ?_
    · go_simp
      refine (HZ X1).mono ?_
      rintro e X2 ⟨rfl, hbr⟩
      replace no := keep_blk hbr no
      try go_simp
      refine hK.out _ _ (hHeld.trans (hbr.mono hHeld.size)) (fun hHeld => ?_)
      clear hbr
      clear hK
      try simp only [Act.put, List.setIfInBounds_toArray, List.set_cons_zero, List.set_cons_succ]
      refine wpAnyH_ready (rs := [5, 8]) (by kernel_rfl) (by simp) ?_
      refine AllReadyH.cons (o := _) rfl (fun _ hK => ?_) ?_
      · go_simp
        refine (HO1 X2).mono ?_
        rintro e X3 ⟨rfl, hbr⟩
        replace no := keep_blk hbr no
        try go_simp
        refine hK.out _ _ (hHeld.trans (hbr.mono hHeld.size)) (fun hHeld => ?_)
        clear hbr
        clear hK
        try simp only [Act.put, List.setIfInBounds_toArray, List.set_cons_zero, List.set_cons_succ]
        refine wpAnyH_ready (rs := [7, 8]) (by kernel_rfl) (by simp) ?_
        refine AllReadyH.cons (o := _) rfl (fun _ hK => ?_) ?_
        · go_simp
          refine (HO2 X3).mono ?_
          rintro e X4 ⟨rfl, hbr⟩
          replace no := keep_blk hbr no
          try go_simp
          refine hK.out _ _ (hHeld.trans (hbr.mono hHeld.size)) (fun hHeld => ?_)
          clear hbr
          clear hK
          try simp only [Act.put, List.setIfInBounds_toArray, List.set_cons_zero, List.set_cons_succ]
          refine wpAnyH_ready (rs := [8]) (by kernel_rfl) (by simp) ?_
          refine AllReadyH.cons (o := _) rfl (fun _ hK => ?_) AllReadyH.nil
          go_simp
          have nz := heap_alloc_new X4 (.cells #[.int .u64 0, .int .u64 0, .int .u64 0, .int .u64 0] 51 (0, 0))
          have hal := hHeld.alloc hHeld.size (.cells #[.int .u64 0, .int .u64 0, .int .u64 0, .int .u64 0] 51 (0, 0))
          have lz := hHeld.size
          have doz := size_of_block no
          replace no := keep_alloc (x := .cells #[.int .u64 0, .int .u64 0, .int .u64 0, .int .u64 0] 51 (0, 0)) no
          generalize X4.heap.size = bz at *
          generalize X4.alloc (.cells #[.int .u64 0, .int .u64 0, .int .u64 0, .int .u64 0] 51 (0, 0)) = X5 at *
          refine hK.out _ _ hal (fun hHeld => ?_)
          clear hal
          clear hK
          try simp only [Act.put, List.setIfInBounds_toArray, List.set_cons_zero, List.set_cons_succ]
          refine wpAnyH_ready (rs := [10]) (by kernel_rfl) (by simp) ?_
          refine AllReadyH.cons (o := _) rfl (fun _ hK => ?_) AllReadyH.nil
          obtain ⟨y0, y1, y2, y3, yf⟩ := now4 nz rfl
          go_simp
          clear y0 y1 y2 y3 yf
          refine hK.out _ _ ((((hHeld.setCell (by show W1.heap.size ≤ bz; omega) _).setCell (by show W1.heap.size ≤ bz; omega) _).setCell (by show W1.heap.size ≤ bz; omega) _).setCell (by show W1.heap.size ≤ bz; omega) _) (fun hHeld => ?_)
          replace nz := put4 (x0 := .int .u64 (wd Z 0).toNat) (x1 := .int .u64 (wd Z 1).toNat) (x2 := .int .u64 (wd Z 2).toNat) (x3 := .int .u64 (wd Z 3).toNat) nz
          replace no := keep_set4 (c := bz) (x0 := .int .u64 (wd Z 0).toNat) (x1 := .int .u64 (wd Z 1).toNat) (x2 := .int .u64 (wd Z 2).toNat) (x3 := .int .u64 (wd Z 3).toNat) (by omega) no
          clear hK
          try simp only [Act.put, List.setIfInBounds_toArray, List.set_cons_zero, List.set_cons_succ]
          refine wpAnyH_ready (rs := [11]) (by kernel_rfl) (by simp) ?_
          refine AllReadyH.cons (o := _) rfl (fun _ hK => ?_) AllReadyH.nil
          obtain ⟨y0, y1, y2, y3, yf⟩ := now4 no rfl
          go_simp
          clear y0 y1 y2 y3 yf
          refine hK.out _ _ ((((hHeld.setCell (by show W1.heap.size ≤ bo; omega) _).setCell (by show W1.heap.size ≤ bo; omega) _).setCell (by show W1.heap.size ≤ bo; omega) _).setCell (by show W1.heap.size ≤ bo; omega) _) (fun hHeld => ?_)
          replace no := put4 (x0 := .int .u64 (wd O 0).toNat) (x1 := .int .u64 (wd O 1).toNat) (x2 := .int .u64 (wd O 2).toNat) (x3 := .int .u64 (wd O 3).toNat) no
          replace nz := keep_set4 (c := bo) (x0 := .int .u64 (wd O 0).toNat) (x1 := .int .u64 (wd O 1).toNat) (x2 := .int .u64 (wd O 2).toNat) (x3 := .int .u64 (wd O 3).toNat) (by omega) nz
          clear hK
          try simp only [Act.put, List.setIfInBounds_toArray, List.set_cons_zero, List.set_cons_succ]
          refine wpAnyH_done (by kernel_rfl) ?_ _
          go_wp2_with fail
          go_meet
          exact ⟨bz, bo, rfl, rfl, nz, no, hHeld⟩
        refine AllReadyH.cons (o := _) rfl (fun _ hK => ?_) AllReadyH.nil
        go_simp
        have nz := heap_alloc_new X3 (.cells #[.int .u64 0, .int .u64 0, .int .u64 0, .int .u64 0] 51 (0, 0))
        have hal := hHeld.alloc hHeld.size (.cells #[.int .u64 0, .int .u64 0, .int .u64 0, .int .u64 0] 51 (0, 0))
        have lz := hHeld.size
        have doz := size_of_block no
        replace no := keep_alloc (x := .cells #[.int .u64 0, .int .u64 0, .int .u64 0, .int .u64 0] 51 (0, 0)) no
        generalize X3.heap.size = bz at *
        generalize X3.alloc (.cells #[.int .u64 0, .int .u64 0, .int .u64 0, .int .u64 0] 51 (0, 0)) = X4 at *
        refine hK.out _ _ hal (fun hHeld => ?_)
        clear hal
        clear hK
        try simp only [Act.put, List.setIfInBounds_toArray, List.set_cons_zero, List.set_cons_succ]
        refine wpAnyH_ready (rs := [7]) (by kernel_rfl) (by simp) ?_
        refine AllReadyH.cons (o := _) rfl (fun _ hK => ?_) AllReadyH.nil
        go_simp
        refine (HO2 X4).mono ?_
        rintro e X5 ⟨rfl, hbr⟩
        replace no := keep_blk hbr no
        replace nz := keep_blk hbr nz
        try go_simp
        refine hK.out _ _ (hHeld.trans (hbr.mono hHeld.size)) (fun hHeld => ?_)
        clear hbr
        clear hK
        try simp only [Act.put, List.setIfInBounds_toArray, List.set_cons_zero, List.set_cons_succ]
        refine wpAnyH_ready (rs := [10]) (by kernel_rfl) (by simp) ?_
        refine AllReadyH.cons (o := _) rfl (fun _ hK => ?_) AllReadyH.nil
        obtain ⟨y0, y1, y2, y3, yf⟩ := now4 nz rfl
        go_simp
        clear y0 y1 y2 y3 yf
        refine hK.out _ _ ((((hHeld.setCell (by show W1.heap.size ≤ bz; omega) _).setCell (by show W1.heap.size ≤ bz; omega) _).setCell (by show W1.heap.size ≤ bz; omega) _).setCell (by show W1.heap.size ≤ bz; omega) _) (fun hHeld => ?_)
        replace nz := put4 (x0 := .int .u64 (wd Z 0).toNat) (x1 := .int .u64 (wd Z 1).toNat) (x2 := .int .u64 (wd Z 2).toNat) (x3 := .int .u64 (wd Z 3).toNat) nz
        replace no := keep_set4 (c := bz) (x0 := .int .u64 (wd Z 0).toNat) (x1 := .int .u64 (wd Z 1).toNat) (x2 := .int .u64 (wd Z 2).toNat) (x3 := .int .u64 (wd Z 3).toNat) (by omega) no
        clear hK
        try simp only [Act.put, List.setIfInBounds_toArray, List.set_cons_zero, List.set_cons_succ]
        refine wpAnyH_ready (rs := [11]) (by kernel_rfl) (by simp) ?_
        refine AllReadyH.cons (o := _) rfl (fun _ hK => ?_) AllReadyH.nil
        obtain ⟨y0, y1, y2, y3, yf⟩ := now4 no rfl
        go_simp
        clear y0 y1 y2 y3 yf
        refine hK.out _ _ ((((hHeld.setCell (by show W1.heap.size ≤ bo; omega) _).setCell (by show W1.heap.size ≤ bo; omega) _).setCell (by show W1.heap.size ≤ bo; omega) _).setCell (by show W1.heap.size ≤ bo; omega) _) (fun hHeld => ?_)
        replace no := put4 (x0 := .int .u64 (wd O 0).toNat) (x1 := .int .u64 (wd O 1).toNat) (x2 := .int .u64 (wd O 2).toNat) (x3 := .int .u64 (wd O 3).toNat) no
        replace nz := keep_set4 (c := bo) (x0 := .int .u64 (wd O 0).toNat) (x1 := .int .u64 (wd O 1).toNat) (x2 := .int .u64 (wd O 2).toNat) (x3 := .int .u64 (wd O 3).toNat) (by omega) nz
        clear hK
        try simp only [Act.put, List.setIfInBounds_toArray, List.set_cons_zero, List.set_cons_succ]
        refine wpAnyH_done (by kernel_rfl) ?_ _
        go_wp2_with fail
        go_meet
        exact ⟨bz, bo, rfl, rfl, nz, no, hHeld⟩
      refine AllReadyH.cons (o := _) rfl (fun _ hK => ?_) AllReadyH.nil
      go_simp
      have nz := heap_alloc_new X2 (.cells #[.int .u64 0, .int .u64 0, .int .u64 0, .int .u64 0] 51 (0, 0))
      have hal := hHeld.alloc hHeld.size (.cells #[.int .u64 0, .int .u64 0, .int .u64 0, .int .u64 0] 51 (0, 0))
      have lz := hHeld.size
      have doz := size_of_block no
      replace no := keep_alloc (x := .cells #[.int .u64 0, .int .u64 0, .int .u64 0, .int .u64 0] 51 (0, 0)) no
      generalize X2.heap.size = bz at *
      generalize X2.alloc (.cells #[.int .u64 0, .int .u64 0, .int .u64 0, .int .u64 0] 51 (0, 0)) = X3 at *
      refine hK.out _ _ hal (fun hHeld => ?_)
      clear hal
      clear hK
      try simp only [Act.put, List.setIfInBounds_toArray, List.set_cons_zero, List.set_cons_succ]
      refine wpAnyH_ready (rs := [5]) (by kernel_rfl) (by simp) ?_
      refine AllReadyH.cons (o := _) rfl (fun _ hK => ?_) AllReadyH.nil
      go_simp
      refine (HO1 X3).mono ?_
      rintro e X4 ⟨rfl, hbr⟩
      replace no := keep_blk hbr no
      replace nz := keep_blk hbr nz
      try go_simp
      refine hK.out _ _ (hHeld.trans (hbr.mono hHeld.size)) (fun hHeld => ?_)
      clear hbr
      clear hK
      try simp only [Act.put, List.setIfInBounds_toArray, List.set_cons_zero, List.set_cons_succ]
      refine wpAnyH_ready (rs := [7]) (by kernel_rfl) (by simp) ?_
      refine AllReadyH.cons (o := _) rfl (fun _ hK => ?_) AllReadyH.nil
      go_simp
      refine (HO2 X4).mono ?_
      rintro e X5 ⟨rfl, hbr⟩
      replace no := keep_blk hbr no
      replace nz := keep_blk hbr nz
      try go_simp
      refine hK.out _ _ (hHeld.trans (hbr.mono hHeld.size)) (fun hHeld => ?_)
      clear hbr
      clear hK
      try simp only [Act.put, List.setIfInBounds_toArray, List.set_cons_zero, List.set_cons_succ]
      refine wpAnyH_ready (rs := [10]) (by kernel_rfl) (by simp) ?_
      refine AllReadyH.cons (o := _) rfl (fun _ hK => ?_) AllReadyH.nil
      obtain ⟨y0, y1, y2, y3, yf⟩ := now4 nz rfl
      go_simp
      clear y0 y1 y2 y3 yf
      refine hK.out _ _ ((((hHeld.setCell (by show W1.heap.size ≤ bz; omega) _).setCell (by show W1.heap.size ≤ bz; omega) _).setCell (by show W1.heap.size ≤ bz; omega) _).setCell (by show W1.heap.size ≤ bz; omega) _) (fun hHeld => ?_)
      replace nz := put4 (x0 := .int .u64 (wd Z 0).toNat) (x1 := .int .u64 (wd Z 1).toNat) (x2 := .int .u64 (wd Z 2).toNat) (x3 := .int .u64 (wd Z 3).toNat) nz
      replace no := keep_set4 (c := bz) (x0 := .int .u64 (wd Z 0).toNat) (x1 := .int .u64 (wd Z 1).toNat) (x2 := .int .u64 (wd Z 2).toNat) (x3 := .int .u64 (wd Z 3).toNat) (by omega) no
      clear hK
      try simp only [Act.put, List.setIfInBounds_toArray, List.set_cons_zero, List.set_cons_succ]
      refine wpAnyH_ready (rs := [11]) (by kernel_rfl) (by simp) ?_
      refine AllReadyH.cons (o := _) rfl (fun _ hK => ?_) AllReadyH.nil
      obtain ⟨y0, y1, y2, y3, yf⟩ := now4 no rfl
      go_simp
      clear y0 y1 y2 y3 yf
      refine hK.out _ _ ((((hHeld.setCell (by show W1.heap.size ≤ bo; omega) _).setCell (by show W1.heap.size ≤ bo; omega) _).setCell (by show W1.heap.size ≤ bo; omega) _).setCell (by show W1.heap.size ≤ bo; omega) _) (fun hHeld => ?_)
      replace no := put4 (x0 := .int .u64 (wd O 0).toNat) (x1 := .int .u64 (wd O 1).toNat) (x2 := .int .u64 (wd O 2).toNat) (x3 := .int .u64 (wd O 3).toNat) no
      replace nz := keep_set4 (c := bo) (x0 := .int .u64 (wd O 0).toNat) (x1 := .int .u64 (wd O 1).toNat) (x2 := .int .u64 (wd O 2).toNat) (x3 := .int .u64 (wd O 3).toNat) (by omega) nz
      clear hK
      try simp only [Act.put, List.setIfInBounds_toArray, List.set_cons_zero, List.set_cons_succ]
      refine wpAnyH_done (by kernel_rfl) ?_ _
      go_wp2_with fail
      go_meet
      exact ⟨bz, bo, rfl, rfl, nz, no, hHeld⟩
    refine AllReadyH.cons (o := _) rfl (fun _ hK => ?_) AllReadyH.nil
    go_simp
    have nz := heap_alloc_new X1 (.cells #[.int .u64 0, .int .u64 0, .int .u64 0, .int .u64 0] 51 (0, 0))
    have hal := hHeld.alloc hHeld.size (.cells #[.int .u64 0, .int .u64 0, .int .u64 0, .int .u64 0] 51 (0, 0))
    have lz := hHeld.size
    have doz := size_of_block no
    replace no := keep_alloc (x := .cells #[.int .u64 0, .int .u64 0, .int .u64 0, .int .u64 0] 51 (0, 0)) no
    generalize X1.heap.size = bz at *
    generalize X1.alloc (.cells #[.int .u64 0, .int .u64 0, .int .u64 0, .int .u64 0] 51 (0, 0)) = X2 at *
    refine hK.out _ _ hal (fun hHeld => ?_)
    clear hal
    clear hK
    try simp only [Act.put, List.setIfInBounds_toArray, List.set_cons_zero, List.set_cons_succ]
    refine wpAnyH_ready (rs := [2]) (by kernel_rfl) (by simp) ?_
    refine AllReadyH.cons (o := _) rfl (fun _ hK => ?_) AllReadyH.nil
    go_simp
    refine (HZ X2).mono ?_
    rintro e X3 ⟨rfl, hbr⟩
    replace no := keep_blk hbr no
    replace nz := keep_blk hbr nz
    try go_simp
    refine hK.out _ _ (hHeld.trans (hbr.mono hHeld.size)) (fun hHeld => ?_)
    clear hbr
    clear hK
    try simp only [Act.put, List.setIfInBounds_toArray, List.set_cons_zero, List.set_cons_succ]
    refine wpAnyH_ready (rs := [5]) (by kernel_rfl) (by simp) ?_
    refine AllReadyH.cons (o := _) rfl (fun _ hK => ?_) AllReadyH.nil
    go_simp
    refine (HO1 X3).mono ?_
    rintro e X4 ⟨rfl, hbr⟩
    replace no := keep_blk hbr no
    replace nz := keep_blk hbr nz
    try go_simp
    refine hK.out _ _ (hHeld.trans (hbr.mono hHeld.size)) (fun hHeld => ?_)
    clear hbr
    clear hK
    try simp only [Act.put, List.setIfInBounds_toArray, List.set_cons_zero, List.set_cons_succ]
    refine wpAnyH_ready (rs := [7]) (by kernel_rfl) (by simp) ?_
    refine AllReadyH.cons (o := _) rfl (fun _ hK => ?_) AllReadyH.nil
    go_simp
    refine (HO2 X4).mono ?_
    rintro e X5 ⟨rfl, hbr⟩
    replace no := keep_blk hbr no
    replace nz := keep_blk hbr nz
    try go_simp
    refine hK.out _ _ (hHeld.trans (hbr.mono hHeld.size)) (fun hHeld => ?_)
    clear hbr
    clear hK
    try simp only [Act.put, List.setIfInBounds_toArray, List.set_cons_zero, List.set_cons_succ]
    refine wpAnyH_ready (rs := [10]) (by kernel_rfl) (by simp) ?_
    refine AllReadyH.cons (o := _) rfl (fun _ hK => ?_) AllReadyH.nil
    obtain ⟨y0, y1, y2, y3, yf⟩ := now4 nz rfl
    go_simp
    clear y0 y1 y2 y3 yf
    refine hK.out _ _ ((((hHeld.setCell (by show W1.heap.size ≤ bz; omega) _).setCell (by show W1.heap.size ≤ bz; omega) _).setCell (by show W1.heap.size ≤ bz; omega) _).setCell (by show W1.heap.size ≤ bz; omega) _) (fun hHeld => ?_)
    replace nz := put4 (x0 := .int .u64 (wd Z 0).toNat) (x1 := .int .u64 (wd Z 1).toNat) (x2 := .int .u64 (wd Z 2).toNat) (x3 := .int .u64 (wd Z 3).toNat) nz
    replace no := keep_set4 (c := bz) (x0 := .int .u64 (wd Z 0).toNat) (x1 := .int .u64 (wd Z 1).toNat) (x2 := .int .u64 (wd Z 2).toNat) (x3 := .int .u64 (wd Z 3).toNat) (by omega) no
    clear hK
    try simp only [Act.put, List.setIfInBounds_toArray, List.set_cons_zero, List.set_cons_succ]
    refine wpAnyH_ready (rs := [11]) (by kernel_rfl) (by simp) ?_
    refine AllReadyH.cons (o := _) rfl (fun _ hK => ?_) AllReadyH.nil
    obtain ⟨y0, y1, y2, y3, yf⟩ := now4 no rfl
    go_simp
    clear y0 y1 y2 y3 yf
    refine hK.out _ _ ((((hHeld.setCell (by show W1.heap.size ≤ bo; omega) _).setCell (by show W1.heap.size ≤ bo; omega) _).setCell (by show W1.heap.size ≤ bo; omega) _).setCell (by show W1.heap.size ≤ bo; omega) _) (fun hHeld => ?_)
    replace no := put4 (x0 := .int .u64 (wd O 0).toNat) (x1 := .int .u64 (wd O 1).toNat) (x2 := .int .u64 (wd O 2).toNat) (x3 := .int .u64 (wd O 3).toNat) no
    replace nz := keep_set4 (c := bo) (x0 := .int .u64 (wd O 0).toNat) (x1 := .int .u64 (wd O 1).toNat) (x2 := .int .u64 (wd O 2).toNat) (x3 := .int .u64 (wd O 3).toNat) (by omega) nz
    clear hK
    try simp only [Act.put, List.setIfInBounds_toArray, List.set_cons_zero, List.set_cons_succ]
    refine wpAnyH_done (by kernel_rfl) ?_ _
    go_wp2_with fail
    go_meet
    exact ⟨bz, bo, rfl, rfl, nz, no, hHeld⟩
  case rest =>
    rename World => wB
    obtain ⟨bz, bo, rfl, rfl, nz, no, hb2⟩ := hcut
    have hd2 := hd1.below hb2
    have hdr2 := hdr1.below hb2
    have hr2 := hr1.below hb2
    have hk2 := hk1.more hb2
    have hbd2 := keep_blk hb2 hbd
    have hbi2 := keep_blk hb2 hbi
    clear s0 s1 s2 s3 i0 hd1 hdr1 hr1 hk1 hbd hbs hbi hb2 HZ HO1 HO2
    have HA := fun w => and_any Z O w
    have hwr : IntKind.i64.wrap ((i : Int) + 1) = ((i + 1 : Nat) : Int) := by
      rw [IntKind.wrap_i64]
      omega
    have hsz2 := hk2.size
    have hNW : ∀ q, wB.heap.size ≤ q → ¬ N q := fun q hq hn => by have := hN1 q hn; omega
    have HPr : ∀ (W : World) (v : Value) (full : Nat), ZdAt W N zb ab bm v 20000 full S → Kz no8 (MZ bm mm) N wB W → RemP W mm n S C → Calls Tryz.prog 48 #[.pointer (some ⟨drb, 0, none⟩), .agg #[.int .u64 (wd (Z &&& O) 0).toNat, .int .u64 (wd (Z &&& O) 1).toNat, .int .u64 (wd (Z &&& O) 2).toNat, .int .u64 (wd (Z &&& O) 3).toNat], .int .i64 (IntKind.i64.wrap ((i : Int) + 1))] W (DfPost N W zb ab bm n mm S C (cN k) (eN k) (FI n (i + 1) (Z &&& O))) := fun W v full h1 h2 h3 => by
      have h4 := IH h1 (hdr2.kz h2 (fun h => h)) h3 hne hN (Z &&& O) (i + 1) (by omega) hLb (by have := cN_mono 1 k; omega) (by omega)
      rw [hwr]
      exact h4
    generalize hBo : Z &&& O = Bo at *
    clear hBo
    unfold sv wv at HA
    have c3 : ∀ W, Kz no8 (MZ bm mm) N wB W → W.cell? ⟨w.heap.size, 0, none⟩ = some (.pointer (some ⟨drb, 0, none⟩)) := fun W h => (nowz1 (h.cells _ _ _ _ hbd2 (by decide) (by decide) (fun h => h)) rfl).1
    have c5 : ∀ W, Kz no8 (MZ bm mm) N wB W → W.cell? ⟨w.heap.size + 1 + 1, 0, none⟩ = some (.int .i64 i) := fun W h => (nowz1 (h.cells _ _ _ _ hbi2 (by decide) (by decide) (fun h => h)) rfl).1
    have c8 : ∀ W, Kz no8 (MZ bm mm) N wB W → _ := fun W h => now4 (h.cells _ _ _ _ nz (by decide) (by decide) (fun h => h)) rfl
    have c9 : ∀ W, Kz no8 (MZ bm mm) N wB W → _ := fun W h => now4 (h.cells _ _ _ _ no (by decide) (by decide) (fun h => h)) rfl
    go_upto_region 2 with (fail)
    go_cut [10, 11] from 22 (fun s10 s11 wx => ∃ (b10 b11 : Nat) (v2 : Value) (full2 : Nat) (T : St) (both : Int), s10 = .pointer (some ⟨b10, 0, none⟩) ∧ s11 = .pointer (some ⟨b11, 0, none⟩) ∧ wx.heap[b10]? = some (.cells #[.int .i64 both] 3 (0, 0)) ∧ wx.heap[b11]? = some (.cells #[.int .i64 0] 26 (0, 0)) ∧ wB.heap.size ≤ b10 ∧ wB.heap.size ≤ b11 ∧ b10 ≠ b11 ∧
      ZdAt wx N zb ab bm v2 20000 full2 T ∧ Kz no8 (MZ bm mm) N wB wx ∧ Hid (Ext S T ∧ Held T both (FI n (i + 1) Bo) ∧ cnt T ≤ cnt S + cN k) ∧ RemP wx mm n T (C + eN k))
    case first =>
      clear hFI hLz hLo hLb hroom hC hX hV hik hN1 IH nz no hbd2 hbi2 hdr2 hk2 hwr
      refine wp_region_held_drew (S := fun W_ => Kz no8 (MZ bm mm) N wB W_) rfl (Kz.of_below (Below.refl _ wB).drew) (fun hHeld => ?_)
      have hdX : ZdAt wB.drew N zb ab bm v 20000 full S := hd2.below (Below.refl _ wB).drew
      have hrX : RemP wB.drew mm n S C := hr2.below (Below.refl _ wB).drew
      clear hd2 hr2
      obtain ⟨X0, hX0⟩ : ∃ X0, X0 = wB.drew := ⟨_, rfl⟩
      rw [← hX0] at hHeld hdX hrX ⊢
      clear hX0
      refine wpAnyH_take (i := 0) (oi := _) (v := ?_) rfl (by kernel_rfl) (by kernel_rfl) (by kernel_rfl) (fun _ _ _ h => h) (Or.inl ⟨by rfl, ?_⟩) (by assumption) ?_
      rotate_left 1
      · intro w_ hSw
        have q3 := c3 w_ hSw
        go_simp
        try with_reducible rfl
      try simp only [Act.put, List.setIfInBounds_toArray]
      refine wpAnyH_take (i := 1) (oi := _) (v := ?_) rfl (by kernel_rfl) (by kernel_rfl) (by kernel_rfl) (fun _ _ _ h => h) (Or.inl ⟨by rfl, ?_⟩) (by assumption) ?_
      rotate_left 1
      · intro w_ hSw
        obtain ⟨q0, q1, q2, q3, -⟩ := c8 w_ hSw
        go_simp
        try with_reducible rfl
      try simp only [Act.put]
      refine wpAnyH_take (i := 2) (oi := _) (v := ?_) rfl (by kernel_rfl) (by kernel_rfl) (by kernel_rfl) (fun _ _ _ h => h) (Or.inl ⟨by rfl, ?_⟩) (by assumption) ?_
      rotate_left 1
      · intro w_ hSw
        obtain ⟨q0, q1, q2, q3, -⟩ := c9 w_ hSw
        go_simp
        try with_reducible rfl
      try simp only [Act.put]
      refine wpAnyH_take (i := 4) (oi := _) (v := ?_) rfl (by kernel_rfl) (by kernel_rfl) (by kernel_rfl) (fun _ _ _ h => h) (Or.inl ⟨by rfl, ?_⟩) (by assumption) ?_
      rotate_left 1
      · intro w_ hSw
        have q5 := c5 w_ hSw
        go_simp
        try with_reducible rfl
      try simp only [Act.put]
      refine wpAnyH_take (i := 5) (oi := _) (v := ?_) rfl (by kernel_rfl) (by kernel_rfl) (by kernel_rfl) (fun _ _ _ h => h) (Or.inl ⟨by rfl, ?_⟩) (by assumption) ?_
      rotate_left 1
      · intro w_ hSw
        go_simp
        try with_reducible rfl
      try simp only [Act.put]
      refine wpAnyH_ready (rs := [3, 10, 11]) (by kernel_rfl) (by simp) ?_
      refine AllReadyH.cons (o := _) rfl (fun _ hK => ?_) ?_
      · go_simp
        refine (HA X0).mono ?_
        rintro e X1 ⟨rfl, hbr⟩
        have hdY := hdX.below hbr
        have hrY := hrX.below hbr
        try go_simp
        refine hK.out _ _ (hHeld.more hbr) (fun hHeld => ?_)
        clear hbr hdX hrX
        clear hK
        try simp only [Act.put, List.setIfInBounds_toArray, List.set_cons_zero, List.set_cons_succ]
        have hdX := hdY
        have hrX := hrY
        clear hdY hrY
        refine wpAnyH_ready (rs := [6, 10, 11]) (by kernel_rfl) (by simp) ?_
        refine AllReadyH.cons (o := _) rfl (fun _ hK => ?_) ?_
        · go_simp
          refine (HPr X1 _ _ hdX hHeld hrX).mono ?_
          rintro e X2 ⟨v2, full2, T, both, rfl, hdY, hkY, hxY, hfY, hcY, hrY⟩
          have hTT : Hid (Ext S T ∧ Held T both (FI n (i + 1) Bo) ∧ cnt T ≤ cnt S + cN k) := Lib.hid ⟨hxY, hfY, hcY⟩
          try go_simp
          refine hK.out _ _ (hHeld.trans hkY) (fun hHeld => ?_)
          clear hdX hrX hkY hxY hfY hcY
          clear hK
          try simp only [Act.put, List.setIfInBounds_toArray, List.set_cons_zero, List.set_cons_succ]
          have hdX := hdY
          have hrX := hrY
          clear hdY hrY
          refine wpAnyH_take (i := 7) (oi := _) (v := ?_) rfl (by kernel_rfl) (by kernel_rfl) (by kernel_rfl) (fun _ _ _ h => h) (Or.inl ⟨by rfl, ?_⟩) (by assumption) ?_
          rotate_left 1
          · intro w_ hSw
            go_simp
            try with_reducible rfl
          try simp only [Act.put, List.setIfInBounds_toArray]
          refine wpAnyH_take (i := 8) (oi := _) (v := ?_) rfl (by kernel_rfl) (by kernel_rfl) (by kernel_rfl) (fun _ _ _ h => h) (Or.inl ⟨by rfl, ?_⟩) (by assumption) ?_
          rotate_left 1
          · intro w_ hSw
            go_simp
            try with_reducible rfl
          try simp only [Act.put]
          refine wpAnyH_take (i := 9) (oi := _) (v := ?_) rfl (by kernel_rfl) (by kernel_rfl) (by kernel_rfl) (fun _ _ _ h => h) (Or.inl ⟨by rfl, ?_⟩) (by assumption) ?_
          rotate_left 1
          · intro w_ hSw
            go_simp
            try with_reducible rfl
          try simp only [Act.put]
          refine wpAnyH_ready (rs := [10, 11]) (by kernel_rfl) (by simp) ?_
          refine AllReadyH.cons (o := _) rfl (fun _ hK => ?_) ?_
          · go_simp
            have np := heap_alloc_new X2 (.cells #[.int .i64 0] 3 (0, 0))
            have hal := below_alloc1 X2 (.cells #[.int .i64 0] 3 (0, 0))
            have lp := hHeld.size
            have hdY := hdX.below hal
            have hrY := hrX.below hal
            have hSY := hHeld.more hal
            generalize X2.heap.size = bp at *
            generalize X2.alloc (.cells #[.int .i64 0] 3 (0, 0)) = X3 at *
            refine hK.out _ _ hSY (fun hHeld => ?_)
            clear hal hdX hrX hSY
            clear hK
            try simp only [Act.put, List.setIfInBounds_toArray, List.set_cons_zero, List.set_cons_succ]
            have hdX := hdY
            have hrX := hrY
            clear hdY hrY
            refine wpAnyH_ready (rs := [11]) (by kernel_rfl) (by simp) ?_
            refine AllReadyH.cons (o := _) rfl (fun _ hK => ?_) AllReadyH.nil
            go_simp
            have nq := heap_alloc_new X3 (.cells #[.int .i64 0] 26 (0, 0))
            have hal := below_alloc1 X3 (.cells #[.int .i64 0] 26 (0, 0))
            have lq := hHeld.size
            have dpq := size_of_block np
            replace np := keep_alloc (x := .cells #[.int .i64 0] 26 (0, 0)) np
            have hdY := hdX.below hal
            have hrY := hrX.below hal
            have hSY := hHeld.more hal
            generalize X3.heap.size = bq at *
            generalize X3.alloc (.cells #[.int .i64 0] 26 (0, 0)) = X4 at *
            have npq : bp ≠ bq := by omega
            refine hK.out _ _ hSY (fun hHeld => ?_)
            clear hal hdX hrX hSY
            clear hK
            try simp only [Act.put, List.setIfInBounds_toArray, List.set_cons_zero, List.set_cons_succ]
            have hdX := hdY
            have hrX := hrY
            clear hdY hrY
            refine wpAnyH_ready (rs := [12]) (by kernel_rfl) (by simp) ?_
            refine AllReadyH.cons (o := _) rfl (fun _ hK => ?_) AllReadyH.nil
            obtain ⟨y0, yf⟩ := nowz1 np rfl
            go_simp
            clear y0 yf
            have hdY := hdX.put1 np (by decide) (by decide) (by decide) (.int .i64 both)
            have hrY := hrX.kz (Kz.put1 (C := (· = bp)) (M := no8) (N := N) np rfl (hNW _ lp) (.int .i64 both)) (fun h => h)
            refine hK.out _ _ (hHeld.putNew np lp (hNW _ lp) _) (fun hHeld => ?_)
            replace np := put1z (x := .int .i64 both) np
            replace nq := putFar (b := bp) (x := .int .i64 both) (by omega) nq
            clear hdX hrX
            clear hK
            try simp only [Act.put, List.setIfInBounds_toArray, List.set_cons_zero, List.set_cons_succ]
            have hdX := hdY
            have hrX := hrY
            clear hdY hrY
            refine wpAnyH_ready (rs := [13]) (by kernel_rfl) (by simp) ?_
            refine AllReadyH.cons (o := _) rfl (fun _ hK => ?_) AllReadyH.nil
            obtain ⟨y0, yf⟩ := nowz1 nq rfl
            go_simp
            clear y0 yf
            have hdY := hdX.put1 nq (by decide) (by decide) (by decide) (.int .i64 0)
            have hrY := hrX.kz (Kz.put1 (C := (· = bq)) (M := no8) (N := N) nq rfl (hNW _ lq) (.int .i64 0)) (fun h => h)
            refine hK.out _ _ (hHeld.putNew nq lq (hNW _ lq) _) (fun hHeld => ?_)
            replace nq := put1z (x := .int .i64 0) nq
            replace np := putFar (b := bq) (x := .int .i64 0) (by omega) np
            clear hdX hrX
            clear hK
            try simp only [Act.put, List.setIfInBounds_toArray, List.set_cons_zero, List.set_cons_succ]
            have hdX := hdY
            have hrX := hrY
            clear hdY hrY
            refine wpAnyH_done (by kernel_rfl) ?_ _
            go_wp2_with fail
            go_meet
            exact ⟨bp, bq, v2, full2, T, both, rfl, rfl, np, nq, lp, lq, npq, hdX, hHeld, hTT, hrX⟩
          refine AllReadyH.cons (o := _) rfl (fun _ hK => ?_) AllReadyH.nil
          go_simp
          have nq := heap_alloc_new X2 (.cells #[.int .i64 0] 26 (0, 0))
          have hal := below_alloc1 X2 (.cells #[.int .i64 0] 26 (0, 0))
          have lq := hHeld.size
          have hdY := hdX.below hal
          have hrY := hrX.below hal
          have hSY := hHeld.more hal
          generalize X2.heap.size = bq at *
          generalize X2.alloc (.cells #[.int .i64 0] 26 (0, 0)) = X3 at *
          refine hK.out _ _ hSY (fun hHeld => ?_)
          clear hal hdX hrX hSY
          clear hK
          try simp only [Act.put, List.setIfInBounds_toArray, List.set_cons_zero, List.set_cons_succ]
          have hdX := hdY
          have hrX := hrY
          clear hdY hrY
          refine wpAnyH_ready (rs := [10]) (by kernel_rfl) (by simp) ?_
          refine AllReadyH.cons (o := _) rfl (fun _ hK => ?_) AllReadyH.nil
          go_simp
          have np := heap_alloc_new X3 (.cells #[.int .i64 0] 3 (0, 0))
          have hal := below_alloc1 X3 (.cells #[.int .i64 0] 3 (0, 0))
          have lp := hHeld.size
          have dqp := size_of_block nq
          replace nq := keep_alloc (x := .cells #[.int .i64 0] 3 (0, 0)) nq
          have hdY := hdX.below hal
          have hrY := hrX.below hal
          have hSY := hHeld.more hal
          generalize X3.heap.size = bp at *
          generalize X3.alloc (.cells #[.int .i64 0] 3 (0, 0)) = X4 at *
          have npq : bp ≠ bq := by omega
          refine hK.out _ _ hSY (fun hHeld => ?_)
          clear hal hdX hrX hSY
          clear hK
          try simp only [Act.put, List.setIfInBounds_toArray, List.set_cons_zero, List.set_cons_succ]
          have hdX := hdY
          have hrX := hrY
          clear hdY hrY
          refine wpAnyH_ready (rs := [12]) (by kernel_rfl) (by simp) ?_
          refine AllReadyH.cons (o := _) rfl (fun _ hK => ?_) AllReadyH.nil
          obtain ⟨y0, yf⟩ := nowz1 np rfl
          go_simp
          clear y0 yf
          have hdY := hdX.put1 np (by decide) (by decide) (by decide) (.int .i64 both)
          have hrY := hrX.kz (Kz.put1 (C := (· = bp)) (M := no8) (N := N) np rfl (hNW _ lp) (.int .i64 both)) (fun h => h)
          refine hK.out _ _ (hHeld.putNew np lp (hNW _ lp) _) (fun hHeld => ?_)
          replace np := put1z (x := .int .i64 both) np
          replace nq := putFar (b := bp) (x := .int .i64 both) (by omega) nq
          clear hdX hrX
          clear hK
          try simp only [Act.put, List.setIfInBounds_toArray, List.set_cons_zero, List.set_cons_succ]
          have hdX := hdY
          have hrX := hrY
          clear hdY hrY
          refine wpAnyH_ready (rs := [13]) (by kernel_rfl) (by simp) ?_
          refine AllReadyH.cons (o := _) rfl (fun _ hK => ?_) AllReadyH.nil
          obtain ⟨y0, yf⟩ := nowz1 nq rfl
          go_simp
          clear y0 yf
          have hdY := hdX.put1 nq (by decide) (by decide) (by decide) (.int .i64 0)
          have hrY := hrX.kz (Kz.put1 (C := (· = bq)) (M := no8) (N := N) nq rfl (hNW _ lq) (.int .i64 0)) (fun h => h)
          refine hK.out _ _ (hHeld.putNew nq lq (hNW _ lq) _) (fun hHeld => ?_)
          replace nq := put1z (x := .int .i64 0) nq
          replace np := putFar (b := bq) (x := .int .i64 0) (by omega) np
          clear hdX hrX
          clear hK
          try simp only [Act.put, List.setIfInBounds_toArray, List.set_cons_zero, List.set_cons_succ]
          have hdX := hdY
          have hrX := hrY
          clear hdY hrY
          refine wpAnyH_done (by kernel_rfl) ?_ _
          go_wp2_with fail
          go_meet
          exact ⟨bp, bq, v2, full2, T, both, rfl, rfl, np, nq, lp, lq, npq, hdX, hHeld, hTT, hrX⟩
        refine AllReadyH.cons (o := _) rfl (fun _ hK => ?_) ?_
        · go_simp
          have np := heap_alloc_new X1 (.cells #[.int .i64 0] 3 (0, 0))
          have hal := below_alloc1 X1 (.cells #[.int .i64 0] 3 (0, 0))
          have lp := hHeld.size
          have hdY := hdX.below hal
          have hrY := hrX.below hal
          have hSY := hHeld.more hal
          generalize X1.heap.size = bp at *
          generalize X1.alloc (.cells #[.int .i64 0] 3 (0, 0)) = X2 at *
          refine hK.out _ _ hSY (fun hHeld => ?_)
          clear hal hdX hrX hSY
          clear hK
          try simp only [Act.put, List.setIfInBounds_toArray, List.set_cons_zero, List.set_cons_succ]
          have hdX := hdY
          have hrX := hrY
          clear hdY hrY
          refine wpAnyH_ready (rs := [6, 11]) (by kernel_rfl) (by simp) ?_
          refine AllReadyH.cons (o := _) rfl (fun _ hK => ?_) ?_
          · go_simp
            refine (HPr X2 _ _ hdX hHeld hrX).mono ?_
            rintro e X3 ⟨v2, full2, T, both, rfl, hdY, hkY, hxY, hfY, hcY, hrY⟩
            replace np := hkY.cells _ _ _ _ np (by decide) (by decide) (fun h => h)
            have hTT : Hid (Ext S T ∧ Held T both (FI n (i + 1) Bo) ∧ cnt T ≤ cnt S + cN k) := Lib.hid ⟨hxY, hfY, hcY⟩
            try go_simp
            refine hK.out _ _ (hHeld.trans hkY) (fun hHeld => ?_)
            clear hdX hrX hkY hxY hfY hcY
            clear hK
            try simp only [Act.put, List.setIfInBounds_toArray, List.set_cons_zero, List.set_cons_succ]
            have hdX := hdY
            have hrX := hrY
            clear hdY hrY
            refine wpAnyH_take (i := 7) (oi := _) (v := ?_) rfl (by kernel_rfl) (by kernel_rfl) (by kernel_rfl) (fun _ _ _ h => h) (Or.inl ⟨by rfl, ?_⟩) (by assumption) ?_
            rotate_left 1
            · intro w_ hSw
              go_simp
              try with_reducible rfl
            try simp only [Act.put, List.setIfInBounds_toArray]
            refine wpAnyH_take (i := 8) (oi := _) (v := ?_) rfl (by kernel_rfl) (by kernel_rfl) (by kernel_rfl) (fun _ _ _ h => h) (Or.inl ⟨by rfl, ?_⟩) (by assumption) ?_
            rotate_left 1
            · intro w_ hSw
              go_simp
              try with_reducible rfl
            try simp only [Act.put]
            refine wpAnyH_take (i := 9) (oi := _) (v := ?_) rfl (by kernel_rfl) (by kernel_rfl) (by kernel_rfl) (fun _ _ _ h => h) (Or.inl ⟨by rfl, ?_⟩) (by assumption) ?_
            rotate_left 1
            · intro w_ hSw
              go_simp
              try with_reducible rfl
            try simp only [Act.put]
            refine wpAnyH_ready (rs := [11]) (by kernel_rfl) (by simp) ?_
            refine AllReadyH.cons (o := _) rfl (fun _ hK => ?_) AllReadyH.nil
            go_simp
            have nq := heap_alloc_new X3 (.cells #[.int .i64 0] 26 (0, 0))
            have hal := below_alloc1 X3 (.cells #[.int .i64 0] 26 (0, 0))
            have lq := hHeld.size
            have dpq := size_of_block np
            replace np := keep_alloc (x := .cells #[.int .i64 0] 26 (0, 0)) np
            have hdY := hdX.below hal
            have hrY := hrX.below hal
            have hSY := hHeld.more hal
            generalize X3.heap.size = bq at *
            generalize X3.alloc (.cells #[.int .i64 0] 26 (0, 0)) = X4 at *
            have npq : bp ≠ bq := by omega
            refine hK.out _ _ hSY (fun hHeld => ?_)
            clear hal hdX hrX hSY
            clear hK
            try simp only [Act.put, List.setIfInBounds_toArray, List.set_cons_zero, List.set_cons_succ]
            have hdX := hdY
            have hrX := hrY
            clear hdY hrY
            refine wpAnyH_ready (rs := [12]) (by kernel_rfl) (by simp) ?_
            refine AllReadyH.cons (o := _) rfl (fun _ hK => ?_) AllReadyH.nil
            obtain ⟨y0, yf⟩ := nowz1 np rfl
            go_simp
            clear y0 yf
            have hdY := hdX.put1 np (by decide) (by decide) (by decide) (.int .i64 both)
            have hrY := hrX.kz (Kz.put1 (C := (· = bp)) (M := no8) (N := N) np rfl (hNW _ lp) (.int .i64 both)) (fun h => h)
            refine hK.out _ _ (hHeld.putNew np lp (hNW _ lp) _) (fun hHeld => ?_)
            replace np := put1z (x := .int .i64 both) np
            replace nq := putFar (b := bp) (x := .int .i64 both) (by omega) nq
            clear hdX hrX
            clear hK
            try simp only [Act.put, List.setIfInBounds_toArray, List.set_cons_zero, List.set_cons_succ]
            have hdX := hdY
            have hrX := hrY
            clear hdY hrY
            refine wpAnyH_ready (rs := [13]) (by kernel_rfl) (by simp) ?_
            refine AllReadyH.cons (o := _) rfl (fun _ hK => ?_) AllReadyH.nil
            obtain ⟨y0, yf⟩ := nowz1 nq rfl
            go_simp
            clear y0 yf
            have hdY := hdX.put1 nq (by decide) (by decide) (by decide) (.int .i64 0)
            have hrY := hrX.kz (Kz.put1 (C := (· = bq)) (M := no8) (N := N) nq rfl (hNW _ lq) (.int .i64 0)) (fun h => h)
            refine hK.out _ _ (hHeld.putNew nq lq (hNW _ lq) _) (fun hHeld => ?_)
            replace nq := put1z (x := .int .i64 0) nq
            replace np := putFar (b := bq) (x := .int .i64 0) (by omega) np
            clear hdX hrX
            clear hK
            try simp only [Act.put, List.setIfInBounds_toArray, List.set_cons_zero, List.set_cons_succ]
            have hdX := hdY
            have hrX := hrY
            clear hdY hrY
            refine wpAnyH_done (by kernel_rfl) ?_ _
            go_wp2_with fail
            go_meet
            exact ⟨bp, bq, v2, full2, T, both, rfl, rfl, np, nq, lp, lq, npq, hdX, hHeld, hTT, hrX⟩
          refine AllReadyH.cons (o := _) rfl (fun _ hK => ?_) AllReadyH.nil
          go_simp
          have nq := heap_alloc_new X2 (.cells #[.int .i64 0] 26 (0, 0))
          have hal := below_alloc1 X2 (.cells #[.int .i64 0] 26 (0, 0))
          have lq := hHeld.size
          have dpq := size_of_block np
          replace np := keep_alloc (x := .cells #[.int .i64 0] 26 (0, 0)) np
          have hdY := hdX.below hal
          have hrY := hrX.below hal
          have hSY := hHeld.more hal
          generalize X2.heap.size = bq at *
          generalize X2.alloc (.cells #[.int .i64 0] 26 (0, 0)) = X3 at *
          have npq : bp ≠ bq := by omega
          refine hK.out _ _ hSY (fun hHeld => ?_)
          clear hal hdX hrX hSY
          clear hK
          try simp only [Act.put, List.setIfInBounds_toArray, List.set_cons_zero, List.set_cons_succ]
          have hdX := hdY
          have hrX := hrY
          clear hdY hrY
          refine wpAnyH_ready (rs := [6]) (by kernel_rfl) (by simp) ?_
          refine AllReadyH.cons (o := _) rfl (fun _ hK => ?_) AllReadyH.nil
          go_simp
          refine (HPr X3 _ _ hdX hHeld hrX).mono ?_
          rintro e X4 ⟨v2, full2, T, both, rfl, hdY, hkY, hxY, hfY, hcY, hrY⟩
          replace np := hkY.cells _ _ _ _ np (by decide) (by decide) (fun h => h)
          replace nq := hkY.cells _ _ _ _ nq (by decide) (by decide) (fun h => h)
          have hTT : Hid (Ext S T ∧ Held T both (FI n (i + 1) Bo) ∧ cnt T ≤ cnt S + cN k) := Lib.hid ⟨hxY, hfY, hcY⟩
          try go_simp
          refine hK.out _ _ (hHeld.trans hkY) (fun hHeld => ?_)
          clear hdX hrX hkY hxY hfY hcY
          clear hK
          try simp only [Act.put, List.setIfInBounds_toArray, List.set_cons_zero, List.set_cons_succ]
          have hdX := hdY
          have hrX := hrY
          clear hdY hrY
          refine wpAnyH_take (i := 7) (oi := _) (v := ?_) rfl (by kernel_rfl) (by kernel_rfl) (by kernel_rfl) (fun _ _ _ h => h) (Or.inl ⟨by rfl, ?_⟩) (by assumption) ?_
          rotate_left 1
          · intro w_ hSw
            go_simp
            try with_reducible rfl
          try simp only [Act.put, List.setIfInBounds_toArray]
          refine wpAnyH_take (i := 8) (oi := _) (v := ?_) rfl (by kernel_rfl) (by kernel_rfl) (by kernel_rfl) (fun _ _ _ h => h) (Or.inl ⟨by rfl, ?_⟩) (by assumption) ?_
          rotate_left 1
          · intro w_ hSw
            go_simp
            try with_reducible rfl
          try simp only [Act.put]
          refine wpAnyH_take (i := 9) (oi := _) (v := ?_) rfl (by kernel_rfl) (by kernel_rfl) (by kernel_rfl) (fun _ _ _ h => h) (Or.inl ⟨by rfl, ?_⟩) (by assumption) ?_
          rotate_left 1
          · intro w_ hSw
            go_simp
            try with_reducible rfl
          try simp only [Act.put]
          refine wpAnyH_ready (rs := [12]) (by kernel_rfl) (by simp) ?_
          refine AllReadyH.cons (o := _) rfl (fun _ hK => ?_) AllReadyH.nil
          obtain ⟨y0, yf⟩ := nowz1 np rfl
          go_simp
          clear y0 yf
          have hdY := hdX.put1 np (by decide) (by decide) (by decide) (.int .i64 both)
          have hrY := hrX.kz (Kz.put1 (C := (· = bp)) (M := no8) (N := N) np rfl (hNW _ lp) (.int .i64 both)) (fun h => h)
          refine hK.out _ _ (hHeld.putNew np lp (hNW _ lp) _) (fun hHeld => ?_)
          replace np := put1z (x := .int .i64 both) np
          replace nq := putFar (b := bp) (x := .int .i64 both) (by omega) nq
          clear hdX hrX
          clear hK
          try simp only [Act.put, List.setIfInBounds_toArray, List.set_cons_zero, List.set_cons_succ]
          have hdX := hdY
          have hrX := hrY
          clear hdY hrY
          refine wpAnyH_ready (rs := [13]) (by kernel_rfl) (by simp) ?_
          refine AllReadyH.cons (o := _) rfl (fun _ hK => ?_) AllReadyH.nil
          obtain ⟨y0, yf⟩ := nowz1 nq rfl
          go_simp
          clear y0 yf
          have hdY := hdX.put1 nq (by decide) (by decide) (by decide) (.int .i64 0)
          have hrY := hrX.kz (Kz.put1 (C := (· = bq)) (M := no8) (N := N) nq rfl (hNW _ lq) (.int .i64 0)) (fun h => h)
          refine hK.out _ _ (hHeld.putNew nq lq (hNW _ lq) _) (fun hHeld => ?_)
          replace nq := put1z (x := .int .i64 0) nq
          replace np := putFar (b := bq) (x := .int .i64 0) (by omega) np
          clear hdX hrX
          clear hK
          try simp only [Act.put, List.setIfInBounds_toArray, List.set_cons_zero, List.set_cons_succ]
          have hdX := hdY
          have hrX := hrY
          clear hdY hrY
          refine wpAnyH_done (by kernel_rfl) ?_ _
          go_wp2_with fail
          go_meet
          exact ⟨bp, bq, v2, full2, T, both, rfl, rfl, np, nq, lp, lq, npq, hdX, hHeld, hTT, hrX⟩
        refine AllReadyH.cons (o := _) rfl (fun _ hK => ?_) AllReadyH.nil
        go_simp
        have nq := heap_alloc_new X1 (.cells #[.int .i64 0] 26 (0, 0))
        have hal := below_alloc1 X1 (.cells #[.int .i64 0] 26 (0, 0))
        have lq := hHeld.size
        have hdY := hdX.below hal
        have hrY := hrX.below hal
        have hSY := hHeld.more hal
        generalize X1.heap.size = bq at *
        generalize X1.alloc (.cells #[.int .i64 0] 26 (0, 0)) = X2 at *
        refine hK.out _ _ hSY (fun hHeld => ?_)
        clear hal hdX hrX hSY
        clear hK
        try simp only [Act.put, List.setIfInBounds_toArray, List.set_cons_zero, List.set_cons_succ]
        have hdX := hdY
        have hrX := hrY
        clear hdY hrY
        refine wpAnyH_ready (rs := [6, 10]) (by kernel_rfl) (by simp) ?_
        refine AllReadyH.cons (o := _) rfl (fun _ hK => ?_) ?_
        · go_simp
          refine (HPr X2 _ _ hdX hHeld hrX).mono ?_
          rintro e X3 ⟨v2, full2, T, both, rfl, hdY, hkY, hxY, hfY, hcY, hrY⟩
          replace nq := hkY.cells _ _ _ _ nq (by decide) (by decide) (fun h => h)
          have hTT : Hid (Ext S T ∧ Held T both (FI n (i + 1) Bo) ∧ cnt T ≤ cnt S + cN k) := Lib.hid ⟨hxY, hfY, hcY⟩
          try go_simp
          refine hK.out _ _ (hHeld.trans hkY) (fun hHeld => ?_)
          clear hdX hrX hkY hxY hfY hcY
          clear hK
          try simp only [Act.put, List.setIfInBounds_toArray, List.set_cons_zero, List.set_cons_succ]
          have hdX := hdY
          have hrX := hrY
          clear hdY hrY
          refine wpAnyH_take (i := 7) (oi := _) (v := ?_) rfl (by kernel_rfl) (by kernel_rfl) (by kernel_rfl) (fun _ _ _ h => h) (Or.inl ⟨by rfl, ?_⟩) (by assumption) ?_
          rotate_left 1
          · intro w_ hSw
            go_simp
            try with_reducible rfl
          try simp only [Act.put, List.setIfInBounds_toArray]
          refine wpAnyH_take (i := 8) (oi := _) (v := ?_) rfl (by kernel_rfl) (by kernel_rfl) (by kernel_rfl) (fun _ _ _ h => h) (Or.inl ⟨by rfl, ?_⟩) (by assumption) ?_
          rotate_left 1
          · intro w_ hSw
            go_simp
            try with_reducible rfl
          try simp only [Act.put]
          refine wpAnyH_take (i := 9) (oi := _) (v := ?_) rfl (by kernel_rfl) (by kernel_rfl) (by kernel_rfl) (fun _ _ _ h => h) (Or.inl ⟨by rfl, ?_⟩) (by assumption) ?_
          rotate_left 1
          · intro w_ hSw
            go_simp
            try with_reducible rfl
          try simp only [Act.put]
          refine wpAnyH_ready (rs := [10]) (by kernel_rfl) (by simp) ?_
          refine AllReadyH.cons (o := _) rfl (fun _ hK => ?_) AllReadyH.nil
          go_simp
          have np := heap_alloc_new X3 (.cells #[.int .i64 0] 3 (0, 0))
          have hal := below_alloc1 X3 (.cells #[.int .i64 0] 3 (0, 0))
          have lp := hHeld.size
          have dqp := size_of_block nq
          replace nq := keep_alloc (x := .cells #[.int .i64 0] 3 (0, 0)) nq
          have hdY := hdX.below hal
          have hrY := hrX.below hal
          have hSY := hHeld.more hal
          generalize X3.heap.size = bp at *
          generalize X3.alloc (.cells #[.int .i64 0] 3 (0, 0)) = X4 at *
          have npq : bp ≠ bq := by omega
          refine hK.out _ _ hSY (fun hHeld => ?_)
          clear hal hdX hrX hSY
          clear hK
          try simp only [Act.put, List.setIfInBounds_toArray, List.set_cons_zero, List.set_cons_succ]
          have hdX := hdY
          have hrX := hrY
          clear hdY hrY
          refine wpAnyH_ready (rs := [12]) (by kernel_rfl) (by simp) ?_
          refine AllReadyH.cons (o := _) rfl (fun _ hK => ?_) AllReadyH.nil
          obtain ⟨y0, yf⟩ := nowz1 np rfl
          go_simp
          clear y0 yf
          have hdY := hdX.put1 np (by decide) (by decide) (by decide) (.int .i64 both)
          have hrY := hrX.kz (Kz.put1 (C := (· = bp)) (M := no8) (N := N) np rfl (hNW _ lp) (.int .i64 both)) (fun h => h)
          refine hK.out _ _ (hHeld.putNew np lp (hNW _ lp) _) (fun hHeld => ?_)
          replace np := put1z (x := .int .i64 both) np
          replace nq := putFar (b := bp) (x := .int .i64 both) (by omega) nq
          clear hdX hrX
          clear hK
          try simp only [Act.put, List.setIfInBounds_toArray, List.set_cons_zero, List.set_cons_succ]
          have hdX := hdY
          have hrX := hrY
          clear hdY hrY
          refine wpAnyH_ready (rs := [13]) (by kernel_rfl) (by simp) ?_
          refine AllReadyH.cons (o := _) rfl (fun _ hK => ?_) AllReadyH.nil
          obtain ⟨y0, yf⟩ := nowz1 nq rfl
          go_simp
          clear y0 yf
          have hdY := hdX.put1 nq (by decide) (by decide) (by decide) (.int .i64 0)
          have hrY := hrX.kz (Kz.put1 (C := (· = bq)) (M := no8) (N := N) nq rfl (hNW _ lq) (.int .i64 0)) (fun h => h)
          refine hK.out _ _ (hHeld.putNew nq lq (hNW _ lq) _) (fun hHeld => ?_)
          replace nq := put1z (x := .int .i64 0) nq
          replace np := putFar (b := bq) (x := .int .i64 0) (by omega) np
          clear hdX hrX
          clear hK
          try simp only [Act.put, List.setIfInBounds_toArray, List.set_cons_zero, List.set_cons_succ]
          have hdX := hdY
          have hrX := hrY
          clear hdY hrY
          refine wpAnyH_done (by kernel_rfl) ?_ _
          go_wp2_with fail
          go_meet
          exact ⟨bp, bq, v2, full2, T, both, rfl, rfl, np, nq, lp, lq, npq, hdX, hHeld, hTT, hrX⟩
        refine AllReadyH.cons (o := _) rfl (fun _ hK => ?_) AllReadyH.nil
        go_simp
        have np := heap_alloc_new X2 (.cells #[.int .i64 0] 3 (0, 0))
        have hal := below_alloc1 X2 (.cells #[.int .i64 0] 3 (0, 0))
        have lp := hHeld.size
        have dqp := size_of_block nq
        replace nq := keep_alloc (x := .cells #[.int .i64 0] 3 (0, 0)) nq
        have hdY := hdX.below hal
        have hrY := hrX.below hal
        have hSY := hHeld.more hal
        generalize X2.heap.size = bp at *
        generalize X2.alloc (.cells #[.int .i64 0] 3 (0, 0)) = X3 at *
        have npq : bp ≠ bq := by omega
        refine hK.out _ _ hSY (fun hHeld => ?_)
        clear hal hdX hrX hSY
        clear hK
        try simp only [Act.put, List.setIfInBounds_toArray, List.set_cons_zero, List.set_cons_succ]
        have hdX := hdY
        have hrX := hrY
        clear hdY hrY
        refine wpAnyH_ready (rs := [6]) (by kernel_rfl) (by simp) ?_
        refine AllReadyH.cons (o := _) rfl (fun _ hK => ?_) AllReadyH.nil
        go_simp
        refine (HPr X3 _ _ hdX hHeld hrX).mono ?_
        rintro e X4 ⟨v2, full2, T, both, rfl, hdY, hkY, hxY, hfY, hcY, hrY⟩
        replace nq := hkY.cells _ _ _ _ nq (by decide) (by decide) (fun h => h)
        replace np := hkY.cells _ _ _ _ np (by decide) (by decide) (fun h => h)
        have hTT : Hid (Ext S T ∧ Held T both (FI n (i + 1) Bo) ∧ cnt T ≤ cnt S + cN k) := Lib.hid ⟨hxY, hfY, hcY⟩
        try go_simp
        refine hK.out _ _ (hHeld.trans hkY) (fun hHeld => ?_)
        clear hdX hrX hkY hxY hfY hcY
        clear hK
        try simp only [Act.put, List.setIfInBounds_toArray, List.set_cons_zero, List.set_cons_succ]
        have hdX := hdY
        have hrX := hrY
        clear hdY hrY
        refine wpAnyH_take (i := 7) (oi := _) (v := ?_) rfl (by kernel_rfl) (by kernel_rfl) (by kernel_rfl) (fun _ _ _ h => h) (Or.inl ⟨by rfl, ?_⟩) (by assumption) ?_
        rotate_left 1
        · intro w_ hSw
          go_simp
          try with_reducible rfl
        try simp only [Act.put, List.setIfInBounds_toArray]
        refine wpAnyH_take (i := 8) (oi := _) (v := ?_) rfl (by kernel_rfl) (by kernel_rfl) (by kernel_rfl) (fun _ _ _ h => h) (Or.inl ⟨by rfl, ?_⟩) (by assumption) ?_
        rotate_left 1
        · intro w_ hSw
          go_simp
          try with_reducible rfl
        try simp only [Act.put]
        refine wpAnyH_take (i := 9) (oi := _) (v := ?_) rfl (by kernel_rfl) (by kernel_rfl) (by kernel_rfl) (fun _ _ _ h => h) (Or.inl ⟨by rfl, ?_⟩) (by assumption) ?_
        rotate_left 1
        · intro w_ hSw
          go_simp
          try with_reducible rfl
        try simp only [Act.put]
        refine wpAnyH_ready (rs := [12]) (by kernel_rfl) (by simp) ?_
        refine AllReadyH.cons (o := _) rfl (fun _ hK => ?_) AllReadyH.nil
        obtain ⟨y0, yf⟩ := nowz1 np rfl
        go_simp
        clear y0 yf
        have hdY := hdX.put1 np (by decide) (by decide) (by decide) (.int .i64 both)
        have hrY := hrX.kz (Kz.put1 (C := (· = bp)) (M := no8) (N := N) np rfl (hNW _ lp) (.int .i64 both)) (fun h => h)
        refine hK.out _ _ (hHeld.putNew np lp (hNW _ lp) _) (fun hHeld => ?_)
        replace np := put1z (x := .int .i64 both) np
        replace nq := putFar (b := bp) (x := .int .i64 both) (by omega) nq
        clear hdX hrX
        clear hK
        try simp only [Act.put, List.setIfInBounds_toArray, List.set_cons_zero, List.set_cons_succ]
        have hdX := hdY
        have hrX := hrY
        clear hdY hrY
        refine wpAnyH_ready (rs := [13]) (by kernel_rfl) (by simp) ?_
        refine AllReadyH.cons (o := _) rfl (fun _ hK => ?_) AllReadyH.nil
        obtain ⟨y0, yf⟩ := nowz1 nq rfl
        go_simp
        clear y0 yf
        have hdY := hdX.put1 nq (by decide) (by decide) (by decide) (.int .i64 0)
        have hrY := hrX.kz (Kz.put1 (C := (· = bq)) (M := no8) (N := N) nq rfl (hNW _ lq) (.int .i64 0)) (fun h => h)
        refine hK.out _ _ (hHeld.putNew nq lq (hNW _ lq) _) (fun hHeld => ?_)
        replace nq := put1z (x := .int .i64 0) nq
        replace np := putFar (b := bq) (x := .int .i64 0) (by omega) np
        clear hdX hrX
        clear hK
        try simp only [Act.put, List.setIfInBounds_toArray, List.set_cons_zero, List.set_cons_succ]
        have hdX := hdY
        have hrX := hrY
        clear hdY hrY
        refine wpAnyH_done (by kernel_rfl) ?_ _
        go_wp2_with fail
        go_meet
        exact ⟨bp, bq, v2, full2, T, both, rfl, rfl, np, nq, lp, lq, npq, hdX, hHeld, hTT, hrX⟩
      refine AllReadyH.cons (o := _) rfl (fun _ hK => ?_) ?_
      · go_simp
        have np := heap_alloc_new X0 (.cells #[.int .i64 0] 3 (0, 0))
        have hal := below_alloc1 X0 (.cells #[.int .i64 0] 3 (0, 0))
        have lp := hHeld.size
        have hdY := hdX.below hal
        have hrY := hrX.below hal
        have hSY := hHeld.more hal
        generalize X0.heap.size = bp at *
        generalize X0.alloc (.cells #[.int .i64 0] 3 (0, 0)) = X1 at *
        refine hK.out _ _ hSY (fun hHeld => ?_)
        clear hal hdX hrX hSY
        clear hK
        try simp only [Act.put, List.setIfInBounds_toArray, List.set_cons_zero, List.set_cons_succ]
        have hdX := hdY
        have hrX := hrY
        clear hdY hrY
        refine wpAnyH_ready (rs := [3, 11]) (by kernel_rfl) (by simp) ?_
        refine AllReadyH.cons (o := _) rfl (fun _ hK => ?_) ?_
        · go_simp
          refine (HA X1).mono ?_
          rintro e X2 ⟨rfl, hbr⟩
          replace np := keep_blk hbr np
          have hdY := hdX.below hbr
          have hrY := hrX.below hbr
          try go_simp
          refine hK.out _ _ (hHeld.more hbr) (fun hHeld => ?_)
          clear hbr hdX hrX
          clear hK
          try simp only [Act.put, List.setIfInBounds_toArray, List.set_cons_zero, List.set_cons_succ]
          have hdX := hdY
          have hrX := hrY
          clear hdY hrY
          refine wpAnyH_ready (rs := [6, 11]) (by kernel_rfl) (by simp) ?_
          refine AllReadyH.cons (o := _) rfl (fun _ hK => ?_) ?_
          · go_simp
            refine (HPr X2 _ _ hdX hHeld hrX).mono ?_
            rintro e X3 ⟨v2, full2, T, both, rfl, hdY, hkY, hxY, hfY, hcY, hrY⟩
            replace np := hkY.cells _ _ _ _ np (by decide) (by decide) (fun h => h)
            have hTT : Hid (Ext S T ∧ Held T both (FI n (i + 1) Bo) ∧ cnt T ≤ cnt S + cN k) := Lib.hid ⟨hxY, hfY, hcY⟩
            try go_simp
            refine hK.out _ _ (hHeld.trans hkY) (fun hHeld => ?_)
            clear hdX hrX hkY hxY hfY hcY
            clear hK
            try simp only [Act.put, List.setIfInBounds_toArray, List.set_cons_zero, List.set_cons_succ]
            have hdX := hdY
            have hrX := hrY
            clear hdY hrY
            refine wpAnyH_take (i := 7) (oi := _) (v := ?_) rfl (by kernel_rfl) (by kernel_rfl) (by kernel_rfl) (fun _ _ _ h => h) (Or.inl ⟨by rfl, ?_⟩) (by assumption) ?_
            rotate_left 1
            · intro w_ hSw
              go_simp
              try with_reducible rfl
            try simp only [Act.put, List.setIfInBounds_toArray]
            refine wpAnyH_take (i := 8) (oi := _) (v := ?_) rfl (by kernel_rfl) (by kernel_rfl) (by kernel_rfl) (fun _ _ _ h => h) (Or.inl ⟨by rfl, ?_⟩) (by assumption) ?_
            rotate_left 1
            · intro w_ hSw
              go_simp
              try with_reducible rfl
            try simp only [Act.put]
            refine wpAnyH_take (i := 9) (oi := _) (v := ?_) rfl (by kernel_rfl) (by kernel_rfl) (by kernel_rfl) (fun _ _ _ h => h) (Or.inl ⟨by rfl, ?_⟩) (by assumption) ?_
            rotate_left 1
            · intro w_ hSw
              go_simp
              try with_reducible rfl
            try simp only [Act.put]
            refine wpAnyH_ready (rs := [11]) (by kernel_rfl) (by simp) ?_
            refine AllReadyH.cons (o := _) rfl (fun _ hK => ?_) AllReadyH.nil
            go_simp
            have nq := heap_alloc_new X3 (.cells #[.int .i64 0] 26 (0, 0))
            have hal := below_alloc1 X3 (.cells #[.int .i64 0] 26 (0, 0))
            have lq := hHeld.size
            have dpq := size_of_block np
            replace np := keep_alloc (x := .cells #[.int .i64 0] 26 (0, 0)) np
            have hdY := hdX.below hal
            have hrY := hrX.below hal
            have hSY := hHeld.more hal
            generalize X3.heap.size = bq at *
            generalize X3.alloc (.cells #[.int .i64 0] 26 (0, 0)) = X4 at *
            have npq : bp ≠ bq := by omega
            refine hK.out _ _ hSY (fun hHeld => ?_)
            clear hal hdX hrX hSY
            clear hK
            try simp only [Act.put, List.setIfInBounds_toArray, List.set_cons_zero, List.set_cons_succ]
            have hdX := hdY
            have hrX := hrY
            clear hdY hrY
            refine wpAnyH_ready (rs := [12]) (by kernel_rfl) (by simp) ?_
            refine AllReadyH.cons (o := _) rfl (fun _ hK => ?_) AllReadyH.nil
            obtain ⟨y0, yf⟩ := nowz1 np rfl
            go_simp
            clear y0 yf
            have hdY := hdX.put1 np (by decide) (by decide) (by decide) (.int .i64 both)
            have hrY := hrX.kz (Kz.put1 (C := (· = bp)) (M := no8) (N := N) np rfl (hNW _ lp) (.int .i64 both)) (fun h => h)
            refine hK.out _ _ (hHeld.putNew np lp (hNW _ lp) _) (fun hHeld => ?_)
            replace np := put1z (x := .int .i64 both) np
            replace nq := putFar (b := bp) (x := .int .i64 both) (by omega) nq
            clear hdX hrX
            clear hK
            try simp only [Act.put, List.setIfInBounds_toArray, List.set_cons_zero, List.set_cons_succ]
            have hdX := hdY
            have hrX := hrY
            clear hdY hrY
            refine wpAnyH_ready (rs := [13]) (by kernel_rfl) (by simp) ?_
            refine AllReadyH.cons (o := _) rfl (fun _ hK => ?_) AllReadyH.nil
            obtain ⟨y0, yf⟩ := nowz1 nq rfl
            go_simp
            clear y0 yf
            have hdY := hdX.put1 nq (by decide) (by decide) (by decide) (.int .i64 0)
            have hrY := hrX.kz (Kz.put1 (C := (· = bq)) (M := no8) (N := N) nq rfl (hNW _ lq) (.int .i64 0)) (fun h => h)
            refine hK.out _ _ (hHeld.putNew nq lq (hNW _ lq) _) (fun hHeld => ?_)
            replace nq := put1z (x := .int .i64 0) nq
            replace np := putFar (b := bq) (x := .int .i64 0) (by omega) np
            clear hdX hrX
            clear hK
            try simp only [Act.put, List.setIfInBounds_toArray, List.set_cons_zero, List.set_cons_succ]
            have hdX := hdY
            have hrX := hrY
            clear hdY hrY
            refine wpAnyH_done (by kernel_rfl) ?_ _
            go_wp2_with fail
            go_meet
            exact ⟨bp, bq, v2, full2, T, both, rfl, rfl, np, nq, lp, lq, npq, hdX, hHeld, hTT, hrX⟩
          refine AllReadyH.cons (o := _) rfl (fun _ hK => ?_) AllReadyH.nil
          go_simp
          have nq := heap_alloc_new X2 (.cells #[.int .i64 0] 26 (0, 0))
          have hal := below_alloc1 X2 (.cells #[.int .i64 0] 26 (0, 0))
          have lq := hHeld.size
          have dpq := size_of_block np
          replace np := keep_alloc (x := .cells #[.int .i64 0] 26 (0, 0)) np
          have hdY := hdX.below hal
          have hrY := hrX.below hal
          have hSY := hHeld.more hal
          generalize X2.heap.size = bq at *
          generalize X2.alloc (.cells #[.int .i64 0] 26 (0, 0)) = X3 at *
          have npq : bp ≠ bq := by omega
          refine hK.out _ _ hSY (fun hHeld => ?_)
          clear hal hdX hrX hSY
          clear hK
          try simp only [Act.put, List.setIfInBounds_toArray, List.set_cons_zero, List.set_cons_succ]
          have hdX := hdY
          have hrX := hrY
          clear hdY hrY
          refine wpAnyH_ready (rs := [6]) (by kernel_rfl) (by simp) ?_
          refine AllReadyH.cons (o := _) rfl (fun _ hK => ?_) AllReadyH.nil
          go_simp
          refine (HPr X3 _ _ hdX hHeld hrX).mono ?_
          rintro e X4 ⟨v2, full2, T, both, rfl, hdY, hkY, hxY, hfY, hcY, hrY⟩
          replace np := hkY.cells _ _ _ _ np (by decide) (by decide) (fun h => h)
          replace nq := hkY.cells _ _ _ _ nq (by decide) (by decide) (fun h => h)
          have hTT : Hid (Ext S T ∧ Held T both (FI n (i + 1) Bo) ∧ cnt T ≤ cnt S + cN k) := Lib.hid ⟨hxY, hfY, hcY⟩
          try go_simp
          refine hK.out _ _ (hHeld.trans hkY) (fun hHeld => ?_)
          clear hdX hrX hkY hxY hfY hcY
          clear hK
          try simp only [Act.put, List.setIfInBounds_toArray, List.set_cons_zero, List.set_cons_succ]
          have hdX := hdY
          have hrX := hrY
          clear hdY hrY
          refine wpAnyH_take (i := 7) (oi := _) (v := ?_) rfl (by kernel_rfl) (by kernel_rfl) (by kernel_rfl) (fun _ _ _ h => h) (Or.inl ⟨by rfl, ?_⟩) (by assumption) ?_
          rotate_left 1
          · intro w_ hSw
            go_simp
            try with_reducible rfl
          try simp only [Act.put, List.setIfInBounds_toArray]
          refine wpAnyH_take (i := 8) (oi := _) (v := ?_) rfl (by kernel_rfl) (by kernel_rfl) (by kernel_rfl) (fun _ _ _ h => h) (Or.inl ⟨by rfl, ?_⟩) (by assumption) ?_
          rotate_left 1
          · intro w_ hSw
            go_simp
            try with_reducible rfl
          try simp only [Act.put]
          refine wpAnyH_take (i := 9) (oi := _) (v := ?_) rfl (by kernel_rfl) (by kernel_rfl) (by kernel_rfl) (fun _ _ _ h => h) (Or.inl ⟨by rfl, ?_⟩) (by assumption) ?_
          rotate_left 1
          · intro w_ hSw
            go_simp
            try with_reducible rfl
          try simp only [Act.put]
          refine wpAnyH_ready (rs := [12]) (by kernel_rfl) (by simp) ?_
          refine AllReadyH.cons (o := _) rfl (fun _ hK => ?_) AllReadyH.nil
          obtain ⟨y0, yf⟩ := nowz1 np rfl
          go_simp
          clear y0 yf
          have hdY := hdX.put1 np (by decide) (by decide) (by decide) (.int .i64 both)
          have hrY := hrX.kz (Kz.put1 (C := (· = bp)) (M := no8) (N := N) np rfl (hNW _ lp) (.int .i64 both)) (fun h => h)
          refine hK.out _ _ (hHeld.putNew np lp (hNW _ lp) _) (fun hHeld => ?_)
          replace np := put1z (x := .int .i64 both) np
          replace nq := putFar (b := bp) (x := .int .i64 both) (by omega) nq
          clear hdX hrX
          clear hK
          try simp only [Act.put, List.setIfInBounds_toArray, List.set_cons_zero, List.set_cons_succ]
          have hdX := hdY
          have hrX := hrY
          clear hdY hrY
          refine wpAnyH_ready (rs := [13]) (by kernel_rfl) (by simp) ?_
          refine AllReadyH.cons (o := _) rfl (fun _ hK => ?_) AllReadyH.nil
          obtain ⟨y0, yf⟩ := nowz1 nq rfl
          go_simp
          clear y0 yf
          have hdY := hdX.put1 nq (by decide) (by decide) (by decide) (.int .i64 0)
          have hrY := hrX.kz (Kz.put1 (C := (· = bq)) (M := no8) (N := N) nq rfl (hNW _ lq) (.int .i64 0)) (fun h => h)
          refine hK.out _ _ (hHeld.putNew nq lq (hNW _ lq) _) (fun hHeld => ?_)
          replace nq := put1z (x := .int .i64 0) nq
          replace np := putFar (b := bq) (x := .int .i64 0) (by omega) np
          clear hdX hrX
          clear hK
          try simp only [Act.put, List.setIfInBounds_toArray, List.set_cons_zero, List.set_cons_succ]
          have hdX := hdY
          have hrX := hrY
          clear hdY hrY
          refine wpAnyH_done (by kernel_rfl) ?_ _
          go_wp2_with fail
          go_meet
          exact ⟨bp, bq, v2, full2, T, both, rfl, rfl, np, nq, lp, lq, npq, hdX, hHeld, hTT, hrX⟩
        refine AllReadyH.cons (o := _) rfl (fun _ hK => ?_) AllReadyH.nil
        go_simp
        have nq := heap_alloc_new X1 (.cells #[.int .i64 0] 26 (0, 0))
        have hal := below_alloc1 X1 (.cells #[.int .i64 0] 26 (0, 0))
        have lq := hHeld.size
        have dpq := size_of_block np
        replace np := keep_alloc (x := .cells #[.int .i64 0] 26 (0, 0)) np
        have hdY := hdX.below hal
        have hrY := hrX.below hal
        have hSY := hHeld.more hal
        generalize X1.heap.size = bq at *
        generalize X1.alloc (.cells #[.int .i64 0] 26 (0, 0)) = X2 at *
        have npq : bp ≠ bq := by omega
        refine hK.out _ _ hSY (fun hHeld => ?_)
        clear hal hdX hrX hSY
        clear hK
        try simp only [Act.put, List.setIfInBounds_toArray, List.set_cons_zero, List.set_cons_succ]
        have hdX := hdY
        have hrX := hrY
        clear hdY hrY
        refine wpAnyH_ready (rs := [3]) (by kernel_rfl) (by simp) ?_
        refine AllReadyH.cons (o := _) rfl (fun _ hK => ?_) AllReadyH.nil
        go_simp
        refine (HA X2).mono ?_
        rintro e X3 ⟨rfl, hbr⟩
        replace np := keep_blk hbr np
        replace nq := keep_blk hbr nq
        have hdY := hdX.below hbr
        have hrY := hrX.below hbr
        try go_simp
        refine hK.out _ _ (hHeld.more hbr) (fun hHeld => ?_)
        clear hbr hdX hrX
        clear hK
        try simp only [Act.put, List.setIfInBounds_toArray, List.set_cons_zero, List.set_cons_succ]
        have hdX := hdY
        have hrX := hrY
        clear hdY hrY
        refine wpAnyH_ready (rs := [6]) (by kernel_rfl) (by simp) ?_
        refine AllReadyH.cons (o := _) rfl (fun _ hK => ?_) AllReadyH.nil
        go_simp
        refine (HPr X3 _ _ hdX hHeld hrX).mono ?_
        rintro e X4 ⟨v2, full2, T, both, rfl, hdY, hkY, hxY, hfY, hcY, hrY⟩
        replace np := hkY.cells _ _ _ _ np (by decide) (by decide) (fun h => h)
        replace nq := hkY.cells _ _ _ _ nq (by decide) (by decide) (fun h => h)
        have hTT : Hid (Ext S T ∧ Held T both (FI n (i + 1) Bo) ∧ cnt T ≤ cnt S + cN k) := Lib.hid ⟨hxY, hfY, hcY⟩
        try go_simp
        refine hK.out _ _ (hHeld.trans hkY) (fun hHeld => ?_)
        clear hdX hrX hkY hxY hfY hcY
        clear hK
        try simp only [Act.put, List.setIfInBounds_toArray, List.set_cons_zero, List.set_cons_succ]
        have hdX := hdY
        have hrX := hrY
        clear hdY hrY
        refine wpAnyH_take (i := 7) (oi := _) (v := ?_) rfl (by kernel_rfl) (by kernel_rfl) (by kernel_rfl) (fun _ _ _ h => h) (Or.inl ⟨by rfl, ?_⟩) (by assumption) ?_
        rotate_left 1
        · intro w_ hSw
          go_simp
          try with_reducible rfl
        try simp only [Act.put, List.setIfInBounds_toArray]
        refine wpAnyH_take (i := 8) (oi := _) (v := ?_) rfl (by kernel_rfl) (by kernel_rfl) (by kernel_rfl) (fun _ _ _ h => h) (Or.inl ⟨by rfl, ?_⟩) (by assumption) ?_
        rotate_left 1
        · intro w_ hSw
          go_simp
          try with_reducible rfl
        try simp only [Act.put]
        refine wpAnyH_take (i := 9) (oi := _) (v := ?_) rfl (by kernel_rfl) (by kernel_rfl) (by kernel_rfl) (fun _ _ _ h => h) (Or.inl ⟨by rfl, ?_⟩) (by assumption) ?_
        rotate_left 1
        · intro w_ hSw
          go_simp
          try with_reducible rfl
        try simp only [Act.put]
        refine wpAnyH_ready (rs := [12]) (by kernel_rfl) (by simp) ?_
        refine AllReadyH.cons (o := _) rfl (fun _ hK => ?_) AllReadyH.nil
        obtain ⟨y0, yf⟩ := nowz1 np rfl
        go_simp
        clear y0 yf
        have hdY := hdX.put1 np (by decide) (by decide) (by decide) (.int .i64 both)
        have hrY := hrX.kz (Kz.put1 (C := (· = bp)) (M := no8) (N := N) np rfl (hNW _ lp) (.int .i64 both)) (fun h => h)
        refine hK.out _ _ (hHeld.putNew np lp (hNW _ lp) _) (fun hHeld => ?_)
        replace np := put1z (x := .int .i64 both) np
        replace nq := putFar (b := bp) (x := .int .i64 both) (by omega) nq
        clear hdX hrX
        clear hK
        try simp only [Act.put, List.setIfInBounds_toArray, List.set_cons_zero, List.set_cons_succ]
        have hdX := hdY
        have hrX := hrY
        clear hdY hrY
        refine wpAnyH_ready (rs := [13]) (by kernel_rfl) (by simp) ?_
        refine AllReadyH.cons (o := _) rfl (fun _ hK => ?_) AllReadyH.nil
        obtain ⟨y0, yf⟩ := nowz1 nq rfl
        go_simp
        clear y0 yf
        have hdY := hdX.put1 nq (by decide) (by decide) (by decide) (.int .i64 0)
        have hrY := hrX.kz (Kz.put1 (C := (· = bq)) (M := no8) (N := N) nq rfl (hNW _ lq) (.int .i64 0)) (fun h => h)
        refine hK.out _ _ (hHeld.putNew nq lq (hNW _ lq) _) (fun hHeld => ?_)
        replace nq := put1z (x := .int .i64 0) nq
        replace np := putFar (b := bq) (x := .int .i64 0) (by omega) np
        clear hdX hrX
        clear hK
        try simp only [Act.put, List.setIfInBounds_toArray, List.set_cons_zero, List.set_cons_succ]
        have hdX := hdY
        have hrX := hrY
        clear hdY hrY
        refine wpAnyH_done (by kernel_rfl) ?_ _
        go_wp2_with fail
        go_meet
        exact ⟨bp, bq, v2, full2, T, both, rfl, rfl, np, nq, lp, lq, npq, hdX, hHeld, hTT, hrX⟩
      refine AllReadyH.cons (o := _) rfl (fun _ hK => ?_) AllReadyH.nil
      go_simp
      have nq := heap_alloc_new X0 (.cells #[.int .i64 0] 26 (0, 0))
      have hal := below_alloc1 X0 (.cells #[.int .i64 0] 26 (0, 0))
      have lq := hHeld.size
      have hdY := hdX.below hal
      have hrY := hrX.below hal
      have hSY := hHeld.more hal
      generalize X0.heap.size = bq at *
      generalize X0.alloc (.cells #[.int .i64 0] 26 (0, 0)) = X1 at *
      refine hK.out _ _ hSY (fun hHeld => ?_)
      clear hal hdX hrX hSY
      clear hK
      try simp only [Act.put, List.setIfInBounds_toArray, List.set_cons_zero, List.set_cons_succ]
      have hdX := hdY
      have hrX := hrY
      clear hdY hrY
      refine wpAnyH_ready (rs := [3, 10]) (by kernel_rfl) (by simp) ?_
      refine AllReadyH.cons (o := _) rfl (fun _ hK => ?_) ?_
      · go_simp
        refine (HA X1).mono ?_
        rintro e X2 ⟨rfl, hbr⟩
        replace nq := keep_blk hbr nq
        have hdY := hdX.below hbr
        have hrY := hrX.below hbr
        try go_simp
        refine hK.out _ _ (hHeld.more hbr) (fun hHeld => ?_)
        clear hbr hdX hrX
        clear hK
        try simp only [Act.put, List.setIfInBounds_toArray, List.set_cons_zero, List.set_cons_succ]
        have hdX := hdY
        have hrX := hrY
        clear hdY hrY
        refine wpAnyH_ready (rs := [6, 10]) (by kernel_rfl) (by simp) ?_
        refine AllReadyH.cons (o := _) rfl (fun _ hK => ?_) ?_
        · go_simp
          refine (HPr X2 _ _ hdX hHeld hrX).mono ?_
          rintro e X3 ⟨v2, full2, T, both, rfl, hdY, hkY, hxY, hfY, hcY, hrY⟩
          replace nq := hkY.cells _ _ _ _ nq (by decide) (by decide) (fun h => h)
          have hTT : Hid (Ext S T ∧ Held T both (FI n (i + 1) Bo) ∧ cnt T ≤ cnt S + cN k) := Lib.hid ⟨hxY, hfY, hcY⟩
          try go_simp
          refine hK.out _ _ (hHeld.trans hkY) (fun hHeld => ?_)
          clear hdX hrX hkY hxY hfY hcY
          clear hK
          try simp only [Act.put, List.setIfInBounds_toArray, List.set_cons_zero, List.set_cons_succ]
          have hdX := hdY
          have hrX := hrY
          clear hdY hrY
          refine wpAnyH_take (i := 7) (oi := _) (v := ?_) rfl (by kernel_rfl) (by kernel_rfl) (by kernel_rfl) (fun _ _ _ h => h) (Or.inl ⟨by rfl, ?_⟩) (by assumption) ?_
          rotate_left 1
          · intro w_ hSw
            go_simp
            try with_reducible rfl
          try simp only [Act.put, List.setIfInBounds_toArray]
          refine wpAnyH_take (i := 8) (oi := _) (v := ?_) rfl (by kernel_rfl) (by kernel_rfl) (by kernel_rfl) (fun _ _ _ h => h) (Or.inl ⟨by rfl, ?_⟩) (by assumption) ?_
          rotate_left 1
          · intro w_ hSw
            go_simp
            try with_reducible rfl
          try simp only [Act.put]
          refine wpAnyH_take (i := 9) (oi := _) (v := ?_) rfl (by kernel_rfl) (by kernel_rfl) (by kernel_rfl) (fun _ _ _ h => h) (Or.inl ⟨by rfl, ?_⟩) (by assumption) ?_
          rotate_left 1
          · intro w_ hSw
            go_simp
            try with_reducible rfl
          try simp only [Act.put]
          refine wpAnyH_ready (rs := [10]) (by kernel_rfl) (by simp) ?_
          refine AllReadyH.cons (o := _) rfl (fun _ hK => ?_) AllReadyH.nil
          go_simp
          have np := heap_alloc_new X3 (.cells #[.int .i64 0] 3 (0, 0))
          have hal := below_alloc1 X3 (.cells #[.int .i64 0] 3 (0, 0))
          have lp := hHeld.size
          have dqp := size_of_block nq
          replace nq := keep_alloc (x := .cells #[.int .i64 0] 3 (0, 0)) nq
          have hdY := hdX.below hal
          have hrY := hrX.below hal
          have hSY := hHeld.more hal
          generalize X3.heap.size = bp at *
          generalize X3.alloc (.cells #[.int .i64 0] 3 (0, 0)) = X4 at *
          have npq : bp ≠ bq := by omega
          refine hK.out _ _ hSY (fun hHeld => ?_)
          clear hal hdX hrX hSY
          clear hK
          try simp only [Act.put, List.setIfInBounds_toArray, List.set_cons_zero, List.set_cons_succ]
          have hdX := hdY
          have hrX := hrY
          clear hdY hrY
          refine wpAnyH_ready (rs := [12]) (by kernel_rfl) (by simp) ?_
          refine AllReadyH.cons (o := _) rfl (fun _ hK => ?_) AllReadyH.nil
          obtain ⟨y0, yf⟩ := nowz1 np rfl
          go_simp
          clear y0 yf
          have hdY := hdX.put1 np (by decide) (by decide) (by decide) (.int .i64 both)
          have hrY := hrX.kz (Kz.put1 (C := (· = bp)) (M := no8) (N := N) np rfl (hNW _ lp) (.int .i64 both)) (fun h => h)
          refine hK.out _ _ (hHeld.putNew np lp (hNW _ lp) _) (fun hHeld => ?_)
          replace np := put1z (x := .int .i64 both) np
          replace nq := putFar (b := bp) (x := .int .i64 both) (by omega) nq
          clear hdX hrX
          clear hK
          try simp only [Act.put, List.setIfInBounds_toArray, List.set_cons_zero, List.set_cons_succ]
          have hdX := hdY
          have hrX := hrY
          clear hdY hrY
          refine wpAnyH_ready (rs := [13]) (by kernel_rfl) (by simp) ?_
          refine AllReadyH.cons (o := _) rfl (fun _ hK => ?_) AllReadyH.nil
          obtain ⟨y0, yf⟩ := nowz1 nq rfl
          go_simp
          clear y0 yf
          have hdY := hdX.put1 nq (by decide) (by decide) (by decide) (.int .i64 0)
          have hrY := hrX.kz (Kz.put1 (C := (· = bq)) (M := no8) (N := N) nq rfl (hNW _ lq) (.int .i64 0)) (fun h => h)
          refine hK.out _ _ (hHeld.putNew nq lq (hNW _ lq) _) (fun hHeld => ?_)
          replace nq := put1z (x := .int .i64 0) nq
          replace np := putFar (b := bq) (x := .int .i64 0) (by omega) np
          clear hdX hrX
          clear hK
          try simp only [Act.put, List.setIfInBounds_toArray, List.set_cons_zero, List.set_cons_succ]
          have hdX := hdY
          have hrX := hrY
          clear hdY hrY
          refine wpAnyH_done (by kernel_rfl) ?_ _
          go_wp2_with fail
          go_meet
          exact ⟨bp, bq, v2, full2, T, both, rfl, rfl, np, nq, lp, lq, npq, hdX, hHeld, hTT, hrX⟩
        refine AllReadyH.cons (o := _) rfl (fun _ hK => ?_) AllReadyH.nil
        go_simp
        have np := heap_alloc_new X2 (.cells #[.int .i64 0] 3 (0, 0))
        have hal := below_alloc1 X2 (.cells #[.int .i64 0] 3 (0, 0))
        have lp := hHeld.size
        have dqp := size_of_block nq
        replace nq := keep_alloc (x := .cells #[.int .i64 0] 3 (0, 0)) nq
        have hdY := hdX.below hal
        have hrY := hrX.below hal
        have hSY := hHeld.more hal
        generalize X2.heap.size = bp at *
        generalize X2.alloc (.cells #[.int .i64 0] 3 (0, 0)) = X3 at *
        have npq : bp ≠ bq := by omega
        refine hK.out _ _ hSY (fun hHeld => ?_)
        clear hal hdX hrX hSY
        clear hK
        try simp only [Act.put, List.setIfInBounds_toArray, List.set_cons_zero, List.set_cons_succ]
        have hdX := hdY
        have hrX := hrY
        clear hdY hrY
        refine wpAnyH_ready (rs := [6]) (by kernel_rfl) (by simp) ?_
        refine AllReadyH.cons (o := _) rfl (fun _ hK => ?_) AllReadyH.nil
        go_simp
        refine (HPr X3 _ _ hdX hHeld hrX).mono ?_
        rintro e X4 ⟨v2, full2, T, both, rfl, hdY, hkY, hxY, hfY, hcY, hrY⟩
        replace nq := hkY.cells _ _ _ _ nq (by decide) (by decide) (fun h => h)
        replace np := hkY.cells _ _ _ _ np (by decide) (by decide) (fun h => h)
        have hTT : Hid (Ext S T ∧ Held T both (FI n (i + 1) Bo) ∧ cnt T ≤ cnt S + cN k) := Lib.hid ⟨hxY, hfY, hcY⟩
        try go_simp
        refine hK.out _ _ (hHeld.trans hkY) (fun hHeld => ?_)
        clear hdX hrX hkY hxY hfY hcY
        clear hK
        try simp only [Act.put, List.setIfInBounds_toArray, List.set_cons_zero, List.set_cons_succ]
        have hdX := hdY
        have hrX := hrY
        clear hdY hrY
        refine wpAnyH_take (i := 7) (oi := _) (v := ?_) rfl (by kernel_rfl) (by kernel_rfl) (by kernel_rfl) (fun _ _ _ h => h) (Or.inl ⟨by rfl, ?_⟩) (by assumption) ?_
        rotate_left 1
        · intro w_ hSw
          go_simp
          try with_reducible rfl
        try simp only [Act.put, List.setIfInBounds_toArray]
        refine wpAnyH_take (i := 8) (oi := _) (v := ?_) rfl (by kernel_rfl) (by kernel_rfl) (by kernel_rfl) (fun _ _ _ h => h) (Or.inl ⟨by rfl, ?_⟩) (by assumption) ?_
        rotate_left 1
        · intro w_ hSw
          go_simp
          try with_reducible rfl
        try simp only [Act.put]
        refine wpAnyH_take (i := 9) (oi := _) (v := ?_) rfl (by kernel_rfl) (by kernel_rfl) (by kernel_rfl) (fun _ _ _ h => h) (Or.inl ⟨by rfl, ?_⟩) (by assumption) ?_
        rotate_left 1
        · intro w_ hSw
          go_simp
          try with_reducible rfl
        try simp only [Act.put]
        refine wpAnyH_ready (rs := [12]) (by kernel_rfl) (by simp) ?_
        refine AllReadyH.cons (o := _) rfl (fun _ hK => ?_) AllReadyH.nil
        obtain ⟨y0, yf⟩ := nowz1 np rfl
        go_simp
        clear y0 yf
        have hdY := hdX.put1 np (by decide) (by decide) (by decide) (.int .i64 both)
        have hrY := hrX.kz (Kz.put1 (C := (· = bp)) (M := no8) (N := N) np rfl (hNW _ lp) (.int .i64 both)) (fun h => h)
        refine hK.out _ _ (hHeld.putNew np lp (hNW _ lp) _) (fun hHeld => ?_)
        replace np := put1z (x := .int .i64 both) np
        replace nq := putFar (b := bp) (x := .int .i64 both) (by omega) nq
        clear hdX hrX
        clear hK
        try simp only [Act.put, List.setIfInBounds_toArray, List.set_cons_zero, List.set_cons_succ]
        have hdX := hdY
        have hrX := hrY
        clear hdY hrY
        refine wpAnyH_ready (rs := [13]) (by kernel_rfl) (by simp) ?_
        refine AllReadyH.cons (o := _) rfl (fun _ hK => ?_) AllReadyH.nil
        obtain ⟨y0, yf⟩ := nowz1 nq rfl
        go_simp
        clear y0 yf
        have hdY := hdX.put1 nq (by decide) (by decide) (by decide) (.int .i64 0)
        have hrY := hrX.kz (Kz.put1 (C := (· = bq)) (M := no8) (N := N) nq rfl (hNW _ lq) (.int .i64 0)) (fun h => h)
        refine hK.out _ _ (hHeld.putNew nq lq (hNW _ lq) _) (fun hHeld => ?_)
        replace nq := put1z (x := .int .i64 0) nq
        replace np := putFar (b := bq) (x := .int .i64 0) (by omega) np
        clear hdX hrX
        clear hK
        try simp only [Act.put, List.setIfInBounds_toArray, List.set_cons_zero, List.set_cons_succ]
        have hdX := hdY
        have hrX := hrY
        clear hdY hrY
        refine wpAnyH_done (by kernel_rfl) ?_ _
        go_wp2_with fail
        go_meet
        exact ⟨bp, bq, v2, full2, T, both, rfl, rfl, np, nq, lp, lq, npq, hdX, hHeld, hTT, hrX⟩
      refine AllReadyH.cons (o := _) rfl (fun _ hK => ?_) AllReadyH.nil
      go_simp
      have np := heap_alloc_new X1 (.cells #[.int .i64 0] 3 (0, 0))
      have hal := below_alloc1 X1 (.cells #[.int .i64 0] 3 (0, 0))
      have lp := hHeld.size
      have dqp := size_of_block nq
      replace nq := keep_alloc (x := .cells #[.int .i64 0] 3 (0, 0)) nq
      have hdY := hdX.below hal
      have hrY := hrX.below hal
      have hSY := hHeld.more hal
      generalize X1.heap.size = bp at *
      generalize X1.alloc (.cells #[.int .i64 0] 3 (0, 0)) = X2 at *
      have npq : bp ≠ bq := by omega
      refine hK.out _ _ hSY (fun hHeld => ?_)
      clear hal hdX hrX hSY
      clear hK
      try simp only [Act.put, List.setIfInBounds_toArray, List.set_cons_zero, List.set_cons_succ]
      have hdX := hdY
      have hrX := hrY
      clear hdY hrY
      refine wpAnyH_ready (rs := [3]) (by kernel_rfl) (by simp) ?_
      refine AllReadyH.cons (o := _) rfl (fun _ hK => ?_) AllReadyH.nil
      go_simp
      refine (HA X2).mono ?_
      rintro e X3 ⟨rfl, hbr⟩
      replace nq := keep_blk hbr nq
      replace np := keep_blk hbr np
      have hdY := hdX.below hbr
      have hrY := hrX.below hbr
      try go_simp
      refine hK.out _ _ (hHeld.more hbr) (fun hHeld => ?_)
      clear hbr hdX hrX
      clear hK
      try simp only [Act.put, List.setIfInBounds_toArray, List.set_cons_zero, List.set_cons_succ]
      have hdX := hdY
      have hrX := hrY
      clear hdY hrY
      refine wpAnyH_ready (rs := [6]) (by kernel_rfl) (by simp) ?_
      refine AllReadyH.cons (o := _) rfl (fun _ hK => ?_) AllReadyH.nil
      go_simp
      refine (HPr X3 _ _ hdX hHeld hrX).mono ?_
      rintro e X4 ⟨v2, full2, T, both, rfl, hdY, hkY, hxY, hfY, hcY, hrY⟩
      replace nq := hkY.cells _ _ _ _ nq (by decide) (by decide) (fun h => h)
      replace np := hkY.cells _ _ _ _ np (by decide) (by decide) (fun h => h)
      have hTT : Hid (Ext S T ∧ Held T both (FI n (i + 1) Bo) ∧ cnt T ≤ cnt S + cN k) := Lib.hid ⟨hxY, hfY, hcY⟩
      try go_simp
      refine hK.out _ _ (hHeld.trans hkY) (fun hHeld => ?_)
      clear hdX hrX hkY hxY hfY hcY
      clear hK
      try simp only [Act.put, List.setIfInBounds_toArray, List.set_cons_zero, List.set_cons_succ]
      have hdX := hdY
      have hrX := hrY
      clear hdY hrY
      refine wpAnyH_take (i := 7) (oi := _) (v := ?_) rfl (by kernel_rfl) (by kernel_rfl) (by kernel_rfl) (fun _ _ _ h => h) (Or.inl ⟨by rfl, ?_⟩) (by assumption) ?_
      rotate_left 1
      · intro w_ hSw
        go_simp
        try with_reducible rfl
      try simp only [Act.put, List.setIfInBounds_toArray]
      refine wpAnyH_take (i := 8) (oi := _) (v := ?_) rfl (by kernel_rfl) (by kernel_rfl) (by kernel_rfl) (fun _ _ _ h => h) (Or.inl ⟨by rfl, ?_⟩) (by assumption) ?_
      rotate_left 1
      · intro w_ hSw
        go_simp
        try with_reducible rfl
      try simp only [Act.put]
      refine wpAnyH_take (i := 9) (oi := _) (v := ?_) rfl (by kernel_rfl) (by kernel_rfl) (by kernel_rfl) (fun _ _ _ h => h) (Or.inl ⟨by rfl, ?_⟩) (by assumption) ?_
      rotate_left 1
      · intro w_ hSw
        go_simp
        try with_reducible rfl
      try simp only [Act.put]
      refine wpAnyH_ready (rs := [12]) (by kernel_rfl) (by simp) ?_
      refine AllReadyH.cons (o := _) rfl (fun _ hK => ?_) AllReadyH.nil
      obtain ⟨y0, yf⟩ := nowz1 np rfl
      go_simp
      clear y0 yf
      have hdY := hdX.put1 np (by decide) (by decide) (by decide) (.int .i64 both)
      have hrY := hrX.kz (Kz.put1 (C := (· = bp)) (M := no8) (N := N) np rfl (hNW _ lp) (.int .i64 both)) (fun h => h)
      refine hK.out _ _ (hHeld.putNew np lp (hNW _ lp) _) (fun hHeld => ?_)
      replace np := put1z (x := .int .i64 both) np
      replace nq := putFar (b := bp) (x := .int .i64 both) (by omega) nq
      clear hdX hrX
      clear hK
      try simp only [Act.put, List.setIfInBounds_toArray, List.set_cons_zero, List.set_cons_succ]
      have hdX := hdY
      have hrX := hrY
      clear hdY hrY
      refine wpAnyH_ready (rs := [13]) (by kernel_rfl) (by simp) ?_
      refine AllReadyH.cons (o := _) rfl (fun _ hK => ?_) AllReadyH.nil
      obtain ⟨y0, yf⟩ := nowz1 nq rfl
      go_simp
      clear y0 yf
      have hdY := hdX.put1 nq (by decide) (by decide) (by decide) (.int .i64 0)
      have hrY := hrX.kz (Kz.put1 (C := (· = bq)) (M := no8) (N := N) nq rfl (hNW _ lq) (.int .i64 0)) (fun h => h)
      refine hK.out _ _ (hHeld.putNew nq lq (hNW _ lq) _) (fun hHeld => ?_)
      replace nq := put1z (x := .int .i64 0) nq
      replace np := putFar (b := bq) (x := .int .i64 0) (by omega) np
      clear hdX hrX
      clear hK
      try simp only [Act.put, List.setIfInBounds_toArray, List.set_cons_zero, List.set_cons_succ]
      have hdX := hdY
      have hrX := hrY
      clear hdY hrY
      refine wpAnyH_done (by kernel_rfl) ?_ _
      go_wp2_with fail
      go_meet
      exact ⟨bp, bq, v2, full2, T, both, rfl, rfl, np, nq, lp, lq, npq, hdX, hHeld, hTT, hrX⟩
    case rest =>
      obtain ⟨b10, b11, v2, full2, T, both, rfl, rfl, np, nq, lp, lq, npq, hd3, hk3, hTT, hr3⟩ := hcut
      clear HPr HA c3 c5 c8 c9 hd2 hr2
      have hHT := hTT.out
      have hVT := hd3.zst.vst
      obtain ⟨hxT, hfT, hcT⟩ := hHT
      have nz3 := hk3.cells _ _ _ _ nz (by decide) (by decide) (fun h => h)
      have no3 := hk3.cells _ _ _ _ no (by decide) (by decide) (fun h => h)
      have hbd3 := hk3.cells _ _ _ _ hbd2 (by decide) (by decide) (fun h => h)
      have hbi3 := hk3.cells _ _ _ _ hbi2 (by decide) (by decide) (fun h => h)
      have hdr3 := hdr2.kz hk3 (fun h => h)
      have hk03 := hk2.trans hk3
      have hb5 := below_alloc1 wc (.cells #[.int .i64 both] 3 (0, 0))
      have na := heap_alloc_new wc (.cells #[.int .i64 both] 3 (0, 0))
      obtain ⟨p0, -⟩ := nowz1 np rfl
      have hmf : ∀ (fn : Fn) (first cap : Array Value) (w : World), (Instr.makeFunc fn first cap).run Tryz.prog w = .ok (.func fn first cap) w := fun _ _ _ _ => rfl
      have hszc := hk3.size
      go_upto_region 4 with (fail)
      clear p0
      have hd5 := hd3.below hb5
      have hdr5 := hdr3.below hb5
      have hr5 := hr3.below hb5
      have hbx : WBox (wc.alloc (.cells #[.int .i64 both] 3 (0, 0))) b11 w.heap.size (w.heap.size + 1 + 1) wc.heap.size b10 drb i both both := ⟨keep_blk hb5 nq, keep_blk hb5 hbd3, keep_blk hb5 hbi3, na, keep_blk hb5 np⟩
      have nz5 := keep_blk hb5 nz3
      have no5 := keep_blk hb5 no3
      have hk05 := hk03.more hb5
      have hNa : ¬ N wc.heap.size := hNW _ hszc
      have hNe : ¬ N b11 := hNW _ lq
      have hszw := hk03.size
      have hzw2 := hk2.size
      have hap : w.heap.size ≤ wc.heap.size ∧ w.heap.size ≤ b11 := ⟨by omega, by omega⟩
      have hib : w.heap.size + 1 + 1 < wc.heap.size := size_of_block hbi3
      have hpb : b10 < wc.heap.size := size_of_block np
      clear np nq na nz nz3 no no3 hbd2 hbd3 hbi2 hbi3 hdr2 hdr3 hk2 hk3 hk03 hb5 hd3 hr3
      generalize wc.alloc (.cells #[.int .i64 both] 3 (0, 0)) = W5 at *
      generalize wc.heap.size = ba at *
      go_upto_region 5 with (fail)
      have hcfW : ∀ (args : Array Value) (w1 : World), (Sem.run Tryz.prog (callFunc 113 args) w1) = .ok (.enter 113 args) w1 := fun _ _ => by kernel_rfl
      have HI0 : ∀ w, Calls Tryz.prog 45 #[.int .i64 i, .int .u8 0] w fun e w' => e = .returned (.int .i64 ((2 ^ (2 * i + 0) : Nat) : Int)) ∧ Below w.heap.size w w' := fun w => (titem_any i 0 (by omega) (by omega) w).mono fun e w' h => ⟨h.1, h.2 ▸ Below.refl _ _⟩
      have HI1 : ∀ w, Calls Tryz.prog 45 #[.int .i64 i, .int .u8 1] w fun e w' => e = .returned (.int .i64 ((2 ^ (2 * i + 1) : Nat) : Int)) ∧ Below w.heap.size w w' := fun w => (titem_any i 1 (by omega) (by omega) w).mono fun e w' h => ⟨h.1, h.2 ▸ Below.refl _ _⟩
      have hG0 : ∀ x, FI n (i + 1) Bo x = true → UI n i x = true := fun x hx => (UI_step (by omega) (FI_UI hx)).1
      have hlits : Hid (2 ^ (2 * i + 0) = 2 ^ (2 * i + 0) ∧ 2 ^ (2 * i + 1) = 2 ^ (2 * i + 1)) := Lib.hid ⟨rfl, rfl⟩
      have hwk : 3 * cN k + (14 * 3 ^ k - 4) = cN (k + 1) := rfl
      have hwN : wN k + wN k = 14 * 3 ^ k - 4 := by unfold wN; rw [Nat.pow_succ]; have := three_pow k; omega
      have HW0 := fun (y : After W5) (lit : Nat) (hl : lit = 2 ^ (2 * i + 0)) => twith_any hn IH (hd5.below y.2) (hdr5.below y.2) (hr5.below y.2) hne hN both both i (hbx.below y.2) hNe hNa Z Bo hik hLz lit (2 * i + 0) hl (.inl (Nat.add_zero _)) (FI n (i + 1) Bo) hfT hfT hG0 (by omega) (by omega)
      generalize hl0 : 2 ^ (2 * i + 0) = lit0 at *
      generalize hl1 : 2 ^ (2 * i + 1) = lit1 at *
      have hl0H := Lib.hid hl0
      have hl1H := Lib.hid hl1
      have HW0' := fun y => HW0 y lit0 rfl
      clear hl0 hl1 HW0
      unfold sv wv at HW0'
      obtain ⟨s0, s1, s2, s3, -⟩ := box4 nz5 rfl
      obtain ⟨i0, -⟩ := boxz1 hbx.i rfl
      refine wp_region_mid_after 4 _ rfl rfl (by kernel_rfl) (by kernel_rfl) ?_
      simp only [List.take_succ_cons, List.take_zero, List.drop_succ_cons, List.drop_zero]
      repeat (first | go_big_quiet_step ((go_at_call 45; exact Calls.after_of (HI0 _))))
      refine wpQuiet_nil ?_
      intro y K hK
      have HWy := HW0' y
      have noy := y.same no5
      have hbxy := hbx.below y.2
      have hk0y := hk05.more y.2
      clear HW0' s0 s1 s2 s3 i0 hd5 hr5 nz5 no5 hbx hk05 hdr5 HI0 hG0
      go_simp
      refine HWy.mono ?_
      rintro e w6 ⟨rfl, v6, full6, T6, id6, hd6, hk6, he6, ha6, hx6, hf6, hc6, hr6⟩
      clear HWy
      refine hK.out _ _ ?_
      clear hK
      repeat (first | go_big_quiet_step (fail))
      refine wpQuiet_nil ?_
      have nde := blk_ne hbxy.e hbxy.d (by decide)
      have nie := blk_ne hbxy.e hbxy.i (by decide)
      have nbe := blk_ne hbxy.e hbxy.b (by decide)
      have nda := blk_ne hbxy.a hbxy.d (by decide)
      have noe := blk_ne hbxy.e noy (by decide)
      have noa := blk_ne hbxy.a noy (by decide)
      have hbx6 : WBox w6 b11 w.heap.size (w.heap.size + 1 + 1) ba b10 drb i id6 both := ⟨he6, hk6.cells _ _ _ _ hbxy.d (by decide) (by decide) (fun h => h.elim (Ne.symm nda) (Ne.symm nde)), hk6.cells _ _ _ _ hbxy.i (by decide) (by decide) (fun h => h.elim (by omega) (Ne.symm nie)), ha6, hk6.cells _ _ _ _ hbxy.b (by decide) (by decide) (fun h => h.elim (by omega) (Ne.symm nbe))⟩
      have no6 := hk6.cells _ _ _ _ noy (by decide) (by decide) (fun h => h.elim (Ne.symm noa) (Ne.symm noe))
      have hk06 : Kz (fun q => q = ba ∨ q = b11) (MZ bm mm) N w w6 := (hk0y.mono (C' := fun q => q = ba ∨ q = b11) (fun _ hq => hq.elim) (fun _ h => h) (fun _ h => h)).trans hk6
      have hdrd : ¬ (drb = ba ∨ drb = b11) := fun h => by have := size_of_block hdr; omega
      have hdr6 := hdr.kz hk06 hdrd
      have hf6b := hfT.ext hVT hx6
      have hG6 : ∀ x, op2F 0 (JW n i (2 * i + 0) Z Bo) (FI n (i + 1) Bo) x = true → UI n i x = true := or_UI (fun x hx => JW_UI (by omega) (by omega) (.inl (Nat.add_zero _)) hx) (fun x hx => (UI_step (by omega) (FI_UI hx)).1)
      clear nde nie nbe nda noe noa hbxy noy hk0y hk6 he6 ha6
      go_upto_region 6 with (fail)
      have HW1 := fun (y : After w6) => twith_any hn IH (hd6.below y.2) (hdr6.below y.2) (hr6.below y.2) hne hN id6 both i (hbx6.below y.2) hNe hNa O Bo hik hLo lit1 (2 * i + 1) hl1H.out.symm (.inr rfl) (op2F 0 (JW n i (2 * i + 0) Z Bo) (FI n (i + 1) Bo)) hf6 hf6b hG6 (by omega) (by omega)
      unfold sv wv at HW1
      obtain ⟨s0, s1, s2, s3, -⟩ := box4 no6 rfl
      obtain ⟨i0, -⟩ := boxz1 hbx6.i rfl
      refine wp_region_mid_after 4 _ rfl rfl (by kernel_rfl) (by kernel_rfl) ?_
      simp only [List.take_succ_cons, List.take_zero, List.drop_succ_cons, List.drop_zero]
      repeat (first | go_big_quiet_step ((go_at_call 45; exact Calls.after_of (HI1 _))))
      refine wpQuiet_nil ?_
      intro y K hK
      have HWy := HW1 y
      have hk0y := hk06.more y.2
      clear HW1 s0 s1 s2 s3 i0 hd6 hr6 hbx6 hk06 hdr6 HI1 hG6 no6
      go_simp
      refine HWy.mono ?_
      rintro e w7 ⟨rfl, v7, full7, T7, id7, hd7, hk7, he7, ha7, hx7, hf7, hc7, hr7⟩
      clear HWy
      refine hK.out _ _ ?_
      clear hK
      repeat (first | go_big_quiet_step (fail))
      refine wpQuiet_nil ?_
      rw [hFI] at hf7
      have hk07 := hk0y.trans hk7
      obtain ⟨a0, -⟩ := boxz1 ha7 rfl
      obtain ⟨e0, -⟩ := boxz1 he7 rfl
      have I := Lib.hid (And.intro (hxT.trans (hx6.trans hx7)) (And.intro hf7 (show cnt T7 ≤ cnt S + cN (k + 1) by omega)))
      have hr8 := hr7.more (C' := C + 3 * eN k) (by omega)
      clear hk0y hk7 hx6 hx7 hf6 hf6b hfT hf7 hc6 hc7 hcT hxT hTT ha7 he7 hr7
      go_upto_region 7 with (fail)
      refine wp_region_after (by kernel_rfl) (by kernel_rfl) ?_
      repeat (first | go_big_quiet_step (fail))
      refine wpQuiet_nil ?_
      intro x
      have hdB := hd7.below x.2
      have hrB := hr8.below x.2
      have hkB := (hk07.more x.2).fresh (C' := no8) (fun q hq => .inr (by rcases hq with rfl | rfl <;> omega)) (fun q hq => .inl hq)
      clear a0 e0 hd7 hk07 hr8 hwk hwN hroom hC hik hLz hLo hLb hX hFI hn hsz hszc hszw hzw2 hib hpb hap
      go_wp2
      go_ret2
      exact ⟨v7, full7, T7, id7, rfl, hdB, hkB, I.out.1, I.out.2.1, I.out.2.2, hrB⟩
end Go.Proofs.YtehpccanjlaokaaGreat
