/- with of the package search. -/
import Derived.Test.YtcbhcclickjpnaaGK25
namespace Go.Proofs.Ytcbhcclickjpnaa
open Go.RowKit Go.Joins

set_option maxHeartbeats 4000000 in
set_option maxRecDepth 100000 in
theorem with15_any (c : Cho) (tv nv rv : Value) (x : Nat) (w : World) (hc : ChoN w (fun b => b < w.heap.size) tv nv rv c) (hl : c.ls.length ≤ 4000) :
    Calls Try.prog 63 #[chv tv nv c.nm.length rv, .int .i64 x] w fun e w' => ∃ rv', e = .returned (chv tv nv c.nm.length rv') ∧ ChoN w' (fun b => b < w'.heap.size) tv nv rv' (wiC c x) ∧ Below w.heap.size w w' := by
  have hB0 := two_below14 w (chb tv nv c.nm.length rv) (.cells #[.slice none 0 0, .slice none 0 0, .int .i64 0, .slice none 0 0] 55 (0, 0))
  have ht := two_made14 w (chb tv nv c.nm.length rv) (.cells #[.slice none 0 0, .slice none 0 0, .int .i64 0, .slice none 0 0] 55 (0, 0))
  have hsz : ((w.alloc (chb tv nv c.nm.length rv)).alloc (.cells #[.slice none 0 0, .slice none 0 0, .int .i64 0, .slice none 0 0] 55 (0, 0))).heap.size = w.heap.size + 2 := by simp
  obtain ⟨cvs, hvA, hvl, hvc, hvr⟩ := mat_vals15 hc.ls.here hc.cap
  have hcH := Lib.hid hc
  obtain ⟨At, ct, rfl, -, -⟩ := hc.t
  obtain ⟨An, cn, rfl, -, -⟩ := hc.nm
  obtain ⟨Ar, cr, rfl, -, -⟩ := hc.ls
  have hvA0 := hvA.below hB0
  generalize hn : c.nm.length = n at *
  unfold chv
  unfold chb at *
  obtain ⟨a0, a1, a2, a3, -⟩ := now4 ht.1 rfl
  obtain ⟨b0, b1, b2, b3, -⟩ := box4 ht.1 rfl
  clear hc hvA
  go_enter Try.func63, Try.ntmps63
  go_wp2
  generalize (w.alloc _).alloc _ = W1 at *
  have HCC := fun (X : World) (bs bq bp : Nat) (ns : X.heap[bs]? = some (.cells #[.slice Ar c.ls.length cr, .slice (some ⟨bq, 0, none⟩) 1 1] 22 (0, 0))) (nq : X.heap[bq]? = some (.cells #[.slice (some ⟨bp, 0, none⟩) 1 1] 30 (0, 0))) (h : Below W1.heap.size W1 X) =>
    concatM15_any bs [.slice Ar c.ls.length cr, .slice (some ⟨bq, 0, none⟩) 1 1] [cvs, [.slice (some ⟨bp, 0, none⟩) 1 1]] X rfl (by simp)
      (fun j v hj => by
        match j, hj with
        | 0, hj => rw [cell_of_block ns]; exact hj
        | 1, hj => rw [cell_of_block ns]; exact hj) (size_of_block ns)
      (fun j v m hj hm => by
        match j, hj, hm with
        | 0, hj, hm =>
          injection hj with hj
          injection hm with hm
          rw [← hj, ← hm]
          exact hvA0.below h
        | 1, hj, hm =>
          injection hj with hj
          injection hm with hm
          rw [← hj, ← hm]
          refine ⟨fun u hu => by rw [List.mem_singleton.1 hu]; rfl, some ⟨bq, 0, none⟩, 1, rfl, (fun e => by cases e), fun a ha i u hi => ?_⟩
          injection ha with ha
          subst ha
          match i, hi with
          | 0, hi => rw [Addr.add_lit, cell_of_block nq]; exact hi)
      (fun k => by
        have h1 : (([cvs, [Value.slice (some ⟨bp, 0, none⟩) 1 1]].take k).flatten).length ≤ ([cvs, [Value.slice (some ⟨bp, 0, none⟩) 1 1]].flatten).length := by
          have : ([cvs, [Value.slice (some ⟨bp, 0, none⟩) 1 1]].take k).flatten ++ ([cvs, [Value.slice (some ⟨bp, 0, none⟩) 1 1]].drop k).flatten = [cvs, [Value.slice (some ⟨bp, 0, none⟩) 1 1]].flatten := by
            rw [← List.flatten_append, List.take_append_drop]
          rw [← this, List.length_append]
          omega
        have h2 : ([cvs, [Value.slice (some ⟨bp, 0, none⟩) 1 1]].flatten).length = cvs.length + 1 := by simp
        omega)
  have hfl : ∀ bp : Nat, ([cvs, [Value.slice (some ⟨bp, 0, none⟩) 1 1]] : List (List Value)).flatten = cvs ++ [Value.slice (some ⟨bp, 0, none⟩) 1 1] := fun bp => by simp
  have HCC2 : ∀ (X : World) (bs bq bp : Nat) (ns : X.heap[bs]? = some (.cells #[.slice Ar c.ls.length cr, .slice (some ⟨bq, 0, none⟩) 1 1] 22 (0, 0))) (nq : X.heap[bq]? = some (.cells #[.slice (some ⟨bp, 0, none⟩) 1 1] 30 (0, 0))) (h : Below W1.heap.size W1 X),
      Calls Try.prog 84 #[.slice (some ⟨bs, 0, none⟩) 2 2] X fun e w' => ∃ v m3, e = .returned v ∧ Hid (m3 = (cvs ++ [Value.slice (some ⟨bp, 0, none⟩) 1 1]).length) ∧ w'.ownsRow X.heap.size 30 1 v m3 (cvs ++ [Value.slice (some ⟨bp, 0, none⟩) 1 1]) ∧ Below X.heap.size X w' := fun X bs bq bp ns nq h =>
    (HCC X bs bq bp ns nq h).mono fun e w' ⟨v, h1, h2, h3⟩ => ⟨v, _, h1, Lib.hid rfl, hfl bp ▸ h2, h3⟩
  clear HCC hfl
  go_cut [5] from 6 (fun s5 wc => ∃ bm bp v3 m3, s5 = .pointer (some ⟨bm, 0, none⟩) ∧ wc.heap[bm]? = some (.cells #[.int .i64 n, v3] 24 (0, 0)) ∧ wc.heap[bp]? = some (.cells #[.int .i64 x] 3 (0, 0)) ∧ Hid (m3 = (cvs ++ [Value.slice (some ⟨bp, 0, none⟩) 1 1]).length) ∧ wc.ownsRow W1.heap.size 30 1 v3 m3 (cvs ++ [Value.slice (some ⟨bp, 0, none⟩) 1 1]) ∧ W1.heap.size ≤ bp ∧ Below W1.heap.size W1 wc)
  case first =>
    refine wp_region_held_drew (S := fun W_ => Below W1.heap.size W1 W_) rfl (Below.refl _ W1).drew (fun hHeld => ?_)
    obtain ⟨X0, hX0⟩ : ∃ X0, X0 = W1.drew := ⟨_, rfl⟩
    rw [← hX0] at hHeld ⊢
    clear hX0
    refine wpAnyH_take (i := 0) (oi := _) (v := ?_) rfl (by kernel_rfl) (by kernel_rfl) (by kernel_rfl) (fun _ _ _ h => h) (Or.inl ⟨by rfl, ?_⟩) (by assumption) ?_
    rotate_left 1
    · intro w_ hSw
      go_simp
      try with_reducible rfl
    try simp only [Act.put, List.setIfInBounds_toArray]
    refine wpAnyH_take (i := 1) (oi := _) (v := ?_) rfl (by kernel_rfl) (by kernel_rfl) (by kernel_rfl) (fun _ _ _ h => h) (Or.inl ⟨by rfl, ?_⟩) (by assumption) ?_
    rotate_left 1
    · intro w_ hSw
      go_simp
      try with_reducible rfl
    try simp only [Act.put]
    refine wpAnyH_take (i := 2) (oi := _) (v := ?_) rfl (by kernel_rfl) (by kernel_rfl) (by kernel_rfl) (fun _ _ _ h => h) (Or.inl ⟨by rfl, ?_⟩) (by assumption) ?_
    rotate_left 1
    · intro w_ hSw
      have q_b0 := b0 ⟨w_, hSw⟩
      have q_b1 := b1 ⟨w_, hSw⟩
      have q_b2 := b2 ⟨w_, hSw⟩
      have q_b3 := b3 ⟨w_, hSw⟩
      dsimp only at q_b0 q_b1 q_b2 q_b3
      go_simp
      try with_reducible rfl
    try simp only [Act.put]
    refine wpAnyH_take (i := 3) (oi := _) (v := ?_) rfl (by kernel_rfl) (by kernel_rfl) (by kernel_rfl) (fun _ _ _ h => h) (Or.inl ⟨by rfl, ?_⟩) (by assumption) ?_
    rotate_left 1
    · intro w_ hSw
      go_simp
      try with_reducible rfl
    try simp only [Act.put]
    refine wpAnyH_take (i := 4) (oi := _) (v := ?_) rfl (by kernel_rfl) (by kernel_rfl) (by kernel_rfl) (fun _ _ _ h => h) (Or.inl ⟨by rfl, ?_⟩) (by assumption) ?_
    rotate_left 1
    · intro w_ hSw
      go_simp
      try with_reducible rfl
    try simp only [Act.put]
    refine wpAnyH_take (i := 5) (oi := _) (v := ?_) rfl (by kernel_rfl) (by kernel_rfl) (by kernel_rfl) (fun _ _ _ h => h) (Or.inl ⟨by rfl, ?_⟩) (by assumption) ?_
    rotate_left 1
    · intro w_ hSw
      have q_b0 := b0 ⟨w_, hSw⟩
      have q_b1 := b1 ⟨w_, hSw⟩
      have q_b2 := b2 ⟨w_, hSw⟩
      have q_b3 := b3 ⟨w_, hSw⟩
      dsimp only at q_b0 q_b1 q_b2 q_b3
      go_simp
      try with_reducible rfl
    try simp only [Act.put]
    refine wpAnyH_take (i := 6) (oi := _) (v := ?_) rfl (by kernel_rfl) (by kernel_rfl) (by kernel_rfl) (fun _ _ _ h => h) (Or.inl ⟨by rfl, ?_⟩) (by assumption) ?_
    rotate_left 1
    · intro w_ hSw
      go_simp
      try with_reducible rfl
    try simp only [Act.put]
    refine wpAnyH_ready (rs := [7, 12]) (by kernel_rfl) (by simp) ?_
    refine AllReadyH.cons (o := _) rfl (fun _ hK => ?_) ?_
    · go_simp
      have np := heap_alloc_new X0 (.cells #[.int .i64 x] 3 (0, 0))
      have hal := hHeld.alloc hHeld.size (.cells #[.int .i64 x] 3 (0, 0))
      have lp := hHeld.size
      generalize X0.heap.size = bp at *
      generalize X0.alloc (.cells #[.int .i64 x] 3 (0, 0)) = X1 at *
      refine hK.out _ _ hal (fun hHeld => ?_)
      clear hal
      clear hK
      try simp only [Act.put, List.setIfInBounds_toArray, List.set_cons_zero, List.set_cons_succ]
      refine wpAnyH_ready (rs := [8, 12]) (by kernel_rfl) (by simp) ?_
      refine AllReadyH.cons (o := _) rfl (fun _ hK => ?_) ?_
      · go_simp
        have nq := heap_alloc_new X1 (.cells #[.slice (some ⟨bp, 0, none⟩) 1 1] 30 (0, 0))
        have hal := hHeld.alloc hHeld.size (.cells #[.slice (some ⟨bp, 0, none⟩) 1 1] 30 (0, 0))
        have lq := hHeld.size
        have dpq := size_of_block np
        replace np := keep_alloc (x := .cells #[.slice (some ⟨bp, 0, none⟩) 1 1] 30 (0, 0)) np
        generalize X1.heap.size = bq at *
        generalize X1.alloc (.cells #[.slice (some ⟨bp, 0, none⟩) 1 1] 30 (0, 0)) = X2 at *
        refine hK.out _ _ hal (fun hHeld => ?_)
        clear hal
        clear hK
        try simp only [Act.put, List.setIfInBounds_toArray, List.set_cons_zero, List.set_cons_succ]
        refine wpAnyH_ready (rs := [9, 12]) (by kernel_rfl) (by simp) ?_
        refine AllReadyH.cons (o := _) rfl (fun _ hK => ?_) ?_
        · go_simp
          have ns := heap_alloc_new X2 (.cells #[.slice Ar c.ls.length cr, .slice (some ⟨bq, 0, none⟩) 1 1] 22 (0, 0))
          have hal := hHeld.alloc hHeld.size (.cells #[.slice Ar c.ls.length cr, .slice (some ⟨bq, 0, none⟩) 1 1] 22 (0, 0))
          have ls := hHeld.size
          have dps := size_of_block np
          replace np := keep_alloc (x := .cells #[.slice Ar c.ls.length cr, .slice (some ⟨bq, 0, none⟩) 1 1] 22 (0, 0)) np
          have dqs := size_of_block nq
          replace nq := keep_alloc (x := .cells #[.slice Ar c.ls.length cr, .slice (some ⟨bq, 0, none⟩) 1 1] 22 (0, 0)) nq
          generalize X2.heap.size = bs at *
          generalize X2.alloc (.cells #[.slice Ar c.ls.length cr, .slice (some ⟨bq, 0, none⟩) 1 1] 22 (0, 0)) = X3 at *
          refine hK.out _ _ hal (fun hHeld => ?_)
          clear hal
          clear hK
          try simp only [Act.put, List.setIfInBounds_toArray, List.set_cons_zero, List.set_cons_succ]
          refine wpAnyH_ready (rs := [10, 12]) (by kernel_rfl) (by simp) ?_
          refine AllReadyH.cons (o := _) rfl (fun _ hK => ?_) ?_
          · go_simp
            refine (HCC2 X3 bs bq bp ns nq hHeld).mono ?_
            rintro e X4 ⟨v3, m3, rfl, hm3, hown3, hbr⟩
            have np_ := np
            replace np := keep_blk hbr np
            have nq_ := nq
            replace nq := keep_blk hbr nq
            have ns_ := ns
            replace ns := keep_blk hbr ns
            obtain ⟨A3, c3, rfl⟩ := own_form hown3
            have e_hown3_p : (Value.slice A3 m3 c3).ownBlock ≠ some bp := fun e => by have h1 := (hown3.lt _ e).1; have h2 := size_of_block np_; omega
            have e_hown3_q : (Value.slice A3 m3 c3).ownBlock ≠ some bq := fun e => by have h1 := (hown3.lt _ e).1; have h2 := size_of_block nq_; omega
            have e_hown3_s : (Value.slice A3 m3 c3).ownBlock ≠ some bs := fun e => by have h1 := (hown3.lt _ e).1; have h2 := size_of_block ns_; omega
            clear np_ nq_ ns_
            replace hown3 := own_more hown3 hHeld.size
            try go_simp
            refine hK.out _ _ (hHeld.trans (hbr.mono hHeld.size)) (fun hHeld => ?_)
            clear hbr
            clear hK
            try simp only [Act.put, List.setIfInBounds_toArray, List.set_cons_zero, List.set_cons_succ]
            refine wpAnyH_take (i := 11) (oi := _) (v := ?_) rfl (by kernel_rfl) (by kernel_rfl) (by kernel_rfl) (fun _ _ _ h => h) (Or.inl ⟨by rfl, ?_⟩) (by assumption) ?_
            rotate_left 1
            · intro w_ hSw
              go_simp
              try with_reducible rfl
            try simp only [Act.put, List.setIfInBounds_toArray]
            refine wpAnyH_ready (rs := [12]) (by kernel_rfl) (by simp) ?_
            refine AllReadyH.cons (o := _) rfl (fun _ hK => ?_) AllReadyH.nil
            go_simp
            have nm := heap_alloc_new X4 (.cells #[.int .i64 0, .slice none 0 0] 24 (0, 0))
            have hal := hHeld.alloc hHeld.size (.cells #[.int .i64 0, .slice none 0 0] 24 (0, 0))
            have lm := hHeld.size
            have dpm := size_of_block np
            replace np := keep_alloc (x := .cells #[.int .i64 0, .slice none 0 0] 24 (0, 0)) np
            have dqm := size_of_block nq
            replace nq := keep_alloc (x := .cells #[.int .i64 0, .slice none 0 0] 24 (0, 0)) nq
            have dsm := size_of_block ns
            replace ns := keep_alloc (x := .cells #[.int .i64 0, .slice none 0 0] 24 (0, 0)) ns
            have e_hown3_m : (Value.slice A3 m3 c3).ownBlock ≠ some X4.heap.size := fun e => by have h1 := (hown3.lt _ e).2; omega
            replace hown3 := hown3.alloc (.cells #[.int .i64 0, .slice none 0 0] 24 (0, 0))
            generalize X4.heap.size = bm at *
            generalize X4.alloc (.cells #[.int .i64 0, .slice none 0 0] 24 (0, 0)) = X5 at *
            refine hK.out _ _ hal (fun hHeld => ?_)
            clear hal
            clear hK
            try simp only [Act.put, List.setIfInBounds_toArray, List.set_cons_zero, List.set_cons_succ]
            refine wpAnyH_ready (rs := [13]) (by kernel_rfl) (by simp) ?_
            refine AllReadyH.cons (o := _) rfl (fun _ hK => ?_) AllReadyH.nil
            obtain ⟨y0, y1, yf⟩ := now2 nm rfl
            go_simp
            clear y0 y1 yf
            refine hK.out _ _ ((hHeld.setCell (by show W1.heap.size ≤ bm; omega) _).setCell (by show W1.heap.size ≤ bm; omega) _) (fun hHeld => ?_)
            replace hown3 := own_set (own_set hown3 e_hown3_m 0 (.int .i64 n)) e_hown3_m 1 (.slice A3 m3 c3)
            replace np := keep_set (a := ⟨bm, 1, none⟩) (u := .slice A3 m3 c3) (by show bp ≠ bm; omega) (keep_set (a := ⟨bm, 0, none⟩) (u := .int .i64 n) (by show bp ≠ bm; omega) np)
            replace nq := keep_set (a := ⟨bm, 1, none⟩) (u := .slice A3 m3 c3) (by show bq ≠ bm; omega) (keep_set (a := ⟨bm, 0, none⟩) (u := .int .i64 n) (by show bq ≠ bm; omega) nq)
            replace ns := keep_set (a := ⟨bm, 1, none⟩) (u := .slice A3 m3 c3) (by show bs ≠ bm; omega) (keep_set (a := ⟨bm, 0, none⟩) (u := .int .i64 n) (by show bs ≠ bm; omega) ns)
            replace nm := put2 (x0 := .int .i64 n) (x1 := .slice A3 m3 c3) nm
            generalize (X5.setCell ⟨bm, 0, none⟩ (.int .i64 n)).setCell ⟨bm, 1, none⟩ (.slice A3 m3 c3) = X6 at *
            clear hK
            try simp only [Act.put, List.setIfInBounds_toArray, List.set_cons_zero, List.set_cons_succ]
            refine wpAnyH_done (by kernel_rfl) ?_ _
            go_wp2_with fail
            go_meet
            exact ⟨bm, bp, _, m3, rfl, nm, np, hm3, hown3, lp, hHeld⟩
          refine AllReadyH.cons (o := _) rfl (fun _ hK => ?_) AllReadyH.nil
          go_simp
          have nm := heap_alloc_new X3 (.cells #[.int .i64 0, .slice none 0 0] 24 (0, 0))
          have hal := hHeld.alloc hHeld.size (.cells #[.int .i64 0, .slice none 0 0] 24 (0, 0))
          have lm := hHeld.size
          have dpm := size_of_block np
          replace np := keep_alloc (x := .cells #[.int .i64 0, .slice none 0 0] 24 (0, 0)) np
          have dqm := size_of_block nq
          replace nq := keep_alloc (x := .cells #[.int .i64 0, .slice none 0 0] 24 (0, 0)) nq
          have dsm := size_of_block ns
          replace ns := keep_alloc (x := .cells #[.int .i64 0, .slice none 0 0] 24 (0, 0)) ns
          generalize X3.heap.size = bm at *
          generalize X3.alloc (.cells #[.int .i64 0, .slice none 0 0] 24 (0, 0)) = X4 at *
          refine hK.out _ _ hal (fun hHeld => ?_)
          clear hal
          clear hK
          try simp only [Act.put, List.setIfInBounds_toArray, List.set_cons_zero, List.set_cons_succ]
          refine wpAnyH_ready (rs := [10]) (by kernel_rfl) (by simp) ?_
          refine AllReadyH.cons (o := _) rfl (fun _ hK => ?_) AllReadyH.nil
          go_simp
          refine (HCC2 X4 bs bq bp ns nq hHeld).mono ?_
          rintro e X5 ⟨v3, m3, rfl, hm3, hown3, hbr⟩
          have np_ := np
          replace np := keep_blk hbr np
          have nq_ := nq
          replace nq := keep_blk hbr nq
          have ns_ := ns
          replace ns := keep_blk hbr ns
          have nm_ := nm
          replace nm := keep_blk hbr nm
          obtain ⟨A3, c3, rfl⟩ := own_form hown3
          have e_hown3_p : (Value.slice A3 m3 c3).ownBlock ≠ some bp := fun e => by have h1 := (hown3.lt _ e).1; have h2 := size_of_block np_; omega
          have e_hown3_q : (Value.slice A3 m3 c3).ownBlock ≠ some bq := fun e => by have h1 := (hown3.lt _ e).1; have h2 := size_of_block nq_; omega
          have e_hown3_s : (Value.slice A3 m3 c3).ownBlock ≠ some bs := fun e => by have h1 := (hown3.lt _ e).1; have h2 := size_of_block ns_; omega
          have e_hown3_m : (Value.slice A3 m3 c3).ownBlock ≠ some bm := fun e => by have h1 := (hown3.lt _ e).1; have h2 := size_of_block nm_; omega
          clear np_ nq_ ns_ nm_
          replace hown3 := own_more hown3 hHeld.size
          try go_simp
          refine hK.out _ _ (hHeld.trans (hbr.mono hHeld.size)) (fun hHeld => ?_)
          clear hbr
          clear hK
          try simp only [Act.put, List.setIfInBounds_toArray, List.set_cons_zero, List.set_cons_succ]
          refine wpAnyH_take (i := 11) (oi := _) (v := ?_) rfl (by kernel_rfl) (by kernel_rfl) (by kernel_rfl) (fun _ _ _ h => h) (Or.inl ⟨by rfl, ?_⟩) (by assumption) ?_
          rotate_left 1
          · intro w_ hSw
            go_simp
            try with_reducible rfl
          try simp only [Act.put, List.setIfInBounds_toArray]
          refine wpAnyH_ready (rs := [13]) (by kernel_rfl) (by simp) ?_
          refine AllReadyH.cons (o := _) rfl (fun _ hK => ?_) AllReadyH.nil
          obtain ⟨y0, y1, yf⟩ := now2 nm rfl
          go_simp
          clear y0 y1 yf
          refine hK.out _ _ ((hHeld.setCell (by show W1.heap.size ≤ bm; omega) _).setCell (by show W1.heap.size ≤ bm; omega) _) (fun hHeld => ?_)
          replace hown3 := own_set (own_set hown3 e_hown3_m 0 (.int .i64 n)) e_hown3_m 1 (.slice A3 m3 c3)
          replace np := keep_set (a := ⟨bm, 1, none⟩) (u := .slice A3 m3 c3) (by show bp ≠ bm; omega) (keep_set (a := ⟨bm, 0, none⟩) (u := .int .i64 n) (by show bp ≠ bm; omega) np)
          replace nq := keep_set (a := ⟨bm, 1, none⟩) (u := .slice A3 m3 c3) (by show bq ≠ bm; omega) (keep_set (a := ⟨bm, 0, none⟩) (u := .int .i64 n) (by show bq ≠ bm; omega) nq)
          replace ns := keep_set (a := ⟨bm, 1, none⟩) (u := .slice A3 m3 c3) (by show bs ≠ bm; omega) (keep_set (a := ⟨bm, 0, none⟩) (u := .int .i64 n) (by show bs ≠ bm; omega) ns)
          replace nm := put2 (x0 := .int .i64 n) (x1 := .slice A3 m3 c3) nm
          generalize (X5.setCell ⟨bm, 0, none⟩ (.int .i64 n)).setCell ⟨bm, 1, none⟩ (.slice A3 m3 c3) = X6 at *
          clear hK
          try simp only [Act.put, List.setIfInBounds_toArray, List.set_cons_zero, List.set_cons_succ]
          refine wpAnyH_done (by kernel_rfl) ?_ _
          go_wp2_with fail
          go_meet
          exact ⟨bm, bp, _, m3, rfl, nm, np, hm3, hown3, lp, hHeld⟩
        refine AllReadyH.cons (o := _) rfl (fun _ hK => ?_) AllReadyH.nil
        go_simp
        have nm := heap_alloc_new X2 (.cells #[.int .i64 0, .slice none 0 0] 24 (0, 0))
        have hal := hHeld.alloc hHeld.size (.cells #[.int .i64 0, .slice none 0 0] 24 (0, 0))
        have lm := hHeld.size
        have dpm := size_of_block np
        replace np := keep_alloc (x := .cells #[.int .i64 0, .slice none 0 0] 24 (0, 0)) np
        have dqm := size_of_block nq
        replace nq := keep_alloc (x := .cells #[.int .i64 0, .slice none 0 0] 24 (0, 0)) nq
        generalize X2.heap.size = bm at *
        generalize X2.alloc (.cells #[.int .i64 0, .slice none 0 0] 24 (0, 0)) = X3 at *
        refine hK.out _ _ hal (fun hHeld => ?_)
        clear hal
        clear hK
        try simp only [Act.put, List.setIfInBounds_toArray, List.set_cons_zero, List.set_cons_succ]
        refine wpAnyH_ready (rs := [9]) (by kernel_rfl) (by simp) ?_
        refine AllReadyH.cons (o := _) rfl (fun _ hK => ?_) AllReadyH.nil
        go_simp
        have ns := heap_alloc_new X3 (.cells #[.slice Ar c.ls.length cr, .slice (some ⟨bq, 0, none⟩) 1 1] 22 (0, 0))
        have hal := hHeld.alloc hHeld.size (.cells #[.slice Ar c.ls.length cr, .slice (some ⟨bq, 0, none⟩) 1 1] 22 (0, 0))
        have ls := hHeld.size
        have dps := size_of_block np
        replace np := keep_alloc (x := .cells #[.slice Ar c.ls.length cr, .slice (some ⟨bq, 0, none⟩) 1 1] 22 (0, 0)) np
        have dqs := size_of_block nq
        replace nq := keep_alloc (x := .cells #[.slice Ar c.ls.length cr, .slice (some ⟨bq, 0, none⟩) 1 1] 22 (0, 0)) nq
        have dms := size_of_block nm
        replace nm := keep_alloc (x := .cells #[.slice Ar c.ls.length cr, .slice (some ⟨bq, 0, none⟩) 1 1] 22 (0, 0)) nm
        generalize X3.heap.size = bs at *
        generalize X3.alloc (.cells #[.slice Ar c.ls.length cr, .slice (some ⟨bq, 0, none⟩) 1 1] 22 (0, 0)) = X4 at *
        refine hK.out _ _ hal (fun hHeld => ?_)
        clear hal
        clear hK
        try simp only [Act.put, List.setIfInBounds_toArray, List.set_cons_zero, List.set_cons_succ]
        refine wpAnyH_ready (rs := [10]) (by kernel_rfl) (by simp) ?_
        refine AllReadyH.cons (o := _) rfl (fun _ hK => ?_) AllReadyH.nil
        go_simp
        refine (HCC2 X4 bs bq bp ns nq hHeld).mono ?_
        rintro e X5 ⟨v3, m3, rfl, hm3, hown3, hbr⟩
        have np_ := np
        replace np := keep_blk hbr np
        have nq_ := nq
        replace nq := keep_blk hbr nq
        have nm_ := nm
        replace nm := keep_blk hbr nm
        have ns_ := ns
        replace ns := keep_blk hbr ns
        obtain ⟨A3, c3, rfl⟩ := own_form hown3
        have e_hown3_p : (Value.slice A3 m3 c3).ownBlock ≠ some bp := fun e => by have h1 := (hown3.lt _ e).1; have h2 := size_of_block np_; omega
        have e_hown3_q : (Value.slice A3 m3 c3).ownBlock ≠ some bq := fun e => by have h1 := (hown3.lt _ e).1; have h2 := size_of_block nq_; omega
        have e_hown3_m : (Value.slice A3 m3 c3).ownBlock ≠ some bm := fun e => by have h1 := (hown3.lt _ e).1; have h2 := size_of_block nm_; omega
        have e_hown3_s : (Value.slice A3 m3 c3).ownBlock ≠ some bs := fun e => by have h1 := (hown3.lt _ e).1; have h2 := size_of_block ns_; omega
        clear np_ nq_ nm_ ns_
        replace hown3 := own_more hown3 hHeld.size
        try go_simp
        refine hK.out _ _ (hHeld.trans (hbr.mono hHeld.size)) (fun hHeld => ?_)
        clear hbr
        clear hK
        try simp only [Act.put, List.setIfInBounds_toArray, List.set_cons_zero, List.set_cons_succ]
        refine wpAnyH_take (i := 11) (oi := _) (v := ?_) rfl (by kernel_rfl) (by kernel_rfl) (by kernel_rfl) (fun _ _ _ h => h) (Or.inl ⟨by rfl, ?_⟩) (by assumption) ?_
        rotate_left 1
        · intro w_ hSw
          go_simp
          try with_reducible rfl
        try simp only [Act.put, List.setIfInBounds_toArray]
        refine wpAnyH_ready (rs := [13]) (by kernel_rfl) (by simp) ?_
        refine AllReadyH.cons (o := _) rfl (fun _ hK => ?_) AllReadyH.nil
        obtain ⟨y0, y1, yf⟩ := now2 nm rfl
        go_simp
        clear y0 y1 yf
        refine hK.out _ _ ((hHeld.setCell (by show W1.heap.size ≤ bm; omega) _).setCell (by show W1.heap.size ≤ bm; omega) _) (fun hHeld => ?_)
        replace hown3 := own_set (own_set hown3 e_hown3_m 0 (.int .i64 n)) e_hown3_m 1 (.slice A3 m3 c3)
        replace np := keep_set (a := ⟨bm, 1, none⟩) (u := .slice A3 m3 c3) (by show bp ≠ bm; omega) (keep_set (a := ⟨bm, 0, none⟩) (u := .int .i64 n) (by show bp ≠ bm; omega) np)
        replace nq := keep_set (a := ⟨bm, 1, none⟩) (u := .slice A3 m3 c3) (by show bq ≠ bm; omega) (keep_set (a := ⟨bm, 0, none⟩) (u := .int .i64 n) (by show bq ≠ bm; omega) nq)
        replace ns := keep_set (a := ⟨bm, 1, none⟩) (u := .slice A3 m3 c3) (by show bs ≠ bm; omega) (keep_set (a := ⟨bm, 0, none⟩) (u := .int .i64 n) (by show bs ≠ bm; omega) ns)
        replace nm := put2 (x0 := .int .i64 n) (x1 := .slice A3 m3 c3) nm
        generalize (X5.setCell ⟨bm, 0, none⟩ (.int .i64 n)).setCell ⟨bm, 1, none⟩ (.slice A3 m3 c3) = X6 at *
        clear hK
        try simp only [Act.put, List.setIfInBounds_toArray, List.set_cons_zero, List.set_cons_succ]
        refine wpAnyH_done (by kernel_rfl) ?_ _
        go_wp2_with fail
        go_meet
        exact ⟨bm, bp, _, m3, rfl, nm, np, hm3, hown3, lp, hHeld⟩
      refine AllReadyH.cons (o := _) rfl (fun _ hK => ?_) AllReadyH.nil
      go_simp
      have nm := heap_alloc_new X1 (.cells #[.int .i64 0, .slice none 0 0] 24 (0, 0))
      have hal := hHeld.alloc hHeld.size (.cells #[.int .i64 0, .slice none 0 0] 24 (0, 0))
      have lm := hHeld.size
      have dpm := size_of_block np
      replace np := keep_alloc (x := .cells #[.int .i64 0, .slice none 0 0] 24 (0, 0)) np
      generalize X1.heap.size = bm at *
      generalize X1.alloc (.cells #[.int .i64 0, .slice none 0 0] 24 (0, 0)) = X2 at *
      refine hK.out _ _ hal (fun hHeld => ?_)
      clear hal
      clear hK
      try simp only [Act.put, List.setIfInBounds_toArray, List.set_cons_zero, List.set_cons_succ]
      refine wpAnyH_ready (rs := [8]) (by kernel_rfl) (by simp) ?_
      refine AllReadyH.cons (o := _) rfl (fun _ hK => ?_) AllReadyH.nil
      go_simp
      have nq := heap_alloc_new X2 (.cells #[.slice (some ⟨bp, 0, none⟩) 1 1] 30 (0, 0))
      have hal := hHeld.alloc hHeld.size (.cells #[.slice (some ⟨bp, 0, none⟩) 1 1] 30 (0, 0))
      have lq := hHeld.size
      have dpq := size_of_block np
      replace np := keep_alloc (x := .cells #[.slice (some ⟨bp, 0, none⟩) 1 1] 30 (0, 0)) np
      have dmq := size_of_block nm
      replace nm := keep_alloc (x := .cells #[.slice (some ⟨bp, 0, none⟩) 1 1] 30 (0, 0)) nm
      generalize X2.heap.size = bq at *
      generalize X2.alloc (.cells #[.slice (some ⟨bp, 0, none⟩) 1 1] 30 (0, 0)) = X3 at *
      refine hK.out _ _ hal (fun hHeld => ?_)
      clear hal
      clear hK
      try simp only [Act.put, List.setIfInBounds_toArray, List.set_cons_zero, List.set_cons_succ]
      refine wpAnyH_ready (rs := [9]) (by kernel_rfl) (by simp) ?_
      refine AllReadyH.cons (o := _) rfl (fun _ hK => ?_) AllReadyH.nil
      go_simp
      have ns := heap_alloc_new X3 (.cells #[.slice Ar c.ls.length cr, .slice (some ⟨bq, 0, none⟩) 1 1] 22 (0, 0))
      have hal := hHeld.alloc hHeld.size (.cells #[.slice Ar c.ls.length cr, .slice (some ⟨bq, 0, none⟩) 1 1] 22 (0, 0))
      have ls := hHeld.size
      have dps := size_of_block np
      replace np := keep_alloc (x := .cells #[.slice Ar c.ls.length cr, .slice (some ⟨bq, 0, none⟩) 1 1] 22 (0, 0)) np
      have dms := size_of_block nm
      replace nm := keep_alloc (x := .cells #[.slice Ar c.ls.length cr, .slice (some ⟨bq, 0, none⟩) 1 1] 22 (0, 0)) nm
      have dqs := size_of_block nq
      replace nq := keep_alloc (x := .cells #[.slice Ar c.ls.length cr, .slice (some ⟨bq, 0, none⟩) 1 1] 22 (0, 0)) nq
      generalize X3.heap.size = bs at *
      generalize X3.alloc (.cells #[.slice Ar c.ls.length cr, .slice (some ⟨bq, 0, none⟩) 1 1] 22 (0, 0)) = X4 at *
      refine hK.out _ _ hal (fun hHeld => ?_)
      clear hal
      clear hK
      try simp only [Act.put, List.setIfInBounds_toArray, List.set_cons_zero, List.set_cons_succ]
      refine wpAnyH_ready (rs := [10]) (by kernel_rfl) (by simp) ?_
      refine AllReadyH.cons (o := _) rfl (fun _ hK => ?_) AllReadyH.nil
      go_simp
      refine (HCC2 X4 bs bq bp ns nq hHeld).mono ?_
      rintro e X5 ⟨v3, m3, rfl, hm3, hown3, hbr⟩
      have np_ := np
      replace np := keep_blk hbr np
      have nm_ := nm
      replace nm := keep_blk hbr nm
      have nq_ := nq
      replace nq := keep_blk hbr nq
      have ns_ := ns
      replace ns := keep_blk hbr ns
      obtain ⟨A3, c3, rfl⟩ := own_form hown3
      have e_hown3_p : (Value.slice A3 m3 c3).ownBlock ≠ some bp := fun e => by have h1 := (hown3.lt _ e).1; have h2 := size_of_block np_; omega
      have e_hown3_m : (Value.slice A3 m3 c3).ownBlock ≠ some bm := fun e => by have h1 := (hown3.lt _ e).1; have h2 := size_of_block nm_; omega
      have e_hown3_q : (Value.slice A3 m3 c3).ownBlock ≠ some bq := fun e => by have h1 := (hown3.lt _ e).1; have h2 := size_of_block nq_; omega
      have e_hown3_s : (Value.slice A3 m3 c3).ownBlock ≠ some bs := fun e => by have h1 := (hown3.lt _ e).1; have h2 := size_of_block ns_; omega
      clear np_ nm_ nq_ ns_
      replace hown3 := own_more hown3 hHeld.size
      try go_simp
      refine hK.out _ _ (hHeld.trans (hbr.mono hHeld.size)) (fun hHeld => ?_)
      clear hbr
      clear hK
      try simp only [Act.put, List.setIfInBounds_toArray, List.set_cons_zero, List.set_cons_succ]
      refine wpAnyH_take (i := 11) (oi := _) (v := ?_) rfl (by kernel_rfl) (by kernel_rfl) (by kernel_rfl) (fun _ _ _ h => h) (Or.inl ⟨by rfl, ?_⟩) (by assumption) ?_
      rotate_left 1
      · intro w_ hSw
        go_simp
        try with_reducible rfl
      try simp only [Act.put, List.setIfInBounds_toArray]
      refine wpAnyH_ready (rs := [13]) (by kernel_rfl) (by simp) ?_
      refine AllReadyH.cons (o := _) rfl (fun _ hK => ?_) AllReadyH.nil
      obtain ⟨y0, y1, yf⟩ := now2 nm rfl
      go_simp
      clear y0 y1 yf
      refine hK.out _ _ ((hHeld.setCell (by show W1.heap.size ≤ bm; omega) _).setCell (by show W1.heap.size ≤ bm; omega) _) (fun hHeld => ?_)
      replace hown3 := own_set (own_set hown3 e_hown3_m 0 (.int .i64 n)) e_hown3_m 1 (.slice A3 m3 c3)
      replace np := keep_set (a := ⟨bm, 1, none⟩) (u := .slice A3 m3 c3) (by show bp ≠ bm; omega) (keep_set (a := ⟨bm, 0, none⟩) (u := .int .i64 n) (by show bp ≠ bm; omega) np)
      replace nq := keep_set (a := ⟨bm, 1, none⟩) (u := .slice A3 m3 c3) (by show bq ≠ bm; omega) (keep_set (a := ⟨bm, 0, none⟩) (u := .int .i64 n) (by show bq ≠ bm; omega) nq)
      replace ns := keep_set (a := ⟨bm, 1, none⟩) (u := .slice A3 m3 c3) (by show bs ≠ bm; omega) (keep_set (a := ⟨bm, 0, none⟩) (u := .int .i64 n) (by show bs ≠ bm; omega) ns)
      replace nm := put2 (x0 := .int .i64 n) (x1 := .slice A3 m3 c3) nm
      generalize (X5.setCell ⟨bm, 0, none⟩ (.int .i64 n)).setCell ⟨bm, 1, none⟩ (.slice A3 m3 c3) = X6 at *
      clear hK
      try simp only [Act.put, List.setIfInBounds_toArray, List.set_cons_zero, List.set_cons_succ]
      refine wpAnyH_done (by kernel_rfl) ?_ _
      go_wp2_with fail
      go_meet
      exact ⟨bm, bp, _, m3, rfl, nm, np, hm3, hown3, lp, hHeld⟩
    refine AllReadyH.cons (o := _) rfl (fun _ hK => ?_) AllReadyH.nil
    go_simp
    have nm := heap_alloc_new X0 (.cells #[.int .i64 0, .slice none 0 0] 24 (0, 0))
    have hal := hHeld.alloc hHeld.size (.cells #[.int .i64 0, .slice none 0 0] 24 (0, 0))
    have lm := hHeld.size
    generalize X0.heap.size = bm at *
    generalize X0.alloc (.cells #[.int .i64 0, .slice none 0 0] 24 (0, 0)) = X1 at *
    refine hK.out _ _ hal (fun hHeld => ?_)
    clear hal
    clear hK
    try simp only [Act.put, List.setIfInBounds_toArray, List.set_cons_zero, List.set_cons_succ]
    refine wpAnyH_ready (rs := [7]) (by kernel_rfl) (by simp) ?_
    refine AllReadyH.cons (o := _) rfl (fun _ hK => ?_) AllReadyH.nil
    go_simp
    have np := heap_alloc_new X1 (.cells #[.int .i64 x] 3 (0, 0))
    have hal := hHeld.alloc hHeld.size (.cells #[.int .i64 x] 3 (0, 0))
    have lp := hHeld.size
    have dmp := size_of_block nm
    replace nm := keep_alloc (x := .cells #[.int .i64 x] 3 (0, 0)) nm
    generalize X1.heap.size = bp at *
    generalize X1.alloc (.cells #[.int .i64 x] 3 (0, 0)) = X2 at *
    refine hK.out _ _ hal (fun hHeld => ?_)
    clear hal
    clear hK
    try simp only [Act.put, List.setIfInBounds_toArray, List.set_cons_zero, List.set_cons_succ]
    refine wpAnyH_ready (rs := [8]) (by kernel_rfl) (by simp) ?_
    refine AllReadyH.cons (o := _) rfl (fun _ hK => ?_) AllReadyH.nil
    go_simp
    have nq := heap_alloc_new X2 (.cells #[.slice (some ⟨bp, 0, none⟩) 1 1] 30 (0, 0))
    have hal := hHeld.alloc hHeld.size (.cells #[.slice (some ⟨bp, 0, none⟩) 1 1] 30 (0, 0))
    have lq := hHeld.size
    have dmq := size_of_block nm
    replace nm := keep_alloc (x := .cells #[.slice (some ⟨bp, 0, none⟩) 1 1] 30 (0, 0)) nm
    have dpq := size_of_block np
    replace np := keep_alloc (x := .cells #[.slice (some ⟨bp, 0, none⟩) 1 1] 30 (0, 0)) np
    generalize X2.heap.size = bq at *
    generalize X2.alloc (.cells #[.slice (some ⟨bp, 0, none⟩) 1 1] 30 (0, 0)) = X3 at *
    refine hK.out _ _ hal (fun hHeld => ?_)
    clear hal
    clear hK
    try simp only [Act.put, List.setIfInBounds_toArray, List.set_cons_zero, List.set_cons_succ]
    refine wpAnyH_ready (rs := [9]) (by kernel_rfl) (by simp) ?_
    refine AllReadyH.cons (o := _) rfl (fun _ hK => ?_) AllReadyH.nil
    go_simp
    have ns := heap_alloc_new X3 (.cells #[.slice Ar c.ls.length cr, .slice (some ⟨bq, 0, none⟩) 1 1] 22 (0, 0))
    have hal := hHeld.alloc hHeld.size (.cells #[.slice Ar c.ls.length cr, .slice (some ⟨bq, 0, none⟩) 1 1] 22 (0, 0))
    have ls := hHeld.size
    have dms := size_of_block nm
    replace nm := keep_alloc (x := .cells #[.slice Ar c.ls.length cr, .slice (some ⟨bq, 0, none⟩) 1 1] 22 (0, 0)) nm
    have dps := size_of_block np
    replace np := keep_alloc (x := .cells #[.slice Ar c.ls.length cr, .slice (some ⟨bq, 0, none⟩) 1 1] 22 (0, 0)) np
    have dqs := size_of_block nq
    replace nq := keep_alloc (x := .cells #[.slice Ar c.ls.length cr, .slice (some ⟨bq, 0, none⟩) 1 1] 22 (0, 0)) nq
    generalize X3.heap.size = bs at *
    generalize X3.alloc (.cells #[.slice Ar c.ls.length cr, .slice (some ⟨bq, 0, none⟩) 1 1] 22 (0, 0)) = X4 at *
    refine hK.out _ _ hal (fun hHeld => ?_)
    clear hal
    clear hK
    try simp only [Act.put, List.setIfInBounds_toArray, List.set_cons_zero, List.set_cons_succ]
    refine wpAnyH_ready (rs := [10]) (by kernel_rfl) (by simp) ?_
    refine AllReadyH.cons (o := _) rfl (fun _ hK => ?_) AllReadyH.nil
    go_simp
    refine (HCC2 X4 bs bq bp ns nq hHeld).mono ?_
    rintro e X5 ⟨v3, m3, rfl, hm3, hown3, hbr⟩
    have nm_ := nm
    replace nm := keep_blk hbr nm
    have np_ := np
    replace np := keep_blk hbr np
    have nq_ := nq
    replace nq := keep_blk hbr nq
    have ns_ := ns
    replace ns := keep_blk hbr ns
    obtain ⟨A3, c3, rfl⟩ := own_form hown3
    have e_hown3_m : (Value.slice A3 m3 c3).ownBlock ≠ some bm := fun e => by have h1 := (hown3.lt _ e).1; have h2 := size_of_block nm_; omega
    have e_hown3_p : (Value.slice A3 m3 c3).ownBlock ≠ some bp := fun e => by have h1 := (hown3.lt _ e).1; have h2 := size_of_block np_; omega
    have e_hown3_q : (Value.slice A3 m3 c3).ownBlock ≠ some bq := fun e => by have h1 := (hown3.lt _ e).1; have h2 := size_of_block nq_; omega
    have e_hown3_s : (Value.slice A3 m3 c3).ownBlock ≠ some bs := fun e => by have h1 := (hown3.lt _ e).1; have h2 := size_of_block ns_; omega
    clear nm_ np_ nq_ ns_
    replace hown3 := own_more hown3 hHeld.size
    try go_simp
    refine hK.out _ _ (hHeld.trans (hbr.mono hHeld.size)) (fun hHeld => ?_)
    clear hbr
    clear hK
    try simp only [Act.put, List.setIfInBounds_toArray, List.set_cons_zero, List.set_cons_succ]
    refine wpAnyH_take (i := 11) (oi := _) (v := ?_) rfl (by kernel_rfl) (by kernel_rfl) (by kernel_rfl) (fun _ _ _ h => h) (Or.inl ⟨by rfl, ?_⟩) (by assumption) ?_
    rotate_left 1
    · intro w_ hSw
      go_simp
      try with_reducible rfl
    try simp only [Act.put, List.setIfInBounds_toArray]
    refine wpAnyH_ready (rs := [13]) (by kernel_rfl) (by simp) ?_
    refine AllReadyH.cons (o := _) rfl (fun _ hK => ?_) AllReadyH.nil
    obtain ⟨y0, y1, yf⟩ := now2 nm rfl
    go_simp
    clear y0 y1 yf
    refine hK.out _ _ ((hHeld.setCell (by show W1.heap.size ≤ bm; omega) _).setCell (by show W1.heap.size ≤ bm; omega) _) (fun hHeld => ?_)
    replace hown3 := own_set (own_set hown3 e_hown3_m 0 (.int .i64 n)) e_hown3_m 1 (.slice A3 m3 c3)
    replace np := keep_set (a := ⟨bm, 1, none⟩) (u := .slice A3 m3 c3) (by show bp ≠ bm; omega) (keep_set (a := ⟨bm, 0, none⟩) (u := .int .i64 n) (by show bp ≠ bm; omega) np)
    replace nq := keep_set (a := ⟨bm, 1, none⟩) (u := .slice A3 m3 c3) (by show bq ≠ bm; omega) (keep_set (a := ⟨bm, 0, none⟩) (u := .int .i64 n) (by show bq ≠ bm; omega) nq)
    replace ns := keep_set (a := ⟨bm, 1, none⟩) (u := .slice A3 m3 c3) (by show bs ≠ bm; omega) (keep_set (a := ⟨bm, 0, none⟩) (u := .int .i64 n) (by show bs ≠ bm; omega) ns)
    replace nm := put2 (x0 := .int .i64 n) (x1 := .slice A3 m3 c3) nm
    generalize (X5.setCell ⟨bm, 0, none⟩ (.int .i64 n)).setCell ⟨bm, 1, none⟩ (.slice A3 m3 c3) = X6 at *
    clear hK
    try simp only [Act.put, List.setIfInBounds_toArray, List.set_cons_zero, List.set_cons_succ]
    refine wpAnyH_done (by kernel_rfl) ?_ _
    go_wp2_with fail
    go_meet
    exact ⟨bm, bp, _, m3, rfl, nm, np, hm3, hown3, lp, hHeld⟩
  case rest =>
    rename World => wB
    obtain ⟨bm, bp, v3, m3, rfl, nm, np, hm3, hown, hbp, hb1⟩ := hcut
    rw [hm3.out] at hown
    clear HCC2 b0 b1 b2 b3 a0 a1 a2 a3
    obtain ⟨A3, c3, rfl⟩ := own_form hown
    clear hm3
    have hcb := keep_blk hb1 ht.1
    have hrb := keep_blk hb1 ht.2
    have hBw := hB0.trans (hb1.mono hB0.size)
    have hws := hb1.size
    have hbpl := size_of_block np
    have hrow : ∀ (j : Nat) (r : List Int), (c.ls ++ [[(x : Int)]])[j]? = some r → ∃ u, (cvs ++ [Value.slice (some ⟨bp, 0, none⟩) 1 1])[j]? = some u ∧ IntsN wB (fun b => b < w.heap.size ∨ w.heap.size + 2 ≤ b ∧ b < wB.heap.size) u r := fun j r hj => by
      by_cases hjl : j < c.ls.length
      · rw [List.getElem?_append_left hjl] at hj
        obtain ⟨u, hu, hi⟩ := hvr j r hj
        exact ⟨u, by rw [List.getElem?_append_left (by omega)]; exact hu, (hi.below hBw).toN (fun b hb => .inl hb)⟩
      · rw [List.getElem?_append_right (by omega)] at hj
        have hj0 : j - c.ls.length = 0 := by
          have := (List.getElem?_eq_some_iff.1 hj).1
          simp at this
          omega
        rw [hj0] at hj
        injection hj with hj
        subst hj
        refine ⟨.slice (some ⟨bp, 0, none⟩) 1 1, by rw [List.getElem?_append_right (by omega), hvl, hj0]; rfl, _, _, rfl, by simp, fun _ => ⟨bp, 0, rfl, .inr ⟨by omega, hbpl⟩, fun i y hi => ?_⟩⟩
        match i, hi with
        | 0, hi =>
          injection hi with hi
          subst hi
          rw [cell_of_block np]; rfl
    have hvl2 : (cvs ++ [Value.slice (some ⟨bp, 0, none⟩) 1 1]).length = (c.ls ++ [[(x : Int)]]).length := by rw [List.length_append, List.length_append, hvl]; rfl
    have hcap2 : AllCap (cvs ++ [Value.slice (some ⟨bp, 0, none⟩) 1 1]) := hvc.push ⟨_, _, _, rfl, Nat.le_refl _⟩
    have hmat : MatN wB (fun b => b < w.heap.size ∨ w.heap.size + 2 ≤ b ∧ b < wB.heap.size) (.slice A3 (cvs ++ [Value.slice (some ⟨bp, 0, none⟩) 1 1]).length c3) (c.ls ++ [[(x : Int)]]) := by
      rcases hown.2 with ⟨e, h1⟩ | ⟨g, cap, cur, e, hg, hgg, h1, h2, h3, h4⟩
      · rw [List.length_append] at h1; simp at h1
      · injection e with e1 e2 e3
        subst e1
        have hm : maxLen = 9223372036854775807 := rfl
        refine ⟨_, c3, by rw [hvl2], by omega, fun _ => ⟨g, 0, rfl, .inr ⟨by omega, size_of_block hgg⟩, fun j r hj => ?_⟩⟩
        obtain ⟨u, hu, hi⟩ := hrow j r hj
        refine ⟨u, ?_, hi⟩
        rw [Nat.zero_add, cell_of_block hgg]
        rw [← h4, List.getElem?_take] at hu
        split at hu
        · simpa using hu
        · cases hu
    have hN : ChoN wB (fun b => b < w.heap.size ∨ w.heap.size + 2 ≤ b ∧ b < wB.heap.size) (.slice At c.t.length ct) (.slice An n cn) (.slice A3 (cvs ++ [Value.slice (some ⟨bp, 0, none⟩) 1 1]).length c3) (wiC c x) :=
      ⟨hcH.out.t.keep (fun b hb => hBw.block b hb) (fun b hb => .inl hb), hcH.out.nm.keep (fun b hb => hBw.block b hb) (fun b hb => .inl hb), hmat, own_capM14 hown rfl hcap2⟩
    generalize (cvs ++ [Value.slice (some ⟨bp, 0, none⟩) 1 1]).length = m3 at *
    have hfin : Hid (ChoN ((((wB.setCell ⟨w.heap.size + 1, 0, none⟩ (.slice At c.t.length ct)).setCell ⟨w.heap.size + 1, 1, none⟩ (.slice An n cn)).setCell ⟨w.heap.size + 1, 2, none⟩ (.int .i64 n)).setCell ⟨w.heap.size + 1, 3, none⟩ (.slice A3 m3 c3))
        (fun b => b < ((((wB.setCell ⟨w.heap.size + 1, 0, none⟩ (.slice At c.t.length ct)).setCell ⟨w.heap.size + 1, 1, none⟩ (.slice An n cn)).setCell ⟨w.heap.size + 1, 2, none⟩ (.int .i64 n)).setCell ⟨w.heap.size + 1, 3, none⟩ (.slice A3 m3 c3)).heap.size) (.slice At c.t.length ct) (.slice An n cn) (.slice A3 m3 c3) (wiC c x) ∧
      Below w.heap.size w ((((wB.setCell ⟨w.heap.size + 1, 0, none⟩ (.slice At c.t.length ct)).setCell ⟨w.heap.size + 1, 1, none⟩ (.slice An n cn)).setCell ⟨w.heap.size + 1, 2, none⟩ (.int .i64 n)).setCell ⟨w.heap.size + 1, 3, none⟩ (.slice A3 m3 c3))) := Lib.hid
      ⟨hN.keep (fun b hb => by
        have hbn : b ≠ w.heap.size + 1 := by rcases hb with h | h <;> omega
        have h : ∀ (W : World) (i : Nat) (u : Value), (W.setCell ⟨w.heap.size + 1, i, none⟩ u).heap[b]? = W.heap[b]? := fun W i u => Below.heap_setCell _ _ _ _ hbn
        rw [h, h, h, h]) (by simp [World.setCell]) (fun b hb => by have := hBw.size; simp [World.setCell]; omega), below4 (by omega) hBw⟩
    have hr4 := put4 (x0 := .slice At c.t.length ct) (x1 := .slice An n cn) (x2 := .int .i64 n) (x3 := .slice A3 m3 c3) hrb
    obtain ⟨n0, n1, -⟩ := now2 nm rfl
    obtain ⟨a0, a1, a2, a3, -⟩ := now4 hcb rfl
    obtain ⟨r0, r1, r2, r3, rf⟩ := now4 hrb rfl
    obtain ⟨p0, p1, p2, p3, -⟩ := now4 hr4 rfl
    clear hN hr4 hrb hcb hBw hcH hmat hrow hcap2 hvl2 nm np hown hb1 ht hvA0 hvr hvc hvl hB0 hsz
    go_wp2
    generalize (((wB.setCell ⟨w.heap.size + 1, 0, none⟩ _).setCell _ _).setCell _ _).setCell _ _ = wz at *
    refine bodyPost_ret (v := .agg #[.slice At c.t.length ct, .slice An n cn, .int .i64 n, .slice A3 m3 c3]) (by simp [results, Try.results63, go_sem, p0, p1, p2, p3]) rfl ?_
    exact ⟨_, rfl, hfin.out.1, hfin.out.2⟩
end Go.Proofs.Ytcbhcclickjpnaa
