/- slices.DeleteFunc at numbers that the call owns; the functions that say which columns go. without and with of the package search. -/
import Derived.Test.YtcbhcclickjpnaaGK23
namespace Go.Proofs.Ytcbhcclickjpnaa
open Go.RowKit Go.Joins

theorem putCells15 {n : Nat} (d : Array {x : Int // 0 ≤ x ∧ x < (n : Int)}) [Inhabited {x : Int // 0 ≤ x ∧ x < (n : Int)}] (c : Array Value) : Go.Sort.putCells (fun y : {x : Int // 0 ≤ x ∧ x < (n : Int)} => Value.int .i64 y.1) 0 d c = Go.Sort.putCells (Value.int .i64) 0 (d.map (·.1)) c := by
  unfold Go.Sort.putCells
  apply Array.ext_getElem?
  intro k
  rw [Array.getElem?_mapIdx, Array.getElem?_mapIdx]
  congr 1
  funext x
  rw [Array.size_map]
  by_cases h : 0 ≤ k ∧ k < 0 + d.size
  · rw [if_pos h, if_pos h, getElem!_pos d (k - 0) (by omega), getElem!_pos (d.map (·.1)) (k - 0) (by rw [Array.size_map]; omega), Array.getElem_map]
  · rw [if_neg h, if_neg h]
/-- What DeleteFunc leaves of what the call owns. -/
theorem delI15_any (K : Nat) (caps : Array Value) (p : Int → Bool) (n B Bv : Nat) (l : List Int) (v : Value) (w0 w : World) (hn : 0 < n)
    (hcf : ∀ (args : Array Value) (w1 : World), (Sem.run Try.prog (callFunc K args) w1) = .ok (.enter K args) w1)
    (hcl : ∀ (x : Nat) (W : World), x < n → Below B w0 W → FnGives Try.prog K caps #[.int .i64 x] (.bool (p x)) W)
    (hb : Below B w0 w) (hBw : B ≤ w.heap.size) (hBv : B ≤ Bv) (hv : w.ownsRow Bv 3 1 v l.length (intI l)) (hl : ∀ x, x ∈ l → 0 ≤ x ∧ x < n) (h0 : 0 < l.length) :
    Calls Try.prog 81 #[v, .func (.func K) #[] caps] w fun e w' => ∃ v', e = .returned v' ∧ w'.ownsRow Bv 3 1 v' (l.filter fun x => !p x).length (intI (l.filter fun x => !p x)) ∧ w.grownBy w' v.ownBlock := by
  rcases hv.2 with ⟨-, h1⟩ | ⟨g, cap, cur, rfl, hg, hgg, h1, h2, h3, h4⟩
  · omega
  have hm : maxLen = 9223372036854775807 := rfl
  have inst : Inhabited {x : Int // 0 ≤ x ∧ x < (n : Int)} := ⟨⟨0, by omega⟩⟩
  obtain ⟨D, hD⟩ : ∃ D : List {x : Int // 0 ≤ x ∧ x < (n : Int)}, D.map (·.1) = l := ⟨l.attach.map fun x => ⟨x.1, hl x.1 x.2⟩, by
    rw [List.map_map]
    exact List.attach_map_subtype_val l⟩
  have hDl : D.length = l.length := by have := congrArg List.length hD; rwa [List.length_map] at this
  have hsz : D.toArray.size = l.length := by rw [List.size_toArray, hDl]
  have hcell : ∀ j (x : Int), l[j]? = some x → w.cell? ⟨g, j, none⟩ = some (.int .i64 x) := fun j x hj => by
    have hjl := (List.getElem?_eq_some_iff.1 hj).1
    rw [cell_of_block hgg]
    have e : (intI l)[j]? = some (.int .i64 x) := by unfold intI; rw [List.getElem?_map, hj]; rfl
    rw [← h4, Nat.mul_one, List.getElem?_take, if_pos hjl, Array.getElem?_toList] at e
    exact e
  have hH : Go.Sort.Holds (fun y : {x : Int // 0 ≤ x ∧ x < (n : Int)} => Value.int .i64 y.1) w g 0 D.toArray := fun j hj => by
    refine ⟨?_, unfrozen_of_block hgg _⟩
    rw [Nat.zero_add]
    refine hcell j _ ?_
    rw [getElem!_pos _ j hj]
    have hj2 : j < D.length := by simpa using hj
    have e : (D.map (·.1))[j]? = some D[j].1 := by rw [List.getElem?_map, List.getElem?_eq_getElem hj2]; rfl
    rw [hD] at e
    simpa using e
  have hP : PredAt Try.prog K caps (fun y : {x : Int // 0 ≤ x ∧ x < (n : Int)} => Value.int .i64 y.1) (fun y => p y.1) w := fun W y hW => by
    obtain ⟨x, x0, x1⟩ := y
    obtain ⟨k, rfl⟩ := Int.eq_ofNat_of_zero_le x0
    exact hcl k W (by omega) (hb.trans (hW.mono hBw))
  have hPO : PredOver Try.prog K caps (fun y : {x : Int // 0 ≤ x ∧ x < (n : Int)} => Value.int .i64 y.1) (fun y => p y.1) g 0 D.toArray.size w := fun q os dk y _ => by
    obtain ⟨x, x0, x1⟩ := y
    obtain ⟨k, rfl⟩ := Int.eq_ofNat_of_zero_le x0
    refine hcl k _ (by omega) (hb.trans ⟨rfl, rfl, rfl, ?_, fun b hbb => ?_⟩)
    · unfold sortWorld
      show w.heap.size ≤ ((Go.Sort.putRow _ _ _ _ _).heap ++ os).size
      rw [Array.size_append, Go.Sort.size_putRow]
      exact Nat.le_add_right _ _
    · unfold sortWorld
      rw [Go.Sort.heap_grow_old _ _ (by rw [Go.Sort.size_putRow]; show b < w.heap.size; omega)]
      show ((Go.Sort.ahead w q).heap.modify g (Go.Sort.onCells _))[b]? = w.heap[b]?
      rw [Array.getElem?_modify, if_neg (by omega)]
      rfl
  have h := Try.slices_DeleteFunc_f81 (fun y : {x : Int // 0 ≤ x ∧ x < (n : Int)} => Value.int .i64 y.1) (fun _ => rfl) (fun y => p y.1) K caps hcf ⟨0, by omega⟩ Try.zeroValue3 g 0 cap D.toArray w hP hPO hH (by omega) (by omega)
  have hF : (D.toArray.toList.filter fun y => !p y.1).map (·.1) = l.filter fun x => !p x := by
    show (D.filter _).map _ = _
    conv => rhs; rw [← hD]
    rw [List.filter_map]; rfl
  rw [hsz] at h
  generalize D.toArray.toList.filter (fun y => !p y.1) = F at *
  have hFl : F.length = (l.filter fun x => !p x).length := by have := congrArg List.length hF; rwa [List.length_map] at this
  have hle : (l.filter fun x => !p x).length ≤ l.length := List.length_filter_le _ _
  refine h.mono ?_
  rintro e w' ⟨rfl, q, rfl⟩
  refine ⟨_, rfl, ⟨by rw [intI_len, Nat.mul_one], .inr ⟨g, cap, Go.Sort.putCells (Value.int .i64) 0 ((l.filter fun x => !p x) ++ List.replicate (l.length - F.length) (0 : Int)).toArray cur, by rw [hFl], hg, ?_, by omega, h2, ?_, ?_⟩⟩, ?_⟩
  · show ((Go.Sort.ahead w q).heap.modify g (Go.Sort.onCells _))[g]? = _
    rw [Array.getElem?_modify, if_pos rfl]
    show (w.heap[g]?).map _ = _
    rw [hgg]
    show some (Obj.cells (Go.Sort.putCells _ 0 _ cur) _ _) = _
    rw [putCells15]
    congr 3
    rw [List.map_toArray, List.map_append, hF, List.map_replicate]
  · simp [Go.Sort.putCells, h3]
  · have ht := take_putCellsI cur ((l.filter fun x => !p x) ++ List.replicate (l.length - F.length) (0 : Int)) (by rw [List.length_append, List.length_replicate, hFl]; omega)
    rw [Nat.mul_one]
    have e := congrArg (List.take (l.filter fun x => !p x).length) ht
    rw [List.take_take, Nat.min_eq_left (by rw [List.length_append]; omega), List.map_append, List.take_append_of_le_length (by rw [List.length_map]; exact Nat.le_refl _)] at e
    exact e.trans (List.take_of_length_le (by rw [List.length_map]; exact Nat.le_refl _))
  · refine ⟨rfl, rfl, rfl, by rw [Go.Sort.size_putRow]; exact Nat.le_refl _, fun b _ hne => ?_⟩
    show ((Go.Sort.ahead w q).heap.modify g (Go.Sort.onCells _))[b]? = w.heap[b]?
    rw [Array.getElem?_modify, if_neg (fun e => hne (by rw [e]; rfl))]
    rfl
/-- What is too dear by a bill. -/
theorem dear15_any (w : World) (bb bm x : Nat) (least most : Int) (uv : Value) (up : List Int) (hb : w.heap[bb]? = some (.cells #[.int .i64 least, uv] 77 (0, 0))) (hm : w.heap[bm]? = some (.cells #[.int .i64 most] 3 (0, 0))) (hu : IntsAt w w.heap.size uv up)
    (hx : x < up.length) (hr : -4000000000000000000 ≤ least + up.getD x 0 ∧ least + up.getD x 0 ≤ 4000000000000000000) :
    FnGives Try.prog 57 #[.pointer (some ⟨bb, 0, none⟩), .pointer (some ⟨bm, 0, none⟩)] #[.int .i64 x] (.bool (decide (most < least + up.getD x 0))) w := by
  show Calls Try.prog 57 #[.int .i64 x, .pointer (some ⟨bb, 0, none⟩), .pointer (some ⟨bm, 0, none⟩)] w _
  obtain ⟨A, c, rfl, hl, hc⟩ := hu
  obtain ⟨b, off, rfl, hB, hcc⟩ := hc (by omega)
  have z0 := hcc x _ (List.getElem?_eq_getElem hx)
  have e : up.getD x 0 = up[x] := by rw [List.getD_eq_getElem?_getD, List.getElem?_eq_getElem hx]; rfl
  rw [e] at hr ⊢
  obtain ⟨b0, b1, -⟩ := now2 hb rfl
  obtain ⟨m0, -⟩ := now1_15 hm
  have x0 : (0 : Int) ≤ (x : Int) := by omega
  have x1 : (x : Int) < (up.length : Int) := by omega
  generalize up[x] = u at *
  clear hcc hc hb hm e
  go_enter Try.func57, Try.ntmps57
  go_wp2
  go_quiet (fail)
  go_wp2
  go_ret
  exact ⟨rfl, _, rfl⟩
theorem cheap15_any (w : World) (bc : Nat) (x y : Int) (hc : w.heap[bc]? = some (.cells #[.int .i64 x] 3 (0, 0))) :
    FnGives Try.prog 62 #[.pointer (some ⟨bc, 0, none⟩)] #[.int .i64 y] (.bool (y == x)) w := by
  show Calls Try.prog 62 #[.int .i64 y, .pointer (some ⟨bc, 0, none⟩)] w _
  obtain ⟨m0, -⟩ := now1_15 hc
  clear hc
  go_enter Try.func62, Try.ntmps62
  go_wp2
  go_ret
  exact ⟨rfl, 0, rfl⟩
end Go.Proofs.Ytcbhcclickjpnaa
namespace Go.Proofs.Ytcbhcclickjpnaa
open Go.RowKit Go.Joins

/-- The memory of without while it tells the rows without some columns. -/
structure WoM (w5 : World) (B mb k n : Nat) (U : Value) (ls : List (List Int)) (f : Int → Bool) (K : List (List Int)) (vs : List Value) (W : World) : Prop where
  own : W.ownsRow B 30 1 U K.length vs
  len : vs.length = K.length
  rows : RowsX (fun b => b < B) W U K vs
  cap : AllCap vs
  bx : W.heap[mb]? = some (.cells #[.int .i64 n, U] 24 (0, 0))
  size : w5.heap.size ≤ W.heap.size
  same : ∀ b, b < B → b ≠ mb → W.heap[b]? = w5.heap[b]?
  bel : Below mb w5 W
  rs : K = (ls.take k).map fun r => r.filter fun x => !f x
set_option maxHeartbeats 8000000 in
set_option maxRecDepth 100000 in
theorem without15_any (c : Cho) (tv nv rv : Value) (f : Int → Bool) (KF : Nat) (caps : Array Value) (w : World) (hc : ChoN w (fun b => b < w.heap.size) tv nv rv c) (hr : rightM c.nm.length c.ls = true) (hl : c.ls.length ≤ 4000) (hne : ∀ r, r ∈ c.ls → r ≠ []) (hn0 : 0 < c.nm.length)
    (hcf : ∀ (args : Array Value) (w1 : World), (Sem.run Try.prog (callFunc KF args) w1) = .ok (.enter KF args) w1)
    (hcl : ∀ (x : Nat) (W : World), x < c.nm.length → Below w.heap.size w W → FnGives Try.prog KF caps #[.int .i64 x] (.bool (f x)) W) :
    Calls Try.prog 58 #[chv tv nv c.nm.length rv, .func (.func KF) #[] caps] w fun e w' => ∃ rv', e = .returned (chv tv nv c.nm.length rv') ∧ ChoN w' (fun b => b < w'.heap.size) tv nv rv' (woC c f) ∧ Below w.heap.size w w' := by
  have hB0 := two_below14 w (chb tv nv c.nm.length rv) (.cells #[.slice none 0 0, .slice none 0 0, .int .i64 0, .slice none 0 0] 55 (0, 0))
  have ht := two_made14 w (chb tv nv c.nm.length rv) (.cells #[.slice none 0 0, .slice none 0 0, .int .i64 0, .slice none 0 0] 55 (0, 0))
  have hsz : ((w.alloc (chb tv nv c.nm.length rv)).alloc (.cells #[.slice none 0 0, .slice none 0 0, .int .i64 0, .slice none 0 0] 55 (0, 0))).heap.size = w.heap.size + 2 := by simp
  obtain ⟨hn0', hn4, hri⟩ := right_iff.1 hr
  have hriH := Lib.hid hri
  have hneH := Lib.hid hne
  have hclH := Lib.hid hcl
  obtain ⟨At, ct, rfl, -, -⟩ := hc.t
  obtain ⟨An, cn, rfl, -, -⟩ := hc.nm
  obtain ⟨Ar, cr, rfl, -, -⟩ := hc.ls
  have hcH := Lib.hid hc
  generalize hn : c.nm.length = n at *
  unfold chv
  unfold chb at *
  obtain ⟨a0, a1, a2, a3, -⟩ := now4 ht.1 rfl
  clear hc hr hri hne hcl
  have hm0 := heap_alloc_new ((w.alloc (.cells #[.slice At c.t.length ct, .slice An n cn, .int .i64 n, .slice Ar c.ls.length cr] 55 (0, 0))).alloc (.cells #[.slice none 0 0, .slice none 0 0, .int .i64 0, .slice none 0 0] 55 (0, 0))) (.cells #[.int .i64 n, .slice none 0 0] 24 (0, 0))
  have hmB := below_alloc1 ((w.alloc (.cells #[.slice At c.t.length ct, .slice An n cn, .int .i64 n, .slice Ar c.ls.length cr] 55 (0, 0))).alloc (.cells #[.slice none 0 0, .slice none 0 0, .int .i64 0, .slice none 0 0] 55 (0, 0))) (.cells #[.int .i64 n, .slice none 0 0] 24 (0, 0))
  have hms : (((w.alloc (.cells #[.slice At c.t.length ct, .slice An n cn, .int .i64 n, .slice Ar c.ls.length cr] 55 (0, 0))).alloc (.cells #[.slice none 0 0, .slice none 0 0, .int .i64 0, .slice none 0 0] 55 (0, 0))).alloc (.cells #[.int .i64 n, .slice none 0 0] 24 (0, 0))).heap.size = w.heap.size + 2 + 1 := by rw [World.size_alloc, hsz]
  rw [hsz] at hm0
  have hq1 := keep_blk hmB ht.1
  have hq2 := keep_blk hmB ht.2
  have hB5 := hB0.trans (hmB.mono hB0.size)
  obtain ⟨c0, c1, c2, c3, -⟩ := now4 hq1 rfl
  clear hB0 hmB hsz
  go_enter Try.func58, Try.ntmps58
  go_wp2
  generalize ((w.alloc _).alloc _).alloc _ = w5 at *
  clear c0 c1 c2 c3 a0 a1 a2 a3 ht
  obtain ⟨j0, hj0, jz0, jz1, jz2⟩ := info_parts Try.infoInts
  have hM0 : WoM w5 w5.heap.size (w.heap.size + 2) 0 n (.slice none 0 0) c.ls f [] [] w5 := ⟨World.ownsRow_nil _ _ _ _, rfl, RowsX.nil _ _ _, AllCap.nil, hm0, Nat.le_refl _, fun _ _ _ => rfl, Below.refl _ _, rfl⟩
  have hqH := Lib.hid (And.intro hq1 (And.intro hq2 hB5))
  clear hm0 hq1 hq2 hB5
  go_loopw [7, 16] (fun _ t wr => ∃ (j : Nat) (U : Value) (L : List (List Int)) (vs : List Value), j ≤ c.ls.length ∧ t = .int .i64 j ∧ WoM w5 w5.heap.size (w.heap.size + 2) j n U c.ls f L vs wr) (fun _ t _ => c.ls.length - (intOf t).toNat)
  case atStart => exact ⟨0, _, [], [], by omega, rfl, hM0⟩
  case round =>
    clear hM0
    obtain ⟨j, U, L, vs, hj, rfl, hC⟩ := hrel
    obtain ⟨AU, cU, rfl⟩ := own_form hC.own
    obtain ⟨hq1, hq2, hB5⟩ := hqH.out
    have hBw : Below w.heap.size w wr := hB5.trans (hC.bel.mono (by omega))
    have hws := hC.size
    by_cases hlt : j < c.ls.length
    · obtain ⟨A6, c6, e6, -, hccM⟩ := hcH.out.ls
      injection e6 with e6 e7 e8
      subst e6
      clear e7 e8
      obtain ⟨bp, op, rfl, hBp, hcc⟩ := hccM (by omega)
      obtain ⟨r, hrj⟩ : ∃ r, c.ls[j]? = some r := ⟨_, List.getElem?_eq_getElem hlt⟩
      obtain ⟨ov, z0, hov⟩ := hcc j r hrj
      have z1 := (hBw.cell (p := ⟨bp, op + j, none⟩) hBp).trans z0
      have hrmem := List.mem_of_getElem? hrj
      have hris := hriH.out r hrmem
      have hr0 : 0 < r.length := List.length_pos_iff.2 (hneH.out r hrmem)
      have hLl : L.length = j := by rw [hC.rs, List.length_map, List.length_take]; omega
      have hL4 : L.length ≤ 4000 := by omega
      have hrl : r.length ≤ 4000 := by
        rcases ris_len hris with h | h
        · omega
        · rw [h]; decide
      have hd0 : Below wr.heap.size wr wr.drew := (Below.refl _ wr).drew
      have hdz : wr.drew.heap.size = wr.heap.size := rfl
      have hBd := hBw.trans (hd0.mono hBw.size)
      have HC := cloneI14_any wr.drew ov r (by omega) ((hov.ints (fun b h => h)).below hBd |>.more (by have := hBd.size; omega))
      have HD := fun (X : World) (v3 : Value) (h : Below wr.drew.heap.size wr.drew X) (hv : X.ownsRow wr.drew.heap.size 3 1 v3 r.length (intI r)) => delI15_any KF caps f n w.heap.size wr.drew.heap.size r v3 w X hn0 hcf hclH.out (hBd.trans (h.mono (by have := hBd.size; omega))) (by have := hBd.size; have := h.size; omega) (by have := hBd.size; omega) hv hris.1 hr0
      have hrs2 : Hid (L ++ [r.filter fun x => !f x] = (c.ls.take (j + 1)).map fun r => r.filter fun x => !f x) := Lib.hid (by
        rw [List.take_add_one, hrj, List.map_append, ← hC.rs]; rfl)
      have hlf : (r.filter fun x => !f x).length ≤ r.length := List.length_filter_le _ _
      obtain ⟨A3, c3, rfl, -, -⟩ := hov
      have hCH := Lib.hid hC
      have hown := hC.own
      have hUn : (Value.slice AU L.length cU).ownBlock ≠ some (w.heap.size + 2) := fun e => by have := (hown.lt _ e).1; omega
      have hbx := hC.bx
      have n3 := fun W_ (h : Below w5.heap.size wr W_) => (now2 ((h.block _ (by omega)).trans hbx) rfl).2.1
      have q0 : (0 : Int) ≤ (j : Int) := by omega
      have q1 : (j : Int) < (c.ls.length : Int) := by omega
      have hwB := hBw.size
      clear hC hqH hriH hneH hclH hccM hcc z0 hrj hrmem hris hq1 hq2 hB5 hLl hbx hcH hBd hBw
      generalize (r.filter fun x => !f x) = r9 at *
      go_wp2
      refine wp_region_held_tail 8 (fun W_ => Below w5.heap.size wr W_) (by kernel_rfl) (by kernel_rfl) (Below.refl _ wr).drew (fun hF hHeld => ?_)
      have hBase := hHeld
      refine takeL15 (i := 0) (v := ?_) hF rfl (by kernel_rfl) (by kernel_rfl) (by kernel_rfl) (fun _ _ _ h => h) (Or.inl ⟨by rfl, ?_⟩) (by assumption) ?_
      rotate_left 1
      · intro w_ hSw
        go_simp
        try with_reducible rfl
      try simp only [Act.put, List.setIfInBounds_toArray, List.set_cons_zero, List.set_cons_succ]
      refine takeL15 (i := 1) (v := ?_) hF rfl (by kernel_rfl) (by kernel_rfl) (by kernel_rfl) (fun _ _ _ h => h) (Or.inl ⟨by rfl, ?_⟩) (by assumption) ?_
      rotate_left 1
      · intro w_ hSw
        have q_n3 := n3 w_ hSw
        go_simp
        try with_reducible rfl
      try simp only [Act.put, List.setIfInBounds_toArray, List.set_cons_zero, List.set_cons_succ]
      refine takeL15 (i := 2) (v := ?_) hF rfl (by kernel_rfl) (by kernel_rfl) (by kernel_rfl) (fun _ _ _ h => h) (Or.inl ⟨by rfl, ?_⟩) (by assumption) ?_
      rotate_left 1
      · intro w_ hSw
        go_simp
        try with_reducible rfl
      try simp only [Act.put, List.setIfInBounds_toArray, List.set_cons_zero, List.set_cons_succ]
      refine takeL15 (i := 4) (v := ?_) hF rfl (by kernel_rfl) (by kernel_rfl) (by kernel_rfl) (fun _ _ _ h => h) (Or.inl ⟨by rfl, ?_⟩) (by assumption) ?_
      rotate_left 1
      · intro w_ hSw
        go_simp
        try with_reducible rfl
      try simp only [Act.put, List.setIfInBounds_toArray, List.set_cons_zero, List.set_cons_succ]
      refine oneL15 (i := 3) (by kernel_rfl) (by kernel_rfl) rfl (fun _ hK => ?_)
      go_simp
      refine HC.mono ?_
      rintro e X3 ⟨v3, rfl, hv3, hb3⟩
      obtain ⟨A4, c4, rfl⟩ := own_form hv3
      have hs3 := hb3.size
      try go_simp
      refine hK.out _ _ (hHeld.trans (hb3.mono (by omega))) (fun hHeld => ?_)
      clear hK
      try simp only [Act.put, List.setIfInBounds_toArray, List.set_cons_zero, List.set_cons_succ]
      refine oneL15 (i := 5) (by kernel_rfl) (by kernel_rfl) rfl (fun _ hK => ?_)
      go_simp
      refine (HD _ _ hb3 hv3).mono ?_
      rintro e X5 ⟨v5, rfl, hv5, hg5⟩
      have hb5 := grown_below hv3 hg5 hb3 (Nat.le_refl _) hs3
      obtain ⟨A9, c9, rfl⟩ := own_form hv5
      have hs5 := hb5.size
      try go_simp
      refine hK.out _ _ (hBase.trans (hb5.mono (by omega))) (fun hHeld => ?_)
      clear hK
      try simp only [Act.put, List.setIfInBounds_toArray, List.set_cons_zero, List.set_cons_succ]
      refine oneL15 (i := 6) (by kernel_rfl) (by kernel_rfl) rfl (fun _ hK => ?_)
      have hoX := (owns_below (owns_below hown hd0) hb5).alloc (.cells #[.slice A9 r9.length c9] 30 (0, 0))
      go_simp
      refine hK.out _ _ (hHeld.alloc (by omega) _) (fun hHeld => ?_)
      clear hK
      try simp only [Act.put, List.setIfInBounds_toArray, List.set_cons_zero, List.set_cons_succ]
      refine oneL15 (i := 7) (by kernel_rfl) (by kernel_rfl) rfl (fun _ hK => ?_)
      refine step_append_own15 rfl _ _ 22 rfl w5.heap.size 30 j0 (.slice none 0 0) 1 24 Try.underlying22 hj0 jz0 jz1 jz2 rfl (by decide) _ _ _ rfl hoX ⟨X5.heap.size, 0, none⟩ 1 1 [.slice A9 r9.length c9] rfl rfl one_new13 (fun u hu => by rw [List.mem_singleton.1 hu]; rfl) ?_ ?_ ?_ ?_
      · unfold maxLen; omega
      · omega
      · simp; omega
      intro v8 w8 ho8 hg8 hloc
      refine hK.out _ _ (grown_below hoX hg8 hHeld (Nat.le_refl _) (by simp; omega)) (fun hHeld => ?_)
      clear hK
      try simp only [Act.put, List.setIfInBounds_toArray, List.set_cons_zero, List.set_cons_succ]
      refine ⟨by kernel_rfl, ?_⟩
      simp only [List.drop_succ_cons, List.drop_zero]
      obtain ⟨A8, c8, rfl⟩ := own_form ho8
      have hC := hCH.out
      have hnx8 := (hg8.block (w.heap.size + 2) (by simp; have := hb5.size; omega) (fun e => hUn e.symm)).trans (keep_alloc (x := .cells #[.slice A9 r9.length c9] 30 (0, 0)) (keep_blk hb5 (keep_blk hd0 hC.bx)))
      have ho9 : w8.ownsRow w5.heap.size 30 1 (.slice A8 (L.length + 1) c8) (L ++ [r9]).length (vs ++ [.slice A9 r9.length c9]) := by
        rw [List.length_append]; exact ho8
      have hin5 : IntsN X5 (fun b => ¬ b < w5.heap.size ∧ b < X5.heap.size ∧ (Value.slice AU L.length cU).ownBlock ≠ some b) (.slice A9 r9.length c9) r9 := (own_intsN14 hv5).keep (fun _ _ => rfl) (fun b hb => ⟨by omega, hb.2, fun e => by have := (hown.lt b e).2; omega⟩)
      have hrows8 := ((hC.rows.below hd0).below hb5).push hC.len hin5 (below_alloc1 X5 (.cells #[.slice A9 r9.length c9] 30 (0, 0))) hg8 hloc
      have hVn9 : (Value.slice A8 (L.length + 1) c8).ownBlock ≠ some (w.heap.size + 2) := fun e => by
        have := (ho9.lt _ e).1
        omega
      have hC9 : WoM w5 w5.heap.size (w.heap.size + 2) (j + 1) n (.slice A8 (L.length + 1) c8) c.ls f (L ++ [r9]) (vs ++ [.slice A9 r9.length c9]) (w8.setCell ⟨w.heap.size + 2, 1, none⟩ (.slice A8 (L.length + 1) c8)) :=
        ⟨own_set ho9 hVn9 1 _, by rw [List.length_append, List.length_append, hC.len]; rfl, hrows8.set (b := w.heap.size + 2) (j := 1) (by show w.heap.size + 2 < w5.heap.size; omega), hC.cap.push (own_one14 hv5), by rw [block_setCell hnx8 _]; rfl, by have := hHeld.size; simp [World.setCell]; omega,
          fun b h1 h2 => (Below.heap_setCell _ _ _ _ h2).trans ((hHeld.block b h1).trans (hC.same b h1 h2)),
          (hC.bel.trans (hHeld.mono (by omega))).setCell (p := ⟨w.heap.size + 2, 1, none⟩) (Nat.le_refl _) _, hrs2.out⟩
      have hC9 := Lib.hid hC9
      obtain ⟨y0, y1, yf⟩ := now2 hnx8 rfl
      clear hC hoX hHeld hg8 hloc ho8 ho9 hnx8 hin5 hrows8 hVn9 hb5 hv5 n3 hCH hown hd0 HC HD
      generalize L ++ [r9] = L9 at *
      go_wp2
      go_roundw
      case rel => exact ⟨j + 1, _, L9, _, by omega, by go_num, hC9.out⟩
      case measure => simp [intOf]; omega
    · have e : j = c.ls.length := by omega
      subst e
      have hjd : ¬ (c.ls.length : Int) < (c.ls.length : Int) := by omega
      have hrs := hC.rs
      rw [List.take_length] at hrs
      have hrb : wr.heap[w.heap.size + 1]? = _ := (hC.same _ (by omega) (by omega)).trans hq2
      have hcb : wr.heap[w.heap.size]? = _ := (hC.same _ (by omega) (by omega)).trans hq1
      have hN : ChoN wr (fun b => b < w.heap.size ∨ w.heap.size + 2 ≤ b ∧ b < wr.heap.size) (.slice At c.t.length ct) (.slice An n cn) (.slice AU L.length cU) (woC c f) :=
        ⟨hcH.out.t.keep (fun b hb => hBw.block b hb) (fun b hb => .inl hb), hcH.out.nm.keep (fun b hb => hBw.block b hb) (fun b hb => .inl hb), by
          show MatN _ _ _ (c.ls.map _)
          rw [← hrs]
          exact (hC.rows.matN15 hC.own).keep15 (fun _ _ => rfl) (fun b hb => .inr ⟨by omega, hb.2⟩), own_capM14 hC.own hC.len hC.cap⟩
      have hfin : Hid (ChoN ((((wr.setCell ⟨w.heap.size + 1, 0, none⟩ (.slice At c.t.length ct)).setCell ⟨w.heap.size + 1, 1, none⟩ (.slice An n cn)).setCell ⟨w.heap.size + 1, 2, none⟩ (.int .i64 n)).setCell ⟨w.heap.size + 1, 3, none⟩ (.slice AU L.length cU))
          (fun b => b < ((((wr.setCell ⟨w.heap.size + 1, 0, none⟩ (.slice At c.t.length ct)).setCell ⟨w.heap.size + 1, 1, none⟩ (.slice An n cn)).setCell ⟨w.heap.size + 1, 2, none⟩ (.int .i64 n)).setCell ⟨w.heap.size + 1, 3, none⟩ (.slice AU L.length cU)).heap.size) (.slice At c.t.length ct) (.slice An n cn) (.slice AU L.length cU) (woC c f) ∧
        Below w.heap.size w ((((wr.setCell ⟨w.heap.size + 1, 0, none⟩ (.slice At c.t.length ct)).setCell ⟨w.heap.size + 1, 1, none⟩ (.slice An n cn)).setCell ⟨w.heap.size + 1, 2, none⟩ (.int .i64 n)).setCell ⟨w.heap.size + 1, 3, none⟩ (.slice AU L.length cU))) := Lib.hid
        ⟨hN.keep (fun b hb => by
          have hbn : b ≠ w.heap.size + 1 := by rcases hb with h | h <;> omega
          have h : ∀ (W : World) (i : Nat) (u : Value), (W.setCell ⟨w.heap.size + 1, i, none⟩ u).heap[b]? = W.heap[b]? := fun W i u => Below.heap_setCell _ _ _ _ hbn
          rw [h, h, h, h]) (by simp [World.setCell]) (fun b hb => by have := hBw.size; simp [World.setCell]; omega), below4 (by omega) hBw⟩
      have hr4 := put4 (x0 := .slice At c.t.length ct) (x1 := .slice An n cn) (x2 := .int .i64 n) (x3 := .slice AU L.length cU) hrb
      obtain ⟨n0, n1, -⟩ := now2 hC.bx rfl
      obtain ⟨a0, a1, a2, a3, -⟩ := now4 hcb rfl
      obtain ⟨r0, r1, r2, r3, rf⟩ := now4 hrb rfl
      obtain ⟨p0, p1, p2, p3, -⟩ := now4 hr4 rfl
      clear hC hN hr4 hrb hcb hqH hBw hrs hcH hq1 hq2 hB5
      go_wp2
      generalize (((wr.setCell ⟨w.heap.size + 1, 0, none⟩ _).setCell _ _).setCell _ _).setCell _ _ = wz at *
      refine bodyPost_ret (v := .agg #[.slice At c.t.length ct, .slice An n cn, .int .i64 n, .slice AU L.length cU]) (by simp [results, Try.results58, go_sem, p0, p1, p2, p3]) rfl ?_
      exact ⟨_, rfl, hfin.out.1, hfin.out.2⟩
end Go.Proofs.Ytcbhcclickjpnaa
