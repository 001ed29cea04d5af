/- Package search: search itself. -/
import Derived.Test.YtcbhcclickjpnaaGKxPqStp15
import Derived.WalkMore
namespace Go.Proofs.Ytcbhcclickjpnaa
open Go.RowKit Go.Joins

theorem all_names {c : Cho} (hl : LowM c.nm.length c.ls) (hb : bareB c.ls = false) : SolN c.N c.nm := fun q hq => by
  obtain ⟨r, hr, rfl⟩ := List.mem_map.1 hq
  have hr0 : r ≠ [] := fun e => by
    unfold bareB at hb
    rw [List.any_eq_false] at hb
    exact hb r hr (by rw [e]; rfl)
  obtain ⟨x, hx⟩ := List.exists_mem_of_ne_nil r hr0
  obtain ⟨x0, x1⟩ := hl r hr x hx
  obtain ⟨k, rfl⟩ := Int.eq_ofNat_of_zero_le x0
  refine ⟨c.nm.getD k 0, List.mem_map.2 ⟨_, hx, rfl⟩, ?_⟩
  rw [List.getD_eq_getElem?_getD, List.getElem?_eq_getElem (by omega)]
  exact List.getElem_mem _
theorem atL_upTo (l : List Int) : atL l (upTo l.length) = l := by
  unfold atL upTo
  rw [List.map_map]
  refine List.ext_getElem (by simp) fun j h1 h2 => ?_
  rw [List.getElem_map, List.getElem_range]
  show l.getD ((j : Int)).toNat 0 = _
  rw [Int.toNat_natCast, List.getD_eq_getElem?_getD, List.getElem?_eq_getElem h2]; rfl
/-- The start of a search. -/
theorem st_start {c : Cho} {base left : Nat} (hr : rightM c.nm.length c.ls = true) (hb : bareB c.ls = false) (ht : c.t = []) (h60 : c.ls.length + c.nm.length ≤ 60) (hl : base + 2 ^ crdT c.nm.length (usdT c.ls) ≤ left + 1) :
    StOk c.N c 60 (addBs c.nm c) (addSk [] c) base left := by
  have hs : Snd c.N c := fun R hR => by rw [ht]; exact hR
  have hcol := redC_cols (c := c)
  have hle := crd_all (usdT c.ls) c.nm.length
  have hp : 1 ≤ 2 ^ crdT c.nm.length (usdT c.ls) := Nat.one_le_two_pow
  refine ⟨add_best (all_names (low_of hr) hb) hs hr, add_opn hr fun k hk hh => ⟨c, by simp, hh⟩, add_each (by simp) hs hr (fun _ => by rw [ht]; show 0 + _ + _ ≤ _; omega), ?_⟩
  have := wt_add (stk := []) (c := c) (u := crdT c.nm.length (usdT c.ls)) (fun _ => hcol)
  have e : wtS [] = 0 := rfl
  omega
theorem top_cells {W : World} {B g cap : Nat} {ys : List Itm} {z : Itm} (h : W.ownsRow B 55 4 (.slice (some ⟨g, 0, none⟩) (ys ++ [z]).length cap) (ys ++ [z]).length ((ys ++ [z]).flatMap itV)) :
    W.cell? ⟨g, ys.length * 4, none⟩ = some z.tv ∧ W.cell? ⟨g, ys.length * 4 + 1, none⟩ = some z.nv ∧ W.cell? ⟨g, ys.length * 4 + 2, none⟩ = some (.int .i64 z.c.nm.length) ∧ W.cell? ⟨g, ys.length * 4 + 3, none⟩ = some z.rv := by
  have hl : (ys ++ [z]).length = ys.length + 1 := by rw [List.length_append]; rfl
  have e : (ys ++ [z]).flatMap itV = ys.flatMap itV ++ [z.tv, z.nv, .int .i64 z.c.nm.length, z.rv] := by rw [List.flatMap_append]; rfl
  have hf := flat4_len15 ys
  have hc : ∀ i, i < 4 → W.cell? ⟨g, ys.length * 4 + i, none⟩ = [z.tv, z.nv, .int .i64 z.c.nm.length, z.rv][i]? := fun i hi => by
    rw [h.cellAt (ys.length * 4 + i) (by rw [hl]; omega), e, List.getElem?_append_right (by omega), hf, Nat.add_sub_cancel_left]
  exact ⟨hc 0 (by omega), hc 1 (by omega), hc 2 (by omega), hc 3 (by omega)⟩
theorem below_grown15 {B bl : Nat} {w w' : World} (h : Below B w w') (hB : B = w.heap.size) : w.grownBy w' (some bl) := by
  subst hB
  exact ⟨h.os, h.tape, h.output, h.size, fun x hx _ => h.block x hx⟩
theorem own_capS15 {w : World} {B s n g c : Nat} {e : TypeId} {xs : List Value} (h : w.ownsRow B e s (.slice (some ⟨g, 0, none⟩) n c) n xs) : n ≤ c := by
  rcases h.2 with ⟨e, -⟩ | ⟨g', cap', cur, e, hb, hgg, h1, h2, h3, h4⟩
  · cases e
  · injection e with e1 e2 e3
    rw [e3]; exact h1
/-- The number in a box. -/
def numAt (W : World) (bl : Nat) : Nat := match W.cell? ⟨bl, 0, none⟩ with
  | some (.int _ z) => z.toNat
  | _ => 0
theorem numAt_of {W : World} {bl l : Nat} (h : W.heap[bl]? = some (.cells #[.int .i64 (l : Nat)] 3 (0, 0))) : numAt W bl = l := by
  unfold numAt
  rw [(now1_15 h).1]
  rfl
set_option maxHeartbeats 16000000 in
set_option maxRecDepth 100000 in
theorem search15_any : ∀ u : Nat, SearchV u := by
  intro u
  induction u using Nat.strongRecOn with
  | _ u IH =>
  intro c tv nv rv bl left w hc hr hb ht hu h60 hbl hst hl
  have hSV : ∀ v, v < u → SearchV v := IH
  have hB0 := below_alloc1 w (chb tv nv c.nm.length rv)
  have hbu : (w.alloc (chb tv nv c.nm.length rv)).heap[w.heap.size]? = some (chb tv nv c.nm.length rv) := heap_alloc_new _ _
  have hs0 : (w.alloc (chb tv nv c.nm.length rv)).heap.size = w.heap.size + 1 := World.size_alloc _ _
  obtain ⟨hn0', hn4, hri⟩ := right_iff.1 hr
  have hcH := Lib.hid hc
  obtain ⟨At, ct, rfl, -, -⟩ := hc.t
  obtain ⟨An, cn, rfl, -, -⟩ := hc.nm
  obtain ⟨Ar, cr, rfl, -, -⟩ := hc.ls
  have hcho1 : ChoN (w.alloc (chb (.slice At c.t.length ct) (.slice An c.nm.length cn) c.nm.length (.slice Ar c.ls.length cr))) (fun x => x < w.heap.size) (.slice At c.t.length ct) (.slice An c.nm.length cn) (.slice Ar c.ls.length cr) c := hc.keep (fun x hx => hB0.block x hx.1) hB0.size (fun x hx => hx.1)
  have HN := counted15_any c.nm.length (by omega)
  have HC := fun (X : World) (cv : Value) (h : Below (w.alloc (chb (.slice At c.t.length ct) (.slice An c.nm.length cn) c.nm.length (.slice Ar c.ls.length cr))).heap.size (w.alloc (chb (.slice At c.t.length ct) (.slice An c.nm.length cn) c.nm.length (.slice Ar c.ls.length cr))) X) (hcv : IntsAt X X.heap.size cv (upTo c.nm.length)) => called15_any (.slice At c.t.length ct) (.slice An c.nm.length cn) (.slice Ar c.ls.length cr) cv c.nm.length c.t c.nm (upTo c.nm.length) X (hcho1.below h).t.here (hcho1.below h).nm.here hcv (fun x hx => upTo_mem.1 hx) (by rw [ht]; exact Nat.zero_le _) (by rw [upTo_len]; omega) ⟨_, _, _, rfl⟩
  rw [show c.t ++ atL c.nm (upTo c.nm.length) = c.nm by rw [ht, atL_upTo]; rfl] at HC
  unfold chv at *
  unfold chb at *
  have htH := Lib.hid ht
  clear hc hri ht
  go_enter Try.func31, Try.ntmps31
  go_wp2
  go_step3
  go_wp2
  generalize w.alloc _ = w1 at *
  have n0 := fun W_ (h : Below w1.heap.size w1 W_) => (now4 (keep_blk h hbu) rfl).1
  have n1 := fun W_ (h : Below w1.heap.size w1 W_) => (now4 (keep_blk h hbu) rfl).2.1
  have n2 := fun W_ (h : Below w1.heap.size w1 W_) => (now4 (keep_blk h hbu) rfl).2.2.1
  have n3 := fun W_ (h : Below w1.heap.size w1 W_) => (now4 (keep_blk h hbu) rfl).2.2.2.1
  refine wp_region_held_tail 9 (fun W_ => Below w1.heap.size w1 W_) (by kernel_rfl) (by kernel_rfl) (Below.refl _ w1).drew (fun hF hHeld => ?_)
  refine takeL15 (i := 0) (v := ?_) hF rfl (by kernel_rfl) (by kernel_rfl) (by kernel_rfl) (fun _ _ _ h => h) (Or.inl ⟨by rfl, ?_⟩) (by assumption) ?_
  rotate_left 1
  · intro w_ hSw
    have q_n0 := n0 w_ hSw
    have q_n1 := n1 w_ hSw
    have q_n2 := n2 w_ hSw
    have q_n3 := n3 w_ hSw
    go_simp
    try with_reducible rfl
  try simp only [Act.put, List.setIfInBounds_toArray, List.set_cons_zero, List.set_cons_succ]
  refine takeL15 (i := 1) (v := ?_) hF rfl (by kernel_rfl) (by kernel_rfl) (by kernel_rfl) (fun _ _ _ h => h) (Or.inl ⟨by rfl, ?_⟩) (by assumption) ?_
  rotate_left 1
  · intro w_ hSw
    go_simp
    try with_reducible rfl
  try simp only [Act.put, List.setIfInBounds_toArray, List.set_cons_zero, List.set_cons_succ]
  refine takeL15 (i := 2) (v := ?_) hF rfl (by kernel_rfl) (by kernel_rfl) (by kernel_rfl) (fun _ _ _ h => h) (Or.inl ⟨by rfl, ?_⟩) (by assumption) ?_
  rotate_left 1
  · intro w_ hSw
    go_simp
    try with_reducible rfl
  try simp only [Act.put, List.setIfInBounds_toArray, List.set_cons_zero, List.set_cons_succ]
  refine takeL15 (i := 3) (v := ?_) hF rfl (by kernel_rfl) (by kernel_rfl) (by kernel_rfl) (fun _ _ _ h => h) (Or.inl ⟨by rfl, ?_⟩) (by assumption) ?_
  rotate_left 1
  · intro w_ hSw
    have q_n2 := n2 w_ hSw
    go_simp
    try with_reducible rfl
  try simp only [Act.put, List.setIfInBounds_toArray, List.set_cons_zero, List.set_cons_succ]
  refine takeL15 (i := 6) (v := ?_) hF rfl (by kernel_rfl) (by kernel_rfl) (by kernel_rfl) (fun _ _ _ h => h) (Or.inl ⟨by rfl, ?_⟩) (by assumption) ?_
  rotate_left 1
  · intro w_ hSw
    go_simp
    try with_reducible rfl
  try simp only [Act.put, List.setIfInBounds_toArray, List.set_cons_zero, List.set_cons_succ]
  refine oneL15 (i := 4) (by kernel_rfl) (by kernel_rfl) rfl (fun _ hK => ?_)
  go_simp
  refine (HN _).mono ?_
  rintro e X4 ⟨b4, rfl, hl4, hc4, hb4⟩
  try go_simp
  refine hK.out _ _ (hHeld.trans (hb4.mono hHeld.size)) (fun hHeld => ?_)
  clear hK
  try simp only [Act.put, List.setIfInBounds_toArray, List.set_cons_zero, List.set_cons_succ]
  refine oneL15 (i := 5) (by kernel_rfl) (by kernel_rfl) rfl (fun _ hK => ?_)
  go_simp
  refine (HC X4 _ hHeld (upTo_ints15 (N := fun _ => True) hc4 (by omega) trivial).here).mono ?_
  rintro e X5 ⟨v5, rfl, ho5, hb5⟩
  obtain ⟨A5, c5, rfl⟩ := own_form ho5
  try go_simp
  refine hK.out _ _ (hHeld.trans (hb5.mono hHeld.size)) (fun hHeld => ?_)
  clear hK
  try simp only [Act.put, List.setIfInBounds_toArray, List.set_cons_zero, List.set_cons_succ]
  refine takeL15 (i := 7) (v := ?_) hF rfl (by kernel_rfl) (by kernel_rfl) (by kernel_rfl) (fun _ _ _ h => h) (Or.inl ⟨by rfl, ?_⟩) (by assumption) ?_
  rotate_left 1
  · intro w_ hSw
    go_simp
    try with_reducible rfl
  try simp only [Act.put, List.setIfInBounds_toArray, List.set_cons_zero, List.set_cons_succ]
  refine oneL15 (i := 8) (by kernel_rfl) (by kernel_rfl) rfl (fun _ hK => ?_)
  go_simp
  refine hK.out _ _ (hHeld.alloc hHeld.size _) (fun hHeld => ?_)
  clear hK
  try simp only [Act.put, List.setIfInBounds_toArray, List.set_cons_zero, List.set_cons_succ]
  refine ⟨by kernel_rfl, ?_⟩
  simp only [List.drop_succ_cons, List.drop_zero]
  have hbs : X5.heap.size < (X5.alloc (.cells #[.slice A5 c.nm.length c5, .slice none 0 0, .pointer (some ⟨bl, 0, none⟩)] 68 (0, 0))).heap.size := by rw [World.size_alloc]; omega
  have hnb := heap_alloc_new X5 (.cells #[.slice A5 c.nm.length c5, .slice none 0 0, .pointer (some ⟨bl, 0, none⟩)] 68 (0, 0))
  have hB2 := hB0.trans (hHeld.mono hB0.size)
  have hblw := size_of_block hbl
  have hs5 : w1.heap.size ≤ X5.heap.size := Nat.le_trans hb4.size hb5.size
  have hS2 : StM w X5.heap.size bl (.slice A5 c.nm.length c5) (.slice none 0 0) c.nm [] (left : Nat) (X5.alloc (.cells #[.slice A5 c.nm.length c5, .slice none 0 0, .pointer (some ⟨bl, 0, none⟩)] 68 (0, 0))) :=
    ⟨hnb, keep_blk hB2 hbl, (own_more ho5 (show w.heap.size ≤ X4.heap.size by have h8 := hb4.size; have h9 : w1.drew.heap.size = w1.heap.size := rfl; omega)).alloc _, World.ownsRow_nil _ _ _ _, by simp, below_grown15 hB2 rfl, hblw, by omega⟩
  have hcho2 : ChoN (X5.alloc (.cells #[.slice A5 c.nm.length c5, .slice none 0 0, .pointer (some ⟨bl, 0, none⟩)] 68 (0, 0))) (fun x => x < (X5.alloc (.cells #[.slice A5 c.nm.length c5, .slice none 0 0, .pointer (some ⟨bl, 0, none⟩)] 68 (0, 0))).heap.size) (.slice At c.t.length ct) (.slice An c.nm.length cn) (.slice Ar c.ls.length cr) c := hcho1.keep (fun x hx => hHeld.block x (by omega)) hHeld.size (fun x hx => by have := hHeld.size; omega)
  have HA := add15_any w _ X5.heap.size bl (.slice A5 c.nm.length c5) (.slice none 0 0) (.slice At c.t.length ct) (.slice An c.nm.length cn) (.slice Ar c.ls.length cr) c.nm [] (left : Nat) c hS2 hcho2 hr (by rw [htH.out]; show 0 + _ ≤ _; omega) (by decide)
  unfold chv at HA
  obtain ⟨base, hbase⟩ : ∃ base, base + 2 ^ crdT c.nm.length (usdT c.ls) = left + 1 := ⟨left + 1 - 2 ^ crdT c.nm.length (usdT c.ls), by omega⟩
  have hst0 := st_start hr hb htH.out h60 (Nat.le_of_eq hbase)
  obtain ⟨k0, k1, k2, k3, -⟩ := now4 (keep_blk hHeld hbu) rfl
  clear n0 n1 n2 n3 hS2 hcho2 hnb hHeld hb4 hb5 ho5 HC HN hB0 hbu hcho1 hbl hB2
  go_wp2_with fail
  generalize X5.alloc _ = X6 at *
  generalize X5.heap.size = bs at *
  refine HA.mono ?_
  rintro e X7 ⟨bv3, sv3, zs3, rfl, hS3, hz3, -⟩
  have hst3 : Hid (StOk c.N c 60 (addBs c.nm c) (zs3.map (·.c)) base left) := Lib.hid (by rw [hz3]; exact hst0)
  have hb60 := addBs_le c.nm c
  clear HA hst0 hz3 k0 k1 k2 k3
  generalize addBs c.nm c = b3 at *
  try go_simp
  have hbaseH := Lib.hid hbase
  clear hbase hst hs5 hbs hs0
  go_wp2
  go_step3
  go_wp2
  go_loopw [6] (fun _ wr => ∃ (bv sv : Value) (b : List Int) (zs : List Itm) (l : Nat), StM w bs bl bv sv b zs (l : Nat) wr ∧ Hid (StOk c.N c 60 b (zs.map (·.c)) base l) ∧ l ≤ left ∧ b.length ≤ c.nm.length) (fun _ wr => numAt wr bl)
  case atStart => exact ⟨bv3, sv3, b3, zs3, left, hS3, hst3, Nat.le_refl _, hb60⟩
  case round =>
    clear hS3 hst3 hb60
    obtain ⟨bv, sv, b, zs, l, hS, hst, hll, hbl⟩ := hrel
    obtain ⟨n0, n1, n2, nf⟩ := now3 hS.box rfl
    obtain ⟨AS, cS, rfl⟩ := own_form hS.stk
    obtain ⟨Ab, cb2, rfl⟩ := own_form hS.best
    obtain ⟨l0, lf⟩ := now1_15 hS.lft
    have hmu := numAt_of hS.lft
    by_cases hz : zs.length = 0
    · have hz0 : zs = [] := List.length_eq_zero_iff.1 hz
      have he := st_end (by have := hst.out; rw [hz0] at this; exact this)
      have hSH := Lib.hid hS
      have hd : ((zs.length : Nat) : Int) = 0 := by omega
      have heH := Lib.hid he
      clear hS hst he hz0 hz
      have hpw : 1 ≤ 2 ^ crdT c.nm.length (usdT c.ls) := Nat.one_le_two_pow
      go_wp2
      try rw [Exit.noGoto_ret]
      go_ret
      exact ⟨_, b, l, rfl, hSH.out.best, heH.out.2.1, heH.out.2.2, hSH.out.lft, by have := heH.out.1; have := hbaseH.out; omega, hll, hSH.out.off⟩
    · obtain ⟨ys, z, rfl⟩ : ∃ ys z, zs = ys ++ [z] := by
        have hne : zs ≠ [] := fun e => hz (by rw [e]; rfl)
        exact ⟨zs.dropLast, zs.getLast hne, (List.dropLast_concat_getLast hne).symm⟩
      have hl1 : 1 ≤ l := by
        have := st_step hst.out (by simp)
        omega
      obtain ⟨l1, rfl⟩ : ∃ l1, l = l1 + 1 := ⟨l - 1, by omega⟩
      have hlen : (ys ++ [z]).length = ys.length + 1 := by rw [List.length_append]; rfl
      obtain ⟨g, c9, eg⟩ := own_some15 hS.stk (by omega)
      have eA : AS = some ⟨g, 0, none⟩ := by injection eg
      subst eA
      clear eg c9
      have hst2 : StOk c.N c 60 b (ys.map (·.c) ++ [z.c]) base (l1 + 1) := by have := hst.out; rwa [List.map_append] at this
      obtain ⟨htop, hea, hwt, hz1⟩ := st_top hst2
      have hyl : ys.length ≤ 1000000 := by
        have h1 := wtS_len _ hea
        rw [List.length_map] at h1
        have h2 : 2 ^ 1 ≤ 2 ^ z.c.nm.length := Nat.pow_le_pow_right (by decide) hz1
        omega
      have hzu : z.c.nm.length ≤ u := by
        have h1 : 2 ^ z.c.nm.length ≤ 2 ^ crdT c.nm.length (usdT c.ls) := by have := hbaseH.out; omega
        have h2 := (Nat.pow_le_pow_iff_right (a := 2) (by decide)).1 h1
        omega
      have hst2H := Lib.hid hst2
      have hmuH := Lib.hid hmu
      have hcap := (own_capS15 hS.stk)
      rw [hlen] at hS n1 hcap
      have hd : ¬ (((ys.length + 1 : Nat)) : Int) = 0 := by omega
      have hd2 : ¬ (((l1 + 1 : Nat)) : Int) ≤ 0 := by omega
      have hS1 := hS.left (l1 : Nat)
      have ew : IntKind.i64.wrap (((l1 + 1 : Nat) : Int) - 1) = (l1 : Nat) := by rw [IntWalk.i64_in _ (by omega)]; omega
      have ey : IntKind.i64.wrap (((ys.length + 1 : Nat) : Int) - 1) = (ys.length : Nat) := by rw [IntWalk.i64_in _ (by omega)]; omega
      have ey2 : IntKind.i64.wrap ((ys.length : Nat) : Int) = (ys.length : Nat) := IntWalk.i64_in _ (by omega)
      have y0 : (0 : Int) ≤ (ys.length : Nat) := by omega
      have y1 : ((ys.length : Nat) : Int) < ((ys.length : Nat) : Int) + 1 := by omega
      have y3 : ys.length ≤ cS := by omega
      have y2 : ((ys.length : Nat) : Int) ≤ (cS : Nat) := by omega
      obtain ⟨hzt, hzn, hzr, -⟩ := hS1.each z (List.mem_append_right _ (by simp))
      obtain ⟨ztv, znv, zrv, zc⟩ := z
      obtain ⟨Azt, czt, ezt, -, -⟩ := hzt
      obtain ⟨Azn, czn, ezn, -, -⟩ := hzn
      obtain ⟨Azr, czr, ezr, -, -⟩ := hzr
      dsimp only at ezt ezn ezr hzu hz1
      subst ezt
      subst ezn
      subst ezr
      have htc := top_cells (by rw [← hlen] at hS1; exact hS1.stk)
      dsimp only at htc
      have hgl := (hS1.stk.lt g rfl).2
      have hSH := Lib.hid hS1
      clear hS hst hst2 htop hea hwt hmu
      go_wp2
      generalize wr.setCell _ _ = X1 at *
      have m1 := fun W_ (h : Below X1.heap.size X1 W_) => (now3 (keep_blk h hS1.box) rfl).2.1
      have t0 := fun W_ (h : Below X1.heap.size X1 W_) => (h.cell (p := ⟨g, ys.length * 4, none⟩) hgl).trans htc.1
      have t1 := fun W_ (h : Below X1.heap.size X1 W_) => (h.cell (p := ⟨g, ys.length * 4 + 1, none⟩) hgl).trans htc.2.1
      have t2 := fun W_ (h : Below X1.heap.size X1 W_) => (h.cell (p := ⟨g, ys.length * 4 + 2, none⟩) hgl).trans htc.2.2.1
      have t3 := fun W_ (h : Below X1.heap.size X1 W_) => (h.cell (p := ⟨g, ys.length * 4 + 3, none⟩) hgl).trans htc.2.2.2
      clear htc hS1
      refine wp_region_held_tail 13 (fun W_ => Below X1.heap.size X1 W_) (by kernel_rfl) (by kernel_rfl) (Below.refl _ X1).drew (fun hF hHeld => ?_)
      refine takeL15 (i := 0) (v := ?_) hF rfl (by kernel_rfl) (by kernel_rfl) (by kernel_rfl) (fun _ _ _ h => h) (Or.inl ⟨by rfl, ?_⟩) (by assumption) ?_
      rotate_left 1
      · intro w_ hSw
        go_simp
        try with_reducible rfl
      try simp only [Act.put, List.setIfInBounds_toArray, List.set_cons_zero, List.set_cons_succ]
      refine takeL15 (i := 1) (v := ?_) hF rfl (by kernel_rfl) (by kernel_rfl) (by kernel_rfl) (fun _ _ _ h => h) (Or.inl ⟨by rfl, ?_⟩) (by assumption) ?_
      rotate_left 1
      · intro w_ hSw
        go_simp
        try with_reducible rfl
      try simp only [Act.put, List.setIfInBounds_toArray, List.set_cons_zero, List.set_cons_succ]
      refine takeL15 (i := 2) (v := ?_) hF rfl (by kernel_rfl) (by kernel_rfl) (by kernel_rfl) (fun _ _ _ h => h) (Or.inl ⟨by rfl, ?_⟩) (by assumption) ?_
      rotate_left 1
      · intro w_ hSw
        go_simp
        try with_reducible rfl
      try simp only [Act.put, List.setIfInBounds_toArray, List.set_cons_zero, List.set_cons_succ]
      refine takeL15 (i := 3) (v := ?_) hF rfl (by kernel_rfl) (by kernel_rfl) (by kernel_rfl) (fun _ _ _ h => h) (Or.inl ⟨by rfl, ?_⟩) (by assumption) ?_
      rotate_left 1
      · intro w_ hSw
        have q_m1 := m1 w_ hSw
        go_simp
        try with_reducible rfl
      try simp only [Act.put, List.setIfInBounds_toArray, List.set_cons_zero, List.set_cons_succ]
      refine takeL15 (i := 4) (v := ?_) hF rfl (by kernel_rfl) (by kernel_rfl) (by kernel_rfl) (fun _ _ _ h => h) (Or.inl ⟨by rfl, ?_⟩) (by assumption) ?_
      rotate_left 1
      · intro w_ hSw
        go_simp
        try with_reducible rfl
      try simp only [Act.put, List.setIfInBounds_toArray, List.set_cons_zero, List.set_cons_succ]
      refine takeL15 (i := 5) (v := ?_) hF rfl (by kernel_rfl) (by kernel_rfl) (by kernel_rfl) (fun _ _ _ h => h) (Or.inl ⟨by rfl, ?_⟩) (by assumption) ?_
      rotate_left 1
      · intro w_ hSw
        go_simp
        try with_reducible rfl
      try simp only [Act.put, List.setIfInBounds_toArray, List.set_cons_zero, List.set_cons_succ]
      refine takeL15 (i := 6) (v := ?_) hF rfl (by kernel_rfl) (by kernel_rfl) (by kernel_rfl) (fun _ _ _ h => h) (Or.inl ⟨by rfl, ?_⟩) (by assumption) ?_
      rotate_left 1
      · intro w_ hSw
        go_simp
        try with_reducible rfl
      try simp only [Act.put, List.setIfInBounds_toArray, List.set_cons_zero, List.set_cons_succ]
      refine takeL15 (i := 7) (v := ?_) hF rfl (by kernel_rfl) (by kernel_rfl) (by kernel_rfl) (fun _ _ _ h => h) (Or.inl ⟨by rfl, ?_⟩) (by assumption) ?_
      rotate_left 1
      · intro w_ hSw
        have q_m1 := m1 w_ hSw
        go_simp
        try with_reducible rfl
      try simp only [Act.put, List.setIfInBounds_toArray, List.set_cons_zero, List.set_cons_succ]
      refine takeL15 (i := 8) (v := ?_) hF rfl (by kernel_rfl) (by kernel_rfl) (by kernel_rfl) (fun _ _ _ h => h) (Or.inl ⟨by rfl, ?_⟩) (by assumption) ?_
      rotate_left 1
      · intro w_ hSw
        go_simp
        try with_reducible rfl
      try simp only [Act.put, List.setIfInBounds_toArray, List.set_cons_zero, List.set_cons_succ]
      have ey2H := Lib.hid ey2
      refine takeL15 (i := 9) (v := ?_) hF rfl (by kernel_rfl) (by kernel_rfl) (by kernel_rfl) (fun _ _ _ h => h) (Or.inl ⟨by rfl, ?_⟩) (by assumption) ?_
      rotate_left 1
      · intro w_ hSw
        go_simp
        try with_reducible rfl
      try simp only [Act.put, List.setIfInBounds_toArray, List.set_cons_zero, List.set_cons_succ]
      refine takeL15 (i := 10) (v := ?_) hF rfl (by kernel_rfl) (by kernel_rfl) (by kernel_rfl) (fun _ _ _ h => h) (Or.inl ⟨by rfl, ?_⟩) (by assumption) ?_
      rotate_left 1
      · intro w_ hSw
        go_simp
        try with_reducible rfl
      try simp only [Act.put, List.setIfInBounds_toArray, List.set_cons_zero, List.set_cons_succ]
      refine takeL15 (i := 11) (v := ?_) hF rfl (by kernel_rfl) (by kernel_rfl) (by kernel_rfl) (fun _ _ _ h => h) (Or.inl ⟨by rfl, ?_⟩) (by assumption) ?_
      rotate_left 1
      · intro w_ hSw
        have q_t0 := t0 w_ hSw
        have q_t1 := t1 w_ hSw
        have q_t2 := t2 w_ hSw
        have q_t3 := t3 w_ hSw
        go_simp
        try with_reducible rfl
      try simp only [Act.put, List.setIfInBounds_toArray, List.set_cons_zero, List.set_cons_succ]
      refine oneL15 (i := 12) (by kernel_rfl) (by kernel_rfl) rfl (fun _ hK => ?_)
      go_simp
      refine hK.out _ _ (hHeld.alloc hHeld.size _) (fun hHeld => ?_)
      clear hK
      try simp only [Act.put, List.setIfInBounds_toArray, List.set_cons_zero, List.set_cons_succ]
      refine ⟨by kernel_rfl, ?_⟩
      simp only [List.drop_succ_cons, List.drop_zero]
      have hBt : Below X1.heap.size X1 (X1.alloc (.cells #[.slice Azt zc.t.length czt, .slice Azn zc.nm.length czn, .int .i64 zc.nm.length, .slice Azr zc.ls.length czr] 55 (0, 0))).drew := (below_alloc1 X1 _).drew
      have hS2 := hSH.out.below hBt
      have htb : (X1.alloc (.cells #[.slice Azt zc.t.length czt, .slice Azn zc.nm.length czn, .int .i64 zc.nm.length, .slice Azr zc.ls.length czr] 55 (0, 0))).drew.heap[X1.heap.size]? = some (.cells #[.slice Azt zc.t.length czt, .slice Azn zc.nm.length czn, .int .i64 zc.nm.length, .slice Azr zc.ls.length czr] 55 (0, 0)) := heap_alloc_new _ _
      have hbt : bs < X1.heap.size := size_of_block hSH.out.box
      clear m1 t0 t1 t2 t3 hBt hHeld
      go_wp2
      generalize (X1.alloc _).drew = X2 at *
      generalize X1.heap.size = tq at *
      have m1 := fun W_ (h : Below X2.heap.size X2 W_) => (now3 (keep_blk h hS2.box) rfl).2.1
      refine wp_region_held_tail 12 (fun W_ => Below X2.heap.size X2 W_) (by kernel_rfl) (by kernel_rfl) (Below.refl _ X2).drew (fun hF hHeld => ?_)
      refine takeL15 (i := 0) (v := ?_) hF rfl (by kernel_rfl) (by kernel_rfl) (by kernel_rfl) (fun _ _ _ h => h) (Or.inl ⟨by rfl, ?_⟩) (by assumption) ?_
      rotate_left 1
      · intro w_ hSw
        go_simp
        try with_reducible rfl
      try simp only [Act.put, List.setIfInBounds_toArray, List.set_cons_zero, List.set_cons_succ]
      refine takeL15 (i := 1) (v := ?_) hF rfl (by kernel_rfl) (by kernel_rfl) (by kernel_rfl) (fun _ _ _ h => h) (Or.inl ⟨by rfl, ?_⟩) (by assumption) ?_
      rotate_left 1
      · intro w_ hSw
        go_simp
        try with_reducible rfl
      try simp only [Act.put, List.setIfInBounds_toArray, List.set_cons_zero, List.set_cons_succ]
      refine takeL15 (i := 2) (v := ?_) hF rfl (by kernel_rfl) (by kernel_rfl) (by kernel_rfl) (fun _ _ _ h => h) (Or.inl ⟨by rfl, ?_⟩) (by assumption) ?_
      rotate_left 1
      · intro w_ hSw
        go_simp
        try with_reducible rfl
      try simp only [Act.put, List.setIfInBounds_toArray, List.set_cons_zero, List.set_cons_succ]
      refine takeL15 (i := 3) (v := ?_) hF rfl (by kernel_rfl) (by kernel_rfl) (by kernel_rfl) (fun _ _ _ h => h) (Or.inl ⟨by rfl, ?_⟩) (by assumption) ?_
      rotate_left 1
      · intro w_ hSw
        go_simp
        try with_reducible rfl
      try simp only [Act.put, List.setIfInBounds_toArray, List.set_cons_zero, List.set_cons_succ]
      refine takeL15 (i := 4) (v := ?_) hF rfl (by kernel_rfl) (by kernel_rfl) (by kernel_rfl) (fun _ _ _ h => h) (Or.inl ⟨by rfl, ?_⟩) (by assumption) ?_
      rotate_left 1
      · intro w_ hSw
        have q_m1 := m1 w_ hSw
        go_simp
        try with_reducible rfl
      try simp only [Act.put, List.setIfInBounds_toArray, List.set_cons_zero, List.set_cons_succ]
      refine takeL15 (i := 5) (v := ?_) hF rfl (by kernel_rfl) (by kernel_rfl) (by kernel_rfl) (fun _ _ _ h => h) (Or.inl ⟨by rfl, ?_⟩) (by assumption) ?_
      rotate_left 1
      · intro w_ hSw
        go_simp
        try with_reducible rfl
      try simp only [Act.put, List.setIfInBounds_toArray, List.set_cons_zero, List.set_cons_succ]
      refine takeL15 (i := 6) (v := ?_) hF rfl (by kernel_rfl) (by kernel_rfl) (by kernel_rfl) (fun _ _ _ h => h) (Or.inl ⟨by rfl, ?_⟩) (by assumption) ?_
      rotate_left 1
      · intro w_ hSw
        go_simp
        try with_reducible rfl
      try simp only [Act.put, List.setIfInBounds_toArray, List.set_cons_zero, List.set_cons_succ]
      refine takeL15 (i := 7) (v := ?_) hF rfl (by kernel_rfl) (by kernel_rfl) (by kernel_rfl) (fun _ _ _ h => h) (Or.inl ⟨by rfl, ?_⟩) (by assumption) ?_
      rotate_left 1
      · intro w_ hSw
        go_simp
        try with_reducible rfl
      try simp only [Act.put, List.setIfInBounds_toArray, List.set_cons_zero, List.set_cons_succ]
      refine takeL15 (i := 8) (v := ?_) hF rfl (by kernel_rfl) (by kernel_rfl) (by kernel_rfl) (fun _ _ _ h => h) (Or.inl ⟨by rfl, ?_⟩) (by assumption) ?_
      rotate_left 1
      · intro w_ hSw
        have q_m1 := m1 w_ hSw
        go_simp
        try with_reducible rfl
      try simp only [Act.put, List.setIfInBounds_toArray, List.set_cons_zero, List.set_cons_succ]
      refine takeL15 (i := 9) (v := ?_) hF rfl (by kernel_rfl) (by kernel_rfl) (by kernel_rfl) (fun _ _ _ h => h) (Or.inl ⟨by rfl, ?_⟩) (by assumption) ?_
      rotate_left 1
      · intro w_ hSw
        go_simp
        try with_reducible rfl
      try simp only [Act.put, List.setIfInBounds_toArray, List.set_cons_zero, List.set_cons_succ]
      refine takeL15 (i := 10) (v := ?_) hF rfl (by kernel_rfl) (by kernel_rfl) (by kernel_rfl) (fun _ _ _ h => h) (Or.inl ⟨by rfl, ?_⟩) (by assumption) ?_
      rotate_left 1
      · intro w_ hSw
        go_simp
        try with_reducible rfl
      try simp only [Act.put, List.setIfInBounds_toArray, List.set_cons_zero, List.set_cons_succ]
      refine takeL15 (i := 11) (v := ?_) hF rfl (by kernel_rfl) (by kernel_rfl) (by kernel_rfl) (fun _ _ _ h => h) (Or.inl ⟨by rfl, ?_⟩) (by assumption) ?_
      rotate_left 1
      · intro w_ hSw
        go_simp
        try with_reducible rfl
      try simp only [Act.put, List.setIfInBounds_toArray, List.set_cons_zero, List.set_cons_succ]
      refine ⟨by kernel_rfl, ?_⟩
      simp only [List.drop_succ_cons, List.drop_zero]
      have hS3 := hS2.below (Below.refl _ X2).drew
      obtain ⟨-, -, -, nf3⟩ := now3 hS3.box rfl
      obtain ⟨f0, f1, f2, -⟩ := now3 hS3.box rfl
      obtain ⟨hS5, hz5⟩ := StM.pop hS2 rfl
      have hd5 := (Below.refl (X2.setCell ⟨bs, 1, none⟩ (.slice (some ⟨g, 0, none⟩) ys.length cS)).heap.size (X2.setCell ⟨bs, 1, none⟩ (.slice (some ⟨g, 0, none⟩) ys.length cS))).drew
      have hS4 := hS5.below hd5
      have hz4 : ChoN _ (FarS w bs (.slice (some ⟨g, 0, none⟩) ys.length cS) (X2.setCell ⟨bs, 1, none⟩ (.slice (some ⟨g, 0, none⟩) ys.length cS)).drew) (.slice Azt zc.t.length czt) (.slice Azn zc.nm.length czn) (.slice Azr zc.ls.length czr) zc := hz5.keep (fun x hx => hd5.block x hx.2.1) hd5.size (fun x hx => hx.more hd5.size)
      have htb4 : (X2.setCell ⟨bs, 1, none⟩ (.slice (some ⟨g, 0, none⟩) ys.length cS)).drew.heap[tq]? = _ := (show (X2.setCell ⟨bs, 1, none⟩ (.slice (some ⟨g, 0, none⟩) ys.length cS)).heap[tq]? = X2.heap[tq]? from Below.heap_setCell _ _ _ _ (by show tq ≠ bs; omega)).trans htb
      have HST := step15_any c.N c 60 base w _ bs bl (.slice Ab b.length cb2) (.slice (some ⟨g, 0, none⟩) ys.length cS) (.slice Azt zc.t.length czt) (.slice Azn zc.nm.length czn) (.slice Azr zc.ls.length czr) b ys l1 zc hS4 hz4 hst2H.out (by omega) (fun v hv => IH v (by omega)) (by omega) (by omega)
      obtain ⟨k0, k1, k2, k3, -⟩ := now4 htb4 rfl
      unfold chv at HST
      clear hS3 hS4 hz4 htb4 hS2 htb m1 hHeld hS5 hz5 hd5
      go_wp2_with fail
      refine HST.mono ?_
      rintro e X5 ⟨rfl, bv', sv', b', zs', l', hS', hst', hle', hbl'⟩
      have hm' := numAt_of hS'.lft
      have hst'H := Lib.hid hst'
      clear HST hst' k0 k1 k2 k3 nf3
      try go_simp
      go_wp2
      go_roundw
      case rel => exact ⟨bv', sv', b', zs', l', hS', hst'H, by omega, by omega⟩
      case measure => rw [hm', hmuH.out]; omega
end Go.Proofs.Ytcbhcclickjpnaa
