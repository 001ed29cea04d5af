/- Package search: a step. -/
import Derived.Test.YtcbhcclickjpnaaGK32
namespace Go.Proofs.Ytcbhcclickjpnaa
open Go.RowKit Go.Joins

theorem cho_frs15 {w W W' : World} {bs : Nat} {sv tv nv rv : Value} {c : Cho} (hc : ChoN W (FarS w bs sv W) tv nv rv c) (hf : FrS bs sv W W') : ChoN W' (fun x => x < W'.heap.size) tv nv rv c :=
  hc.keep (fun x hx => hf.2 x hx.2.1 hx.2.2.1 hx.2.2.2) hf.1 (fun _x hx => Nat.lt_of_lt_of_le hx.2.1 hf.1)
theorem wtS_len {L : List (List Int)} {M : Nat} : ∀ (stk : List Cho), (∀ d, d ∈ stk → ChoOk L M d) → stk.length ≤ wtS stk
  | [], _ => Nat.zero_le _
  | c :: stk, h => by
    have ih := wtS_len stk fun d hd => h d (List.mem_cons_of_mem _ hd)
    have h1 := cho_cols (h c (List.mem_cons_self ..))
    have h2 : 2 ^ 1 ≤ 2 ^ c.nm.length := Nat.pow_le_pow_right (by decide) h1
    have e : wtS (c :: stk) = (2 ^ c.nm.length - 1) + wtS stk := rfl
    rw [List.length_cons]
    omega
/-- What a step carries on. -/
structure CarM (w W : World) (bs bl kb mb : Nat) (bv sv tv nv rv : Value) (b : List Int) (zs : List Itm) (left : Int) (c : Cho) (most : Int) (X : World) : Prop where
  st : StM w bs bl bv sv b zs left X
  cho : ChoN X (FarS w bs sv X) tv nv rv c
  kb : X.heap[kb]? = some (chb tv nv c.nm.length rv)
  mb : X.heap[mb]? = some (.cells #[.int .i64 most] 3 (0, 0))
  bel : Below W.heap.size W X
theorem CarM.below {w W X X' : World} {bs bl kb mb : Nat} {bv sv tv nv rv : Value} {b : List Int} {zs : List Itm} {left : Int} {c : Cho} {most : Int} (h : CarM w W bs bl kb mb bv sv tv nv rv b zs left c most X) (hb : Below X.heap.size X X') : CarM w W bs bl kb mb bv sv tv nv rv b zs left c most X' :=
  ⟨h.st.below hb, h.cho.keep (fun x hx => hb.block x hx.2.1) hb.size (fun _ hx => hx.more hb.size), keep_blk hb h.kb, keep_blk hb h.mb, h.bel.trans (hb.mono h.bel.size)⟩
theorem StM.grownL {w W W' : World} {bs bl : Nat} {bv sv : Value} {b : List Int} {zs : List Itm} {left l' : Int} (h : StM w bs bl bv sv b zs left W) (hl : W'.heap[bl]? = some (.cells #[.int .i64 l'] 3 (0, 0))) (hg : W.grownBy W' (some bl)) : StM w bs bl bv sv b zs l' W' := by
  have hord := h.ord
  have hk : ∀ x, x ≠ bl → x < W.heap.size → W'.heap[x]? = W.heap[x]? := fun x h1 h2 => hg.block x h2 fun e => h1 (Option.some.inj e)
  have hnb : ∀ {e : TypeId} {s n : Nat} {v : Value} {xs : List Value}, W.ownsRow w.heap.size e s v n xs → W'.ownsRow w.heap.size e s v n xs := fun ho => own_keep ho fun g hv h1 h2 => hk g (by omega) h2
  exact ⟨(hk bs (by omega) (size_of_block h.box)).trans h.box, hl, hnb h.best, hnb h.stk, fun z hz => (h.each z hz).keep (fun x hx => hk x (by have := hx.1; omega) hx.2.1) hg.size fun _ hx => hx.more hg.size,
    ⟨hg.os.trans h.off.os, hg.tape.trans h.off.tape, hg.output.trans h.off.output, Nat.le_trans h.off.size hg.size, fun x hx hne => (hg.block x (Nat.lt_of_lt_of_le hx h.off.size) hne).trans (h.off.block x hx hne)⟩, h.ord⟩
theorem PartsN.more {w : World} {N N' : Nat → Prop} {n : Nat} {v : Value} {ps : List (List (List Int))} (h : PartsN w N n v ps) (hN : ∀ x, N x → N' x) : PartsN w N' n v ps := by
  obtain ⟨A, c, e, hc⟩ := h
  refine ⟨A, c, e, fun i p hp => ?_⟩
  obtain ⟨b, rv, h1, h2, h3, h4, h5, h6, h7⟩ := hc i p hp
  exact ⟨b, rv, h1, hN b h2, h3, h4, h5, h6.keep15 (fun _ _ => rfl) hN, h7⟩
theorem PartsN.drew15 {w : World} {N : Nat → Prop} {n : Nat} {v : Value} {ps : List (List (List Int))} (h : PartsN w N n v ps) : PartsN w.drew N n v ps := by
  obtain ⟨A, c, e, hc⟩ := h
  refine ⟨A, c, e, fun i p hp => ?_⟩
  obtain ⟨b, rv, h1, h2, h3, h4, h5, h6, h7⟩ := hc i p hp
  exact ⟨b, rv, h1, h2, h3, h4, h5, h6.keep15 (fun _ _ => rfl) (fun _ h => h), h7.below (Below.refl _ w).drew⟩
theorem addSk_len (stk : List Cho) (c : Cho) : (addSk stk c).length ≤ stk.length + 1 := by
  unfold addSk
  split
  · omega
  · split
    · omega
    · rw [List.length_append]; exact Nat.le_refl _
theorem gives_calls15 {g : Nat} {lq args : Array Value} {res : Value} {W : World} (h : FnGives Try.prog g lq args res W) : Calls Try.prog g (args ++ lq) W fun e w' => e = .returned res ∧ Below W.heap.size W w' := by
  refine Calls.mono h ?_
  rintro e w' ⟨h1, q, rfl⟩
  exact ⟨h1, rfl, rfl, rfl, Nat.le_refl _, fun _ _ => rfl⟩
theorem parts_len {n : Nat} {ls : List (List Int)} {ps : List (List (List Int))} (hl : LowM n ls) (hb : bareB ls = false) (hp : PartsOk ls ps) : ps.length ≤ n := by
  have h1 := parts_cols (n := n) hp
  have h2 : ∀ qs : List (List (List Int)), (∀ q, q ∈ qs → 1 ≤ crdT n (usdT q)) → qs.length ≤ sumW (qs.map fun p => crdT n (usdT p)) := by
    intro qs
    induction qs with
    | nil => intro _; exact Nat.zero_le _
    | cons q qs ih =>
      intro h
      have h3 := ih fun q hq => h q (List.mem_cons_of_mem _ hq)
      have h4 := h q (List.mem_cons_self ..)
      rw [List.length_cons]
      show _ ≤ crdT n (usdT q) + sumW (qs.map fun p => crdT n (usdT p))
      omega
  have h5 := h2 ps fun q hq => part_one hl hb hp hq
  omega
theorem first_min {l : List Int} (h : l ≠ []) : ∃ k : Nat, k < l.length ∧ firstI (fun x => decide (x = Lib.minOf l)) l = k := by
  obtain ⟨j, hj⟩ := List.mem_iff_getElem?.1 (minOf_mem h)
  obtain ⟨k, hk⟩ : ∃ k : Nat, firstI (fun x => decide (x = Lib.minOf l)) l = k ∧ k < l.length := by
    have h1 : ∃ k : Nat, (l[k]? = some (Lib.minOf l)) ∧ ∀ i, i < k → l[i]? ≠ some (Lib.minOf l) := by
      have : ∀ m : Nat, (∃ i, i ≤ m ∧ l[i]? = some (Lib.minOf l)) → ∃ k : Nat, l[k]? = some (Lib.minOf l) ∧ ∀ i, i < k → l[i]? ≠ some (Lib.minOf l) := by
        intro m
        induction m with
        | zero =>
          rintro ⟨i, hi, he⟩
          have : i = 0 := by omega
          subst this
          exact ⟨0, he, fun i hi => absurd hi (Nat.not_lt_zero _)⟩
        | succ m ih =>
          rintro ⟨i, hi, he⟩
          by_cases hx : ∃ i, i ≤ m ∧ l[i]? = some (Lib.minOf l)
          · exact ih hx
          · exact ⟨i, he, fun q hq hqe => hx ⟨q, by omega, hqe⟩⟩
      exact this j ⟨j, Nat.le_refl _, hj⟩
    obtain ⟨k, h2, h3⟩ := h1
    exact ⟨k, isX_at h2 fun i x hi hx e => h3 i hi (by rw [hx, e]), (List.getElem?_eq_some_iff.1 h2).1⟩
  exact ⟨k, hk.2, hk.1⟩
/-- What a step leaves. -/
def StepR (L : List (List Int)) (root : Cho) (M base : Nat) (w : World) (bs bl : Nat) (b : List Int) (left : Nat) (W' : World) : Prop :=
  ∃ bv' sv' b' zs' left', StM w bs bl bv' sv' b' zs' (left' : Nat) W' ∧ StOk L root M b' (zs'.map (·.c)) base left' ∧ left' ≤ left ∧ b'.length ≤ b.length
set_option maxHeartbeats 16000000 in
set_option maxRecDepth 100000 in
theorem step15_any (L : List (List Int)) (root : Cho) (M base : Nat) (w W : World) (bs bl : Nat) (bv sv tv nv rv : Value) (b : List Int) (zs : List Itm) (left : Nat) (c : Cho) (hS : StM w bs bl bv sv b zs (left : Nat) W) (hc : ChoN W (FarS w bs sv W) tv nv rv c)
    (hO : StOk L root M b (zs.map (·.c) ++ [c]) base (left + 1)) (hM : M ≤ 60) (hSV : ∀ u, u < c.nm.length → SearchV u) (hb60 : b.length ≤ 60) (hl : left ≤ 1000000) :
    Calls Try.prog 48 #[.pointer (some ⟨bs, 0, none⟩), chv tv nv c.nm.length rv] W fun e W' => e = .returned (.tuple #[]) ∧ StepR L root M base w bs bl b left W' := by
  obtain ⟨hC, hEa, hwt, hn1⟩ := st_top hO
  have hfew := hC.few
  have hzl : zs.length ≤ 1000001 := by
    have h1 := wtS_len _ hEa
    rw [List.length_map] at h1
    omega
  obtain ⟨hn0', hn4, hri⟩ := right_iff.1 hC.right
  have hls0 : 0 < c.ls.length := List.length_pos_iff.2 hC.some
  have hB0 := below_alloc1 W (chb tv nv c.nm.length rv)
  have hbu : (W.alloc (chb tv nv c.nm.length rv)).heap[W.heap.size]? = some (chb tv nv c.nm.length rv) := heap_alloc_new _ _
  have hs0 : (W.alloc (chb tv nv c.nm.length rv)).heap.size = W.heap.size + 1 := World.size_alloc _ _
  have hS1 := hS.below hB0
  obtain ⟨At, ct, rfl, -, -⟩ := hc.t
  obtain ⟨An, cn, rfl, -, -⟩ := hc.nm
  obtain ⟨Ar, cr, rfl, -, -⟩ := hc.ls
  have hSH := Lib.hid hS
  have hcH := Lib.hid hc
  have hOH := Lib.hid hO
  have hCH := Lib.hid hC
  have hSVH := Lib.hid hSV
  obtain ⟨Ab, cb2, eb⟩ := own_form hS.best
  subst eb
  unfold chv
  unfold chb at *
  obtain ⟨MS, hMS⟩ : ∃ MS : Int, MS = ((b.length : Int) - (c.t.length : Nat) - 1) * 1048576 := ⟨_, rfl⟩
  clear hS hc hO hC hSV hri hEa hwt
  go_enter Try.func48, Try.ntmps48
  go_wp2
  generalize W.alloc _ = w1 at *
  have n0 := fun W_ (h : Below w1.heap.size w1 W_) => (now3 (keep_blk h hS1.box) rfl).1
  have n1 := fun W_ (h : Below w1.heap.size w1 W_) => (now4 (keep_blk h hbu) rfl).1
  refine wp_region_held_tail 12 (fun W_ => Below w1.heap.size w1 W_) (by kernel_rfl) (by kernel_rfl) (Below.refl _ w1).drew (fun hF hHeld => ?_)
  refine takeL15 (i := 0) (v := ?_) hF rfl (by kernel_rfl) (by kernel_rfl) (by kernel_rfl) (fun _ _ _ h => h) (Or.inl ⟨by rfl, ?_⟩) (by assumption) ?_
  rotate_left 1
  · intro w_ hSw
    go_simp
    try with_reducible rfl
  try simp only [Act.put, List.setIfInBounds_toArray, List.set_cons_zero, List.set_cons_succ]
  refine takeL15 (i := 1) (v := ?_) hF rfl (by kernel_rfl) (by kernel_rfl) (by kernel_rfl) (fun _ _ _ h => h) (Or.inl ⟨by rfl, ?_⟩) (by assumption) ?_
  rotate_left 1
  · intro w_ hSw
    go_simp
    try with_reducible rfl
  try simp only [Act.put, List.setIfInBounds_toArray, List.set_cons_zero, List.set_cons_succ]
  refine takeL15 (i := 2) (v := ?_) hF rfl (by kernel_rfl) (by kernel_rfl) (by kernel_rfl) (fun _ _ _ h => h) (Or.inl ⟨by rfl, ?_⟩) (by assumption) ?_
  rotate_left 1
  · intro w_ hSw
    go_simp
    try with_reducible rfl
  try simp only [Act.put, List.setIfInBounds_toArray, List.set_cons_zero, List.set_cons_succ]
  refine takeL15 (i := 3) (v := ?_) hF rfl (by kernel_rfl) (by kernel_rfl) (by kernel_rfl) (fun _ _ _ h => h) (Or.inl ⟨by rfl, ?_⟩) (by assumption) ?_
  rotate_left 1
  · intro w_ hSw
    have q_n0 := n0 w_ hSw
    go_simp
    try with_reducible rfl
  try simp only [Act.put, List.setIfInBounds_toArray, List.set_cons_zero, List.set_cons_succ]
  refine takeL15 (i := 4) (v := ?_) hF rfl (by kernel_rfl) (by kernel_rfl) (by kernel_rfl) (fun _ _ _ h => h) (Or.inl ⟨by rfl, ?_⟩) (by assumption) ?_
  rotate_left 1
  · intro w_ hSw
    go_simp
    try with_reducible rfl
  try simp only [Act.put, List.setIfInBounds_toArray, List.set_cons_zero, List.set_cons_succ]
  refine takeL15 (i := 5) (v := ?_) hF rfl (by kernel_rfl) (by kernel_rfl) (by kernel_rfl) (fun _ _ _ h => h) (Or.inl ⟨by rfl, ?_⟩) (by assumption) ?_
  rotate_left 1
  · intro w_ hSw
    go_simp
    try with_reducible rfl
  try simp only [Act.put, List.setIfInBounds_toArray, List.set_cons_zero, List.set_cons_succ]
  refine takeL15 (i := 6) (v := ?_) hF rfl (by kernel_rfl) (by kernel_rfl) (by kernel_rfl) (fun _ _ _ h => h) (Or.inl ⟨by rfl, ?_⟩) (by assumption) ?_
  rotate_left 1
  · intro w_ hSw
    have q_n1 := n1 w_ hSw
    go_simp
    try with_reducible rfl
  try simp only [Act.put, List.setIfInBounds_toArray, List.set_cons_zero, List.set_cons_succ]
  refine takeL15 (i := 7) (v := ?_) hF rfl (by kernel_rfl) (by kernel_rfl) (by kernel_rfl) (fun _ _ _ h => h) (Or.inl ⟨by rfl, ?_⟩) (by assumption) ?_
  rotate_left 1
  · intro w_ hSw
    go_simp
    try with_reducible rfl
  try simp only [Act.put, List.setIfInBounds_toArray, List.set_cons_zero, List.set_cons_succ]
  refine takeL15 (i := 8) (v := ?_) hF rfl (by kernel_rfl) (by kernel_rfl) (by kernel_rfl) (fun _ _ _ h => h) (Or.inl ⟨by rfl, ?_⟩) (by assumption) ?_
  rotate_left 1
  · intro w_ hSw
    go_simp
    try with_reducible rfl
  try simp only [Act.put, List.setIfInBounds_toArray, List.set_cons_zero, List.set_cons_succ]
  refine takeL15 (i := 9) (v := ?_) hF rfl (by kernel_rfl) (by kernel_rfl) (by kernel_rfl) (fun _ _ _ h => h) (Or.inl ⟨by rfl, ?_⟩) (by assumption) ?_
  rotate_left 1
  · intro w_ hSw
    go_simp
    try with_reducible rfl
  try simp only [Act.put, List.setIfInBounds_toArray, List.set_cons_zero, List.set_cons_succ]
  refine takeL15 (i := 10) (v := ?_) hF rfl (by kernel_rfl) (by kernel_rfl) (by kernel_rfl) (fun _ _ _ h => h) (Or.inl ⟨by rfl, ?_⟩) (by assumption) ?_
  rotate_left 1
  · intro w_ hSw
    go_simp
    try with_reducible rfl
  try simp only [Act.put, List.setIfInBounds_toArray, List.set_cons_zero, List.set_cons_succ]
  refine oneL15 (i := 11) (by kernel_rfl) (by kernel_rfl) rfl (fun _ hK => ?_)
  go_simp
  refine hK.out _ _ (hHeld.alloc (Nat.le_refl _) _) (fun hHeld => ?_)
  clear hK
  try simp only [Act.put, List.setIfInBounds_toArray, List.set_cons_zero, List.set_cons_succ]
  refine ⟨by kernel_rfl, ?_⟩
  simp only [List.drop_succ_cons, List.drop_zero]
  have hm2 : (w1.alloc (.cells #[.int .i64 MS] 3 (0, 0))).drew.heap[w1.heap.size]? = some (.cells #[.int .i64 MS] 3 (0, 0)) := heap_alloc_new _ _
  rw [hs0] at hm2
  have hBa := (below_alloc1 w1 (.cells #[.int .i64 MS] 3 (0, 0))).drew
  have hC2 : CarM w W bs bl W.heap.size (W.heap.size + 1) (.slice Ab b.length cb2) sv (.slice At c.t.length ct) (.slice An c.nm.length cn) (.slice Ar c.ls.length cr) b zs (left : Nat) c MS (w1.alloc (.cells #[.int .i64 MS] 3 (0, 0))).drew :=
    ⟨hS1.below hBa, hcH.out.keep (fun x hx => (hBa.block x (by have := hx.2.1; omega)).trans (hB0.block x hx.2.1)) (by have := hBa.size; omega) (fun _ hx => hx.more (by have := hBa.size; omega)), keep_blk hBa hbu, hm2, hB0.trans (hBa.mono (by omega))⟩
  have hMSw : -100000000 ≤ MS ∧ MS ≤ 100000000 := by rw [hMS]; omega
  have e1 : IntKind.i64.wrap ((b.length : Int) - (c.t.length : Nat)) = (b.length : Int) - (c.t.length : Nat) := IntWalk.i64_in _ (by omega)
  have e2 : IntKind.i64.wrap ((b.length : Int) - (c.t.length : Nat) - 1) = (b.length : Int) - (c.t.length : Nat) - 1 := IntWalk.i64_in _ (by omega)
  have e3 : IntKind.i64.wrap (((b.length : Int) - (c.t.length : Nat) - 1) * 1048576) = MS := by rw [hMS]; exact IntWalk.i64_in _ (by omega)
  have hMSH := Lib.hid hMS
  obtain ⟨k0, k1, k2, k3, -⟩ := now4 hC2.kb rfl
  obtain ⟨l0, -⟩ := now1_15 hC2.mb
  clear hm2 hBa n0 n1 hHeld hB0 hbu hS1 hMS
  go_wp2_with fail
  clear e1 e2 e3 k0 k1 k2 k3 l0
  generalize (w1.alloc _).drew = X2 at *
  have hne : ∀ r, r ∈ c.ls → r ≠ [] := fun r hr e => by
    have hb := hCH.out.bare
    unfold bareB at hb
    rw [List.any_eq_false] at hb
    exact hb r hr (by rw [e]; rfl)
  have hneH := Lib.hid hne
  have HP := priced15_any c.nm.length (.slice Ar c.ls.length cr) c.ls MS X2 hC2.cho.ls.here (by omega) (by omega) hCH.out.right hne hCH.out.some (by omega)
  unfold mtv at HP
  refine HP.mono ?_
  rintro e X3 ⟨least, up, ub, rfl, hbill, hub, hupb, hb3⟩
  have hC3 := hC2.below hb3
  have hbA := below_alloc1 X3 (.cells #[.int .i64 least, .slice (some ⟨ub, 0, none⟩) c.nm.length c.nm.length] 77 (0, 0))
  have hnb := heap_alloc_new X3 (.cells #[.int .i64 least, .slice (some ⟨ub, 0, none⟩) c.nm.length c.nm.length] 77 (0, 0))
  have hupA := keep_blk hbA hupb
  have hC4 := hC3.below hbA
  obtain ⟨p0, p1, -⟩ := now2 hnb rfl
  obtain ⟨l0, -⟩ := now1_15 hC4.mb
  obtain ⟨k0, k1, k2, k3, -⟩ := now4 hC4.kb rfl
  have hbf := hbill.few
  clear HP hC2 hC3 hb3 hupb hbA hne
  try go_simp
  by_cases hpr : MS < least
  · have hpd : least > MS := hpr
    have hprune := Lib.hid (st_prune hOH.out fun k hk => prune_hop hbill hk (by rw [← hMSH.out]; exact hpr))
    have hst := Lib.hid hC4.st
    clear hC4 hnb hupA hbill hpr hbf
    go_wp2
    refine bodyPost_ret (results_none rfl _ _ _) rfl ?_
    exact ⟨rfl, _, _, b, zs, left, hst.out, hprune.out, Nat.le_refl _, Nat.le_refl _⟩
  · have hpd : ¬ least > MS := hpr
    have hC4H := Lib.hid hC4
    have hnbH := Lib.hid hnb
    have hupH := Lib.hid hupA
    have hbillH := Lib.hid hbill
    have HN := counted15_any c.nm.length (by omega) (X3.alloc (.cells #[.int .i64 least, .slice (some ⟨ub, 0, none⟩) c.nm.length c.nm.length] 77 (0, 0)))
    clear hC4 hnb hupA hbill hpr hbf
    go_wp2_with fail
    refine HN.mono ?_
    rintro e X5 ⟨bt, rfl, hbt, hcb, hb5⟩
    have hC5 := hC4H.out.below hb5
    have hnb5 := keep_blk hb5 hnbH.out
    have hup5 := keep_blk hb5 hupH.out
    generalize X3.heap.size = bb at *
    clear HN p0 p1 l0 k0 k1 k2 k3 hC4H hnbH hupH hb5 hbt hub
    have hdear : ∀ (x : Nat) (X : World), x < c.nm.length → Below X5.heap.size X5 X → FnGives Try.prog 57 #[.pointer (some ⟨bb, 0, none⟩), .pointer (some ⟨W.heap.size + 1, 0, none⟩)] #[.int .i64 x] (.bool (dearB least MS up x)) X := fun x X hx hX => by
      have hbi := hbillH.out
      have hu1 := hbi.few
      have hxl : x < up.length := by rw [hbi.len]; exact hx
      have hu2 := hbi.each up[x] (List.getElem_mem hxl)
      have hg : up.getD x 0 = up[x] := by rw [List.getD_eq_getElem?_getD, List.getElem?_eq_getElem hxl]; rfl
      refine dear15_any X bb (W.heap.size + 1) x least MS (.slice (some ⟨ub, 0, none⟩) c.nm.length c.nm.length) up (keep_blk hX hnb5) (keep_blk hX hC5.mb) ?_ hxl (by rw [hg]; omega)
      have h1 := keep_blk hX hup5
      exact (cel_intsN15 (N := fun _ => True) h1 hbi.len (by omega) (fun j x hj => by rw [List.getD_eq_getElem?_getD, hj]; rfl) trivial).here
    have HF := containsI_any 57 #[.pointer (some ⟨bb, 0, none⟩), .pointer (some ⟨W.heap.size + 1, 0, none⟩)] (dearB least MS up) (.slice (some ⟨bt, 0, none⟩) c.nm.length c.nm.length) (upTo c.nm.length) X5 (fun _ _ => by kernel_rfl) (fun x X hx hX => by
      obtain ⟨h0, h1⟩ := upTo_mem.1 hx
      obtain ⟨k, rfl⟩ := Int.eq_ofNat_of_zero_le h0
      exact gives_calls15 (hdear k X (by omega) hX)) (upTo_ints15 (N := fun _ => True) hcb (by omega) trivial).here
    have hC5H := Lib.hid hC5
    have hnb5H := Lib.hid hnb5
    have hup5H := Lib.hid hup5
    have hdearH := Lib.hid hdear
    clear hC5 hnb5 hup5 hcb hdear
    try go_simp
    go_wp2_with fail
    refine HF.mono ?_
    rintro e X6 ⟨rfl, hb6⟩
    have hC6 := hC5H.out.below hb6
    have hnb6 := keep_blk hb6 hnb5H.out
    have hup6 := keep_blk hb6 hup5H.out
    obtain ⟨k0, k1, k2, k3, -⟩ := now4 hC6.kb rfl
    have hdear6 : Hid (∀ (x : Nat) (X : World), x < c.nm.length → Below X6.heap.size X6 X → FnGives Try.prog 57 #[.pointer (some ⟨bb, 0, none⟩), .pointer (some ⟨W.heap.size + 1, 0, none⟩)] #[.int .i64 x] (.bool (dearB least MS up x)) X) := Lib.hid fun x X hx hX => hdearH.out x X hx (hb6.trans (hX.mono hb6.size))
    have hC6H := Lib.hid hC6
    have hnb6H := Lib.hid hnb6
    have hup6H := Lib.hid hup6
    clear HF hC5H hnb5H hup5H hdearH hb6 hnb6 hup6
    try go_simp
    cases hany : (upTo c.nm.length).any (dearB least MS up)
    · clear hany hdear6
      have HPt := parts15_any c.nm.length (.slice Ar c.ls.length cr) c.ls (FarS w bs sv X6) X6 hC6.cho.ls (fun x hx => hx.2.1) hC6.cho.cap (by omega) (by omega) (right_iff.1 hCH.out.right).2.2 hneH.out
      unfold mtv at HPt
      clear hC6
      go_wp2_with fail
      refine HPt.mono ?_
      rintro e X7 ⟨av, ps, rfl, hPO, hPN, hb7⟩
      have hC7 := hC6H.out.below hb7
      have hnb7 := keep_blk hb7 hnb6H.out
      have hup7 := keep_blk hb7 hup6H.out
      have hbl7 : bl < w.heap.size := hC7.st.ord.1
      have hwX7 : w.heap.size ≤ X7.heap.size := hC7.st.off.size
      have hwX6 : w.heap.size ≤ X6.heap.size := hC6H.out.st.off.size
      have hPN2 : PartsN X7 (fun x => x < X7.heap.size ∧ x ≠ bl) c.nm.length av ps := hPN.more fun x hx => by
        rcases hx with hx | hx
        · exact ⟨Nat.lt_of_lt_of_le hx.2.1 hb7.size, by have := hx.1; omega⟩
        · exact ⟨hx.2, by omega⟩
      have hpl := parts_len (low_of hCH.out.right) hCH.out.bare hPO
      obtain ⟨A, ca, rfl, -⟩ := hPN
      have hkbW : W.heap.size ≠ bl := by have := hSH.out.off.size; omega
      have hPOH := Lib.hid hPO
      have hPNH := Lib.hid hPN2
      clear HPt hC6H hnb6H hup6H hPO hPN2 k0 k1 k2 k3
      try go_simp
      by_cases h2p : 1 < ps.length
      · have hpd : (ps.length : Int) > 1 := by omega
        obtain ⟨hwp, hcp⟩ := wt_parts (low_of hCH.out.right) hCH.out.bare hPOH.out h2p
        obtain ⟨-, -, hwt, -⟩ := st_top hOH.out
        have hcho7 : ChoN X7.drew (fun x => x < X7.drew.heap.size ∧ x ≠ bl) (.slice At c.t.length ct) (.slice An c.nm.length cn) (.slice Ar c.ls.length cr) c := hC7.cho.keep (fun _ _ => rfl) (Nat.le_refl _) (fun x hx => ⟨hx.2.1, by have := hx.1; omega⟩)
        have hpn7 : PartsN X7.drew (fun x => x < X7.drew.heap.size ∧ x ≠ bl) c.nm.length (.slice A ps.length ca) ps := hPNH.out.drew15
        have HT := together15_any c (.slice At c.t.length ct) (.slice An c.nm.length cn) (.slice Ar c.ls.length cr) (.slice A ps.length ca) ps bl left X7.drew hcho7 hpn7 (fun p hp => by
          have hsub := hPOH.out.sub p hp
          have hfw := hPOH.out.few p hp
          refine ⟨right_iff.2 ⟨hn0', hn4, fun r hr => (right_iff.1 hCH.out.right).2.2 r (hsub r hr)⟩, ?_, by omega, hSVH.out _ (by have := hcp p hp; omega)⟩
          unfold bareB
          rw [List.any_eq_false]
          intro r hr e
          exact hneH.out r (hsub r hr) (List.length_eq_zero_iff.1 (of_decide_eq_true e))) (by omega) (by omega) (by omega) (by omega) hC7.st.lft (by omega) hl
        have n0 := fun W_ (h : X7.grownBy W_ (some bl)) => (now4 ((h.block W.heap.size (size_of_block hC7.kb) (fun e => hkbW (Option.some.inj e))).trans hC7.kb) rfl).1
        have n1 := fun W_ (h : X7.grownBy W_ (some bl)) => (now4 ((h.block W.heap.size (size_of_block hC7.kb) (fun e => hkbW (Option.some.inj e))).trans hC7.kb) rfl).2.1
        have n2 := fun W_ (h : X7.grownBy W_ (some bl)) => (now4 ((h.block W.heap.size (size_of_block hC7.kb) (fun e => hkbW (Option.some.inj e))).trans hC7.kb) rfl).2.2.1
        have n3 := fun W_ (h : X7.grownBy W_ (some bl)) => (now4 ((h.block W.heap.size (size_of_block hC7.kb) (fun e => hkbW (Option.some.inj e))).trans hC7.kb) rfl).2.2.2.1
        have m2 := fun W_ (h : X7.grownBy W_ (some bl)) => (now3 ((h.block bs (size_of_block hC7.st.box) (fun e => by have := Option.some.inj e; have := hC7.st.ord; omega)).trans hC7.st.box) rfl).2.2.1
        unfold chv at HT
        have hC7H := Lib.hid hC7
        clear hC7 hnb7 hup7 hwp hcp hwt hcho7 hpn7
        go_wp2
        refine wp_region_held_tail 8 (fun W_ => X7.grownBy W_ (some bl)) (by kernel_rfl) (by kernel_rfl) ⟨rfl, rfl, rfl, Nat.le_refl _, fun _ _ _ => rfl⟩ (fun hF hHeld => ?_)
        refine takeL15 (i := 0) (v := ?_) hF rfl (by kernel_rfl) (by kernel_rfl) (by kernel_rfl) (fun _ _ _ h => h) (Or.inl ⟨by rfl, ?_⟩) (by assumption) ?_
        rotate_left 1
        · intro w_ hSw
          go_simp
          try with_reducible rfl
        try simp only [Act.put, List.setIfInBounds_toArray, List.set_cons_zero, List.set_cons_succ]
        refine takeL15 (i := 1) (v := ?_) hF rfl (by kernel_rfl) (by kernel_rfl) (by kernel_rfl) (fun _ _ _ h => h) (Or.inl ⟨by rfl, ?_⟩) (by assumption) ?_
        rotate_left 1
        · intro w_ hSw
          have q_n0 := n0 w_ hSw
          have q_n1 := n1 w_ hSw
          have q_n2 := n2 w_ hSw
          have q_n3 := n3 w_ hSw
          go_simp
          try with_reducible rfl
        try simp only [Act.put, List.setIfInBounds_toArray, List.set_cons_zero, List.set_cons_succ]
        refine takeL15 (i := 2) (v := ?_) hF rfl (by kernel_rfl) (by kernel_rfl) (by kernel_rfl) (fun _ _ _ h => h) (Or.inl ⟨by rfl, ?_⟩) (by assumption) ?_
        rotate_left 1
        · intro w_ hSw
          go_simp
          try with_reducible rfl
        try simp only [Act.put, List.setIfInBounds_toArray, List.set_cons_zero, List.set_cons_succ]
        refine takeL15 (i := 3) (v := ?_) hF rfl (by kernel_rfl) (by kernel_rfl) (by kernel_rfl) (fun _ _ _ h => h) (Or.inl ⟨by rfl, ?_⟩) (by assumption) ?_
        rotate_left 1
        · intro w_ hSw
          go_simp
          try with_reducible rfl
        try simp only [Act.put, List.setIfInBounds_toArray, List.set_cons_zero, List.set_cons_succ]
        refine takeL15 (i := 4) (v := ?_) hF rfl (by kernel_rfl) (by kernel_rfl) (by kernel_rfl) (fun _ _ _ h => h) (Or.inl ⟨by rfl, ?_⟩) (by assumption) ?_
        rotate_left 1
        · intro w_ hSw
          go_simp
          try with_reducible rfl
        try simp only [Act.put, List.setIfInBounds_toArray, List.set_cons_zero, List.set_cons_succ]
        refine takeL15 (i := 5) (v := ?_) hF rfl (by kernel_rfl) (by kernel_rfl) (by kernel_rfl) (fun _ _ _ h => h) (Or.inl ⟨by rfl, ?_⟩) (by assumption) ?_
        rotate_left 1
        · intro w_ hSw
          go_simp
          try with_reducible rfl
        try simp only [Act.put, List.setIfInBounds_toArray, List.set_cons_zero, List.set_cons_succ]
        refine takeL15 (i := 6) (v := ?_) hF rfl (by kernel_rfl) (by kernel_rfl) (by kernel_rfl) (fun _ _ _ h => h) (Or.inl ⟨by rfl, ?_⟩) (by assumption) ?_
        rotate_left 1
        · intro w_ hSw
          have q_m2 := m2 w_ hSw
          go_simp
          try with_reducible rfl
        try simp only [Act.put, List.setIfInBounds_toArray, List.set_cons_zero, List.set_cons_succ]
        refine oneL15 (i := 7) (by kernel_rfl) (by kernel_rfl) rfl (fun _ hK => ?_)
        go_simp
        refine HT.mono ?_
        rintro e X8 ⟨v8, rs, l8, rfl, ho8, hrl, hT8, hl8, hle8, hle9, hg8⟩
        generalize hBB : c.t ++ rs.flatten = BB at *
        obtain ⟨A8, c8, rfl⟩ := own_form ho8
        have hS8g : X7.grownBy X8 (some bl) := ⟨hg8.os, hg8.tape, hg8.output, hg8.size, hg8.block⟩
        try go_simp
        refine hK.out _ _ (hS8g) (fun hHeld => ?_)
        clear hK
        try simp only [Act.put, List.setIfInBounds_toArray, List.set_cons_zero, List.set_cons_succ]
        refine ⟨by kernel_rfl, ?_⟩
        simp only [List.drop_succ_cons, List.drop_zero]
        have hS8 := hC7H.out.st.grownL hl8 hS8g
        have hgh : Hid (StOk L root M (if BB.length < b.length then BB else b) (zs.map (·.c)) base l8) := Lib.hid (st_part hOH.out hPOH.out h2p (by rw [← hBB]; exact hCH.out.snd _ (parts_all hPOH.out hrl hT8.sol)) (fun k hk => by rw [← hBB]; exact parts_min hPOH.out (low_of hCH.out.right) hrl hT8.min hk) hle8)
        have HK := keep15_any bs bl (.slice Ab b.length cb2) sv (.slice A8 BB.length c8) b BB X8 hS8.box ⟨_, _, rfl⟩ ⟨_, _, rfl⟩
        have ho9 := own_more ho8 (show w.heap.size ≤ _ from hwX7)
        have hS8H := Lib.hid hS8
        have ho9H := Lib.hid ho9
        clear hS8 ho8 ho9 hl8 hS8g hT8 hBB hrl HT n0 n1 n2 n3 m2 hHeld hg8 hle8 hC7H
        go_wp2_with fail
        refine HK.mono ?_
        rintro e X9 ⟨rfl, hb9, hg9⟩
        have hfin : Hid (StepR L root M base w bs bl b left X9) := Lib.hid (by
          by_cases hlt : BB.length < b.length
          · have hgo := hgh.out
            rw [if_pos hlt] at hb9 hgo
            exact ⟨_, _, BB, zs, l8, hS8H.out.keep ho9H.out hb9 hg9, hgo, hle9, by omega⟩
          · have hgo := hgh.out
            rw [if_neg hlt] at hb9 hgo
            exact ⟨_, _, b, zs, l8, hS8H.out.keep hS8H.out.best hb9 hg9, hgo, hle9, Nat.le_refl _⟩)
        clear hb9 hg9 HK hgh hS8H ho9H
        try go_simp
        go_wp2
        refine bodyPost_ret (results_none rfl _ _ _) rfl ?_
        exact ⟨rfl, hfin.out⟩
      · have hpd : ¬ (ps.length : Int) > 1 := by omega
        have hbi := hbillH.out
        have hup0 : up ≠ [] := fun e => by
          have := hbi.len
          rw [e] at this
          simp at this
          omega
        obtain ⟨k, hkl, hkx⟩ := first_min hup0
        have hkn : k < c.nm.length := by rw [← hbi.len]; exact hkl
        have hupI : IntsAt X7 X7.heap.size (.slice (some ⟨ub, 0, none⟩) c.nm.length c.nm.length) up := (cel_intsN15 (N := fun _ => True) hup7 hbi.len (by omega) (fun j x hj => by rw [List.getD_eq_getElem?_getD, hj]; rfl) trivial).here
        have HMX := fun X (h : Below X7.heap.size X7 X) => min15_any ((hupI.below h).more h.size) (by rw [hbi.len]; omega)
        have HIX := fun X (h : Below X7.heap.size X7 X) => idxI14_any (.slice (some ⟨ub, 0, none⟩) c.nm.length c.nm.length) up (Lib.minOf up) X ((hupI.below h).more h.size)
        rw [hkx] at HIX
        have b1 := fun y : After X7 => (now2 (keep_blk y.2 hnb7) rfl).2.1
        have hC7H := Lib.hid hC7
        clear hC7 hnb7 hup7 hupI hbi hup0 hkl hkx hpl
        go_wp2
        go_cut [8] from 55 (fun s8 wc => ∃ bc, s8 = .pointer (some ⟨bc, 0, none⟩) ∧ wc.heap[bc]? = some (.cells #[.int .i64 k] 3 (0, 0)) ∧ X7.heap.size ≤ bc ∧ Below X7.heap.size X7 wc)
        case first =>
          refine wp_region_held_drew (S := fun W_ => Below X7.heap.size X7 W_) rfl (Below.refl _ X7).drew (fun hHeld => ?_)
          obtain ⟨X0, hX0⟩ : ∃ X0, X0 = X7.drew := ⟨_, rfl⟩
          rw [← hX0] at hHeld ⊢
          clear hX0
          refine wpAnyH_take (i := 0) (oi := _) (v := ?_) rfl (by kernel_rfl) (by kernel_rfl) (by kernel_rfl) (fun _ _ _ h => h) (Or.inl ⟨by rfl, ?_⟩) (by assumption) ?_
          rotate_left 1
          · intro w_ hSw
            go_simp
            try with_reducible rfl
          try simp only [Act.put, List.setIfInBounds_toArray]
          refine wpAnyH_take (i := 1) (oi := _) (v := ?_) rfl (by kernel_rfl) (by kernel_rfl) (by kernel_rfl) (fun _ _ _ h => h) (Or.inl ⟨by rfl, ?_⟩) (by assumption) ?_
          rotate_left 1
          · intro w_ hSw
            have q_b1 := b1 ⟨w_, hSw⟩
            dsimp only at q_b1
            go_simp
            try with_reducible rfl
          try simp only [Act.put]
          refine wpAnyH_take (i := 2) (oi := _) (v := ?_) rfl (by kernel_rfl) (by kernel_rfl) (by kernel_rfl) (fun _ _ _ h => h) (Or.inl ⟨by rfl, ?_⟩) (by assumption) ?_
          rotate_left 1
          · intro w_ hSw
            go_simp
            try with_reducible rfl
          try simp only [Act.put]
          refine wpAnyH_take (i := 3) (oi := _) (v := ?_) rfl (by kernel_rfl) (by kernel_rfl) (by kernel_rfl) (fun _ _ _ h => h) (Or.inl ⟨by rfl, ?_⟩) (by assumption) ?_
          rotate_left 1
          · intro w_ hSw
            have q_b1 := b1 ⟨w_, hSw⟩
            dsimp only at q_b1
            go_simp
            try with_reducible rfl
          try simp only [Act.put]
          refine wpAnyH_ready (rs := [4, 6]) (by kernel_rfl) (by simp) ?_
          refine AllReadyH.cons (o := _) rfl (fun _ hK => ?_) ?_
          · go_simp
            refine (HMX X0 hHeld).mono ?_
            rintro e X1 ⟨rfl, hbr⟩
            try go_simp
            refine hK.out _ _ (hHeld.trans (hbr.mono hHeld.size)) (fun hHeld => ?_)
            clear hbr
            clear hK
            try simp only [Act.put, List.setIfInBounds_toArray, List.set_cons_zero, List.set_cons_succ]
            refine wpAnyH_ready (rs := [5, 6]) (by kernel_rfl) (by simp) ?_
            refine AllReadyH.cons (o := _) rfl (fun _ hK => ?_) ?_
            · go_simp
              refine (HIX X1 hHeld).mono ?_
              rintro e X2 ⟨rfl, hbr⟩
              try go_simp
              refine hK.out _ _ (hHeld.trans (hbr.mono hHeld.size)) (fun hHeld => ?_)
              clear hbr
              clear hK
              try simp only [Act.put, List.setIfInBounds_toArray, List.set_cons_zero, List.set_cons_succ]
              refine wpAnyH_ready (rs := [6]) (by kernel_rfl) (by simp) ?_
              refine AllReadyH.cons (o := _) rfl (fun _ hK => ?_) AllReadyH.nil
              go_simp
              have nc := heap_alloc_new X2 (.cells #[.int .i64 0] 3 (0, 0))
              have hal := hHeld.alloc hHeld.size (.cells #[.int .i64 0] 3 (0, 0))
              have lc := hHeld.size
              generalize X2.heap.size = bc at *
              generalize X2.alloc (.cells #[.int .i64 0] 3 (0, 0)) = X3 at *
              refine hK.out _ _ hal (fun hHeld => ?_)
              clear hal
              clear hK
              try simp only [Act.put, List.setIfInBounds_toArray, List.set_cons_zero, List.set_cons_succ]
              refine wpAnyH_ready (rs := [7]) (by kernel_rfl) (by simp) ?_
              refine AllReadyH.cons (o := _) rfl (fun _ hK => ?_) AllReadyH.nil
              obtain ⟨y0, yf⟩ := now1_15 nc
              go_simp
              clear y0 yf
              refine hK.out _ _ (hHeld.setCell (by show X7.heap.size ≤ bc; omega) _) (fun hHeld => ?_)
              replace nc := put1_15 (x := .int .i64 (k : Nat)) nc
              generalize X3.setCell ⟨bc, 0, none⟩ (.int .i64 (k : Nat)) = X4 at *
              clear hK
              try simp only [Act.put, List.setIfInBounds_toArray, List.set_cons_zero, List.set_cons_succ]
              refine wpAnyH_done (by kernel_rfl) ?_ _
              go_wp2_with fail
              go_meet
              exact ⟨bc, rfl, nc, by omega, hHeld⟩
            refine AllReadyH.cons (o := _) rfl (fun _ hK => ?_) AllReadyH.nil
            go_simp
            have nc := heap_alloc_new X1 (.cells #[.int .i64 0] 3 (0, 0))
            have hal := hHeld.alloc hHeld.size (.cells #[.int .i64 0] 3 (0, 0))
            have lc := hHeld.size
            generalize X1.heap.size = bc at *
            generalize X1.alloc (.cells #[.int .i64 0] 3 (0, 0)) = X2 at *
            refine hK.out _ _ hal (fun hHeld => ?_)
            clear hal
            clear hK
            try simp only [Act.put, List.setIfInBounds_toArray, List.set_cons_zero, List.set_cons_succ]
            refine wpAnyH_ready (rs := [5]) (by kernel_rfl) (by simp) ?_
            refine AllReadyH.cons (o := _) rfl (fun _ hK => ?_) AllReadyH.nil
            go_simp
            refine (HIX X2 hHeld).mono ?_
            rintro e X3 ⟨rfl, hbr⟩
            have nc_ := nc
            replace nc := keep_blk hbr nc
            clear nc_
            try go_simp
            refine hK.out _ _ (hHeld.trans (hbr.mono hHeld.size)) (fun hHeld => ?_)
            clear hbr
            clear hK
            try simp only [Act.put, List.setIfInBounds_toArray, List.set_cons_zero, List.set_cons_succ]
            refine wpAnyH_ready (rs := [7]) (by kernel_rfl) (by simp) ?_
            refine AllReadyH.cons (o := _) rfl (fun _ hK => ?_) AllReadyH.nil
            obtain ⟨y0, yf⟩ := now1_15 nc
            go_simp
            clear y0 yf
            refine hK.out _ _ (hHeld.setCell (by show X7.heap.size ≤ bc; omega) _) (fun hHeld => ?_)
            replace nc := put1_15 (x := .int .i64 (k : Nat)) nc
            generalize X3.setCell ⟨bc, 0, none⟩ (.int .i64 (k : Nat)) = X4 at *
            clear hK
            try simp only [Act.put, List.setIfInBounds_toArray, List.set_cons_zero, List.set_cons_succ]
            refine wpAnyH_done (by kernel_rfl) ?_ _
            go_wp2_with fail
            go_meet
            exact ⟨bc, rfl, nc, by omega, hHeld⟩
          refine AllReadyH.cons (o := _) rfl (fun _ hK => ?_) AllReadyH.nil
          go_simp
          have nc := heap_alloc_new X0 (.cells #[.int .i64 0] 3 (0, 0))
          have hal := hHeld.alloc hHeld.size (.cells #[.int .i64 0] 3 (0, 0))
          have lc := hHeld.size
          generalize X0.heap.size = bc at *
          generalize X0.alloc (.cells #[.int .i64 0] 3 (0, 0)) = X1 at *
          refine hK.out _ _ hal (fun hHeld => ?_)
          clear hal
          clear hK
          try simp only [Act.put, List.setIfInBounds_toArray, List.set_cons_zero, List.set_cons_succ]
          refine wpAnyH_ready (rs := [4]) (by kernel_rfl) (by simp) ?_
          refine AllReadyH.cons (o := _) rfl (fun _ hK => ?_) AllReadyH.nil
          go_simp
          refine (HMX X1 hHeld).mono ?_
          rintro e X2 ⟨rfl, hbr⟩
          have nc_ := nc
          replace nc := keep_blk hbr nc
          clear nc_
          try go_simp
          refine hK.out _ _ (hHeld.trans (hbr.mono hHeld.size)) (fun hHeld => ?_)
          clear hbr
          clear hK
          try simp only [Act.put, List.setIfInBounds_toArray, List.set_cons_zero, List.set_cons_succ]
          refine wpAnyH_ready (rs := [5]) (by kernel_rfl) (by simp) ?_
          refine AllReadyH.cons (o := _) rfl (fun _ hK => ?_) AllReadyH.nil
          go_simp
          refine (HIX X2 hHeld).mono ?_
          rintro e X3 ⟨rfl, hbr⟩
          have nc_ := nc
          replace nc := keep_blk hbr nc
          clear nc_
          try go_simp
          refine hK.out _ _ (hHeld.trans (hbr.mono hHeld.size)) (fun hHeld => ?_)
          clear hbr
          clear hK
          try simp only [Act.put, List.setIfInBounds_toArray, List.set_cons_zero, List.set_cons_succ]
          refine wpAnyH_ready (rs := [7]) (by kernel_rfl) (by simp) ?_
          refine AllReadyH.cons (o := _) rfl (fun _ hK => ?_) AllReadyH.nil
          obtain ⟨y0, yf⟩ := now1_15 nc
          go_simp
          clear y0 yf
          refine hK.out _ _ (hHeld.setCell (by show X7.heap.size ≤ bc; omega) _) (fun hHeld => ?_)
          replace nc := put1_15 (x := .int .i64 (k : Nat)) nc
          generalize X3.setCell ⟨bc, 0, none⟩ (.int .i64 (k : Nat)) = X4 at *
          clear hK
          try simp only [Act.put, List.setIfInBounds_toArray, List.set_cons_zero, List.set_cons_succ]
          refine wpAnyH_done (by kernel_rfl) ?_ _
          go_wp2_with fail
          go_meet
          exact ⟨bc, rfl, nc, by omega, hHeld⟩
        case rest =>
          rename World => wB
          obtain ⟨bc, rfl, nc, hbc, hbB⟩ := hcut
          clear HMX HIX b1
          have hC8 := hC7H.out.below hbB
          have hsX7 : W.heap.size < X7.heap.size := size_of_block hC7H.out.kb
          have hbsW := size_of_block hSH.out.box
          have hsvW : ∀ x, W.heap.size ≤ x → sv.ownBlock ≠ some x := fun x hx e => by have := (hSH.out.stk.lt x e).2; omega
          obtain ⟨k0, k1, k2, k3, -⟩ := now4 hC8.kb rfl
          have hlow8 : ChoN wB (fun x => x < wB.heap.size) (.slice At c.t.length ct) (.slice An c.nm.length cn) (.slice Ar c.ls.length cr) c := hC8.cho.keep (fun _ _ => rfl) (Nat.le_refl _) (fun x hx => hx.2.1)
          have HW := without15_any c (.slice At c.t.length ct) (.slice An c.nm.length cn) (.slice Ar c.ls.length cr) (fun y => y == (k : Int)) 62 #[.pointer (some ⟨bc, 0, none⟩)] wB hlow8 hCH.out.right (by omega) hneH.out (by omega) (fun _ _ => by kernel_rfl) (fun x X hx hX => cheap15_any X bc k x (keep_blk hX nc))
          unfold chv at HW
          have hC8H := Lib.hid hC8
          have ncH := Lib.hid nc
          clear hC8 nc hlow8 hbB hC7H
          go_wp2_with fail
          refine HW.mono ?_
          rintro e Y1 ⟨rv1, rfl, hc1, hb1⟩
          have hC9 := hC8H.out.below hb1
          have nc1 := keep_blk hb1 ncH.out
          obtain ⟨A1, c1, rfl, -, -⟩ := hc1.ls
          have hwl : (woC c fun y => y == (k : Int)).ls.length = c.ls.length := List.length_map _
          have HA := add15_any w Y1 bs bl (.slice Ab b.length cb2) sv (.slice At c.t.length ct) (.slice An c.nm.length cn) _ b zs (left : Nat) (woC c fun y => y == (k : Int)) hC9.st hc1 (wo_right hCH.out.right) (by rw [hwl]; show c.t.length + _ ≤ _; omega) (by omega)
          unfold chv at HA
          rw [show (woC c fun y => y == (k : Int)).nm = c.nm from rfl] at HA
          have hgh : Hid (∀ b2 zs2 b3 zs3, b2 = addBs b (woC c fun y => y == (k : Int)) → zs2 = addSk (zs.map (·.c)) (woC c fun y => y == (k : Int)) → b3 = addBs b2 (wiC c k) → zs3 = addSk zs2 (wiC c k) → StOk L root M b3 zs3 base left ∧ b3.length ≤ b.length) := Lib.hid fun b2 zs2 b3 zs3 h1 h2 h3 h4 => by
            rw [h3, h4, h1, h2]
            exact ⟨st_two hOH.out hkn, Nat.le_trans (addBs_le _ _) (addBs_le _ _)⟩
          have hC9H := Lib.hid hC9
          have ncH := Lib.hid nc1
          clear hc1 hb1 hC9 nc1 HW k0 k1 k2 k3 hC8H hwl
          generalize (woC c fun y => y == (k : Int)) = wc at *
          try go_simp
          go_wp2_with fail
          refine HA.mono ?_
          rintro e Y2 ⟨bv2, sv2, zs2, rfl, hS2, hz2, hf2⟩
          have hC9 := hC9H.out
          have hkb2 := (hf2.2 W.heap.size (size_of_block hC9.kb) (by omega) (hsvW _ (Nat.le_refl _))).trans hC9.kb
          have hnc2 := (hf2.2 bc (size_of_block ncH.out) (by omega) (hsvW _ (by omega))).trans ncH.out
          have hlow2 := cho_frs15 hC9.cho hf2
          have hz2l : zs2.length ≤ zs.length + 1 := by
            have h1 := congrArg List.length hz2
            have h2 := addSk_len (zs.map (·.c)) wc
            rw [List.length_map] at h1 h2
            omega
          obtain ⟨k0, k1, k2, k3, -⟩ := now4 hkb2 rfl
          obtain ⟨l0, -⟩ := now1_15 hnc2
          have HI := with15_any c (.slice At c.t.length ct) (.slice An c.nm.length cn) (.slice Ar c.ls.length cr) k Y2 hlow2 (by omega)
          unfold chv at HI
          have hS2H := Lib.hid hS2
          have hz2H := Lib.hid hz2
          clear hC9 hC9H ncH hkb2 hnc2 hlow2 hf2 hS2 hz2 HA
          try go_simp
          go_wp2_with fail
          refine HI.mono ?_
          rintro e Y3 ⟨rv3, rfl, hc3, hb3⟩
          obtain ⟨A3, c3, rfl, -, -⟩ := hc3.ls
          have hwl : (wiC c k).ls.length = c.ls.length + 1 := by unfold wiC; rw [List.length_append]; rfl
          have HA2 := add15_any w Y3 bs bl bv2 sv2 (.slice At c.t.length ct) (.slice An c.nm.length cn) _ (addBs b wc) zs2 (left : Nat) (wiC c k) (hS2H.out.below hb3) hc3 (wi_right hCH.out.right hkn) (by rw [hwl]; show c.t.length + _ ≤ _; omega) (by omega)
          unfold chv at HA2
          rw [show (wiC c k).nm = c.nm from rfl] at HA2
          clear hc3 hb3 hwl HI k0 k1 k2 k3 l0 hS2H
          generalize wiC c k = wi at *
          try go_simp
          go_wp2_with fail
          refine HA2.mono ?_
          rintro e Y4 ⟨bv4, sv4, zs4, rfl, hS4, hz4, hf4⟩
          obtain ⟨g1, g2⟩ := hgh.out _ _ _ _ rfl hz2H.out rfl hz4
          have hfin : Hid (StepR L root M base w bs bl b left Y4) := Lib.hid ⟨bv4, sv4, _, zs4, left, hS4, g1, Nat.le_refl _, g2⟩
          clear g1 g2 hgh hS4 hz4 hf4 HA2
          try go_simp
          go_wp2
          go_end0
          exact ⟨rfl, hfin.out⟩
    · have hex : ∃ x : Nat, x < c.nm.length ∧ dearB least MS up x = true := by
        rw [List.any_eq_true] at hany
        obtain ⟨x, hx, hd⟩ := hany
        obtain ⟨h0, h1⟩ := upTo_mem.1 hx
        obtain ⟨k, rfl⟩ := Int.eq_ofNat_of_zero_le h0
        exact ⟨k, by omega, hd⟩
      have hexH := Lib.hid hex
      have hlow : ChoN X6 (fun x => x < X6.heap.size) (.slice At c.t.length ct) (.slice An c.nm.length cn) (.slice Ar c.ls.length cr) c := hC6.cho.keep (fun _ _ => rfl) (Nat.le_refl _) (fun x hx => hx.2.1)
      have HW := without15_any c (.slice At c.t.length ct) (.slice An c.nm.length cn) (.slice Ar c.ls.length cr) (dearB least MS up) 57 #[.pointer (some ⟨bb, 0, none⟩), .pointer (some ⟨W.heap.size + 1, 0, none⟩)] X6 hlow hCH.out.right (by omega) hneH.out (by omega) (fun _ _ => by kernel_rfl) hdear6.out
      unfold chv at HW
      clear hany hdear6 hlow hex hC6
      go_wp2_with fail
      refine HW.mono ?_
      rintro e X7 ⟨rv7, rfl, hc7, hb7⟩
      have hS7 := hC6H.out.st.below hb7
      obtain ⟨A7, c7, rfl, -, -⟩ := hc7.ls
      have hwl : (woC c (dearB least MS up)).ls.length = c.ls.length := List.length_map _
      have HA := add15_any w X7 bs bl (.slice Ab b.length cb2) sv (.slice At c.t.length ct) (.slice An c.nm.length cn) _ b zs (left : Nat) (woC c (dearB least MS up)) hS7 hc7 (wo_right hCH.out.right) (by rw [hwl]; show c.t.length + _ ≤ _; omega) (by omega)
      unfold chv at HA
      rw [show (woC c (dearB least MS up)).nm = c.nm from rfl] at HA
      have hgh : Hid (∀ b2 zs2, b2 = addBs b (woC c (dearB least MS up)) → zs2 = addSk (zs.map (·.c)) (woC c (dearB least MS up)) → StOk L root M b2 zs2 base left ∧ b2.length ≤ b.length) := Lib.hid fun b2 zs2 h1 h2 => by
        rw [h1, h2]
        obtain ⟨x, hx, hd⟩ := hexH.out
        exact ⟨st_dear hOH.out hx hd fun k hk hh => by
          rw [hMSH.out]
          exact dear_hop hbillH.out (low_of hCH.out.right) hk hh, addBs_le _ _⟩
      clear hc7 hb7 hS7 HW k0 k1 k2 k3 hC6H hwl hexH
      generalize woC c (dearB least MS up) = wc at *
      try go_simp
      go_wp2_with fail
      refine HA.mono ?_
      rintro e X8 ⟨bv8, sv8, zs8, rfl, hS8, hz8, hf8⟩
      obtain ⟨g1, g2⟩ := hgh.out _ _ rfl hz8
      have hfin : Hid (StepR L root M base w bs bl b left X8) := Lib.hid ⟨bv8, sv8, _, zs8, left, hS8, g1, Nat.le_refl _, g2⟩
      clear g1 g2 hgh
      clear hS8 hz8 hf8 HA
      try go_simp
      go_wp2
      refine bodyPost_ret (results_none rfl _ _ _) rfl ?_
      exact ⟨rfl, hfin.out⟩
end Go.Proofs.Ytcbhcclickjpnaa
