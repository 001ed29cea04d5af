/- Package search: parts. -/
import Derived.Test.YtcbhcclickjpnaaGK30
namespace Go.Proofs.Ytcbhcclickjpnaa
open Go.RowKit Go.Joins

theorem mat_pairs15 {w : World} {N : Nat → Prop} {V : Value} {ls : List (List Int)} (h : MatN w N V ls) (hcap : CapM w V) : ∃ P : List RV, P.map (·.1) = ls ∧ (∀ z, z ∈ P → IntsN w N z.2 z.1 ∧ ∃ A n' c', z.2 = .slice A n' c' ∧ n' ≤ c') ∧
    ∃ A c, V = .slice A ls.length c ∧ (0 < ls.length → ∃ b off, A = some ⟨b, off, none⟩ ∧ N b ∧ b < w.heap.size ∧ ∀ (j : Nat) (z : RV), P[j]? = some z → w.cell? ⟨b, off + j, none⟩ = some z.2) := by
  obtain ⟨A, c, rfl, hl, hc⟩ := h
  by_cases h0 : 0 < ls.length
  · obtain ⟨b, off, rfl, hb, hcc⟩ := hc h0
    obtain ⟨-, hcp⟩ := hcap _ _ _ rfl
    obtain ⟨b', off', e', hbs, hcp⟩ := hcp h0
    injection e' with e'
    injection e' with e1 e2
    subst e1
    subst e2
    have each : ∀ j, j < ls.length → ∃ u, w.cell? ⟨b, off + j, none⟩ = some u ∧ IntsN w N u (ls.getD j []) ∧ ∃ A' n' c', u = .slice A' n' c' ∧ n' ≤ c' := by
      intro j hj
      obtain ⟨ov, z, hi⟩ := hcc j _ (List.getElem?_eq_getElem hj)
      obtain ⟨A', n', c', z2, hle⟩ := hcp j hj
      refine ⟨ov, z, by rw [List.getD_eq_getElem?_getD, List.getElem?_eq_getElem hj]; exact hi, A', n', c', ?_, hle⟩
      rw [z] at z2
      injection z2
    obtain ⟨F, hF⟩ := Go.Deep.choose_lt each
    refine ⟨(List.range ls.length).map fun j => (ls.getD j [], F j), ?_, fun z hz => ?_, _, _, rfl, fun _ => ⟨b, off, rfl, hb, hbs, fun j z hj => ?_⟩⟩
    · rw [List.map_map]
      refine List.ext_getElem (by simp) fun j h1 h2 => ?_
      rw [List.getElem_map, List.getElem_range]
      show ls.getD j [] = _
      rw [List.getD_eq_getElem?_getD, List.getElem?_eq_getElem h2]; rfl
    · obtain ⟨j, hj, rfl⟩ := List.mem_map.1 hz
      exact (hF j (List.mem_range.1 hj)).2
    · obtain ⟨h3, h4⟩ := List.getElem?_eq_some_iff.1 hj
      rw [← h4, List.getElem_map, List.getElem_range]
      exact (hF j (by simpa using h3)).1
  · have e : ls = [] := List.length_eq_zero_iff.1 (by omega)
    subst e
    exact ⟨[], rfl, fun z hz => absurd hz List.not_mem_nil, A, c, rfl, fun h => absurd h h0⟩
/-- Rows that were met have one end. -/
def ConR (ρ : Nat → Nat) (r : List Int) (k : Nat) : Prop := ∀ x, x ∈ r.take k → ρ x.toNat = ρ (r.getD 0 0).toNat
theorem ConR.join {ρ : Nat → Nat} {r : List Int} {k : Nat} (h : ConR ρ r k) (a b : Nat) : ConR (fun y => if ρ y = a then b else ρ y) r k := fun x hx => by
  show (if _ then _ else _) = if _ then _ else _
  rw [h x hx]
theorem ConR.step {ρ : Nat → Nat} {r : List Int} {j : Nat} {x : Int} (h : ConR ρ r j) (hx : r[j]? = some x) (e : ρ x.toNat = ρ (r.getD 0 0).toNat) : ConR ρ r (j + 1) := fun y hy => by
  rw [List.take_add_one, hx] at hy
  rcases List.mem_append.1 hy with h1 | h1
  · exact h y h1
  · rw [List.mem_singleton.1 (show y ∈ [x] from h1)]; exact e
/-- What the leads are, in memory. -/
structure LdW (w1 W : World) (n bl : Nat) (L ρ d : Nat → Nat) : Prop where
  ok : Lds n L ρ d
  mem : W.heap[bl]? = some (ldsO n L)
  off : w1.grownBy W (some bl)
theorem LdW.below {w1 W W' : World} {n bl : Nat} {L ρ d : Nat → Nat} (h : LdW w1 W n bl L ρ d) (hb : Below W.heap.size W W') : LdW w1 W' n bl L ρ d :=
  ⟨h.ok, keep_blk hb h.mem, grown_trans15 h.off hb⟩
theorem LdW.grown {w1 W W' : World} {n bl : Nat} {L L' ρ d : Nat → Nat} (h : LdW w1 W n bl L ρ d) (hL : Lds n L' ρ d) (ha : W'.heap[bl]? = some (ldsO n L')) (hg : W.grownBy W' (some bl)) : LdW w1 W' n bl L' ρ d :=
  ⟨hL, ha, ⟨hg.os.trans h.off.os, hg.tape.trans h.off.tape, hg.output.trans h.off.output, Nat.le_trans h.off.size hg.size, fun b hl hne => (hg.block b (Nat.lt_of_lt_of_le hl h.off.size) hne).trans (h.off.block b hl hne)⟩⟩
theorem LdW.join {w1 W : World} {n bl a b : Nat} {L ρ d : Nat → Nat} (h : LdW w1 W n bl L ρ d) (ha : a < n) (hb : b < n) (ea : L a = a) (eb : L b = b) :
    LdW w1 (W.setCell ⟨bl, a, none⟩ (.int .i64 b)) n bl (updN L a b) (fun y => if ρ y = a then b else ρ y) (fun y => if ρ y = a then d y + d b + 1 else d y) :=
  ⟨h.ok.join ha hb ea eb, lds_set h.mem, grown_set h.off⟩
theorem two_new15 {w : World} {x y : Value} {T : TypeId} (j : Nat) (u : Value) (hj : [x, y][j]? = some u) : (w.alloc (.cells #[x, y] T (0, 0))).cell? ((⟨w.heap.size, 0, none⟩ : Addr).add j) = some u := by
  match j, hj with
  | 0, hj => rw [Addr.add_lit, cell_of_block (heap_alloc_new _ _)]; exact hj
  | 1, hj => rw [Addr.add_lit, cell_of_block (heap_alloc_new _ _)]; exact hj
theorem Try.infoMat15 : (Try.prog.info? 24).map (fun i => (i.zero, i.size, i.bytes)) = some (some (.agg #[.int .i64 0, .slice none 0 0]), 2, 32) := by kernel_rfl
/-- The memory of parts while it tells the groups. -/
structure PaS (w : World) (gb bl bx mm B n : Nat) (om : Obj) (ρ d : Nat → Nat) (AV : Value) (K : List Nat) (Us : List Value) (Gs : List (List RV)) (W : World) : Prop where
  ld : ∃ L, Lds n L ρ d ∧ W.heap[bl]? = some (ldsO n L)
  map : PlcM W mm K K.length
  gr : GrM W B n AV Us Gs
  box : W.heap[bx]? = some (.cells #[.slice (some ⟨bl, 0, none⟩) n n] 30 (0, 0))
  mat : W.heap[gb]? = some om
  bel : Below gb w W
  ord : gb < bl ∧ bl < bx ∧ bx < mm ∧ mm < B ∧ B ≤ W.heap.size
theorem PaS.below {w W W' : World} {gb bl bx mm B n : Nat} {om : Obj} {ρ d : Nat → Nat} {AV : Value} {K : List Nat} {Us : List Value} {Gs : List (List RV)} (h : PaS w gb bl bx mm B n om ρ d AV K Us Gs W) (hb : Below W.heap.size W W') : PaS w gb bl bx mm B n om ρ d AV K Us Gs W' := by
  obtain ⟨L, h1, h2⟩ := h.ld
  have ho := h.ord
  exact ⟨⟨L, h1, keep_blk hb h2⟩, h.map.below hb, h.gr.keep fun b _ hl => hb.block b hl, keep_blk hb h.box, keep_blk hb h.mat, h.bel.trans (hb.mono (by omega)), by have := hb.size; omega⟩
theorem PaS.lead {w W W' : World} {gb bl bx mm B n : Nat} {L' : Nat → Nat} {om : Obj} {ρ d : Nat → Nat} {AV : Value} {K : List Nat} {Us : List Value} {Gs : List (List RV)} (h : PaS w gb bl bx mm B n om ρ d AV K Us Gs W) (hL : Lds n L' ρ d) (hl : W'.heap[bl]? = some (ldsO n L')) (hg : W.grownBy W' (some bl)) : PaS w gb bl bx mm B n om ρ d AV K Us Gs W' := by
  have ho := h.ord
  have hk : ∀ b, b ≠ bl → b < W.heap.size → W'.heap[b]? = W.heap[b]? := fun b h1 h2 => hg.block b h2 fun e => h1 (Option.some.inj e)
  exact ⟨⟨L', hL, hl⟩, h.map.keep (hk _ (by omega) (by omega)), h.gr.keep fun b hB hlb => hk b (by omega) hlb, (hk _ (by omega) (by omega)).trans h.box, (hk _ (by omega) (by omega)).trans h.mat, below_of_grown hg h.bel (by omega) (by omega), by have := hg.size; omega⟩
theorem turned_blk15 {w w' : World} {b k : Nat} (h : w.mapTurned w' b) (hk : k ≠ b) : w'.heap[k]? = w.heap[k]? := by
  obtain ⟨es, clock, es', clock', hb, rfl⟩ := h
  exact Go.ChangeMaps.heap_setBlock_other hb _ hk
theorem PaS.turned {w W W' : World} {gb bl bx mm B n : Nat} {om : Obj} {ρ d : Nat → Nat} {AV : Value} {K K' : List Nat} {Us : List Value} {Gs : List (List RV)} (h : PaS w gb bl bx mm B n om ρ d AV K Us Gs W) (hm : PlcM W' mm K' K'.length) (ht : W.mapTurned W' mm) : PaS w gb bl bx mm B n om ρ d AV K' Us Gs W' := by
  have ho := h.ord
  obtain ⟨L, h1, h2⟩ := h.ld
  have hk : ∀ b, b ≠ mm → W'.heap[b]? = W.heap[b]? := fun b hb => turned_blk15 ht hb
  exact ⟨⟨L, h1, (hk _ (by omega)).trans h2⟩, hm, h.gr.keep fun b hB _ => hk b (by omega), (hk _ (by omega)).trans h.box, (hk _ (by omega)).trans h.mat, below_of_grown ht.grown h.bel (by omega) (by omega), by have := ht.grown.size; omega⟩
theorem PaS.others {w W W' : World} {gb bl bx mm B n : Nat} {om : Obj} {ρ d : Nat → Nat} {AV AV' : Value} {K : List Nat} {Us Us' : List Value} {Gs Gs' : List (List RV)} (h : PaS w gb bl bx mm B n om ρ d AV K Us Gs W) (hG : GrM W' B n AV' Us' Gs') (hb : Below B W W') : PaS w gb bl bx mm B n om ρ d AV' K Us' Gs' W' := by
  have ho := h.ord
  obtain ⟨L, h1, h2⟩ := h.ld
  have hk : ∀ b, b < B → W'.heap[b]? = W.heap[b]? := fun b h => hb.block b h
  exact ⟨⟨L, h1, (hk _ (by omega)).trans h2⟩, h.map.keep (hk _ (by omega)), hG, (hk _ (by omega)).trans h.box, (hk _ (by omega)).trans h.mat, h.bel.trans (hb.mono (by omega)), by have := hb.size; omega⟩
set_option maxHeartbeats 8000000 in
set_option maxRecDepth 100000 in
theorem parts15_any (n : Nat) (V : Value) (ls : List (List Int)) (N : Nat → Prop) (w : World) (hV : MatN w N V ls) (hN : ∀ b, N b → b < w.heap.size) (hcap : CapM w V) (hn : n ≤ 4000) (hls : ls.length ≤ 4000) (hr : ∀ r, r ∈ ls → risL n r) (hne : ∀ r, r ∈ ls → r ≠ []) :
    Calls Try.prog 59 #[mtv n V] w fun e w' => ∃ v ps, e = .returned v ∧ PartsOk ls ps ∧ PartsN w' (fun b => N b ∨ w.heap.size ≤ b ∧ b < w'.heap.size) n v ps ∧ Below w.heap.size w w' := by
  obtain ⟨P, hPl, hPz, A, c, rfl, hPc⟩ := mat_pairs15 hV hcap
  have hPn : P.length = ls.length := by rw [← hPl, List.length_map]
  have hB0 := below_alloc1 w (mtb n (.slice A ls.length c))
  have hbu : (w.alloc (mtb n (.slice A ls.length c))).heap[w.heap.size]? = some (mtb n (.slice A ls.length c)) := heap_alloc_new _ _
  have hs0 : (w.alloc (mtb n (.slice A ls.length c))).heap.size = w.heap.size + 1 := World.size_alloc _ _
  have HC := counted15_any n hn (w.alloc (mtb n (.slice A ls.length c)))
  have hrow : Hid (∀ z, z ∈ P → risL n z.1 ∧ z.1 ≠ []) := Lib.hid fun z hz => by
    have hm : z.1 ∈ ls := by rw [← hPl]; exact List.mem_map.2 ⟨z, hz, rfl⟩
    exact ⟨hr _ hm, hne _ hm⟩
  have hPH := Lib.hid (And.intro hPl (And.intro hPz hPc))
  obtain ⟨m0, m1, -⟩ := now2 hbu rfl
  clear hV hcap hr hne hPl hPz hPc
  unfold mtv
  unfold mtb at *
  generalize ls.length = m at *
  go_enter Try.func59, Try.ntmps59
  go_wp2_with fail
  refine HC.mono ?_
  rintro e W1 ⟨bl, rfl, hbl, hl1, hb1⟩
  rw [hs0] at hbl
  have hmb := keep_blk hb1 hbu
  have hbB := hB0.trans (hb1.mono hB0.size)
  have hS1 := hb1.size
  have hmbA := keep_alloc (x := .cells #[.slice (some ⟨bl, 0, none⟩) n n] 30 (0, 0)) hmb
  have hlA := keep_alloc (x := .cells #[.slice (some ⟨bl, 0, none⟩) n n] 30 (0, 0)) hl1
  have hxA := heap_alloc_new W1 (.cells #[.slice (some ⟨bl, 0, none⟩) n n] 30 (0, 0))
  have hBA := hbB.alloc hbB.size (.cells #[.slice (some ⟨bl, 0, none⟩) n n] 30 (0, 0))
  obtain ⟨m0, m1, -⟩ := now2 hmbA rfl
  have hbx : bl < W1.heap.size := size_of_block hl1
  have hszA : (W1.alloc (.cells #[.slice (some ⟨bl, 0, none⟩) n n] 30 (0, 0))).heap.size = W1.heap.size + 1 := World.size_alloc _ _
  clear hmb hl1 hb1 HC hbu hB0
  try go_simp
  go_wp2
  clear m0 m1 hbB hS1 hs0
  generalize W1.alloc _ = w2 at *
  generalize W1.heap.size = bx at *
  clear W1
  have hlA : w2.heap[bl]? = some (ldsO n fun x => x) := hlA
  have hstart : LdW w2 w2 n bl (fun x => x) (fun x => x) fun _ => 0 := ⟨Lds.start n, hlA, ⟨rfl, rfl, rfl, Nat.le_refl _, fun _ _ _ => rfl⟩⟩
  obtain ⟨gb, hgb⟩ : ∃ gb, gb = w.heap.size := ⟨_, rfl⟩
  rw [← hgb] at hbl hmbA hBA ⊢
  have hgbH := Lib.hid hgb
  have hord : gb < bl ∧ bl < bx ∧ bx < w2.heap.size := by omega
  have hBH := Lib.hid (And.intro hBA (And.intro hmbA hxA))
  have hNH := Lib.hid hN
  clear hgb hszA hlA hBA hmbA hxA hN
  go_loopw [6, 8, 22] (fun _ _ t wr => ∃ (k : Nat) (L ρ d : Nat → Nat), k ≤ m ∧ t = .int .i64 k ∧ LdW w2 wr n bl L ρ d ∧ Hid (∀ z, z ∈ P.take k → ConR ρ z.1 z.1.length)) (fun _ _ t _ => m - (intOf t).toNat)
  case atStart => exact ⟨0, _, _, _, by omega, rfl, hstart, Lib.hid (by simp)⟩
  case round =>
    clear hstart
    obtain ⟨k, L, ρ, d, hk, rfl, hL, hcon⟩ := hrel
    by_cases hlt : k < m
    · obtain ⟨b, off, rfl, hNb, hbs, hcc⟩ := hPH.out.2.2 (by omega)
      obtain ⟨z, hz⟩ : ∃ z, P[k]? = some z := ⟨_, List.getElem?_eq_getElem (by omega)⟩
      have hzm := List.mem_of_getElem? hz
      obtain ⟨hris, hzne⟩ := hrow.out z hzm
      obtain ⟨hzi, -⟩ := hPH.out.2.1 z hzm
      have z0 := hcc k z hz
      obtain ⟨r, zv⟩ := z
      dsimp only at hzi hris hzne z0
      obtain ⟨Ar, cr, rfl, hrl, hrc⟩ := hzi
      have hr0 : 0 < r.length := List.length_pos_iff.2 hzne
      obtain ⟨br, offr, rfl, hNr, hcr⟩ := hrc hr0
      have hgbe := hgbH.out
      have hBk := below_of_grown hL.off hBH.out.1 (by omega) (by omega)
      rw [hgbe] at hBk
      have z1 := (hBk.cell (p := ⟨b, off + k, none⟩) hbs).trans z0
      have hrcH := Lib.hid hcr
      have hrl4 : r.length ≤ 4000 := by
        rcases ris_len hris with h | h
        · omega
        · rw [h]; decide
      have hbrs := hNH.out _ hNr
      have hrisH := Lib.hid hris.1
      have hzH := Lib.hid hz
      have k0 : (0 : Int) ≤ (k : Int) := by omega
      have k1 : (k : Int) < (m : Int) := by omega
      clear hris hzne hcc z0 hrl hrc hcr hNb hbs hNr hgbe hBk hzm hz
      go_wp2
      go_loopw [8, 28] (fun _ t wi => ∃ (j : Nat) (L ρ d : Nat → Nat), j ≤ r.length ∧ t = .int .i64 j ∧ LdW w2 wi n bl L ρ d ∧ Hid ((∀ z, z ∈ P.take k → ConR ρ z.1 z.1.length) ∧ ConR ρ r j)) (fun _ t _ => r.length - (intOf t).toNat)
      case atStart => exact ⟨0, L, ρ, d, by omega, rfl, hL, Lib.hid ⟨hcon.out, fun x hx => by simp at hx⟩⟩
      case round =>
        clear hL hcon
        obtain ⟨j, L, ρ, d, hj, rfl, hL, hcon⟩ := hrel
        by_cases hlt2 : j < r.length
        · obtain ⟨x, hx⟩ : ∃ x, r[j]? = some x := ⟨_, List.getElem?_eq_getElem hlt2⟩
          obtain ⟨h, hh⟩ : ∃ h, r[0]? = some h := ⟨_, List.getElem?_eq_getElem hr0⟩
          obtain ⟨x0, x1⟩ := hrisH.out x (List.mem_of_getElem? hx)
          obtain ⟨h0, h1⟩ := hrisH.out h (List.mem_of_getElem? hh)
          obtain ⟨y, rfl⟩ := Int.eq_ofNat_of_zero_le x0
          obtain ⟨t, rfl⟩ := Int.eq_ofNat_of_zero_le h0
          have hgbe := hgbH.out
          have hBk := below_of_grown hL.off hBH.out.1 (by omega) (by omega)
          rw [hgbe] at hBk
          have d0 := (hBk.cell (p := ⟨br, offr + j, none⟩) hbrs).trans (hrcH.out j _ hx)
          have r0 := (hBk.cell (p := ⟨br, offr, none⟩) hbrs).trans (hrcH.out 0 _ hh)
          have hsz := hL.off.size
          have hwx : wr.heap[bx]? = some (.cells #[.slice (some ⟨bl, 0, none⟩) n n] 30 (0, 0)) := (hL.off.block bx (by omega) (fun e => by have := Option.some.inj e; omega)).trans hBH.out.2.2
          have hbw := hBk.size
          have nx := fun W_ (hS : wr.grownBy W_ (some bl)) => (now1_15 ((hS.block bx (by omega) (fun e => by have := Option.some.inj e; omega)).trans hwx)).1
          have nr := fun W_ (hS : wr.grownBy W_ (some bl)) => (World.cell?_of_block (w := wr) (w' := W_) (a := ⟨br, offr, none⟩) (hS.block br (by omega) (fun e => by have := Option.some.inj e; omega))).trans r0
          have nrH := Lib.hid nr
          have hxr : ∀ W_, wr.grownBy W_ (some bl) → W_.heap[bx]? = some (.cells #[.slice (some ⟨bl, 0, none⟩) n n] 30 (0, 0)) := fun W_ hS => (hS.block bx (by omega) (fun e => by have := Option.some.inj e; omega)).trans hwx
          have hxH := Lib.hid hxr
          have hg0 : wr.grownBy wr.drew (some bl) := ⟨rfl, rfl, rfl, Nat.le_refl _, fun _ _ _ => rfl⟩
          have HL := lead15_any n bx bl y L ρ d wr.drew (hxr _ hg0) hL.mem hL.ok (by omega) hn
          have HL2 := fun (X : World) (L2 : Nat → Nat) (hS : wr.grownBy X (some bl)) (hl : X.heap[bl]? = some (ldsO n L2)) (hU : Lds n L2 ρ d) => lead15_any n bx bl t L2 ρ d X (hxH.out X hS) hl hU (by omega) hn
          have hLH := Lib.hid hL
          have hyn : y < n := by omega
          have htn : t < n := by omega
          have hρy : ρ y < n := hL.ok.rlt y hyn
          have hρt : ρ t < n := hL.ok.rlt t (by omega)
          have j0 : (0 : Int) ≤ (j : Int) := by omega
          have j1 : (j : Int) < (r.length : Int) := by omega
          have q0 : (0 : Int) ≤ ((ρ y : Nat) : Int) := by omega
          have q1 : ((ρ y : Nat) : Int) < (n : Int) := by omega
          have s1 : (0 : Int) < (r.length : Int) := by omega
          have hfit := Lib.hid (And.intro hx hh)
          clear hx hh x0 x1 h0 h1 hgbe hBk r0 hxr hL hwx hbw hsz nr hg0
          go_wp2
          refine wp_region_held_tail 9 (fun W_ => wr.grownBy W_ (some bl)) (by kernel_rfl) (by kernel_rfl) ⟨rfl, rfl, rfl, Nat.le_refl _, fun _ _ _ => rfl⟩ (fun hF hHeld => ?_)
          refine takeL15 (i := 0) (v := ?_) hF rfl (by kernel_rfl) (by kernel_rfl) (by kernel_rfl) (fun _ _ _ h => h) (Or.inl ⟨by rfl, ?_⟩) (by assumption) ?_
          rotate_left 1
          · intro w_ hSw
            have q_nx := nx w_ hSw
            go_simp
            try with_reducible rfl
          try simp only [Act.put, List.setIfInBounds_toArray, List.set_cons_zero, List.set_cons_succ]
          refine takeL15 (i := 1) (v := ?_) hF rfl (by kernel_rfl) (by kernel_rfl) (by kernel_rfl) (fun _ _ _ h => h) (Or.inl ⟨by rfl, ?_⟩) (by assumption) ?_
          rotate_left 1
          · intro w_ hSw
            go_simp
            try with_reducible rfl
          try simp only [Act.put, List.setIfInBounds_toArray, List.set_cons_zero, List.set_cons_succ]
          refine takeL15 (i := 2) (v := ?_) hF rfl (by kernel_rfl) (by kernel_rfl) (by kernel_rfl) (fun _ _ _ h => h) (Or.inl ⟨by rfl, ?_⟩) (by assumption) ?_
          rotate_left 1
          · intro w_ hSw
            go_simp
            try with_reducible rfl
          try simp only [Act.put, List.setIfInBounds_toArray, List.set_cons_zero, List.set_cons_succ]
          refine takeL15 (i := 4) (v := ?_) hF rfl (by kernel_rfl) (by kernel_rfl) (by kernel_rfl) (fun _ _ _ h => h) (Or.inl ⟨by rfl, ?_⟩) (by assumption) ?_
          rotate_left 1
          · intro w_ hSw
            go_simp
            try with_reducible rfl
          try simp only [Act.put, List.setIfInBounds_toArray, List.set_cons_zero, List.set_cons_succ]
          refine takeL15 (i := 5) (v := ?_) hF rfl (by kernel_rfl) (by kernel_rfl) (by kernel_rfl) (fun _ _ _ h => h) (Or.inl ⟨by rfl, ?_⟩) (by assumption) ?_
          rotate_left 1
          · intro w_ hSw
            go_simp
            try with_reducible rfl
          try simp only [Act.put, List.setIfInBounds_toArray, List.set_cons_zero, List.set_cons_succ]
          refine takeL15 (i := 6) (v := ?_) hF rfl (by kernel_rfl) (by kernel_rfl) (by kernel_rfl) (fun _ _ _ h => h) (Or.inl ⟨by rfl, ?_⟩) (by assumption) ?_
          rotate_left 1
          · intro w_ hSw
            go_simp
            try with_reducible rfl
          try simp only [Act.put, List.setIfInBounds_toArray, List.set_cons_zero, List.set_cons_succ]
          have nr := nrH.out
          refine takeL15 (i := 7) (v := ?_) hF rfl (by kernel_rfl) (by kernel_rfl) (by kernel_rfl) (fun _ _ _ h => h) (Or.inl ⟨by rfl, ?_⟩) (by assumption) ?_
          rotate_left 1
          · intro w_ hSw
            have q_nr := nr w_ hSw
            go_simp
            try with_reducible rfl
          try simp only [Act.put, List.setIfInBounds_toArray, List.set_cons_zero, List.set_cons_succ]
          refine oneL15 (i := 3) (by kernel_rfl) (by kernel_rfl) rfl (fun _ hK => ?_)
          go_simp
          refine HL.mono ?_
          rintro e X3 ⟨L3, rfl, hU3, hl3, hg3, hfx3⟩
          have hS3 : wr.grownBy X3 (some bl) := ⟨hg3.os, hg3.tape, hg3.output, hg3.size, hg3.block⟩
          try go_simp
          refine hK.out _ _ (hS3) (fun hHeld => ?_)
          clear hK
          try simp only [Act.put, List.setIfInBounds_toArray, List.set_cons_zero, List.set_cons_succ]
          refine oneL15 (i := 8) (by kernel_rfl) (by kernel_rfl) rfl (fun _ hK => ?_)
          go_simp
          refine (HL2 X3 L3 hS3 hl3 hU3).mono ?_
          rintro e X8 ⟨L8, rfl, hU8, hl8, hg8, hfx8⟩
          have hS8 : wr.grownBy X8 (some bl) := ⟨hg8.os.trans hS3.os, hg8.tape.trans hS3.tape, hg8.output.trans hS3.output, Nat.le_trans hS3.size hg8.size, fun b hl hne => (hg8.block b (Nat.lt_of_lt_of_le hl hS3.size) hne).trans (hS3.block b hl hne)⟩
          try go_simp
          refine hK.out _ _ (hS8) (fun hHeld => ?_)
          clear hK
          try simp only [Act.put, List.setIfInBounds_toArray, List.set_cons_zero, List.set_cons_succ]
          refine ⟨by kernel_rfl, ?_⟩
          simp only [List.drop_succ_cons, List.drop_zero]
          have hU8 := hU8
          have hL8 : LdW w2 X8 n bl L8 ρ d := hLH.out.grown hU8 hl8 hS8
          have hJ := hL8.join hρy hρt (hU8.fix y hyn) (hU8.fix t htn)
          have hcon2 : Hid ((∀ z, z ∈ P.take k → ConR (fun v => if ρ v = ρ y then ρ t else ρ v) z.1 z.1.length) ∧ ConR (fun v => if ρ v = ρ y then ρ t else ρ v) r (j + 1)) := Lib.hid ⟨fun z hz => (hcon.out.1 z hz).join _ _, ((hcon.out.2).join _ _).step hfit.out.1 (by
            have e0 : r.getD 0 0 = (t : Int) := by rw [List.getD_eq_getElem?_getD, hfit.out.2]; rfl
            rw [e0]
            show (if ρ y = ρ y then ρ t else ρ y) = if ρ t = ρ y then ρ t else ρ t
            rw [if_pos rfl]; split <;> rfl)⟩
          obtain ⟨y8, f8⟩ := cel_cell hl8 hρy
          clear hL8 hU8 hl8 hS8 hLH hcon hfit HL HL2 nx nrH hxH
          go_wp2
          go_roundw
          case rel => exact ⟨j + 1, _, _, _, by omega, by go_num, hJ, hcon2⟩
          case measure => simp [intOf]; omega
        · have e : j = r.length := by omega
          have hjd : ¬ (j : Int) < (r.length : Int) := by omega
          have hcon2 : Hid (∀ z, z ∈ P.take (k + 1) → ConR ρ z.1 z.1.length) := Lib.hid fun z hz => by
            rw [List.take_add_one, hzH.out] at hz
            rcases List.mem_append.1 hz with h1 | h1
            · exact hcon.out.1 z h1
            · rw [List.mem_singleton.1 (show z ∈ [(r, _)] from h1), ← e]
              exact hcon.out.2
          clear e hcon
          go_wp2
          go_roundw
          case rel => exact ⟨k + 1, L, ρ, d, by omega, by go_num, hL, hcon2⟩
          case measure => simp [intOf]; omega
    · have e : k = m := by omega
      have hkd : ¬ (k : Int) < (m : Int) := by omega
      have hconP : Hid (∀ z, z ∈ P → ∀ x, x ∈ z.1 → ρ x.toNat = keyR ρ z) := Lib.hid fun z hz x hx => by
        have := hcon.out z (by rw [e, ← hPn, List.take_length]; exact hz)
        exact this x (by rw [List.take_length]; exact hx)
      have hgbe := hgbH.out
      have hBk := below_of_grown hL.off hBH.out.1 (by omega) (by omega)
      have hsz := hL.off.size
      have hwx : wr.heap[bx]? = some (.cells #[.slice (some ⟨bl, 0, none⟩) n n] 30 (0, 0)) := (hL.off.block bx (by omega) (fun e => by have := Option.some.inj e; omega)).trans hBH.out.2.2
      have hwm : wr.heap[gb]? = _ := (hL.off.block gb (by omega) (fun e => by have := Option.some.inj e; omega)).trans hBH.out.2.1
      have hP0 : PaS w gb bl bx wr.heap.size (wr.heap.size + 1) n (.cells #[.int .i64 n, .slice A m c] 24 (0, 0)) ρ d (.slice none 0 0) [] [] [] (wr.alloc (.map #[] 0)) :=
        ⟨⟨L, hL.ok, keep_alloc hL.mem⟩, PlcM.made wr, GrM.nil _ _ _, keep_alloc hwx, keep_alloc hwm, hBk.alloc (by omega) _, by have := World.size_alloc wr (.map #[] 0); omega⟩
      have hwmA := keep_alloc (x := .map #[] 0) hwm
      obtain ⟨m0, m1, -⟩ := now2 hwmA rfl
      have hmm := @run_makeMap Try.prog
      clear e hcon hL hBk hsz hwx hwm hgbe hwmA hBH
      go_wp2
      clear hmm
      generalize wr.heap.size = mm at *
      generalize wr.alloc _ = w3 at *
      clear m0 m1
      go_loopw [9, 12, 13, 14, 48] (fun s9 _ _ _ t wr => ∃ (j : Nat) (AV : Value) (K : List Nat) (Us : List Value), j ≤ m ∧ t = .int .i64 j ∧ s9 = AV ∧ KeysI ρ (P.take j) K ∧ K.length ≤ j ∧
        PaS w gb bl bx mm (mm + 1) n (.cells #[.int .i64 n, .slice A m c] 24 (0, 0)) ρ d AV K Us (grpsZ ρ (P.take j) K) wr) (fun _ _ _ _ t _ => m - (intOf t).toNat)
      case atStart => exact ⟨0, _, [], [], by omega, rfl, rfl, KeysI.nil ρ, Nat.le_refl _, hP0⟩
      case round =>
        clear hP0
        obtain ⟨j, AV, K, Us, hj, rfl, hs9, hK, hKj, hP⟩ := hrel
        subst hs9
        obtain ⟨AA, cA, eA⟩ := own_form hP.gr.own
        rw [show (grpsZ ρ (P.take j) K).length = K.length from List.length_map _] at eA
        subst eA
        by_cases hlt : j < m
        · obtain ⟨b, off, rfl, hNb, hbs, hcc⟩ := hPH.out.2.2 (by omega)
          obtain ⟨z, hz⟩ : ∃ z, P[j]? = some z := ⟨_, List.getElem?_eq_getElem (by omega)⟩
          have hzm := List.mem_of_getElem? hz
          obtain ⟨hris, hzne⟩ := hrow.out z hzm
          obtain ⟨hzi, -⟩ := hPH.out.2.1 z hzm
          have z0 := hcc j z hz
          have hzH := Lib.hid hz
          obtain ⟨r, zv⟩ := z
          dsimp only at hzi hris hzne z0
          obtain ⟨Ar, cr, rfl, hrl, hrc⟩ := hzi
          have hr0 : 0 < r.length := List.length_pos_iff.2 hzne
          obtain ⟨br, offr, rfl, hNr, hcr⟩ := hrc hr0
          obtain ⟨h, hh⟩ : ∃ h, r[0]? = some h := ⟨_, List.getElem?_eq_getElem hr0⟩
          obtain ⟨h0, h1⟩ := hris.1 h (List.mem_of_getElem? hh)
          obtain ⟨t, rfl⟩ := Int.eq_ofNat_of_zero_le h0
          have htn : t < n := by omega
          have hgbe := hgbH.out
          have z1 := (hP.bel.cell (p := ⟨b, off + j, none⟩) (by show b < gb; omega)).trans z0
          have hbrs := hNH.out _ hNr
          have rB : ∀ W, Below gb w W → W.cell? ⟨br, offr, none⟩ = some (.int .i64 t) := fun W hW => (hW.cell (p := ⟨br, offr, none⟩) (by show br < gb; omega)).trans (hcr 0 _ hh)
          have rBH := Lib.hid rB
          have r0 := rB _ hP.bel
          have hkey : Hid (∀ zz : Value, keyR ρ (r, zz) = ρ t) := Lib.hid fun zz => by
            unfold keyR
            show ρ (r.getD 0 0).toNat = _
            rw [List.getD_eq_getElem?_getD, hh]; rfl
          obtain ⟨L1, hU0, hl0⟩ := hP.ld
          have HL := lead15_any n bx bl t L1 ρ d wr hP.box hl0 hU0 htn hn
          have hρt : ρ t < n := hU0.rlt t htn
          have k0 : (0 : Int) ≤ (j : Int) := by omega
          have k1 : (j : Int) < (m : Int) := by omega
          have s1 : (0 : Int) < (r.length : Int) := by omega
          have hPP := Lib.hid hP
          have hKK := Lib.hid hK
          clear hP hK hris hzne hcc z0 hrl hrc hcr hNb hNr hgbe hzm hz hh h0 h1 hU0 hl0 rB
          go_wp2_with fail
          refine HL.mono ?_
          rintro e X ⟨L2, rfl, hU2, hl2, hg2, -⟩
          have hP1 := hPP.out.lead hU2 hl2 hg2
          obtain ⟨cc, bb, hrun, hbt, hbf⟩ := hP1.map.look (k := ρ t) (by omega)
          have HL := lead15_any n bx bl t L2 ρ d X hP1.box hl2 hU2 htn hn
          have r1 := rBH.out _ hP1.bel
          have hPP := Lib.hid hP1
          have hbtH := Lib.hid hbt
          have hbfH := Lib.hid hbf
          clear hU2 hl2 hg2 hP1 hbt hbf r0 z1
          try go_simp
          go_upto_if 63 with (fail)
          go_cut [9, 13] from 64 to 91 (fun s9 s13 wc => ∃ (AV2 : Value) (K2 : List Nat) (Us2 : List Value) (i : Nat), s9 = AV2 ∧ s13 = .int .i64 i ∧ K2[i]? = some (ρ t) ∧ KeysI ρ (P.take (j + 1)) K2 ∧ K2.length ≤ j + 1 ∧
            PaS w gb bl bx mm (mm + 1) n (.cells #[.int .i64 n, .slice (some ⟨b, off, none⟩) m c] 24 (0, 0)) ρ d AV2 K2 Us2 (grpsZ ρ (P.take j) K2) wc)
          case first =>
            cases bb
            · have hnew := hbfH.out rfl
              have hP1 := hPP.out
              obtain ⟨i0, hi0, hz0, hz1, hz2⟩ := info_parts Try.infoMat15
              have hrunH := Lib.hid hrun
              clear hrun hbtH hbfH
              go_wp2_with fail
              refine HL.mono ?_
              rintro e X2 ⟨L3, rfl, hU3, hl3, hg3, -⟩
              have hP2 := hP1.lead hU3 hl3 hg3
              clear HL hP1 hPP hU3 hl3 hg3 r1
              try go_simp
              go_wp2_with (at_mapUpdate; refine wpList_store_plc _ rfl _ _ _ rfl mm K K.length (ρ t) rfl rfl rfl hP2.map (by omega) (by omega) hnew (by omega) ?_)
              intro X3 hm3 ht3
              have hP3 := hP2.turned (K' := K ++ [ρ t]) (by rw [List.length_append]; exact hm3) ht3
              obtain ⟨m0, m1, -⟩ := now2 hP3.mat rfl
              have hord3 := hP3.ord
              have hPa := hP3.below (below_alloc1 X3 (.cells #[.int .i64 n, .slice none 0 0] 24 (0, 0)))
              have hoa := hPa.gr.own
              have hgl : (grpsZ ρ (P.take j) K).length = K.length := List.length_map _
              rw [hgl] at hoa
              clear hP2 hP3 hm3 ht3
              go_wp2_with (at_builtin; go_loud (refine wpList_append_own_at _ rfl _ _ 80 rfl (mm + 1) 24 i0 (.agg #[.int .i64 0, .slice none 0 0]) 2 32 Try.underlying80 hi0 hz0 hz1 hz2 rfl (by decide) _ _ _ rfl hoa ⟨X3.heap.size, 0, none⟩ 1 1 [.int .i64 n, .slice none 0 0] rfl rfl two_new15 (fun u hu => by simp at hu; rcases hu with rfl | rfl <;> rfl) ?c3 ?c4 ?c5 ?_))
              case c3 => unfold maxLen; omega
              case c4 => omega
              case c5 => first | omega | (simp; omega)
              intro v8 w8 ho8 hg8 _ _
              have hb8 : Below (mm + 1) (X3.alloc (.cells #[.int .i64 n, .slice none 0 0] 24 (0, 0))) w8 := grown_below hoa hg8 (Below.refl _ _) (Nat.le_refl _) (by simp; omega)
              rw [← hgl] at ho8
              have hG8 := hPa.gr.more ho8 hg8
              have hP8 := hPa.others hG8 hb8
              rw [← grps_new hKK.out hnew] at hP8
              obtain ⟨A8, c8, rfl⟩ := own_form ho8
              have hK8 := hKK.out.new hzH.out (by rw [hkey.out]; exact hnew)
              rw [hkey.out] at hK8
              have hfin : Hid (∃ (K2 : List Nat) (Us2 : List Value), K2[K.length]? = some (ρ t) ∧ KeysI ρ (P.take (j + 1)) K2 ∧ K2.length ≤ j + 1 ∧
                PaS w gb bl bx mm (mm + 1) n (.cells #[.int .i64 n, .slice (some ⟨b, off, none⟩) m c] 24 (0, 0)) ρ d (.slice A8 ((grpsZ ρ (P.take j) K).length + 1) c8) K2 Us2 (grpsZ ρ (P.take j) K2) w8) :=
                Lib.hid ⟨K ++ [ρ t], _, by simp, hK8, by rw [List.length_append]; show K.length + 1 ≤ _; omega, hP8⟩
              clear hG8 hP8 hK8 hPa hoa ho8 hg8 hb8 m0 m1
              go_wp2
              go_meet
              obtain ⟨K2, Us2, f1, f2, f3, f4⟩ := hfin.out
              exact ⟨_, K2, Us2, K.length, rfl, rfl, f1, f2, f3, f4⟩
            · obtain ⟨i, hi, hci⟩ := hbtH.out rfl
              have hK8 := hKK.out.old hzH.out (by rw [hkey.out]; exact List.mem_of_getElem? hi)
              have hci2 := Lib.hid hci
              have hiH := Lib.hid hi
              clear hi hci HL hbtH hbfH r1
              go_wp2
              go_meet
              exact ⟨_, K, Us, i, rfl, by rw [← hci2.out], hiH.out, hK8, by omega, hPP.out⟩
          case rest =>
            rename World => wB
            obtain ⟨AV2, K2, Us2, i, hs9, rfl, hi, hK2, hKj2, hP2⟩ := hcut
            subst hs9
            clear HL hbtH hbfH r1 hrun hPP hKK
            have hgl : (grpsZ ρ (P.take j) K2).length = K2.length := List.length_map _
            have hik := (List.getElem?_eq_some_iff.1 hi).1
            obtain ⟨ba, ca, eA⟩ := own_some15 hP2.gr.own (by omega)
            rw [hgl] at eA
            subst eA
            have hG : (grpsZ ρ (P.take j) K2)[i]? = some (grpZ ρ (P.take j) (ρ t)) := by unfold grpsZ; rw [List.getElem?_map, hi]; rfl
            obtain ⟨U, hU⟩ : ∃ U, Us2[i]? = some U := ⟨_, List.getElem?_eq_getElem (by rw [hP2.gr.len, hgl]; exact hik)⟩
            have hg4 : (grpZ ρ (P.take j) (ρ t)).length ≤ 4000 := by
              have h1 := List.length_filter_le (fun z => keyR ρ z == ρ t) (P.take j)
              rw [List.length_take] at h1
              show (List.filter _ _).length ≤ _
              omega
            have hstep : Hid (grpsZ ρ (P.take (j + 1)) K2 = (grpsZ ρ (P.take j) K2).set i (grpZ ρ (P.take j) (ρ t) ++ [(r, .slice (some ⟨br, offr, none⟩) r.length cr)])) := Lib.hid (by
              have := grps_step hK2.nodup hzH.out (by rw [hkey.out]; exact hi)
              rwa [hkey.out] at this)
            have hKs := Lib.hid hK2
            clear hzH hkey hK2 hi
            generalize grpZ ρ (P.take j) (ρ t) = g at *
            generalize hGs : grpsZ ρ (P.take j) K2 = Gs at *
            clear hGs
            have hfl := flat2_get n Us2 i U hU
            have hflen := flat2_len n Us2
            have hUl := hP2.gr.len
            have hownA := hP2.gr.own
            rw [hgl] at hownA
            have c0 := (hownA.cellAt (i * 2) (by omega)).trans hfl.1
            have c1 := (hownA.cellAt (i * 2 + 1) (by omega)).trans hfl.2
            have hoU := hP2.gr.each i U g hU hG
            obtain ⟨AU, cU, rfl⟩ := own_form hoU
            obtain ⟨j0, hj0, jz0, jz1, jz2⟩ := info_parts Try.infoInts
            have hPa := hP2.below (below_alloc1 wB (.cells #[.slice (some ⟨br, offr, none⟩) r.length cr] 30 (0, 0)))
            have hoUa := hoU.alloc (.cells #[.slice (some ⟨br, offr, none⟩) r.length cr] 30 (0, 0))
            have hord2 := hP2.ord
            have i0 : (0 : Int) ≤ (i : Int) := by omega
            have i1 : (i : Int) < (K2.length : Int) := by omega
            clear hP2 hoU hfl
            go_wp2_with (at_builtin; go_loud (refine wpList_append_own_at _ rfl _ _ 22 rfl (mm + 1) 30 j0 (.slice none 0 0) 1 24 Try.underlying22 hj0 jz0 jz1 jz2 rfl (by decide) _ _ _ rfl hoUa ⟨wB.heap.size, 0, none⟩ 1 1 [.slice (some ⟨br, offr, none⟩) r.length cr] rfl rfl one_new13 (fun u hu => by rw [List.mem_singleton.1 hu]; rfl) ?c3 ?c4 ?c5 ?_))
            case c3 => unfold maxLen; omega
            case c4 => omega
            case c5 => first | omega | (simp; omega)
            intro v8 w8 ho8 hg8 hz8 hloc
            clear hz8
            have hnew : ∀ q, v8.ownBlock = some q → (Value.slice AU g.length cU).ownBlock = some q ∨ (wB.alloc (.cells #[.slice (some ⟨br, offr, none⟩) r.length cr] 30 (0, 0))).heap.size ≤ q := fun q hq => by
              rcases hloc with h | h
              · exact .inl (h ▸ hq)
              · rw [h] at hq
                exact .inr (by rw [← Option.some.inj hq]; simp)
            have hGa := hPa.gr
            rw [← hgl] at hGa
            have hG9 := hGa.push (z := (r, .slice (some ⟨br, offr, none⟩) r.length cr)) hU hG ho8 hg8 hnew
            have hown8 := own_kept15 hGa.own hoUa (by decide) hg8
            rw [hgl] at hG9 hown8
            have hba := (hown8.lt ba rfl).1
            have hb8 : Below (mm + 1) (wB.alloc (.cells #[.slice (some ⟨br, offr, none⟩) r.length cr] 30 (0, 0))) w8 := grown_below hoUa hg8 (Below.refl _ _) (Nat.le_refl _) (by simp; omega)
            have hP9 := hPa.others hG9 (hb8.setCell (p := ⟨ba, i * 2 + 1, none⟩) hba _)
            rw [← hstep.out] at hP9
            have e1 := (hown8.cellAt (i * 2 + 1) (by omega)).trans (flat2_get n Us2 i _ hU).2
            have ef := hown8.frozenAt (i * 2 + 1)
            have hP9 := Lib.hid hP9
            obtain ⟨A8, c8, rfl⟩ := own_form ho8
            clear hG9 hown8 hba hb8 hGa hnew hloc ho8 hg8 hPa hoUa c0 c1 hownA
            go_wp2
            go_roundw
            case rel => exact ⟨j + 1, _, K2, _, by omega, by go_num, rfl, hKs.out, hKj2, hP9.out⟩
            case measure => simp [intOf]; omega
        · have e : j = m := by omega
          have hjd : ¬ (j : Int) < (m : Int) := by omega
          have hB := hP.bel
          have hG := hP.gr
          rw [e, ← hPn, List.take_length] at hG hK
          have hfin := parts_of15 hK hconP.out
          rw [hPH.out.1] at hfin
          have hord2 := hP.ord
          have hpa := hG.parts (N := N) (N' := fun b => N b ∨ gb ≤ b ∧ b < wr.heap.size) (w := w) (fun g hg => by
              obtain ⟨k, -, rfl⟩ := List.mem_map.1 hg
              refine ⟨?_, fun z hz => hPH.out.2.1 z (List.mem_filter.1 hz).1⟩
              have := List.length_filter_le (fun z => keyR ρ z == k) P
              show (List.filter _ P).length ≤ 4000
              omega) (fun b hb => hB.block b (by have := hNH.out b hb; have := hgbH.out; omega)) (fun b hb => .inl hb) (fun b h1 h2 => .inr ⟨by omega, h2⟩)
          clear e
          go_wp2
          go_ret
          have hpa2 : PartsN wr (fun b => N b ∨ w.heap.size ≤ b ∧ b < wr.heap.size) n (.slice AA K.length cA) ((grpsZ ρ P K).map fun g => g.map (·.1)) := by rw [← hgbH.out]; exact hpa
          exact ⟨_, rfl, _, hfin, hpa2, by rw [← hgbH.out]; exact hB⟩
end Go.Proofs.Ytcbhcclickjpnaa
