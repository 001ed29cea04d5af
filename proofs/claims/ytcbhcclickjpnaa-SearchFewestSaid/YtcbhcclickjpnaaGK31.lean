/- Package search: what is kept. Package search: add. -/
import Derived.Test.YtcbhcclickjpnaaGKxPqPar15
namespace Go.Proofs.Ytcbhcclickjpnaa
open Go.RowKit Go.Joins

set_option maxRecDepth 100000 in
theorem keep15_any (bs bl : Nat) (bv sv lv : Value) (b l : List Int) (w : World) (hb : w.heap[bs]? = some (.cells #[bv, sv, .pointer (some ⟨bl, 0, none⟩)] 68 (0, 0))) (hbv : ∃ A c, bv = .slice A b.length c) (hlv : ∃ A c, lv = .slice A l.length c) :
    Calls Try.prog 55 #[.pointer (some ⟨bs, 0, none⟩), lv] w fun e w' => e = .returned (.tuple #[]) ∧ w'.heap[bs]? = some (.cells #[if l.length < b.length then lv else bv, sv, .pointer (some ⟨bl, 0, none⟩)] 68 (0, 0)) ∧ w.grownBy w' (some bs) := by
  obtain ⟨Ab, cb2, rfl⟩ := hbv
  obtain ⟨Al, cl2, rfl⟩ := hlv
  obtain ⟨n0, n1, n2, nf⟩ := now3 hb rfl
  by_cases hlt : l.length < b.length
  · have hd : (l.length : Int) < (b.length : Int) := by omega
    rw [if_pos hlt]
    clear hlt
    go_enter Try.func55, Try.ntmps55
    go_wp2
    go_end0
    exact ⟨rfl, block_setCell hb _, grown_set14 _ _ _ _⟩
  · have hd : ¬ (l.length : Int) < (b.length : Int) := by omega
    rw [if_neg hlt]
    clear hlt
    go_enter Try.func55, Try.ntmps55
    go_wp2
    go_end0
    exact ⟨rfl, hb, ⟨rfl, rfl, rfl, Nat.le_refl _, fun _ _ _ => rfl⟩⟩
structure Itm where
  tv : Value
  nv : Value
  rv : Value
  c : Cho
def itV (z : Itm) : List Value := [z.tv, z.nv, .int .i64 z.c.nm.length, z.rv]
/-- Blocks that neither the state's box nor the stack is in. -/
def FarS (w : World) (bs : Nat) (sv : Value) (W : World) (x : Nat) : Prop := w.heap.size ≤ x ∧ x < W.heap.size ∧ x ≠ bs ∧ sv.ownBlock ≠ some x
/-- The state of a search in memory. -/
structure StM (w : World) (bs bl : Nat) (bv sv : Value) (b : List Int) (zs : List Itm) (left : Int) (W : World) : Prop where
  box : W.heap[bs]? = some (.cells #[bv, sv, .pointer (some ⟨bl, 0, none⟩)] 68 (0, 0))
  lft : W.heap[bl]? = some (.cells #[.int .i64 left] 3 (0, 0))
  best : W.ownsRow w.heap.size 3 1 bv b.length (intI b)
  stk : W.ownsRow w.heap.size 55 4 sv zs.length (zs.flatMap itV)
  each : ∀ z, z ∈ zs → ChoN W (FarS w bs sv W) z.tv z.nv z.rv z.c
  off : w.grownBy W (some bl)
  ord : bl < w.heap.size ∧ w.heap.size ≤ bs
theorem FarS.more {w W W' : World} {bs x : Nat} {sv : Value} (h : FarS w bs sv W x) (hs : W.heap.size ≤ W'.heap.size) : FarS w bs sv W' x := ⟨h.1, Nat.lt_of_lt_of_le h.2.1 hs, h.2.2⟩
theorem StM.below {w W W' : World} {bs bl : Nat} {bv sv : Value} {b : List Int} {zs : List Itm} {left : Int} (h : StM w bs bl bv sv b zs left W) (hb : Below W.heap.size W W') : StM w bs bl bv sv b zs left W' :=
  ⟨keep_blk hb h.box, keep_blk hb h.lft, owns_below h.best hb, owns_below h.stk hb, fun z hz => (h.each z hz).keep (fun x hx => hb.block x hx.2.1) hb.size fun _ hx => hx.more hb.size, grown_trans15 h.off hb, h.ord⟩
/-- What is kept. -/
theorem StM.keep {w W W' : World} {bs bl : Nat} {bv sv lv : Value} {b l : List Int} {zs : List Itm} {left : Int} (h : StM w bs bl bv sv b zs left W) (hl : W.ownsRow w.heap.size 3 1 lv l.length (intI l))
    (hb : W'.heap[bs]? = some (.cells #[lv, sv, .pointer (some ⟨bl, 0, none⟩)] 68 (0, 0))) (hg : W.grownBy W' (some bs)) : StM w bs bl lv sv l zs left W' := by
  have hne : bs ≠ bl := by have := h.ord; omega
  have hbl := size_of_block h.lft
  have hnb : ∀ {e : TypeId} {s n : Nat} {v : Value} {xs : List Value}, W.ownsRow w.heap.size e s v n xs → e ≠ 68 → W'.ownsRow w.heap.size e s v n xs := fun ho he => own_keep ho fun g hv _ h2 => hg.block g h2 fun e2 => by
    exact own_ne ho h.box he (hv.trans e2)
  exact ⟨hb, (hg.block bl hbl fun e => hne (Option.some.inj e).symm).trans h.lft, hnb hl (by decide), hnb h.stk (by decide), fun z hz => (h.each z hz).keep (fun x hx => hg.block x hx.2.1 fun e => hx.2.2.1 (Option.some.inj e)) hg.size fun _ hx => hx.more hg.size,
    ⟨hg.os.trans h.off.os, hg.tape.trans h.off.tape, hg.output.trans h.off.output, Nat.le_trans h.off.size hg.size, fun x hx hxb => (hg.block x (Nat.lt_of_lt_of_le hx h.off.size) (fun e => by have := Option.some.inj e; have := h.ord; omega)).trans (h.off.block x hx hxb)⟩, h.ord⟩
theorem flat4_len15 (zs : List Itm) : (zs.flatMap itV).length = zs.length * 4 := by
  induction zs with
  | nil => rfl
  | cons z zs ih => simp only [List.flatMap_cons, List.length_append, ih, List.length_cons, itV, List.length_nil]; omega
/-- A choice more on the stack. -/
theorem StM.push {w W W1 W' : World} {bs bl : Nat} {bv sv sv' tv nv rv : Value} {b : List Int} {zs : List Itm} {c : Cho} {left : Int} (h : StM w bs bl bv sv b zs left W) (hc : ChoN W (FarS w bs sv W) tv nv rv c)
    (ho : W1.ownsRow w.heap.size 55 4 sv' (zs.length + 1) (zs.flatMap itV ++ [tv, nv, .int .i64 c.nm.length, rv])) (hg : W.grownBy W1 sv.ownBlock) (hnew : sv'.ownBlock = sv.ownBlock ∨ sv'.ownBlock = some W.heap.size)
    (hW : W' = W1.setCell ⟨bs, 1, none⟩ sv') : StM w bs bl bv sv' b (zs ++ [⟨tv, nv, rv, c⟩]) left W' := by
  subst hW
  have hord := h.ord
  have hbs := size_of_block h.box
  have hbl := size_of_block h.lft
  have hnb : sv.ownBlock ≠ some bs := own_ne h.stk h.box (by decide)
  have hb1 : W1.heap[bs]? = _ := (hg.block bs hbs hnb.symm).trans h.box
  have hnl : sv.ownBlock ≠ some bl := fun e => by have := (h.stk.lt bl e).1; omega
  have hl1 : W1.heap[bl]? = _ := (hg.block bl hbl hnl.symm).trans h.lft
  have hbest1 : W1.ownsRow w.heap.size 3 1 bv b.length (intI b) := own_kept15 h.best h.stk (by decide) hg
  have hsz : (W1.setCell ⟨bs, 1, none⟩ sv').heap.size = W1.heap.size := by simp [World.setCell]
  have hkc : ∀ z : Itm, ChoN W (FarS w bs sv W) z.tv z.nv z.rv z.c → ChoN (W1.setCell ⟨bs, 1, none⟩ sv') (FarS w bs sv' (W1.setCell ⟨bs, 1, none⟩ sv')) z.tv z.nv z.rv z.c := fun z hz =>
    hz.keep (fun x hx => (Below.heap_setCell _ _ _ _ hx.2.2.1).trans (hg.block x hx.2.1 (Ne.symm hx.2.2.2))) (by rw [hsz]; exact hg.size) fun x hx => ⟨hx.1, by rw [hsz]; exact Nat.lt_of_lt_of_le hx.2.1 hg.size, hx.2.2.1, fun e => by
      rcases hnew with h1 | h1
      · exact hx.2.2.2 (h1 ▸ e)
      · rw [h1] at e
        have := Option.some.inj e
        have := hx.2.1
        omega⟩
  refine ⟨block_setCell hb1 _, cel_other hl1 (by omega), own_set hbest1 (own_ne hbest1 hb1 (by decide)) _ _, ?_, fun z hz => ?_, ?_, hord⟩
  · have e : ((zs ++ [⟨tv, nv, rv, c⟩] : List Itm).flatMap itV) = zs.flatMap itV ++ [tv, nv, .int .i64 c.nm.length, rv] := by rw [List.flatMap_append]; rfl
    rw [e, List.length_append]
    exact own_set ho (own_ne ho hb1 (by decide)) _ _
  · rcases List.mem_append.1 hz with hz | hz
    · exact hkc z (h.each z hz)
    · rw [List.mem_singleton.1 hz]
      exact hkc ⟨tv, nv, rv, c⟩ hc
  · have h1 : w.grownBy W1 (some bl) := ⟨hg.os.trans h.off.os, hg.tape.trans h.off.tape, hg.output.trans h.off.output, Nat.le_trans h.off.size hg.size, fun x hx hxb => (hg.block x (Nat.lt_of_lt_of_le hx h.off.size) (fun e => by have := (h.stk.lt x e.symm).1; omega)).trans (h.off.block x hx hxb)⟩
    exact ⟨h1.os, h1.tape, h1.output, by rw [hsz]; exact h1.size, fun x hx hxb => (Below.heap_setCell _ _ _ _ (by show x ≠ bs; omega)).trans (h1.block x hx hxb)⟩
/-- The last choice is taken off the stack. -/
theorem StM.pop {w W W' : World} {bs bl g cap : Nat} {bv : Value} {b : List Int} {zs : List Itm} {z : Itm} {left : Int} (h : StM w bs bl bv (.slice (some ⟨g, 0, none⟩) (zs.length + 1) cap) b (zs ++ [z]) left W)
    (hW : W' = W.setCell ⟨bs, 1, none⟩ (.slice (some ⟨g, 0, none⟩) zs.length cap)) : StM w bs bl bv (.slice (some ⟨g, 0, none⟩) zs.length cap) b zs left W' ∧ ChoN W' (FarS w bs (.slice (some ⟨g, 0, none⟩) zs.length cap) W') z.tv z.nv z.rv z.c := by
  subst hW
  have hord := h.ord
  have hsz : (W.setCell ⟨bs, 1, none⟩ (.slice (some ⟨g, 0, none⟩) zs.length cap)).heap.size = W.heap.size := by simp [World.setCell]
  have hkc : ∀ y : Itm, y ∈ zs ++ [z] → ChoN (W.setCell ⟨bs, 1, none⟩ (.slice (some ⟨g, 0, none⟩) zs.length cap)) (FarS w bs (.slice (some ⟨g, 0, none⟩) zs.length cap) (W.setCell ⟨bs, 1, none⟩ (.slice (some ⟨g, 0, none⟩) zs.length cap))) y.tv y.nv y.rv y.c := fun y hy =>
    (h.each y hy).keep (fun x hx => Below.heap_setCell _ _ _ _ hx.2.2.1) (by rw [hsz]; exact Nat.le_refl _) fun x hx => ⟨hx.1, by rw [hsz]; exact hx.2.1, hx.2.2.1, hx.2.2.2⟩
  refine ⟨⟨block_setCell h.box _, cel_other h.lft (by omega), own_set h.best (own_ne h.best h.box (by decide)) _ _, ?_, fun y hy => hkc y (List.mem_append_left _ hy), ?_, hord⟩, hkc z (List.mem_append_right _ (by simp))⟩
  · have h1 : W.ownsRow w.heap.size 55 4 (.slice (some ⟨g, 0, none⟩) zs.length cap) zs.length (zs.flatMap itV) := by
      rcases h.stk.2 with ⟨e, -⟩ | ⟨g', cap', cur, e, hb, hgg, h1, h2, h3, h4⟩
      · cases e
      · injection e with e1 e2 e3
        injection e1 with e1
        injection e1 with e1
        subst e1
        subst e3
        refine ⟨flat4_len15 zs, .inr ⟨g, cap, cur, rfl, hb, hgg, by rw [List.length_append] at h1; omega, h2, h3, ?_⟩⟩
        have h5 := congrArg (List.take (zs.length * 4)) h4
        rw [List.take_take, List.length_append, Nat.min_eq_left (by show _ ≤ (zs.length + 1) * 4; omega)] at h5
        rw [h5, List.flatMap_append, List.take_append_of_le_length (by rw [flat4_len15]; exact Nat.le_refl _)]
        exact List.take_of_length_le (by rw [flat4_len15]; exact Nat.le_refl _)
    exact own_set h1 (fun e => own_ne h.stk h.box (by decide) e) _ _
  · exact ⟨h.off.os, h.off.tape, h.off.output, by rw [hsz]; exact h.off.size, fun x hx hxb => (Below.heap_setCell _ _ _ _ (by show x ≠ bs; omega)).trans (h.off.block x hx hxb)⟩
/-- The steps that are left are told anew. -/
theorem StM.left {w W : World} {bs bl : Nat} {bv sv : Value} {b : List Int} {zs : List Itm} {left : Int} (h : StM w bs bl bv sv b zs left W) (u : Int) : StM w bs bl bv sv b zs u (W.setCell ⟨bl, 0, none⟩ (.int .i64 u)) := by
  have hord := h.ord
  have hsz : (W.setCell ⟨bl, 0, none⟩ (.int .i64 u)).heap.size = W.heap.size := by simp [World.setCell]
  have hnb : ∀ {e : TypeId} {s n : Nat} {v : Value} {xs : List Value}, W.ownsRow w.heap.size e s v n xs → v.ownBlock ≠ some bl := fun ho e => by have := (ho.lt bl e).1; omega
  exact ⟨cel_other h.box (by omega), put1_15 h.lft, own_set h.best (hnb h.best) _ _, own_set h.stk (hnb h.stk) _ _, fun z hz => (h.each z hz).keep (fun x hx => Below.heap_setCell _ _ _ _ (by show x ≠ bl; have := hx.1; omega)) (by rw [hsz]; exact Nat.le_refl _) fun x hx => ⟨hx.1, by rw [hsz]; exact hx.2.1, hx.2.2⟩, grown_set h.off, h.ord⟩
end Go.Proofs.Ytcbhcclickjpnaa
namespace Go.Proofs.Ytcbhcclickjpnaa
open Go.RowKit Go.Joins

theorem flg_range15 {T : Int → Bool} : ∀ {n : Nat} (x : Int), x ∈ flgL T n → 0 ≤ x ∧ x < n
  | 0, x, h => by cases h
  | n + 1, x, h => by
    rw [flg_succF] at h
    rcases List.mem_append.1 h with h | h
    · have := flg_range15 (n := n) x h
      omega
    · split at h
      · rw [List.mem_singleton.1 h]; omega
      · cases h
theorem Try.infoCho15 : (Try.prog.info? 55).map (fun i => (i.zero, i.size, i.bytes)) = some (some (.agg #[.slice none 0 0, .slice none 0 0, .int .i64 0, .slice none 0 0]), 4, 80) := by kernel_rfl
theorem four_new15 {w : World} {x0 x1 x2 x3 : Value} {T : TypeId} (j : Nat) (u : Value) (hj : [x0, x1, x2, x3][j]? = some u) : (w.alloc (.cells #[x0, x1, x2, x3] T (0, 0))).cell? ((⟨w.heap.size, 0, none⟩ : Addr).add j) = some u := by
  match j, hj with
  | 0, hj => rw [Addr.add_lit, cell_of_block (heap_alloc_new _ _)]; exact hj
  | 1, hj => rw [Addr.add_lit, cell_of_block (heap_alloc_new _ _)]; exact hj
  | 2, hj => rw [Addr.add_lit, cell_of_block (heap_alloc_new _ _)]; exact hj
  | 3, hj => rw [Addr.add_lit, cell_of_block (heap_alloc_new _ _)]; exact hj
/-- What a call writes: the state's box and the stack. -/
def FrS (bs : Nat) (sv : Value) (W W' : World) : Prop := W.heap.size ≤ W'.heap.size ∧ ∀ x, x < W.heap.size → x ≠ bs → sv.ownBlock ≠ some x → W'.heap[x]? = W.heap[x]?
set_option maxHeartbeats 8000000 in
set_option maxRecDepth 100000 in
theorem add15_any (w W : World) (bs bl : Nat) (bv sv tv nv rv : Value) (b : List Int) (zs : List Itm) (left : Int) (c : Cho) (hS : StM w bs bl bv sv b zs left W) (hc : ChoN W (fun x => x < W.heap.size) tv nv rv c)
    (hr : rightM c.nm.length c.ls = true) (hl : c.t.length + c.ls.length ≤ 4000) (hz4 : zs.length ≤ 100000000) :
    Calls Try.prog 47 #[.pointer (some ⟨bs, 0, none⟩), chv tv nv c.nm.length rv] W fun e W' => ∃ bv' sv' zs', e = .returned (.tuple #[]) ∧ StM w bs bl bv' sv' (addBs b c) zs' left W' ∧ zs'.map (·.c) = addSk (zs.map (·.c)) c ∧ FrS bs sv W W' := by
  have hB0 := below_alloc1 W (chb tv nv c.nm.length rv)
  have hbu : (W.alloc (chb tv nv c.nm.length rv)).heap[W.heap.size]? = some (chb tv nv c.nm.length rv) := heap_alloc_new _ _
  have hs0 : (W.alloc (chb tv nv c.nm.length rv)).heap.size = W.heap.size + 1 := World.size_alloc _ _
  have HR := reduced15_any c tv nv rv (W.alloc (chb tv nv c.nm.length rv)) ((hc.below hB0).keep (fun _ _ => rfl) (Nat.le_refl _) (fun x hx => by show x < _; rw [hs0]; omega)) hr hl
  have hfew := redC_few hr
  have hrr := redC_right hr
  obtain ⟨hn0', hn4', hri'⟩ := right_iff.1 hrr
  have hSH := Lib.hid hS
  obtain ⟨At, ct, rfl, -, -⟩ := hc.t
  obtain ⟨An, cn, rfl, -, -⟩ := hc.nm
  obtain ⟨Ar, cr, rfl, -, -⟩ := hc.ls
  have hadB : addBs b c = if bareB (redC c).ls = true then b else if (grdC (redC c)).length < b.length then grdC (redC c) else b := rfl
  have hadS : addSk (zs.map (·.c)) c = if bareB (redC c).ls = true then zs.map (·.c) else if (redC c).ls = [] then zs.map (·.c) else zs.map (·.c) ++ [redC c] := rfl
  generalize hRC : redC c = rc at *
  unfold chv at *
  unfold chb at *
  obtain ⟨a0, a1, a2, a3, -⟩ := now4 hbu rfl
  clear hS hc hr
  go_enter Try.func47, Try.ntmps47
  go_wp2_with fail
  refine HR.mono ?_
  rintro e X ⟨tv2, nv2, rv2, rfl, hc2, hbX⟩
  have hsX := hbX.size
  have hBX := hB0.trans (hbX.mono hB0.size)
  have hbuX := keep_blk hbX hbu
  obtain ⟨At2, ct2, rfl, -, -⟩ := hc2.t
  obtain ⟨An2, cn2, rfl, -, -⟩ := hc2.nm
  obtain ⟨Ar2, cr2, rfl, -, -⟩ := hc2.ls
  have hb4 := put4 (x0 := .slice At2 rc.t.length ct2) (x1 := .slice An2 rc.nm.length cn2) (x2 := .int .i64 rc.nm.length) (x3 := .slice Ar2 rc.ls.length cr2) hbuX
  have hB4 := below4 (x0 := .slice At2 rc.t.length ct2) (x1 := .slice An2 rc.nm.length cn2) (x2 := .int .i64 rc.nm.length) (x3 := .slice Ar2 rc.ls.length cr2) (Nat.le_refl W.heap.size) hBX
  have hc4 : ChoN ((((X.setCell ⟨W.heap.size, 0, none⟩ (.slice At2 rc.t.length ct2)).setCell ⟨W.heap.size, 1, none⟩ (.slice An2 rc.nm.length cn2)).setCell ⟨W.heap.size, 2, none⟩ (.int .i64 rc.nm.length)).setCell ⟨W.heap.size, 3, none⟩ (.slice Ar2 rc.ls.length cr2))
      (fun x => W.heap.size < x) (.slice At2 rc.t.length ct2) (.slice An2 rc.nm.length cn2) (.slice Ar2 rc.ls.length cr2) rc := hc2.keep (fun x hx => by
        have h : ∀ (W1 : World) (i : Nat) (u : Value), (W1.setCell ⟨W.heap.size, i, none⟩ u).heap[x]? = W1.heap[x]? := fun W1 i u => Below.heap_setCell _ _ _ _ (by show x ≠ W.heap.size; have := hx.1; omega)
        rw [h, h, h, h]) (by simp [World.setCell]) (fun x hx => by have := hx.1; omega)
  obtain ⟨p0, p1, p2, p3, pf⟩ := now4 hbuX rfl
  obtain ⟨q0, q1, q2, q3, -⟩ := now4 hb4 rfl
  clear HR hbX hc2 hB0 hbu hBX hbuX a0 a1 a2 a3
  try go_simp
  go_wp2_with fail
  generalize (((X.setCell ⟨W.heap.size, 0, none⟩ _).setCell _ _).setCell _ _).setCell _ _ = X4 at *
  clear p0 p1 p2 p3 pf q0 q1 q2 q3 hsX
  generalize hkb : W.heap.size = kb at *
  have hkbH := Lib.hid hkb
  have hS4 := hSH.out.below (by rw [hkb]; exact hB4)
  have hc4s := Lib.hid hc4
  clear hkb
  have HH := hopeless15_any rc.nm.length (.slice Ar2 rc.ls.length cr2) rc.ls X4 hc4.ls.here
  unfold mtv at HH
  refine HH.mono ?_
  rintro e X5 ⟨rfl, hb5⟩
  have hS5 := hS4.below hb5
  have hbx5 := keep_blk hb5 hb4
  have hc5 := hc4.below hb5
  have hB5 := hB4.trans (hb5.mono (by have := hB4.size; have := hkbH.out; omega))
  clear hb5 hS4 hc4 hc4s hb4 hB4 HH X4
  try go_simp
  cases hba : bareB rc.ls
  · have hadB2 := hadB
    rw [hba] at hadB hadS
    rw [if_neg (by decide)] at hadB hadS
    have hbaH := Lib.hid hba
    clear hba hadB2
    obtain ⟨fl, hfl⟩ : ∃ fl, fl = flgL (grdT rc.nm.length rc.ls) rc.nm.length := ⟨_, rfl⟩
    have hflr : ∀ x, x ∈ fl → 0 ≤ x ∧ x < rc.nm.length := fun x hx => flg_range15 x (by rw [← hfl]; exact hx)
    have hfl4 : fl.length ≤ 4000 := by
      rw [hfl, flg_len]
      have := crd_all (grdT rc.nm.length rc.ls) rc.nm.length
      omega
    have hgrd : grdC rc = rc.t ++ atL rc.nm fl := by rw [hfl]; rfl
    rw [hgrd] at hadB
    have hd5 : Below X5.heap.size X5 X5.drew := (Below.refl _ X5).drew
    have hc5d := hc5.below hd5
    have HG := greedy15_any rc.nm.length (.slice Ar2 rc.ls.length cr2) rc.ls X5.drew hc5d.ls.here hc5d.cap (by omega) (by omega) hri' hbaH.out
    rw [← hfl] at HG
    have HC := fun (X : World) (cv : Value) (h : Below X5.drew.heap.size X5.drew X) (hcv : X.ownsRow X5.drew.heap.size 3 1 cv fl.length (intI fl)) => called15_any (.slice At2 rc.t.length ct2) (.slice An2 rc.nm.length cn2) (.slice Ar2 rc.ls.length cr2) cv rc.nm.length rc.t rc.nm fl X (hc5d.below h).t.here (hc5d.below h).nm.here (own_intsN14 hcv).here hflr (by omega) hfl4 ⟨_, _, _, rfl⟩
    unfold chv at HC
    unfold mtv at HG
    have n0 := fun W_ (h : Below X5.heap.size X5 W_) => (now4 (keep_blk h hbx5) rfl).1
    have n1 := fun W_ (h : Below X5.heap.size X5 W_) => (now4 (keep_blk h hbx5) rfl).2.1
    have n2 := fun W_ (h : Below X5.heap.size X5 W_) => (now4 (keep_blk h hbx5) rfl).2.2.1
    have n3 := fun W_ (h : Below X5.heap.size X5 W_) => (now4 (keep_blk h hbx5) rfl).2.2.2.1
    have hSH5 := Lib.hid (And.intro hS5 (And.intro hbx5 (And.intro hc5 hB5)))
    have hadH := Lib.hid (And.intro hadB hadS)
    have hadE := Lib.hid (And.intro hgrd hfl)
    generalize hGL : rc.t ++ atL rc.nm fl = GL at *
    clear hd5 hc5d hS5 hbx5 hc5 hB5 hadB hadS hgrd hfl hflr hGL hri' hrr
    go_wp2
    refine wp_region_held_tail 6 (fun W_ => Below X5.heap.size X5 W_) (by kernel_rfl) (by kernel_rfl) (Below.refl _ X5).drew (fun hF hHeld => ?_)
    refine takeL15 (i := 0) (v := ?_) hF rfl (by kernel_rfl) (by kernel_rfl) (by kernel_rfl) (fun _ _ _ h => h) (Or.inl ⟨by rfl, ?_⟩) (by assumption) ?_
    rotate_left 1
    · intro w_ hSw
      go_simp
      try with_reducible rfl
    try simp only [Act.put, List.setIfInBounds_toArray, List.set_cons_zero, List.set_cons_succ]
    refine takeL15 (i := 1) (v := ?_) hF rfl (by kernel_rfl) (by kernel_rfl) (by kernel_rfl) (fun _ _ _ h => h) (Or.inl ⟨by rfl, ?_⟩) (by assumption) ?_
    rotate_left 1
    · intro w_ hSw
      have q_n0 := n0 w_ hSw
      have q_n1 := n1 w_ hSw
      have q_n2 := n2 w_ hSw
      have q_n3 := n3 w_ hSw
      go_simp
      try with_reducible rfl
    try simp only [Act.put, List.setIfInBounds_toArray, List.set_cons_zero, List.set_cons_succ]
    refine takeL15 (i := 2) (v := ?_) hF rfl (by kernel_rfl) (by kernel_rfl) (by kernel_rfl) (fun _ _ _ h => h) (Or.inl ⟨by rfl, ?_⟩) (by assumption) ?_
    rotate_left 1
    · intro w_ hSw
      go_simp
      try with_reducible rfl
    try simp only [Act.put, List.setIfInBounds_toArray, List.set_cons_zero, List.set_cons_succ]
    refine takeL15 (i := 3) (v := ?_) hF rfl (by kernel_rfl) (by kernel_rfl) (by kernel_rfl) (fun _ _ _ h => h) (Or.inl ⟨by rfl, ?_⟩) (by assumption) ?_
    rotate_left 1
    · intro w_ hSw
      have q_n2 := n2 w_ hSw
      have q_n3 := n3 w_ hSw
      go_simp
      try with_reducible rfl
    try simp only [Act.put, List.setIfInBounds_toArray, List.set_cons_zero, List.set_cons_succ]
    refine oneL15 (i := 4) (by kernel_rfl) (by kernel_rfl) rfl (fun _ hK => ?_)
    go_simp
    refine HG.mono ?_
    rintro e X6 ⟨v6, rfl, ho6, hb6⟩
    obtain ⟨A6, c6, rfl⟩ := own_form ho6
    try go_simp
    refine hK.out _ _ (hHeld.trans (hb6.mono (Nat.le_refl _))) (fun hHeld => ?_)
    clear hK
    try simp only [Act.put, List.setIfInBounds_toArray, List.set_cons_zero, List.set_cons_succ]
    refine oneL15 (i := 5) (by kernel_rfl) (by kernel_rfl) rfl (fun _ hK => ?_)
    go_simp
    refine (HC X6 _ hb6 ho6).mono ?_
    rintro e X7 ⟨v7, rfl, ho7, hb7⟩
    obtain ⟨A7, c7, rfl⟩ := own_form ho7
    try go_simp
    refine hK.out _ _ (hHeld.trans (hb7.mono hHeld.size)) (fun hHeld => ?_)
    clear hK
    try simp only [Act.put, List.setIfInBounds_toArray, List.set_cons_zero, List.set_cons_succ]
    refine ⟨by kernel_rfl, ?_⟩
    simp only [List.drop_succ_cons, List.drop_zero]
    obtain ⟨hS5, hbx5, hc5, hB5⟩ := hSH5.out
    have hS7 := hS5.below hHeld
    have hbx7 := keep_blk hHeld hbx5
    have hc7 := hc5.below hHeld
    have hB7 := hB5.trans (hHeld.mono (by have := hB5.size; have := hkbH.out; omega))
    have HK := keep15_any bs bl bv sv (.slice A7 GL.length c7) b GL X7 hS7.box (own_form hS7.best) ⟨_, _, rfl⟩
    have hs67 : X5.heap.size ≤ X6.heap.size := hb6.size
    have hw7 := own_more ho7 (show w.heap.size ≤ X6.heap.size from Nat.le_trans hS5.off.size hs67)
    have hS7H := Lib.hid hS7
    have hfin7 := Lib.hid (And.intro hbx7 (And.intro hc7 hB7))
    have hw7H := Lib.hid hw7
    clear hS5 hbx5 hc5 hB5 hS7 hbx7 hc7 hB7 HG HC n0 n1 n2 n3 hHeld hb6 ho7 hs67 hw7 hb7 ho6
    go_wp2_with fail
    refine HK.mono ?_
    rintro e X8 ⟨rfl, hb8, hg8⟩
    have hbs7 := size_of_block hS7H.out.box
    obtain ⟨bv8, hS8⟩ : ∃ bv8, StM w bs bl bv8 sv (addBs b c) zs left X8 := by
      rw [hadH.out.1]
      by_cases hlt : GL.length < b.length
      · rw [if_pos hlt] at hb8 ⊢
        exact ⟨_, hS7H.out.keep hw7H.out hb8 hg8⟩
      · rw [if_neg hlt] at hb8 ⊢
        exact ⟨_, hS7H.out.keep hS7H.out.best hb8 hg8⟩
    obtain ⟨hbx7, hc7, hB7⟩ := hfin7.out
    have hkbe := hkbH.out
    have hbsW := size_of_block hSH.out.box
    have hbx8 := (hg8.block kb (size_of_block hbx7) (fun e => by have := Option.some.inj e; omega)).trans hbx7
    have hnsv : ∀ x, kb ≤ x → sv.ownBlock ≠ some x := fun x hx e => by have := (hSH.out.stk.lt x e).2; omega
    have hgs := hg8.size
    have hc8 : ChoN X8 (FarS w bs sv X8) (.slice At2 rc.t.length ct2) (.slice An2 rc.nm.length cn2) (.slice Ar2 rc.ls.length cr2) rc := by
      refine ChoN.keep (N := fun x => kb < x ∧ x < X7.heap.size) ⟨hc7.t.low15.keep (fun _ _ => rfl) (fun _ h => h), hc7.nm.low15.keep (fun _ _ => rfl) (fun _ h => h), hc7.ls.low15.keep15 (fun _ _ => rfl) (fun _ h => h), hc7.cap⟩ (fun x hx => hg8.block x hx.2 (fun e => by have := Option.some.inj e; omega)) hgs (fun x hx => ⟨by have := hSH.out.off.size; omega, by omega, by omega, hnsv x (by omega)⟩)
    have hfr8 : ∀ x, x < W.heap.size → x ≠ bs → X8.heap[x]? = W.heap[x]? := fun x hx hxb => (hg8.block x (by have := hB7.size; omega) (fun e => hxb (Option.some.inj e))).trans (hB7.block x (by omega))
    have hsz8 : W.heap.size ≤ X8.heap.size := by have := hB7.size; omega
    obtain ⟨r0, r1, r2, r3, -⟩ := now4 hbx8 rfl
    have hS8H := Lib.hid hS8
    have hc8H := Lib.hid hc8
    have hfr8H := Lib.hid hfr8
    have hbx8H := Lib.hid hbx8
    clear hb8 hg8 hS8 hbx7 hc7 hB7 HK hS7H hfin7 hw7H hbx8 hc8 hfr8
    try go_simp
    by_cases hls : rc.ls = []
    · have hl0 : rc.ls.length = 0 := by rw [hls]; rfl
      have hzd : ¬ (rc.ls.length : Int) > 0 := by omega
      have hzs := hadH.out.2
      rw [if_pos hls] at hzs
      have hzsH := Lib.hid hzs
      clear hls hzs hl0
      go_wp2
      go_end0
      exact ⟨rfl, _, _, zs, hS8H.out, hzsH.out.symm, hsz8, fun x h1 h2 _ => hfr8H.out x h1 h2⟩
    · have hl0 : 0 < rc.ls.length := List.length_pos_iff.2 hls
      have hzd : (rc.ls.length : Int) > 0 := by omega
      have hzs := hadH.out.2
      rw [if_neg hls] at hzs
      have hzsH := Lib.hid hzs
      clear hls hzs
      obtain ⟨i0, hi0, hz0, hz1, hz2⟩ := info_parts Try.infoCho15
      have hS8 := hS8H.out
      obtain ⟨AS, cS, rfl⟩ := own_form hS8.stk
      have hbx8 := hbx8H.out
      have hbs8 := size_of_block hS8.box
      have hnsb : (Value.slice AS zs.length cS).ownBlock ≠ some bs := own_ne hS8.stk hS8.box (by decide)
      have hnsk : (Value.slice AS zs.length cS).ownBlock ≠ some kb := hnsv kb (Nat.le_refl _)
      have hsk8 := size_of_block hbx8
      have m0 := fun W_ (h : X8.grownBy W_ (Value.slice AS zs.length cS).ownBlock) => (now3 ((h.block bs hbs8 hnsb.symm).trans hS8.box) rfl).2.1
      have n0 := fun W_ (h : X8.grownBy W_ (Value.slice AS zs.length cS).ownBlock) => (now4 ((h.block kb hsk8 hnsk.symm).trans hbx8) rfl).1
      have n1 := fun W_ (h : X8.grownBy W_ (Value.slice AS zs.length cS).ownBlock) => (now4 ((h.block kb hsk8 hnsk.symm).trans hbx8) rfl).2.1
      have n2 := fun W_ (h : X8.grownBy W_ (Value.slice AS zs.length cS).ownBlock) => (now4 ((h.block kb hsk8 hnsk.symm).trans hbx8) rfl).2.2.1
      have n3 := fun W_ (h : X8.grownBy W_ (Value.slice AS zs.length cS).ownBlock) => (now4 ((h.block kb hsk8 hnsk.symm).trans hbx8) rfl).2.2.2.1
      have hd8 : Below X8.heap.size X8 X8.drew := (Below.refl _ X8).drew
      have hd9 := hd8.alloc (Nat.le_refl _) (.cells #[.slice At2 rc.t.length ct2, .slice An2 rc.nm.length cn2, .int .i64 rc.nm.length, .slice Ar2 rc.ls.length cr2] 55 (0, 0))
      have hgd : X8.grownBy X8.drew (Value.slice AS zs.length cS).ownBlock := ⟨rfl, rfl, rfl, Nat.le_refl _, fun _ _ _ => rfl⟩
      have hga := grown_trans15 hgd (below_alloc1 X8.drew (.cells #[.slice At2 rc.t.length ct2, .slice An2 rc.nm.length cn2, .int .i64 rc.nm.length, .slice Ar2 rc.ls.length cr2] 55 (0, 0)))
      have hS9 := hS8.below hd9
      have hc9 : ChoN _ (FarS w bs (Value.slice AS zs.length cS) (X8.drew.alloc (.cells #[.slice At2 rc.t.length ct2, .slice An2 rc.nm.length cn2, .int .i64 rc.nm.length, .slice Ar2 rc.ls.length cr2] 55 (0, 0)))) (.slice At2 rc.t.length ct2) (.slice An2 rc.nm.length cn2) (.slice Ar2 rc.ls.length cr2) rc :=
        hc8H.out.keep (fun x hx => hd9.block x hx.2.1) hd9.size (fun x hx => hx.more hd9.size)
      have hoX := hS9.stk
      have hs9 : w.heap.size ≤ X8.heap.size := hS8.off.size
      have hHH := Lib.hid (And.intro hS9 (And.intro hc9 hd9))
      have hgaH := Lib.hid hga
      clear hS8 hS8H hbx8 hbx8H hc8H hd8 hd9 hgd hga hS9 hc9 hSH5 hadE hadH
      go_wp2
      refine wp_region_held_tail 8 (fun W_ => X8.grownBy W_ (Value.slice AS zs.length cS).ownBlock) (by kernel_rfl) (by kernel_rfl) ⟨rfl, rfl, rfl, Nat.le_refl _, fun _ _ _ => rfl⟩ (fun hF hHeld => ?_)
      refine takeL15 (i := 0) (v := ?_) hF rfl (by kernel_rfl) (by kernel_rfl) (by kernel_rfl) (fun _ _ _ h => h) (Or.inl ⟨by rfl, ?_⟩) (by assumption) ?_
      rotate_left 1
      · intro w_ hSw
        go_simp
        try with_reducible rfl
      try simp only [Act.put, List.setIfInBounds_toArray, List.set_cons_zero, List.set_cons_succ]
      refine takeL15 (i := 1) (v := ?_) hF rfl (by kernel_rfl) (by kernel_rfl) (by kernel_rfl) (fun _ _ _ h => h) (Or.inl ⟨by rfl, ?_⟩) (by assumption) ?_
      rotate_left 1
      · intro w_ hSw
        go_simp
        try with_reducible rfl
      try simp only [Act.put, List.setIfInBounds_toArray, List.set_cons_zero, List.set_cons_succ]
      refine takeL15 (i := 2) (v := ?_) hF rfl (by kernel_rfl) (by kernel_rfl) (by kernel_rfl) (fun _ _ _ h => h) (Or.inl ⟨by rfl, ?_⟩) (by assumption) ?_
      rotate_left 1
      · intro w_ hSw
        go_simp
        try with_reducible rfl
      try simp only [Act.put, List.setIfInBounds_toArray, List.set_cons_zero, List.set_cons_succ]
      refine takeL15 (i := 3) (v := ?_) hF rfl (by kernel_rfl) (by kernel_rfl) (by kernel_rfl) (fun _ _ _ h => h) (Or.inl ⟨by rfl, ?_⟩) (by assumption) ?_
      rotate_left 1
      · intro w_ hSw
        go_simp
        try with_reducible rfl
      try simp only [Act.put, List.setIfInBounds_toArray, List.set_cons_zero, List.set_cons_succ]
      refine takeL15 (i := 4) (v := ?_) hF rfl (by kernel_rfl) (by kernel_rfl) (by kernel_rfl) (fun _ _ _ h => h) (Or.inl ⟨by rfl, ?_⟩) (by assumption) ?_
      rotate_left 1
      · intro w_ hSw
        have q_m0 := m0 w_ hSw
        go_simp
        try with_reducible rfl
      try simp only [Act.put, List.setIfInBounds_toArray, List.set_cons_zero, List.set_cons_succ]
      refine takeL15 (i := 5) (v := ?_) hF rfl (by kernel_rfl) (by kernel_rfl) (by kernel_rfl) (fun _ _ _ h => h) (Or.inl ⟨by rfl, ?_⟩) (by assumption) ?_
      rotate_left 1
      · intro w_ hSw
        have q_n0 := n0 w_ hSw
        have q_n1 := n1 w_ hSw
        have q_n2 := n2 w_ hSw
        have q_n3 := n3 w_ hSw
        go_simp
        try with_reducible rfl
      try simp only [Act.put, List.setIfInBounds_toArray, List.set_cons_zero, List.set_cons_succ]
      refine oneL15 (i := 6) (by kernel_rfl) (by kernel_rfl) rfl (fun _ hK => ?_)
      go_simp
      refine hK.out _ _ (hgaH.out) (fun hHeld => ?_)
      clear hK
      try simp only [Act.put, List.setIfInBounds_toArray, List.set_cons_zero, List.set_cons_succ]
      refine oneL15 (i := 7) (by kernel_rfl) (by kernel_rfl) rfl (fun _ hK => ?_)
      refine step_append_own15 rfl _ _ 66 rfl w.heap.size 55 i0 (.agg #[.slice none 0 0, .slice none 0 0, .int .i64 0, .slice none 0 0]) 4 80 Try.underlying66 hi0 hz0 hz1 hz2 rfl (by decide) _ _ _ rfl hoX ⟨X8.heap.size, 0, none⟩ 1 1 [.slice At2 rc.t.length ct2, .slice An2 rc.nm.length cn2, .int .i64 rc.nm.length, .slice Ar2 rc.ls.length cr2] rfl rfl four_new15 (fun u hu => by simp at hu; rcases hu with rfl | rfl | rfl | rfl <;> rfl) ?_ ?_ ?_ ?_
      · unfold maxLen; omega
      · omega
      · simp; omega
      intro v8 w8 ho8 hg8 hloc
      refine hK.out _ _ (⟨hg8.os.trans hgaH.out.os, hg8.tape.trans hgaH.out.tape, hg8.output.trans hgaH.out.output, Nat.le_trans hgaH.out.size hg8.size, fun x hx hne => (hg8.block x (Nat.lt_of_lt_of_le hx hgaH.out.size) hne).trans (hgaH.out.block x hx hne)⟩) (fun hHeld => ?_)
      clear hK
      try simp only [Act.put, List.setIfInBounds_toArray, List.set_cons_zero, List.set_cons_succ]
      refine ⟨by kernel_rfl, ?_⟩
      simp only [List.drop_succ_cons, List.drop_zero]
      obtain ⟨hS9, hc9, hd9⟩ := hHH.out
      obtain ⟨A8, c8, rfl⟩ := own_form ho8
      have hS10 := hS9.push hc9 ho8 hg8 hloc rfl
      have hq : ∀ o, (X8.alloc o).drew.heap.size = X8.heap.size + 1 := fun o => World.size_alloc X8 o
      have hb10 : w8.heap[bs]? = _ := (hg8.block bs (by rw [hq]; omega) hnsb.symm).trans hS9.box
      obtain ⟨y0, y1, y2, yf⟩ := now3 hb10 rfl
      have hsz9 := hd9.size
      have hsz10 := hg8.size
      rw [hq] at hsz10
      have hfr10 : Hid (FrS bs (.slice AS zs.length cS) W (w8.setCell ⟨bs, 1, none⟩ (.slice A8 (zs.length + 1) c8))) := Lib.hid ⟨by simp [World.setCell]; omega, fun x h1 h2 h3 => (Below.heap_setCell _ _ _ _ h2).trans ((hg8.block x (by rw [hq]; omega) (Ne.symm h3)).trans ((hd9.block x (by omega)).trans (hfr8H.out x h1 h2)))⟩
      have hS10 := Lib.hid hS10
      clear hS9 hc9 hd9 hHH hgaH hb10 hg8 hloc ho8 hoX m0 n0 n1 n2 n3 hHeld hsz9 hsz10
      go_wp2
      go_end0
      exact ⟨_, _, zs ++ [⟨.slice At2 rc.t.length ct2, .slice An2 rc.nm.length cn2, .slice Ar2 rc.ls.length cr2, rc⟩], rfl, hS10.out, by rw [List.map_append, hzsH.out]; rfl, hfr10.out⟩
  · rw [hba] at hadB hadS
    rw [if_pos rfl] at hadB hadS
    have hfr : FrS bs sv W X5 := ⟨by have := hB5.size; have := hkbH.out; omega, fun x hx _ _ => hB5.block x (by have := hkbH.out; omega)⟩
    have hfin := Lib.hid (And.intro hS5 (And.intro hadS hfr))
    clear hba hS5 hbx5 hc5 hB5 hfr
    go_wp2
    refine bodyPost_ret (results_none rfl _ _ _) rfl ?_
    exact ⟨rfl, _, _, zs, hfin.out.1, rfl, hfin.out.2.2⟩
end Go.Proofs.Ytcbhcclickjpnaa
