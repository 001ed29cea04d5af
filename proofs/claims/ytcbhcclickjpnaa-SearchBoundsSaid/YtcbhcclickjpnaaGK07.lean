/- Rows of cells that are made and written: numbers, slices. fewest of the package reduce. How many lists have a number, how far the rows of one memory reach: plain. -/
import Derived.Test.YtcbhcclickjpnaaGK06
import Derived.Test.YtcbhcclickjpnaaGK02
namespace Go.Proofs.Ytcbhcclickjpnaa
open Go.RowKit Go.Joins

/-- n cells. -/
def celA (n : Nat) (f : Nat → Value) : Array Value := ((List.range n).map f).toArray
theorem celA_get {n p : Nat} (f : Nat → Value) (h : p < n) : (celA n f)[p]? = some (f p) := by
  unfold celA; simp [h]
theorem celA_set {n p : Nat} {f : Nat → Value} {u : Value} : (celA n f).setIfInBounds p u = celA n (fun j => if j = p then u else f j) := by
  unfold celA
  rw [List.setIfInBounds_toArray]
  congr 1
  apply List.ext_getElem?
  intro j
  rw [List.getElem?_set]
  by_cases hj : j < n
  · by_cases e : p = j
    · subst e
      simp [hj]
    · simp [e, hj, show ¬ j = p from fun e' => e e'.symm]
  · by_cases e : p = j
    · subst e
      simp [hj]
    · simp [e, hj]
theorem celA_ext {n : Nat} {f g : Nat → Value} (h : ∀ j, j < n → f j = g j) : celA n f = celA n g := by
  unfold celA
  congr 1
  exact List.map_congr_left fun j hj => h j (List.mem_range.1 hj)
theorem celA_made (z : Value) (n : Nat) : madeCells #[z] n = celA n fun _ => z := by
  unfold celA
  apply Array.toList_inj.1
  rw [toList_madeCells_one]
  apply List.ext_getElem?
  intro j
  by_cases hj : j < n <;> simp [hj]
def celO (T : TypeId) (n : Nat) (f : Nat → Value) : Obj := .cells (celA n f) T (0, 0)
theorem celO_ext {T : TypeId} {n : Nat} {f g : Nat → Value} (h : ∀ j, j < n → f j = g j) : celO T n f = celO T n g := by
  unfold celO
  rw [celA_ext h]
theorem cel_cell {w : World} {T : TypeId} {bt n p : Nat} {f : Nat → Value} (h : w.heap[bt]? = some (celO T n f)) (hp : p < n) : w.cell? ⟨bt, p, none⟩ = some (f p) ∧ w.frozen? ⟨bt, p, none⟩ = false := by
  unfold celO at h
  exact ⟨by rw [cell_of_block h]; exact celA_get f hp, unfrozen_of_block h p⟩
theorem cel_set {w : World} {T : TypeId} {bt n p : Nat} {f : Nat → Value} (h : w.heap[bt]? = some (celO T n f)) (u : Value) : (w.setCell ⟨bt, p, none⟩ u).heap[bt]? = some (celO T n fun j => if j = p then u else f j) := by
  unfold celO at *
  rw [← celA_set]
  exact block_setCell h _
theorem cel_other {w : World} {a p : Nat} {u : Value} {b : Nat} {o : Obj} (h : w.heap[b]? = some o) (hne : b ≠ a) : (w.setCell ⟨a, p, none⟩ u).heap[b]? = some o := by
  rw [Below.heap_setCell _ _ _ _ hne]; exact h
theorem Try.infoInt14 : (Try.prog.info? 3).map (fun i => (i.zero, i.size, i.bytes)) = some (some (.int .i64 0), 1, 8) := by kernel_rfl
theorem Try.infoInts14 : (Try.prog.info? 30).map (fun i => (i.zero, i.size, i.bytes)) = some (some (.slice none 0 0), 1, 24) := by kernel_rfl
theorem make_ints14 (n : Nat) (hn : n ≤ 16000000) (w : World) : (Instr.makeSlice 30 (.int .i64 n) (.int .i64 n)).run Try.prog w = .ok (.slice (some ⟨w.heap.size, 0, none⟩) n n) (w.alloc (celO 3 n fun _ => .int .i64 0)) := by
  obtain ⟨i0, hi, hz0, hz1, hz2⟩ := info_parts Try.infoInt14
  have h := run_makeSlice (P := Try.prog) w 30 3 i0 (.int .i64 0) Try.underlying30 hi hz0 .i64 .i64 n n (by omega) (by omega) (by rw [hz1]; simp; omega) (by rw [hz2]; omega) (by omega)
  rw [h, hz1]
  unfold celO
  rw [← celA_made]
  simp [Value.cells]
theorem make_rows14 (n : Nat) (hn : n ≤ 16000000) (w : World) : (Instr.makeSlice 22 (.int .i64 n) (.int .i64 n)).run Try.prog w = .ok (.slice (some ⟨w.heap.size, 0, none⟩) n n) (w.alloc (celO 30 n fun _ => .slice none 0 0)) := by
  obtain ⟨i0, hi, hz0, hz1, hz2⟩ := info_parts Try.infoInts14
  have h := run_makeSlice (P := Try.prog) w 22 30 i0 (.slice none 0 0) Try.underlying22 hi hz0 .i64 .i64 n n (by omega) (by omega) (by rw [hz1]; simp; omega) (by rw [hz2]; omega) (by omega)
  rw [h, hz1]
  unfold celO
  rw [← celA_made]
  simp [Value.cells]

/-! ### What lies off some blocks -/
/-- The slice v reads as the rows ls; all that it reads lies in blocks of N. -/
def MatN (w : World) (N : Nat → Prop) (v : Value) (ls : List (List Int)) : Prop :=
  ∃ A c, v = .slice A ls.length c ∧ ls.length ≤ 9223372036854775807 ∧
    (0 < ls.length → ∃ b off, A = some ⟨b, off, none⟩ ∧ N b ∧ ∀ j l, ls[j]? = some l → ∃ ov, w.cell? ⟨b, off + j, none⟩ = some ov ∧ IntsN w N ov l)
theorem IntsN.here {w : World} {N : Nat → Prop} {v : Value} {l : List Int} (h : IntsN w N v l) : IntsAt w w.heap.size v l := by
  obtain ⟨A, c, e, hl, h⟩ := h
  refine ⟨A, c, e, hl, fun h0 => ?_⟩
  obtain ⟨b, off, eA, hb, hc⟩ := h h0
  exact ⟨b, off, eA, block_lt_of_cell (hc 0 _ (List.getElem?_eq_getElem h0)), hc⟩
theorem MatN.here {w : World} {N : Nat → Prop} {v : Value} {ls : List (List Int)} (h : MatN w N v ls) : MatAt w w.heap.size v ls := by
  obtain ⟨A, c, e, hl, h⟩ := h
  refine ⟨A, c, e, hl, fun h0 => ?_⟩
  obtain ⟨b, off, eA, hb, hc⟩ := h h0
  refine ⟨b, off, eA, ?_, fun j l hj => ?_⟩
  · obtain ⟨ov, z, -⟩ := hc 0 _ (List.getElem?_eq_getElem h0)
    exact block_lt_of_cell z
  · obtain ⟨ov, z, hi⟩ := hc j l hj
    exact ⟨ov, z, hi.here⟩
theorem IntsAt.toN {w : World} {B : Nat} {N : Nat → Prop} {v : Value} {l : List Int} (h : IntsAt w B v l) (hN : ∀ b, b < B → N b) : IntsN w N v l := by
  obtain ⟨A, c, e, hl, h⟩ := h
  refine ⟨A, c, e, hl, fun h0 => ?_⟩
  obtain ⟨b, off, eA, hb, hc⟩ := h h0
  exact ⟨b, off, eA, hN b hb, hc⟩
theorem MatAt.toN {w : World} {B : Nat} {N : Nat → Prop} {v : Value} {ls : List (List Int)} (h : MatAt w B v ls) (hN : ∀ b, b < B → N b) : MatN w N v ls := by
  obtain ⟨A, c, e, hl, h⟩ := h
  refine ⟨A, c, e, hl, fun h0 => ?_⟩
  obtain ⟨b, off, eA, hb, hc⟩ := h h0
  refine ⟨b, off, eA, hN b hb, fun j l hj => ?_⟩
  obtain ⟨ov, z, hi⟩ := hc j l hj
  exact ⟨ov, z, hi.toN hN⟩
/-- All cells but those of D stay. -/
structure KeepC (D : Nat → Prop) (W W' : World) : Prop where
  size : W.heap.size ≤ W'.heap.size
  same : ∀ (b : Nat) (o : Obj), W.heap[b]? = some o → o.isCells = true → ¬ D b → W'.heap[b]? = some o
theorem KeepC.refl (D : Nat → Prop) (W : World) : KeepC D W W := ⟨Nat.le_refl _, fun _ _ h _ _ => h⟩
theorem KeepC.trans {D : Nat → Prop} {W W' W'' : World} (h : KeepC D W W') (k : KeepC D W' W'') : KeepC D W W'' :=
  ⟨Nat.le_trans h.size k.size, fun b o h1 h2 h3 => k.same b o (h.same b o h1 h2 h3) h2 h3⟩
theorem KeepC.of_below {D : Nat → Prop} {W W' : World} (h : Below W.heap.size W W') : KeepC D W W' :=
  ⟨h.size, fun b _ h1 _ _ => (h.block b (size_of_block h1)).trans h1⟩
theorem keepC_b {D : Nat → Prop} (W : World) (l : Nat) (o o' : Obj) (h : W.heap[l]? = some o) (ho : o.isCells = false) : KeepC D W (W.putObj l o') :=
  ⟨(grownBy_putObj' W l o').size, fun b o2 h1 h2 _ => by
    by_cases e : b = l
    · subst e
      rw [h] at h1
      injection h1 with h1
      subst h1
      rw [ho] at h2
      cases h2
    · exact (World.putObj_heap_other e).trans h1⟩
theorem KeepC.cell {D : Nat → Prop} {W W' : World} {b j : Nat} {v : Value} (h : KeepC D W W') (hc : W.cell? ⟨b, j, none⟩ = some v) (hd : ¬ D b) : W'.cell? ⟨b, j, none⟩ = some v := by
  obtain ⟨o, ho, hco⟩ := cells_of_cell hc
  have h1 := h.same b o ho hco hd
  rw [World.cell?_of_block (w := W) (a := ⟨b, j, none⟩) (h1.trans ho.symm)]
  exact hc
theorem KeepC.ints {D : Nat → Prop} {W W' : World} {v : Value} {l : List Int} (hk : KeepC D W W') (h : IntsN W (fun b => ¬ D b) v l) : IntsN W' (fun b => ¬ D b) v l := by
  obtain ⟨A, c, e, hl, h⟩ := h
  refine ⟨A, c, e, hl, fun h0 => ?_⟩
  obtain ⟨b, off, eA, hb, hc⟩ := h h0
  exact ⟨b, off, eA, hb, fun j x hj => hk.cell (hc j x hj) hb⟩
theorem KeepC.mat {D : Nat → Prop} {W W' : World} {v : Value} {ls : List (List Int)} (hk : KeepC D W W') (h : MatN W (fun b => ¬ D b) v ls) : MatN W' (fun b => ¬ D b) v ls := by
  obtain ⟨A, c, e, hl, h⟩ := h
  refine ⟨A, c, e, hl, fun h0 => ?_⟩
  obtain ⟨b, off, eA, hb, hc⟩ := h h0
  refine ⟨b, off, eA, hb, fun j l hj => ?_⟩
  obtain ⟨ov, z, hi⟩ := hc j l hj
  exact ⟨ov, hk.cell z hb, hk.ints hi⟩

/-- Where rows that may hold row k's numbers are looked for. -/
def FewOk (ls hv : List (List Int)) (r : List Int) (l : List Int) : Prop :=
  (r = [] ∧ l = (List.range ls.length).map fun j : Nat => (j : Int)) ∨ ∃ x : Nat, (x : Int) ∈ r ∧ hv[x]? = some l
set_option maxHeartbeats 2000000 in
set_option maxRecDepth 100000 in
theorem fewest14_any (N : Nat → Prop) (V H : Value) (ls hv : List (List Int)) (k : Nat) (r : List Int) (w : World) (hV : MatAt w w.heap.size V ls) (hH : MatN w N H hv) (hk : ls[k]? = some r) (hr : ∀ x, x ∈ r → 0 ≤ x ∧ x < hv.length) (hls : ls.length ≤ 100000) :
    Calls Try.prog 105 #[V, H, .int .i64 k] w fun e w' => ∃ v l, e = .returned v ∧ FewOk ls hv r l ∧ IntsN w' (fun b => N b ∨ w.heap.size ≤ b) v l ∧ Below w.heap.size w w' := by
  have hmk := fun w => make_ints14 ls.length (by omega) w
  obtain ⟨A, c, rfl, hll, hcv⟩ := hV
  obtain ⟨A2, c2, rfl, hlh, hch⟩ := hH
  have hkl : k < ls.length := (List.getElem?_eq_some_iff.1 hk).1
  obtain ⟨b, off, rfl, hB, hc⟩ := hcv (by omega)
  obtain ⟨ov, q0, hov⟩ := hc k r hk
  obtain ⟨Ar, cr, rfl, hlr, hcr⟩ := hov
  have k0 : (0 : Int) ≤ (k : Int) := by omega
  have k1 : (k : Int) < (ls.length : Int) := by omega
  clear hcv hc hk
  go_enter Try.func105, Try.ntmps105
  by_cases h0 : r.length = 0
  · have hre : r = [] := List.eq_nil_of_length_eq_zero h0
    have hd : ((r.length : Int) == 0) = true := by rw [beq_iff_eq]; omega
    have hf : Hid (FewOk ls hv r ((List.range ls.length).map fun j : Nat => (j : Int))) := Lib.hid (.inl ⟨hre, rfl⟩)
    have ha := heap_alloc_new w (celO 3 ls.length fun _ => .int .i64 0)
    have hB1 := below_alloc1 w (celO 3 ls.length fun _ => .int .i64 0)
    clear hre h0 hch hcr hr
    go_wp2
    generalize w.alloc _ = w1 at *
    generalize hgb : w.heap.size = gb at *
    have hgbH := Lib.hid hgb
    clear hgb q0 hd hmk
    go_loopw [8, 23] (fun _ t wr => ∃ j : Nat, j ≤ ls.length ∧ t = .int .i64 j ∧ wr.heap[gb]? = some (celO 3 ls.length fun p => if p < j then .int .i64 p else .int .i64 0) ∧ Below gb w wr) (fun _ t _ => ls.length - (intOf t).toNat)
    case atStart => exact ⟨0, by omega, rfl, by simpa using ha, hB1⟩
    case round =>
      clear ha hB1
      obtain ⟨j, hj, rfl, hg, hb⟩ := hrel
      by_cases hlt : j < ls.length
      · obtain ⟨y0, yf⟩ := cel_cell hg hlt
        have hg2 := cel_set (p := j) hg (.int .i64 j)
        have hg3 : (wr.setCell ⟨gb, j, none⟩ (.int .i64 j)).heap[gb]? = some (celO 3 ls.length fun p => if p < j + 1 then .int .i64 p else .int .i64 0) := by
          refine hg2.trans (congrArg some (celO_ext fun p hp => ?_))
          by_cases e : p = j
          · subst e; simp
          · by_cases e2 : p < j
            · rw [if_neg e, if_pos e2, if_pos (by omega)]
            · rw [if_neg e, if_neg e2, if_neg (by omega)]
        have hb4 := hb.setCell (p := ⟨gb, j, none⟩) (Nat.le_refl gb) (.int .i64 j)
        have j0 : (0 : Int) ≤ (j : Int) := by omega
        have j1 : (j : Int) < (ls.length : Int) := by omega
        clear hg hg2 hb
        go_wp2
        go_roundw
        case rel => exact ⟨j + 1, by omega, by go_num, hg3, hb4⟩
        case measure => simp [intOf]; omega
      · have e : j = ls.length := by omega
        have hjd : ¬ (j : Int) < (ls.length : Int) := by omega
        have hI : Hid (IntsN wr (fun b => N b ∨ gb ≤ b) (.slice (some ⟨gb, 0, none⟩) ls.length ls.length) ((List.range ls.length).map fun j : Nat => (j : Int))) := Lib.hid (by
          refine ⟨some ⟨gb, 0, none⟩, ls.length, by simp, by simpa using hll, fun _ => ⟨gb, 0, rfl, .inr (Nat.le_refl _), fun p x hp => ?_⟩⟩
          have hpl : p < ls.length := by
            have := (List.getElem?_eq_some_iff.1 hp).1
            simpa using this
          obtain ⟨y0, -⟩ := cel_cell hg hpl
          rw [Nat.zero_add, y0, if_pos (by omega)]
          simp [hpl] at hp
          rw [hp])
        have hbw : Below w.heap.size w wr := by rw [hgbH.out]; exact hb
        clear e hg hb
        go_wp2
        go_ret
        exact ⟨_, rfl, _, hf.out, by rw [hgbH.out]; exact hI.out, hbw⟩
  · have hd : ((r.length : Int) == 0) = false := by rw [beq_eq_false_iff_ne]; omega
    obtain ⟨br, offr, rfl, hBr, hcr⟩ := hcr (by omega)
    obtain ⟨x0, hx0⟩ : ∃ x, r[0]? = some x := ⟨_, List.getElem?_eq_getElem (show 0 < r.length by omega)⟩
    have hxm := Lib.hid (List.mem_of_getElem? hx0)
    obtain ⟨e0, e1⟩ := hr x0 hxm.out
    obtain ⟨y, rfl⟩ := Int.eq_ofNat_of_zero_le e0
    have hyl : y < hv.length := by omega
    obtain ⟨b2, off2, rfl, hB2, hc2⟩ := hch (by omega)
    obtain ⟨l0, hl0⟩ : ∃ l, hv[y]? = some l := ⟨_, List.getElem?_eq_getElem hyl⟩
    obtain ⟨o0, z0, ho0⟩ := hc2 y l0 hl0
    have c0 := hcr 0 _ hx0
    rw [Nat.add_zero] at c0
    have hR0 : (0 : Int) < (r.length : Int) := by omega
    have hcrH := Lib.hid hcr
    have hc2H := Lib.hid hc2
    have hrH := Lib.hid hr
    have hF0 : Hid (∃ x : Nat, (x : Int) ∈ r ∧ hv[x]? = some l0) := Lib.hid ⟨y, hxm.out, hl0⟩
    have ho0H := ho0
    obtain ⟨A0, c0', rfl, -, -⟩ := ho0
    clear hcr hc2 hl0 hch hr hx0 hxm h0 hmk
    go_wp2
    clear c0 z0 e0 e1
    go_loopw [9, 11, 46] (fun V _ t wr => ∃ (j : Nat) (l : List Int), j ≤ r.length ∧ t = .int .i64 j ∧ IntsN w N V l ∧ Hid (∃ x : Nat, (x : Int) ∈ r ∧ hv[x]? = some l) ∧ w = wr) (fun _ _ t _ => r.length - (intOf t).toNat)
    case atStart => exact ⟨0, l0, by omega, rfl, ho0H, hF0, rfl⟩
    case round =>
      clear ho0H hF0 hyl
      obtain ⟨j, l, hj, rfl, hV, hF, rfl⟩ := hrel
      by_cases hlt : j < r.length
      · obtain ⟨x, hx⟩ : ∃ x, r[j]? = some x := ⟨_, List.getElem?_eq_getElem hlt⟩
        have hxm := List.mem_of_getElem? hx
        obtain ⟨e0, e1⟩ := hrH.out x hxm
        obtain ⟨y, rfl⟩ := Int.eq_ofNat_of_zero_le e0
        obtain ⟨l2, hl2⟩ : ∃ l, hv[y]? = some l := ⟨_, List.getElem?_eq_getElem (show y < hv.length by omega)⟩
        obtain ⟨o2, z2, ho2⟩ := hc2H.out y l2 hl2
        have d0 := hcrH.out j _ hx
        have hF2 : Hid (∃ x : Nat, (x : Int) ∈ r ∧ hv[x]? = some l2) := Lib.hid ⟨y, hxm, hl2⟩
        have hVk := hV
        have ho2k := ho2
        obtain ⟨Av, cv, rfl, -, -⟩ := hV
        obtain ⟨A3, c3, rfl, -, -⟩ := ho2
        have j0 : (0 : Int) ≤ (j : Int) := by omega
        have j1 : (j : Int) < (r.length : Int) := by omega
        clear hx hxm hl2 hcrH hc2H hrH q0 hd
        by_cases hs : l2.length < l.length
        · have hs2 : (l2.length : Int) < (l.length : Int) := by omega
          clear hs
          go_wp2
          go_roundw
          case rel => exact ⟨j + 1, l2, by omega, by go_num, ho2k, hF2, by first | rfl | trivial⟩
          case measure => simp [intOf]; omega
        · have hs2 : ¬ (l2.length : Int) < (l.length : Int) := by omega
          clear hs
          go_wp2
          go_roundw
          case rel => exact ⟨j + 1, l, by omega, by go_num, hVk, hF, by first | rfl | trivial⟩
          case measure => simp [intOf]; omega
      · have e : j = r.length := by omega
        have hjd : ¬ (j : Int) < (r.length : Int) := by omega
        have hf : Hid (FewOk ls hv r l) := Lib.hid (.inr hF.out)
        have hVk := hV
        obtain ⟨Av, cv, rfl, -, -⟩ := hV
        clear e hF hcrH hc2H hrH
        go_wp2
        go_ret
        exact ⟨_, rfl, _, hf.out, hVk.keep (fun _ _ => rfl) (fun _ h => .inl h), Below.refl _ _⟩
end Go.Proofs.Ytcbhcclickjpnaa
namespace Go.Proofs.Ytcbhcclickjpnaa
open Go.RowKit Go.Joins

/-- The lists that have y, when the first k lists and j numbers of the next are passed. -/
def ctX (ls : List (List Int)) (k j y : Nat) : List Int := whK ls (y : Int) k ++ if (y : Int) ∈ (ls.getD k []).take j then [(k : Int)] else []
def nS (ls : List (List Int)) (y : Nat) : Nat := (whr ls (y : Int)).length
def preS (ls : List (List Int)) : Nat → Nat
  | 0 => 0
  | y + 1 => preS ls y + nS ls y
def totK (ls : List (List Int)) (k : Nat) : Nat := ((ls.take k).map List.length).sum
theorem totK_succ {ls : List (List Int)} {k : Nat} {r : List Int} (h : ls[k]? = some r) : totK ls (k + 1) = totK ls k + r.length := by
  unfold totK
  rw [List.take_add_one, h, List.map_append, List.sum_append]
  simp
theorem totK_le {ls : List (List Int)} (h : ∀ r, r ∈ ls → r.length ≤ 4000) : ∀ k, totK ls k ≤ 4000 * k
  | 0 => by simp [totK]
  | k + 1 => by
    have ih := totK_le h k
    cases hk : ls[k]? with
    | some r =>
      rw [totK_succ hk]
      have := h r (List.mem_of_getElem? hk)
      omega
    | none =>
      have e : totK ls (k + 1) = totK ls k := by
        unfold totK
        rw [List.take_add_one, hk]
        simp
      rw [e]; omega
theorem ct_start (ls : List (List Int)) (k y : Nat) : ctX ls k 0 y = whK ls (y : Int) k := by
  unfold ctX
  rw [List.take_zero, if_neg List.not_mem_nil, List.append_nil]
theorem ct_row {ls : List (List Int)} {k : Nat} {r : List Int} (h : ls[k]? = some r) (y : Nat) : ctX ls k r.length y = whK ls (y : Int) (k + 1) := by
  have e : ls.getD k [] = r := by rw [List.getD_eq_getElem?_getD, h]; rfl
  unfold ctX
  rw [e, List.take_length, whK_succ h]
  split
  · rfl
  · rw [List.append_nil]
theorem ct_hit {ls : List (List Int)} {k j y : Nat} {r : List Int} (h : ls[k]? = some r) (hr : r.Pairwise (· < ·)) (hj : r[j]? = some (y : Int)) : ctX ls k (j + 1) y = ctX ls k j y ++ [(k : Int)] := by
  have e : ls.getD k [] = r := by rw [List.getD_eq_getElem?_getD, h]; rfl
  have h1 : (y : Int) ∈ r.take (j + 1) := by
    rw [List.take_add_one, hj]
    exact List.mem_append.2 (.inr (List.mem_singleton.2 rfl))
  have h2 : ¬ (y : Int) ∈ r.take j := fun hm => by
    obtain ⟨i, hi⟩ := List.mem_iff_getElem?.1 hm
    rw [List.getElem?_take] at hi
    split at hi
    · rename_i hij
      have := rise_get14 hr hi hj hij
      omega
    · cases hi
  unfold ctX
  rw [e, if_pos h1, if_neg h2, List.append_nil]
theorem ct_miss {ls : List (List Int)} {k j y z : Nat} {r : List Int} (h : ls[k]? = some r) (hj : r[j]? = some (y : Int)) (hne : z ≠ y) : ctX ls k (j + 1) z = ctX ls k j z := by
  have e : ls.getD k [] = r := by rw [List.getD_eq_getElem?_getD, h]; rfl
  unfold ctX
  rw [e, List.take_add_one, hj]
  have : ((z : Int) ∈ r.take j ++ (some (y : Int)).toList) ↔ (z : Int) ∈ r.take j := by
    rw [List.mem_append]
    constructor
    · rintro (h | h)
      · exact h
      · have : (z : Int) = y := by simpa using h
        omega
    · exact .inl
  simp only [this]
theorem whK_mono (ls : List (List Int)) (c : Int) (k : Nat) : ∀ d, (whK ls c k).length ≤ (whK ls c (k + d)).length
  | 0 => Nat.le_refl _
  | d + 1 => by
    have ih := whK_mono ls c k d
    have h : (whK ls c (k + d)).length ≤ (whK ls c (k + d + 1)).length := by
      unfold whK
      rw [List.length_map, List.length_map, List.range_succ, List.filter_append, List.length_append]
      omega
    exact Nat.le_trans ih h
theorem whK_le {ls : List (List Int)} {c : Int} {k : Nat} (hk : k ≤ ls.length) : (whK ls c k).length ≤ (whr ls c).length := by
  have := whK_mono ls c k (ls.length - k)
  rw [show k + (ls.length - k) = ls.length by omega, whK_all] at this
  exact this
theorem ct_le {ls : List (List Int)} {k j : Nat} {r : List Int} (h : ls[k]? = some r) (y : Nat) : (ctX ls k j y).length ≤ nS ls y := by
  have hk : k < ls.length := (List.getElem?_eq_some_iff.1 h).1
  have e : ls.getD k [] = r := by rw [List.getD_eq_getElem?_getD, h]; rfl
  have h1 := whK_le (c := (y : Int)) (show k + 1 ≤ ls.length from hk)
  rw [whK_succ h] at h1
  unfold ctX nS
  rw [e]
  by_cases hm : (y : Int) ∈ r.take j
  · rw [if_pos hm]
    rw [if_pos (List.mem_of_mem_take hm)] at h1
    exact h1
  · rw [if_neg hm, List.append_nil]
    have := whK_le (c := (y : Int)) (show k ≤ ls.length by omega)
    exact this
theorem ct_lt {ls : List (List Int)} {k j y : Nat} {r : List Int} (h : ls[k]? = some r) (hr : r.Pairwise (· < ·)) (hj : r[j]? = some (y : Int)) : (ctX ls k j y).length < nS ls y := by
  have h1 := ct_le (j := j + 1) h y
  rw [ct_hit h hr hj, List.length_append] at h1
  exact h1
theorem pre_mono (ls : List (List Int)) : ∀ {a b : Nat}, a ≤ b → preS ls a ≤ preS ls b
  | a, 0, h => by
    have : a = 0 := by omega
    subst this
    exact Nat.le_refl _
  | a, b + 1, h => by
    by_cases e : a = b + 1
    · subst e; exact Nat.le_refl _
    · have := pre_mono ls (show a ≤ b by omega)
      show _ ≤ preS ls b + nS ls b
      omega
theorem row_cnt {n : Nat} : ∀ {r : List Int}, r.Pairwise (· < ·) → (∀ x, x ∈ r → 0 ≤ x ∧ x < n) → crdT n (fun c => decide (c ∈ r)) = r.length
  | [], _, _ => by
    have : (fun c : Int => decide (c ∈ ([] : List Int))) = fun _ => false := by funext c; simp
    rw [this, crd_zero]; rfl
  | x :: r, hr, hx => by
    rw [List.pairwise_cons] at hr
    have ih := row_cnt hr.2 fun y hy => hx y (List.mem_cons_of_mem _ hy)
    obtain ⟨h0, h1⟩ := hx x (List.mem_cons_self ..)
    obtain ⟨c, rfl⟩ := Int.eq_ofNat_of_zero_le h0
    have h2 := crd_less (T := fun d => decide (d ∈ (c : Int) :: r)) (c := c) (by simp) n
    rw [if_pos (by omega)] at h2
    have e : (fun d : Int => decide (d ∈ (c : Int) :: r) && !decide (d = (c : Int))) = fun d => decide (d ∈ r) := by
      funext d
      by_cases e : d = (c : Int)
      · subst e
        have : ¬ (c : Int) ∈ r := fun hm => by have := hr.1 _ hm; omega
        simp [this]
      · simp [e]
    rw [e, ih] at h2
    rw [← h2]; rfl
def sumN (n : Nat) (f : Nat → Nat) : Nat := ((List.range n).map f).sum
theorem sumN_succ (n : Nat) (f : Nat → Nat) : sumN (n + 1) f = sumN n f + f n := by
  unfold sumN
  rw [List.range_succ, List.map_append, List.sum_append]
  simp
theorem sumN_add (f g : Nat → Nat) : ∀ n, sumN n (fun y => f y + g y) = sumN n f + sumN n g
  | 0 => rfl
  | n + 1 => by rw [sumN_succ, sumN_succ, sumN_succ, sumN_add f g n]; omega
theorem sumN_crd (T : Int → Bool) : ∀ n, sumN n (fun y => if T (y : Int) = true then 1 else 0) = crdT n T
  | 0 => by simp [sumN, crdT]
  | n + 1 => by rw [sumN_succ, crd_succ, sumN_crd T n]
theorem sumN_ext {f g : Nat → Nat} (h : ∀ y, f y = g y) (n : Nat) : sumN n f = sumN n g := by
  have : f = g := funext h
  rw [this]
theorem sum_wh {ls : List (List Int)} {n : Nat} (hr : ∀ r, r ∈ ls → risL n r) : ∀ k, k ≤ ls.length → sumN n (fun y => (whK ls (y : Int) k).length) = totK ls k
  | 0, _ => by
    have : ∀ n, sumN n (fun y => (whK ls (y : Int) 0).length) = 0 := fun n => by
      induction n with
      | zero => rfl
      | succ n ih => rw [sumN_succ, ih]; rfl
    rw [this]; rfl
  | k + 1, hk => by
    have ih := sum_wh hr k (by omega)
    obtain ⟨r, h⟩ : ∃ r, ls[k]? = some r := ⟨_, List.getElem?_eq_getElem (show k < ls.length by omega)⟩
    have hrr := hr r (List.mem_of_getElem? h)
    have e : ∀ y : Nat, (whK ls (y : Int) (k + 1)).length = (whK ls (y : Int) k).length + if (decide ((y : Int) ∈ r)) = true then 1 else 0 := fun y => by
      rw [whK_succ h]
      by_cases hm : (y : Int) ∈ r
      · rw [if_pos hm, if_pos (decide_eq_true hm), List.length_append]; rfl
      · rw [if_neg hm, if_neg (by simpa using hm)]; rfl
    rw [sumN_ext e, sumN_add, ih, sumN_crd (fun c => decide (c ∈ r)), row_cnt hrr.2 hrr.1, totK_succ h]
theorem pre_sum (ls : List (List Int)) : ∀ n, preS ls n = sumN n (nS ls)
  | 0 => rfl
  | n + 1 => by rw [sumN_succ, ← pre_sum ls n]; rfl
theorem pre_all {ls : List (List Int)} {n : Nat} (hr : ∀ r, r ∈ ls → risL n r) : preS ls n = totK ls ls.length := by
  rw [pre_sum, ← sum_wh hr ls.length (Nat.le_refl _)]
  rfl
end Go.Proofs.Ytcbhcclickjpnaa
