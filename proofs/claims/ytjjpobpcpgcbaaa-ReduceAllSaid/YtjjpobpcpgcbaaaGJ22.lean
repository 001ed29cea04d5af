/- Rows of cells that are made and written: numbers, slices. fewest of the package reduce. -/
import Derived.Test.YtjjpobpcpgcbaaaGJ16
import Derived.Test.YtjjpobpcpgcbaaaGJ06
import Derived.Test.YtjjpobpcpgcbaaaGJ21
namespace Go.Proofs.Ytjjpobpcpgcbaaa
open Go.RowKit Go.Joins

/-- n cells. -/
def celA (n : Nat) (f : Nat → Value) : Array Value := ((List.range n).map f).toArray
theorem celA_get {n p : Nat} (f : Nat → Value) (h : p < n) : (celA n f)[p]? = some (f p) := by
  unfold celA; simp [h]
theorem celA_set {n p : Nat} {f : Nat → Value} {u : Value} : (celA n f).setIfInBounds p u = celA n (fun j => if j = p then u else f j) := by
  unfold celA
  rw [List.setIfInBounds_toArray]
  congr 1
  apply List.ext_getElem?
  intro j
  rw [List.getElem?_set]
  by_cases hj : j < n
  · by_cases e : p = j
    · subst e
      simp [hj]
    · simp [e, hj, show ¬ j = p from fun e' => e e'.symm]
  · by_cases e : p = j
    · subst e
      simp [hj]
    · simp [e, hj]
theorem celA_ext {n : Nat} {f g : Nat → Value} (h : ∀ j, j < n → f j = g j) : celA n f = celA n g := by
  unfold celA
  congr 1
  exact List.map_congr_left fun j hj => h j (List.mem_range.1 hj)
theorem celA_made (z : Value) (n : Nat) : madeCells #[z] n = celA n fun _ => z := by
  unfold celA
  apply Array.toList_inj.1
  rw [toList_madeCells_one]
  apply List.ext_getElem?
  intro j
  by_cases hj : j < n <;> simp [hj]
def celO (T : TypeId) (n : Nat) (f : Nat → Value) : Obj := .cells (celA n f) T (0, 0)
theorem celO_ext {T : TypeId} {n : Nat} {f g : Nat → Value} (h : ∀ j, j < n → f j = g j) : celO T n f = celO T n g := by
  unfold celO
  rw [celA_ext h]
theorem cel_cell {w : World} {T : TypeId} {bt n p : Nat} {f : Nat → Value} (h : w.heap[bt]? = some (celO T n f)) (hp : p < n) : w.cell? ⟨bt, p, none⟩ = some (f p) ∧ w.frozen? ⟨bt, p, none⟩ = false := by
  unfold celO at h
  exact ⟨by rw [cell_of_block h]; exact celA_get f hp, unfrozen_of_block h p⟩
theorem cel_set {w : World} {T : TypeId} {bt n p : Nat} {f : Nat → Value} (h : w.heap[bt]? = some (celO T n f)) (u : Value) : (w.setCell ⟨bt, p, none⟩ u).heap[bt]? = some (celO T n fun j => if j = p then u else f j) := by
  unfold celO at *
  rw [← celA_set]
  exact block_setCell h _
theorem cel_other {w : World} {a p : Nat} {u : Value} {b : Nat} {o : Obj} (h : w.heap[b]? = some o) (hne : b ≠ a) : (w.setCell ⟨a, p, none⟩ u).heap[b]? = some o := by
  rw [Below.heap_setCell _ _ _ _ hne]; exact h
theorem Try.infoInt14 : (Try.prog.info? 3).map (fun i => (i.zero, i.size, i.bytes)) = some (some (.int .i64 0), 1, 8) := by kernel_rfl
theorem Try.infoInts14 : (Try.prog.info? 38).map (fun i => (i.zero, i.size, i.bytes)) = some (some (.slice none 0 0), 1, 24) := by kernel_rfl
theorem make_ints14 (n : Nat) (hn : n ≤ 16000000) (w : World) : (Instr.makeSlice 38 (.int .i64 n) (.int .i64 n)).run Try.prog w = .ok (.slice (some ⟨w.heap.size, 0, none⟩) n n) (w.alloc (celO 3 n fun _ => .int .i64 0)) := by
  obtain ⟨i0, hi, hz0, hz1, hz2⟩ := info_parts Try.infoInt14
  have h := run_makeSlice (P := Try.prog) w 38 3 i0 (.int .i64 0) Try.underlying38 hi hz0 .i64 .i64 n n (by omega) (by omega) (by rw [hz1]; simp; omega) (by rw [hz2]; omega) (by omega)
  rw [h, hz1]
  unfold celO
  rw [← celA_made]
  simp [Value.cells]
theorem make_rows14 (n : Nat) (hn : n ≤ 16000000) (w : World) : (Instr.makeSlice 22 (.int .i64 n) (.int .i64 n)).run Try.prog w = .ok (.slice (some ⟨w.heap.size, 0, none⟩) n n) (w.alloc (celO 38 n fun _ => .slice none 0 0)) := by
  obtain ⟨i0, hi, hz0, hz1, hz2⟩ := info_parts Try.infoInts14
  have h := run_makeSlice (P := Try.prog) w 22 38 i0 (.slice none 0 0) Try.underlying22 hi hz0 .i64 .i64 n n (by omega) (by omega) (by rw [hz1]; simp; omega) (by rw [hz2]; omega) (by omega)
  rw [h, hz1]
  unfold celO
  rw [← celA_made]
  simp [Value.cells]

/-! ### What lies off some blocks -/
/-- The slice v reads as the rows ls; all that it reads lies in blocks of N. -/
def MatN (w : World) (N : Nat → Prop) (v : Value) (ls : List (List Int)) : Prop :=
  ∃ A c, v = .slice A ls.length c ∧ ls.length ≤ 9223372036854775807 ∧
    (0 < ls.length → ∃ b off, A = some ⟨b, off, none⟩ ∧ N b ∧ ∀ j l, ls[j]? = some l → ∃ ov, w.cell? ⟨b, off + j, none⟩ = some ov ∧ IntsN w N ov l)
theorem IntsN.here {w : World} {N : Nat → Prop} {v : Value} {l : List Int} (h : IntsN w N v l) : IntsAt w w.heap.size v l := by
  obtain ⟨A, c, e, hl, h⟩ := h
  refine ⟨A, c, e, hl, fun h0 => ?_⟩
  obtain ⟨b, off, eA, hb, hc⟩ := h h0
  exact ⟨b, off, eA, block_lt_of_cell (hc 0 _ (List.getElem?_eq_getElem h0)), hc⟩
theorem MatN.here {w : World} {N : Nat → Prop} {v : Value} {ls : List (List Int)} (h : MatN w N v ls) : MatAt w w.heap.size v ls := by
  obtain ⟨A, c, e, hl, h⟩ := h
  refine ⟨A, c, e, hl, fun h0 => ?_⟩
  obtain ⟨b, off, eA, hb, hc⟩ := h h0
  refine ⟨b, off, eA, ?_, fun j l hj => ?_⟩
  · obtain ⟨ov, z, -⟩ := hc 0 _ (List.getElem?_eq_getElem h0)
    exact block_lt_of_cell z
  · obtain ⟨ov, z, hi⟩ := hc j l hj
    exact ⟨ov, z, hi.here⟩
theorem IntsAt.toN {w : World} {B : Nat} {N : Nat → Prop} {v : Value} {l : List Int} (h : IntsAt w B v l) (hN : ∀ b, b < B → N b) : IntsN w N v l := by
  obtain ⟨A, c, e, hl, h⟩ := h
  refine ⟨A, c, e, hl, fun h0 => ?_⟩
  obtain ⟨b, off, eA, hb, hc⟩ := h h0
  exact ⟨b, off, eA, hN b hb, hc⟩
theorem MatAt.toN {w : World} {B : Nat} {N : Nat → Prop} {v : Value} {ls : List (List Int)} (h : MatAt w B v ls) (hN : ∀ b, b < B → N b) : MatN w N v ls := by
  obtain ⟨A, c, e, hl, h⟩ := h
  refine ⟨A, c, e, hl, fun h0 => ?_⟩
  obtain ⟨b, off, eA, hb, hc⟩ := h h0
  refine ⟨b, off, eA, hN b hb, fun j l hj => ?_⟩
  obtain ⟨ov, z, hi⟩ := hc j l hj
  exact ⟨ov, z, hi.toN hN⟩
/-- All cells but those of D stay. -/
structure KeepC (D : Nat → Prop) (W W' : World) : Prop where
  size : W.heap.size ≤ W'.heap.size
  same : ∀ (b : Nat) (o : Obj), W.heap[b]? = some o → o.isCells = true → ¬ D b → W'.heap[b]? = some o
theorem KeepC.refl (D : Nat → Prop) (W : World) : KeepC D W W := ⟨Nat.le_refl _, fun _ _ h _ _ => h⟩
theorem KeepC.trans {D : Nat → Prop} {W W' W'' : World} (h : KeepC D W W') (k : KeepC D W' W'') : KeepC D W W'' :=
  ⟨Nat.le_trans h.size k.size, fun b o h1 h2 h3 => k.same b o (h.same b o h1 h2 h3) h2 h3⟩
theorem KeepC.of_below {D : Nat → Prop} {W W' : World} (h : Below W.heap.size W W') : KeepC D W W' :=
  ⟨h.size, fun b _ h1 _ _ => (h.block b (size_of_block h1)).trans h1⟩
theorem keepC_b {D : Nat → Prop} (W : World) (l : Nat) (o o' : Obj) (h : W.heap[l]? = some o) (ho : o.isCells = false) : KeepC D W (W.putObj l o') :=
  ⟨(grownBy_putObj' W l o').size, fun b o2 h1 h2 _ => by
    by_cases e : b = l
    · subst e
      rw [h] at h1
      injection h1 with h1
      subst h1
      rw [ho] at h2
      cases h2
    · exact (World.putObj_heap_other e).trans h1⟩
theorem KeepC.cell {D : Nat → Prop} {W W' : World} {b j : Nat} {v : Value} (h : KeepC D W W') (hc : W.cell? ⟨b, j, none⟩ = some v) (hd : ¬ D b) : W'.cell? ⟨b, j, none⟩ = some v := by
  obtain ⟨o, ho, hco⟩ := cells_of_cell hc
  have h1 := h.same b o ho hco hd
  rw [World.cell?_of_block (w := W) (a := ⟨b, j, none⟩) (h1.trans ho.symm)]
  exact hc
theorem KeepC.ints {D : Nat → Prop} {W W' : World} {v : Value} {l : List Int} (hk : KeepC D W W') (h : IntsN W (fun b => ¬ D b) v l) : IntsN W' (fun b => ¬ D b) v l := by
  obtain ⟨A, c, e, hl, h⟩ := h
  refine ⟨A, c, e, hl, fun h0 => ?_⟩
  obtain ⟨b, off, eA, hb, hc⟩ := h h0
  exact ⟨b, off, eA, hb, fun j x hj => hk.cell (hc j x hj) hb⟩
theorem KeepC.mat {D : Nat → Prop} {W W' : World} {v : Value} {ls : List (List Int)} (hk : KeepC D W W') (h : MatN W (fun b => ¬ D b) v ls) : MatN W' (fun b => ¬ D b) v ls := by
  obtain ⟨A, c, e, hl, h⟩ := h
  refine ⟨A, c, e, hl, fun h0 => ?_⟩
  obtain ⟨b, off, eA, hb, hc⟩ := h h0
  refine ⟨b, off, eA, hb, fun j l hj => ?_⟩
  obtain ⟨ov, z, hi⟩ := hc j l hj
  exact ⟨ov, hk.cell z hb, hk.ints hi⟩

/-- Where rows that may hold row k's numbers are looked for. -/
def FewOk (ls hv : List (List Int)) (r : List Int) (l : List Int) : Prop :=
  (r = [] ∧ l = (List.range ls.length).map fun j : Nat => (j : Int)) ∨ ∃ x : Nat, (x : Int) ∈ r ∧ hv[x]? = some l
set_option maxHeartbeats 2000000 in
set_option maxRecDepth 100000 in
theorem fewest14_any (N : Nat → Prop) (V H : Value) (ls hv : List (List Int)) (k : Nat) (r : List Int) (w : World) (hV : MatAt w w.heap.size V ls) (hH : MatN w N H hv) (hk : ls[k]? = some r) (hr : ∀ x, x ∈ r → 0 ≤ x ∧ x < hv.length) (hls : ls.length ≤ 100000) :
    Calls Try.prog 58 #[V, H, .int .i64 k] w fun e w' => ∃ v l, e = .returned v ∧ FewOk ls hv r l ∧ IntsN w' (fun b => N b ∨ w.heap.size ≤ b) v l ∧ Below w.heap.size w w' := by
  have hmk := fun w => make_ints14 ls.length (by omega) w
  obtain ⟨A, c, rfl, hll, hcv⟩ := hV
  obtain ⟨A2, c2, rfl, hlh, hch⟩ := hH
  have hkl : k < ls.length := (List.getElem?_eq_some_iff.1 hk).1
  obtain ⟨b, off, rfl, hB, hc⟩ := hcv (by omega)
  obtain ⟨ov, q0, hov⟩ := hc k r hk
  obtain ⟨Ar, cr, rfl, hlr, hcr⟩ := hov
  have k0 : (0 : Int) ≤ (k : Int) := by omega
  have k1 : (k : Int) < (ls.length : Int) := by omega
  clear hcv hc hk
  go_enter Try.func58, Try.ntmps58
  by_cases h0 : r.length = 0
  · have hre : r = [] := List.eq_nil_of_length_eq_zero h0
    have hd : ((r.length : Int) == 0) = true := by rw [beq_iff_eq]; omega
    have hf : Hid (FewOk ls hv r ((List.range ls.length).map fun j : Nat => (j : Int))) := Lib.hid (.inl ⟨hre, rfl⟩)
    have ha := heap_alloc_new w (celO 3 ls.length fun _ => .int .i64 0)
    have hB1 := below_alloc1 w (celO 3 ls.length fun _ => .int .i64 0)
    clear hre h0 hch hcr hr
    go_wp2
    generalize w.alloc _ = w1 at *
    generalize hgb : w.heap.size = gb at *
    have hgbH := Lib.hid hgb
    clear hgb q0 hd hmk
    go_loopw [8, 23] (fun _ t wr => ∃ j : Nat, j ≤ ls.length ∧ t = .int .i64 j ∧ wr.heap[gb]? = some (celO 3 ls.length fun p => if p < j then .int .i64 p else .int .i64 0) ∧ Below gb w wr) (fun _ t _ => ls.length - (intOf t).toNat)
    case atStart => exact ⟨0, by omega, rfl, by simpa using ha, hB1⟩
    case round =>
      clear ha hB1
      obtain ⟨j, hj, rfl, hg, hb⟩ := hrel
      by_cases hlt : j < ls.length
      · obtain ⟨y0, yf⟩ := cel_cell hg hlt
        have hg2 := cel_set (p := j) hg (.int .i64 j)
        have hg3 : (wr.setCell ⟨gb, j, none⟩ (.int .i64 j)).heap[gb]? = some (celO 3 ls.length fun p => if p < j + 1 then .int .i64 p else .int .i64 0) := by
          refine hg2.trans (congrArg some (celO_ext fun p hp => ?_))
          by_cases e : p = j
          · subst e; simp
          · by_cases e2 : p < j
            · rw [if_neg e, if_pos e2, if_pos (by omega)]
            · rw [if_neg e, if_neg e2, if_neg (by omega)]
        have hb4 := hb.setCell (p := ⟨gb, j, none⟩) (Nat.le_refl gb) (.int .i64 j)
        have j0 : (0 : Int) ≤ (j : Int) := by omega
        have j1 : (j : Int) < (ls.length : Int) := by omega
        clear hg hg2 hb
        go_wp2
        go_roundw
        case rel => exact ⟨j + 1, by omega, by go_num, hg3, hb4⟩
        case measure => simp [intOf]; omega
      · have e : j = ls.length := by omega
        have hjd : ¬ (j : Int) < (ls.length : Int) := by omega
        have hI : Hid (IntsN wr (fun b => N b ∨ gb ≤ b) (.slice (some ⟨gb, 0, none⟩) ls.length ls.length) ((List.range ls.length).map fun j : Nat => (j : Int))) := Lib.hid (by
          refine ⟨some ⟨gb, 0, none⟩, ls.length, by simp, by simpa using hll, fun _ => ⟨gb, 0, rfl, .inr (Nat.le_refl _), fun p x hp => ?_⟩⟩
          have hpl : p < ls.length := by
            have := (List.getElem?_eq_some_iff.1 hp).1
            simpa using this
          obtain ⟨y0, -⟩ := cel_cell hg hpl
          rw [Nat.zero_add, y0, if_pos (by omega)]
          simp [hpl] at hp
          rw [hp])
        have hbw : Below w.heap.size w wr := by rw [hgbH.out]; exact hb
        clear e hg hb
        go_wp2
        go_ret
        exact ⟨_, rfl, _, hf.out, by rw [hgbH.out]; exact hI.out, hbw⟩
  · have hd : ((r.length : Int) == 0) = false := by rw [beq_eq_false_iff_ne]; omega
    obtain ⟨br, offr, rfl, hBr, hcr⟩ := hcr (by omega)
    obtain ⟨x0, hx0⟩ : ∃ x, r[0]? = some x := ⟨_, List.getElem?_eq_getElem (show 0 < r.length by omega)⟩
    have hxm := Lib.hid (List.mem_of_getElem? hx0)
    obtain ⟨e0, e1⟩ := hr x0 hxm.out
    obtain ⟨y, rfl⟩ := Int.eq_ofNat_of_zero_le e0
    have hyl : y < hv.length := by omega
    obtain ⟨b2, off2, rfl, hB2, hc2⟩ := hch (by omega)
    obtain ⟨l0, hl0⟩ : ∃ l, hv[y]? = some l := ⟨_, List.getElem?_eq_getElem hyl⟩
    obtain ⟨o0, z0, ho0⟩ := hc2 y l0 hl0
    have c0 := hcr 0 _ hx0
    rw [Nat.add_zero] at c0
    have hR0 : (0 : Int) < (r.length : Int) := by omega
    have hcrH := Lib.hid hcr
    have hc2H := Lib.hid hc2
    have hrH := Lib.hid hr
    have hF0 : Hid (∃ x : Nat, (x : Int) ∈ r ∧ hv[x]? = some l0) := Lib.hid ⟨y, hxm.out, hl0⟩
    have ho0H := ho0
    obtain ⟨A0, c0', rfl, -, -⟩ := ho0
    clear hcr hc2 hl0 hch hr hx0 hxm h0 hmk
    go_wp2
    clear c0 z0 e0 e1
    go_loopw [9, 11, 46] (fun V _ t wr => ∃ (j : Nat) (l : List Int), j ≤ r.length ∧ t = .int .i64 j ∧ IntsN w N V l ∧ Hid (∃ x : Nat, (x : Int) ∈ r ∧ hv[x]? = some l) ∧ w = wr) (fun _ _ t _ => r.length - (intOf t).toNat)
    case atStart => exact ⟨0, l0, by omega, rfl, ho0H, hF0, rfl⟩
    case round =>
      clear ho0H hF0 hyl
      obtain ⟨j, l, hj, rfl, hV, hF, rfl⟩ := hrel
      by_cases hlt : j < r.length
      · obtain ⟨x, hx⟩ : ∃ x, r[j]? = some x := ⟨_, List.getElem?_eq_getElem hlt⟩
        have hxm := List.mem_of_getElem? hx
        obtain ⟨e0, e1⟩ := hrH.out x hxm
        obtain ⟨y, rfl⟩ := Int.eq_ofNat_of_zero_le e0
        obtain ⟨l2, hl2⟩ : ∃ l, hv[y]? = some l := ⟨_, List.getElem?_eq_getElem (show y < hv.length by omega)⟩
        obtain ⟨o2, z2, ho2⟩ := hc2H.out y l2 hl2
        have d0 := hcrH.out j _ hx
        have hF2 : Hid (∃ x : Nat, (x : Int) ∈ r ∧ hv[x]? = some l2) := Lib.hid ⟨y, hxm, hl2⟩
        have hVk := hV
        have ho2k := ho2
        obtain ⟨Av, cv, rfl, -, -⟩ := hV
        obtain ⟨A3, c3, rfl, -, -⟩ := ho2
        have j0 : (0 : Int) ≤ (j : Int) := by omega
        have j1 : (j : Int) < (r.length : Int) := by omega
        clear hx hxm hl2 hcrH hc2H hrH q0 hd
        by_cases hs : l2.length < l.length
        · have hs2 : (l2.length : Int) < (l.length : Int) := by omega
          clear hs
          go_wp2
          go_roundw
          case rel => exact ⟨j + 1, l2, by omega, by go_num, ho2k, hF2, by first | rfl | trivial⟩
          case measure => simp [intOf]; omega
        · have hs2 : ¬ (l2.length : Int) < (l.length : Int) := by omega
          clear hs
          go_wp2
          go_roundw
          case rel => exact ⟨j + 1, l, by omega, by go_num, hVk, hF, by first | rfl | trivial⟩
          case measure => simp [intOf]; omega
      · have e : j = r.length := by omega
        have hjd : ¬ (j : Int) < (r.length : Int) := by omega
        have hf : Hid (FewOk ls hv r l) := Lib.hid (.inr hF.out)
        have hVk := hV
        obtain ⟨Av, cv, rfl, -, -⟩ := hV
        clear e hF hcrH hc2H hrH
        go_wp2
        go_ret
        exact ⟨_, rfl, _, hf.out, hVk.keep (fun _ _ => rfl) (fun _ h => .inl h), Below.refl _ _⟩
end Go.Proofs.Ytjjpobpcpgcbaaa
