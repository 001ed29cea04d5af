/- Package multi: the order of rows: the keys, what sortBy compares by, and slices.SortFunc at rows. Package multi: Holds, Within, Grow, Prime. -/
import Derived.Test.YtehpccanjlaokaaGreatGQ08
import Derived.Test.YtehpccanjlaokaaGreatGQ39
import Derived.Test.YtehpccanjlaokaaGreatShelf2
import Derived.Test.YtehpccanjlaokaaGreatGQ21
import Derived.Test.YtehpccanjlaokaaGreatGQ36
namespace Go.Proofs.YtehpccanjlaokaaGreat
open Go.RowKit Go.Joins

/-- A world that is w after some draws, with some blocks laid behind it. -/
def GrT (w : World) : Type := { W : World // ∃ q os, W = Go.Sort.grow (w.drewN q) os }
def GrT.here (w : World) : GrT w := ⟨w, 0, #[], by rw [Go.Sort.grow_empty]; rfl⟩
instance (w : World) : Nonempty (GrT w) := ⟨GrT.here w⟩
theorem gr_on {w W W' : World} (h : ∃ q os, W = Go.Sort.grow (w.drewN q) os) (h' : ∃ q os, W' = Go.Sort.grow (W.drewN q) os) : ∃ q os, W' = Go.Sort.grow (w.drewN q) os := by
  obtain ⟨q, os, rfl⟩ := h
  obtain ⟨q', os', rfl⟩ := h'
  refine ⟨q + q', os ++ os', ?_⟩
  show Go.Sort.grow (Go.Sort.grow ((w.drewN q).drewN q') os) os' = _
  rw [Go.Sort.grow_grow, World.drewN_drewN]
theorem gr_cell {w W : World} (h : ∃ q os, W = Go.Sort.grow (w.drewN q) os) {b o : Nat} {v : Value} (hv : w.cell? ⟨b, o, none⟩ = some v) : W.cell? ⟨b, o, none⟩ = some v := by
  obtain ⟨q, os, rfl⟩ := h
  exact cell_grown (block_lt_of_cell hv) hv q os
theorem GrT.cell {w : World} (x : GrT w) {b o : Nat} {v : Value} (h : w.cell? ⟨b, o, none⟩ = some v) : x.1.cell? ⟨b, o, none⟩ = some v := gr_cell x.2 h
theorem wp_region_gr {P : Program} {id : Nat} {Q : Exit → Act → World → Prop} {a : Act} {w : World} {l : List Oper} (hm : P.follows .mixedOrders = true) (hB : Region.lexB .any l.toArray = true)
    (h : wpQuiet P l.toArray (fun W => ∃ x : GrT w, W = x.1) (fun a' => ∀ x : GrT w, Q .normal a' x.1) l a) : (Code.region id l.toArray true).wp P Q a w := by
  refine wp_region_quiet (C := fun W => ∃ x : GrT w, W = x.1) hm hB ⟨⟨w.drew, 1, #[], by rw [Go.Sort.grow_empty]; rfl⟩, rfl⟩ ?_
  have e : (fun a' : Act => ∀ w', (∃ x : GrT w, w' = x.1) → Q .normal a' w') = fun a' => ∀ x : GrT w, Q .normal a' x.1 := by
    funext a'
    apply propext
    exact ⟨fun H x => H _ ⟨x, rfl⟩, fun H w' ⟨x, hx⟩ => by rw [hx]; exact H x⟩
  rw [e]
  simpa using h
theorem Calls.gr_of {P : Program} {f : FuncId} {args : Array Value} {w : World} {x : GrT w} {v : Value}
    (h : Calls P f args x.1 fun e w' => e = .returned v ∧ ∃ q os, w' = Go.Sort.grow (x.1.drewN q) os) : Calls P f args x.1 fun e w'' => e = .returned v ∧ ∃ y : GrT w, w'' = y.1 :=
  h.mono fun _ w' ⟨he, hb⟩ => ⟨he, ⟨w', gr_on x.2 hb⟩, rfl⟩
theorem gr_alloc (w : World) (o : Obj) : ∃ q os, w.alloc o = Go.Sort.grow (w.drewN q) os := ⟨0, #[o], by rw [Go.Sort.alloc_eq_grow]; rfl⟩
theorem gr_self (w : World) : ∃ q os, w = Go.Sort.grow (w.drewN q) os := (GrT.here w).2

/- THE KEYS. -/
theorem keyo_any (x : Rw) (w : World) : Calls Tryz.prog 29 #[rwv x] w fun e w' => e = .returned (bvv x.o) ∧ ∃ q os, w' = Go.Sort.grow (w.drewN q) os := by
  unfold rwv bvv
  go_enter Tryz.func29, Tryz.ntmps29
  go_wp2
  go_ret
  exact ⟨rfl, gr_alloc _ _⟩
theorem keym_any (x : Rw) (w : World) : Calls Tryz.prog 30 #[rwv x] w fun e w' => e = .returned (bvv x.m) ∧ ∃ q os, w' = Go.Sort.grow (w.drewN q) os := by
  unfold rwv bvv
  go_enter Tryz.func30, Tryz.ntmps30
  go_wp2
  go_ret
  exact ⟨rfl, gr_alloc _ _⟩
theorem keyv_any (x : Rw) (w : World) : Calls Tryz.prog 31 #[rwv x] w fun e w' => e = .returned (bvv x.v) ∧ ∃ q os, w' = Go.Sort.grow (w.drewN q) os := by
  unfold rwv bvv
  go_enter Tryz.func31, Tryz.ntmps31
  go_wp2
  go_ret
  exact ⟨rfl, gr_alloc _ _⟩
/-- Where the three keys lie. -/
structure KeysAt (w : World) (kb fb c : Nat) : Prop where
  k : w.cell? ⟨kb, 0, none⟩ = some (.slice (some ⟨fb, 0, none⟩) 3 c)
  f0 : w.cell? ⟨fb, 0, none⟩ = some (.func (.func 29) #[] #[])
  f1 : w.cell? ⟨fb, 1, none⟩ = some (.func (.func 30) #[] #[])
  f2 : w.cell? ⟨fb, 2, none⟩ = some (.func (.func 31) #[] #[])
/-- What the comparer reads. -/
structure CmpAt (w : World) (bs kb fb c : Nat) (a b : Rw) : Prop where
  keys : KeysAt w kb fb c
  a0 : w.cell? ⟨bs, 0, none⟩ = some (.int .u8 a.m.toNat)
  a1 : w.cell? ⟨bs, 1, none⟩ = some (.int .u8 a.v.toNat)
  a2 : w.cell? ⟨bs, 2, none⟩ = some (.int .u8 a.o.toNat)
  b0 : w.cell? ⟨bs + 1, 0, none⟩ = some (.int .u8 b.m.toNat)
  b1 : w.cell? ⟨bs + 1, 1, none⟩ = some (.int .u8 b.v.toNat)
  b2 : w.cell? ⟨bs + 1, 2, none⟩ = some (.int .u8 b.o.toNat)
theorem KeysAt.on {w W : World} {kb fb c : Nat} (h : KeysAt w kb fb c) (hg : ∃ q os, W = Go.Sort.grow (w.drewN q) os) : KeysAt W kb fb c := ⟨gr_cell hg h.k, gr_cell hg h.f0, gr_cell hg h.f1, gr_cell hg h.f2⟩
theorem CmpAt.on {w W : World} {bs kb fb c : Nat} {a b : Rw} (h : CmpAt w bs kb fb c a b) (hg : ∃ q os, W = Go.Sort.grow (w.drewN q) os) : CmpAt W bs kb fb c a b :=
  ⟨h.keys.on hg, gr_cell hg h.a0, gr_cell hg h.a1, gr_cell hg h.a2, gr_cell hg h.b0, gr_cell hg h.b1, gr_cell hg h.b2⟩
theorem cmp_lt {x y x' y' : Nat} (h : cmpI x y ≠ 0) (h' : (x < y ↔ x' < y') ∧ (y < x ↔ y' < x')) : cmpI x' y' = cmpI x y := by
  unfold cmpI at *
  split at h <;> split <;> (try split) <;> (try split) <;> (try split at h) <;> (try omega)
theorem cmp_eq {a b : BitVec 8} (h : cmpI a.toNat b.toNat = 0) : a = b := by
  unfold cmpI at h
  apply BitVec.eq_of_toNat_eq
  split at h
  · omega
  · split at h <;> omega
theorem cmpR_o {a b : Rw} (h : cmpI a.o.toNat b.o.toNat ≠ 0) : cmpI (keyR a) (keyR b) = cmpI a.o.toNat b.o.toNat := by
  have ha := keyC_lt a.m a.v
  have hb := keyC_lt b.m b.v
  refine cmp_lt h ⟨?_, ?_⟩ <;> unfold keyR <;> constructor <;> intro h1 <;> (first | omega | (have : ¬ a.o.toNat = b.o.toNat := (fun e => by rw [e] at h; unfold cmpI at h; simp at h); omega))
theorem cmpR_m {a b : Rw} (e : a.o = b.o) (h : cmpI a.m.toNat b.m.toNat ≠ 0) : cmpI (keyR a) (keyR b) = cmpI a.m.toNat b.m.toNat := by
  have ha := a.v.isLt
  have hb := b.v.isLt
  refine cmp_lt h ⟨?_, ?_⟩ <;> unfold keyR keyC <;> rw [e] <;> constructor <;> intro h1 <;> (first | omega | (have : ¬ a.m.toNat = b.m.toNat := (fun e => by rw [e] at h; unfold cmpI at h; simp at h); omega))
theorem cmpR_v {a b : Rw} (e : a.o = b.o) (e' : a.m = b.m) : cmpI (keyR a) (keyR b) = cmpI a.v.toNat b.v.toNat := by
  unfold cmpI keyR keyC
  rw [e, e']
  split <;> split <;> (try split) <;> (try split) <;> omega
set_option maxHeartbeats 4000000 in
set_option maxRecDepth 100000 in
theorem sortcmp_any (a b : Rw) (kb fb c : Nat) (w : World) (hk : KeysAt w kb fb c) :
    Calls Tryz.prog 66 #[rwv a, rwv b, .pointer (some ⟨kb, 0, none⟩)] w fun e w' => e = .returned (.int .i64 (cmpI (keyR a) (keyR b))) ∧ ∃ q os, w' = Go.Sort.grow (w.drewN q) os := by
  have hg0 := gr_on (gr_alloc w (.cells #[.int .u8 a.m.toNat, .int .u8 a.v.toNat, .int .u8 a.o.toNat] 59 (0, 0))) (gr_alloc _ (.cells #[.int .u8 b.m.toNat, .int .u8 b.v.toNat, .int .u8 b.o.toNat] 59 (0, 0)))
  have hxa : ((w.alloc (.cells #[.int .u8 a.m.toNat, .int .u8 a.v.toNat, .int .u8 a.o.toNat] 59 (0, 0))).alloc (.cells #[.int .u8 b.m.toNat, .int .u8 b.v.toNat, .int .u8 b.o.toNat] 59 (0, 0))).heap[w.heap.size]? = some (.cells #[.int .u8 a.m.toNat, .int .u8 a.v.toNat, .int .u8 a.o.toNat] 59 (0, 0)) := by rw [heap_alloc2_old]
  have hxb : ((w.alloc (.cells #[.int .u8 a.m.toNat, .int .u8 a.v.toNat, .int .u8 a.o.toNat] 59 (0, 0))).alloc (.cells #[.int .u8 b.m.toNat, .int .u8 b.v.toNat, .int .u8 b.o.toNat] 59 (0, 0))).heap[w.heap.size + 1]? = some (.cells #[.int .u8 b.m.toNat, .int .u8 b.v.toNat, .int .u8 b.o.toNat] 59 (0, 0)) := by rw [heap_alloc2_new]
  have hc0 : CmpAt ((w.alloc (.cells #[.int .u8 a.m.toNat, .int .u8 a.v.toNat, .int .u8 a.o.toNat] 59 (0, 0))).alloc (.cells #[.int .u8 b.m.toNat, .int .u8 b.v.toNat, .int .u8 b.o.toNat] 59 (0, 0))) w.heap.size kb fb c a b := by
    obtain ⟨a0, a1, a2, -⟩ := now3 hxa rfl
    obtain ⟨b0, b1, b2, -⟩ := now3 hxb rfl
    exact ⟨hk.on hg0, a0, a1, a2, b0, b1, b2⟩
  have Ho := fun x w => keyo_any x w
  have Hm := fun x w => keym_any x w
  have Hv := fun x w => keyv_any x w
  have HC := fun (p q : BitVec 8) w => (compare8_any p q w).mono fun e w' (h : _ ∧ w' = w) => (⟨h.1, h.2 ▸ gr_self w⟩ : e = .returned (.int .i64 (cmpI p.toNat q.toNat)) ∧ ∃ q os, w' = Go.Sort.grow (w.drewN q) os)
  have ro := Lib.hid (fun h => cmpR_o (a := a) (b := b) h)
  have rm := Lib.hid (fun h h' => cmpR_m (a := a) (b := b) h h')
  have rv := Lib.hid (fun h h' => cmpR_v (a := a) (b := b) h h')
  generalize cmpI (keyR a) (keyR b) = R at *
  clear hxa hxb hk
  unfold rwv bvv at *
  go_enter Tryz.func66, Tryz.ntmps66
  go_upto_region 1 with (fail)
  generalize (w.alloc _).alloc _ = W at *
  have hkk := hc0.keys.k
  go_wp2
  go_loopw [11] (fun t wr => ∃ k : Nat, k ≤ 3 ∧ t = .int .i64 k ∧ Hid (∃ q os, wr = Go.Sort.grow (w.drewN q) os) ∧ CmpAt wr w.heap.size kb fb c a b ∧ Hid (1 ≤ k → a.o = b.o) ∧ Hid (2 ≤ k → a.m = b.m) ∧ Hid (3 ≤ k → a.v = b.v)) (fun t _ => 3 - (intOf t).toNat)
  case atStart => exact ⟨0, by omega, rfl, Lib.hid hg0, hc0, Lib.hid (by omega), Lib.hid (by omega), Lib.hid (by omega)⟩
  case round =>
    clear hkk hc0 hg0
    obtain ⟨k, hk, rfl, hg, hc, e1, e2, e3⟩ := hrel
    obtain ⟨⟨kk, f0, f1, f2⟩, a0, a1, a2, b0, b1, b2⟩ := hc
    have hcc := Lib.hid (CmpAt.mk ⟨kk, f0, f1, f2⟩ a0 a1 a2 b0 b1 b2)
    have A0 := fun x : GrT wr => GrT.cell x a0
    have A1 := fun x : GrT wr => GrT.cell x a1
    have A2 := fun x : GrT wr => GrT.cell x a2
    have B0 := fun x : GrT wr => GrT.cell x b0
    have B1 := fun x : GrT wr => GrT.cell x b1
    have B2 := fun x : GrT wr => GrT.cell x b2
    clear a0 a1 a2 b0 b1 b2 kk
    rcases (by omega : k = 0 ∨ k = 1 ∨ k = 2 ∨ k = 3) with rfl | rfl | rfl | rfl
    · have Ha := Ho a
      have Hb := Ho b
      have HCr := HC a.o b.o
      have r1 := Lib.hid (fun h => ro.out h)
      have r2 := Lib.hid (fun h => cmp_eq (a := a.o) (b := b.o) h)
      clear Ho Hm Hv HC ro rm rv f1 f2
      generalize cmpI a.o.toNat b.o.toNat = r at *
      go_upto_region 4 with (fail)
      refine wp_region_gr (by kernel_rfl) (by kernel_rfl) ?_
      repeat (first | go_big_quiet_step (first | (go_at_call_of 29 (Value.agg #[.int .u8 a.m.toNat, .int .u8 a.v.toNat, .int .u8 a.o.toNat]); exact Calls.gr_of (Ha _)) | (go_at_call_of 29 (Value.agg #[.int .u8 b.m.toNat, .int .u8 b.v.toNat, .int .u8 b.o.toNat]); exact Calls.gr_of (Hb _)) | (go_at_call 67; exact Calls.gr_of (HCr _))))
      refine wpQuiet_nil ?_
      intro x
      have hgx := Lib.hid (gr_on hg.out x.2)
      have hcx := hcc.out.on x.2
      clear A0 A1 A2 B0 B1 B2 Ha Hb HCr hcc hg
      cases hd : ((r : Int) != 0)
      · have e0 : r = 0 := by simpa using hd
        have q1 := Lib.hid (r2.out e0)
        clear r1 r2 e0
        go_wp2
        go_roundw
        case rel => exact ⟨1, by omega, by go_num, hgx, hcx, Lib.hid (fun _ => q1.out), Lib.hid (by omega), Lib.hid (by omega)⟩
        case measure => simp [intOf]
      · have e0 : ¬ r = 0 := by simpa using hd
        have hR := Lib.hid (r1.out e0)
        clear r1 r2 e0
        go_wp2
        go_ret
        exact ⟨by rw [hR.out]; rfl, hgx.out⟩
    · have Ha := Hm a
      have Hb := Hm b
      have HCr := HC a.m b.m
      have r1 := Lib.hid (fun h => rm.out (e1.out (by omega)) h)
      have r2 := Lib.hid (fun h => cmp_eq (a := a.m) (b := b.m) h)
      clear Ho Hm Hv HC ro rm rv f0 f2
      generalize cmpI a.m.toNat b.m.toNat = r at *
      go_upto_region 4 with (fail)
      refine wp_region_gr (by kernel_rfl) (by kernel_rfl) ?_
      repeat (first | go_big_quiet_step (first | (go_at_call_of 30 (Value.agg #[.int .u8 a.m.toNat, .int .u8 a.v.toNat, .int .u8 a.o.toNat]); exact Calls.gr_of (Ha _)) | (go_at_call_of 30 (Value.agg #[.int .u8 b.m.toNat, .int .u8 b.v.toNat, .int .u8 b.o.toNat]); exact Calls.gr_of (Hb _)) | (go_at_call 67; exact Calls.gr_of (HCr _))))
      refine wpQuiet_nil ?_
      intro x
      have hgx := Lib.hid (gr_on hg.out x.2)
      have hcx := hcc.out.on x.2
      clear A0 A1 A2 B0 B1 B2 Ha Hb HCr hcc hg
      cases hd : ((r : Int) != 0)
      · have e0 : r = 0 := by simpa using hd
        have q1 := Lib.hid (r2.out e0)
        clear r1 r2 e0
        go_wp2
        go_roundw
        case rel => exact ⟨2, by omega, by go_num, hgx, hcx, Lib.hid (fun _ => e1.out (by omega)), Lib.hid (fun _ => q1.out), Lib.hid (by omega)⟩
        case measure => simp [intOf]
      · have e0 : ¬ r = 0 := by simpa using hd
        have hR := Lib.hid (r1.out e0)
        clear r1 r2 e0
        go_wp2
        go_ret
        exact ⟨by rw [hR.out]; rfl, hgx.out⟩
    · have Ha := Hv a
      have Hb := Hv b
      have HCr := HC a.v b.v
      have r1 := Lib.hid (rv.out (e1.out (by omega)) (e2.out (by omega)))
      have r2 := Lib.hid (fun h => cmp_eq (a := a.v) (b := b.v) h)
      clear Ho Hm Hv HC ro rm rv f0 f1
      generalize cmpI a.v.toNat b.v.toNat = r at *
      go_upto_region 4 with (fail)
      refine wp_region_gr (by kernel_rfl) (by kernel_rfl) ?_
      repeat (first | go_big_quiet_step (first | (go_at_call_of 31 (Value.agg #[.int .u8 a.m.toNat, .int .u8 a.v.toNat, .int .u8 a.o.toNat]); exact Calls.gr_of (Ha _)) | (go_at_call_of 31 (Value.agg #[.int .u8 b.m.toNat, .int .u8 b.v.toNat, .int .u8 b.o.toNat]); exact Calls.gr_of (Hb _)) | (go_at_call 67; exact Calls.gr_of (HCr _))))
      refine wpQuiet_nil ?_
      intro x
      have hgx := Lib.hid (gr_on hg.out x.2)
      have hcx := hcc.out.on x.2
      clear A0 A1 A2 B0 B1 B2 Ha Hb HCr hcc hg
      cases hd : ((r : Int) != 0)
      · have e0 : r = 0 := by simpa using hd
        have q1 := Lib.hid (r2.out e0)
        clear r1 r2 e0
        go_wp2
        go_roundw
        case rel => exact ⟨3, by omega, by go_num, hgx, hcx, Lib.hid (fun _ => e1.out (by omega)), Lib.hid (fun _ => e2.out (by omega)), Lib.hid (fun _ => q1.out)⟩
        case measure => simp [intOf]
      · have e0 : ¬ r = 0 := by simpa using hd
        have hR := Lib.hid (r1.out)
        clear r1 r2 e0
        go_wp2
        go_ret
        exact ⟨by rw [hR.out]; rfl, hgx.out⟩
    · have hR : Hid (R = 0) := Lib.hid (by rw [rv.out (e1.out (by omega)) (e2.out (by omega)), e3.out (by omega)]; unfold cmpI; simp)
      clear A0 A1 A2 B0 B1 B2 Ho Hm Hv HC ro rm rv f0 f1 f2 hcc e1 e2 e3
      go_wp2
      go_ret
      exact ⟨by rw [hR.out]; rfl, hg.out⟩
/- SORTED. -/
def encR (x : Rw) : List Value := [bvv x.m, bvv x.v, bvv x.o]
instance inhRw10 : Inhabited Rw := ⟨⟨0, 0, 0⟩⟩
theorem flat_rz (L : List Rw) : (Go.Sort.flatK encR 3 L.toArray).toList = rzV L := by
  have hs : (Go.Sort.flatK encR 3 L.toArray).size = L.length * 3 := by rw [Go.Sort.size_flatK, List.size_toArray]
  have hz : (rzV L).length = L.length * 3 := by
    unfold rzV
    induction L with
    | nil => rfl
    | cons a L ih => rw [List.flatMap_cons, List.length_append, ih (by rw [Go.Sort.size_flatK, List.size_toArray])]; simp; omega
  apply List.ext_getElem?
  intro t
  rcases Nat.lt_or_ge t (L.length * 3) with h | h
  · have hj : t / 3 < L.length := by omega
    have ht : t < (Go.Sort.flatK encR 3 L.toArray).size := by omega
    have h1 := Go.Sort.get_flatK encR 3 L.toArray t (by rw [List.size_toArray]; exact h)
    rw [getElem!_pos _ t ht] at h1
    rw [Array.getElem?_toList, Array.getElem?_eq_getElem ht, h1]
    obtain ⟨x, hx⟩ : ∃ x, L[t / 3]? = some x := ⟨_, List.getElem?_eq_getElem hj⟩
    have hg : L.toArray[t / 3]! = x := by
      rw [getElem!_pos _ _ (by rw [List.size_toArray]; exact hj), List.getElem_toArray]
      exact (List.getElem?_eq_some_iff.1 hx).2
    rw [hg]
    obtain ⟨a, b, c⟩ := rzV_at L (t / 3) x hx
    rcases (by omega : t % 3 = 0 ∨ t % 3 = 1 ∨ t % 3 = 2) with e | e | e
    · rw [e, show t = t / 3 * 3 by omega, a]; rfl
    · rw [e, show t = t / 3 * 3 + 1 by omega, b]; rfl
    · rw [e, show t = t / 3 * 3 + 2 by omega, c]; rfl
  · rw [List.getElem?_eq_none (by rw [Array.length_toList]; omega), List.getElem?_eq_none (by omega)]
theorem rzV_len (L : List Rw) : (rzV L).length = L.length * 3 := by
  unfold rzV
  induction L with
  | nil => rfl
  | cons a L ih => rw [List.flatMap_cons, List.length_append, ih]; simp; omega
theorem holdsR {w : World} {g : Nat} {cur : Array Value} {e : TypeId} {L : List Rw} (hb : w.heap[g]? = some (.cells cur e (0, 0))) (ht : cur.toList.take (L.length * 3) = rzV L) : Go.Sort.HoldsK encR 3 w g 0 L.toArray := by
  intro j hj
  rw [Go.Sort.size_flatK, List.size_toArray] at hj
  refine ⟨?_, unfrozen_of_block hb _⟩
  rw [Nat.zero_add, cell_of_block hb]
  have h1 : (cur.toList.take (L.length * 3))[j]? = (rzV L)[j]? := by rw [ht]
  rw [List.getElem?_take_of_lt hj, ← flat_rz, Array.getElem?_toList, Array.getElem?_toList] at h1
  rw [h1, Array.getElem?_eq_getElem (by rw [Go.Sort.size_flatK, List.size_toArray]; exact hj), getElem!_pos _ j (by rw [Go.Sort.size_flatK, List.size_toArray]; exact hj)]
  rfl
theorem heapR {w : World} {g n : Nat} {os : Array Obj} {cur : Array Value} {e : TypeId} {fr : Nat × Nat} (F : Array Value) (hb : w.heap[g]? = some (.cells cur e fr)) :
    (Go.Sort.grow (Go.Sort.putRow id (Go.Sort.ahead w n) g 0 F) os).heap[g]? = some (.cells (Go.Sort.putCells id 0 F cur) e fr) := by
  have hg : g < w.heap.size := (Array.getElem?_eq_some_iff.1 hb).1
  rw [Go.Sort.heap_grow_old _ _ (by simpa using hg)]
  simp [Go.Sort.putRow, Go.Sort.mapBlock, Go.Sort.ahead, Array.getElem?_modify, hb, Go.Sort.onCells]
theorem grownR {w : World} {g n : Nat} {os : Array Obj} (F : Array Value) : w.grownBy (Go.Sort.grow (Go.Sort.putRow id (Go.Sort.ahead w n) g 0 F) os) (some g) := by
  refine ⟨rfl, rfl, rfl, by simp, fun k hk hne => ?_⟩
  rw [Go.Sort.heap_grow_old _ _ (by simpa using hk)]
  have : g ≠ k := fun e => hne (by rw [e])
  simp [Go.Sort.putRow, Go.Sort.mapBlock, Go.Sort.ahead, Array.getElem?_modify, this]
theorem takeR (cur F : Array Value) (h : F.size ≤ cur.size) : (Go.Sort.putCells id 0 F cur).toList.take F.size = F.toList := by
  apply List.ext_getElem?
  intro j
  by_cases hj : j < F.size
  · rw [List.getElem?_take_of_lt hj, Array.getElem?_toList]
    simp [Go.Sort.putCells, hj, show j < cur.size by omega]
  · rw [List.getElem?_take_eq_none (by omega), List.getElem?_eq_none (by simp; omega)]

def cfR (x y : Rw) : Int := cmpI (keyR x) (keyR y)
theorem cf_lt (x y : Rw) : ltOf cfR x y = decide (keyR x < keyR y) := by
  unfold ltOf cfR cmpI
  by_cases h1 : keyR x < keyR y
  · simp [h1]
  · by_cases h2 : keyR y < keyR x <;> simp [h1, h2]
theorem swoR : Go.Sort.SWO (ltOf cfR) where
  irrefl x := by rw [cf_lt]; simp
  trans x y z h1 h2 := by rw [cf_lt] at *; simp at *; omega
  ntrans x y z h1 h2 := by rw [cf_lt] at *; simp at *; omega
theorem keyR_inj {x y : Rw} (h : keyR x = keyR y) : x = y := by rw [← rwK_key x, h, rwK_key]
theorem sort_rw (L : List Rw) : ∃ M : List Rw, (L.mergeSort fun x y => !(ltOf cfR) y x) = M ∧ M.Pairwise (fun a b => keyR a ≤ keyR b) ∧ (∀ x, x ∈ M ↔ x ∈ L) ∧ M.length = L.length := by
  have hp := List.mergeSort_perm L (fun x y => !(ltOf cfR) y x)
  have hs := List.pairwise_mergeSort (le := fun x y => !(ltOf cfR) y x) (fun a b c h1 h2 => by rw [cf_lt] at *; simp at *; omega) (fun a b => by rw [cf_lt, cf_lt]; simp; omega) L
  refine ⟨_, rfl, hs.imp fun {a b} h => ?_, fun x => hp.mem_iff, hp.length_eq⟩
  rw [cf_lt] at h
  simpa using h
theorem cell_far {w : World} {g n : Nat} {os : Array Obj} {dk : Array Rw} {b o : Nat} {v : Value} (hne : b ≠ g) (h : w.cell? ⟨b, o, none⟩ = some v) : (sortWorldK encR 3 w g 0 n dk os).cell? ⟨b, o, none⟩ = some v := by
  have hl := block_lt_of_cell h
  unfold sortWorldK Go.Sort.putRowK
  rw [Go.Sort.cell?_grow _ _ _ (by show b < (Go.Sort.putRow _ _ _ _ _).heap.size; rw [Go.Sort.size_putRow]; exact hl), Go.Sort.cell?_putRow_other _ _ g 0 _ _ (Or.inl hne)]
  exact h
set_option maxRecDepth 100000 in
theorem sortf_any {w : World} {B : Nat} {L : List Rw} {A : Option Addr} {c kb fb fc : Nat} (h : w.ownsRow B 59 3 (.slice A L.length c) L.length (rzV L)) (hB : B ≤ w.heap.size) (hl : L.length ≤ 1000000)
    (hk : KeysAt w kb fb fc) (hkb : (Value.slice A L.length c).ownBlock ≠ some kb) (hfb : (Value.slice A L.length c).ownBlock ≠ some fb) :
    Calls Tryz.prog 65 #[.slice A L.length c, .func (.func 66) #[] #[.pointer (some ⟨kb, 0, none⟩)]] w fun e w' => e = .returned (.tuple #[]) ∧ (∃ M : List Rw, M.Pairwise (fun a b => keyR a ≤ keyR b) ∧ (∀ x, x ∈ M ↔ x ∈ L) ∧ M.length = L.length ∧ w'.ownsRow B 59 3 (.slice A L.length c) M.length (rzV M)) ∧ Below B w w' ∧ (∀ k, k < w.heap.size → (Value.slice A L.length c).ownBlock ≠ some k → w'.heap[k]? = w.heap[k]?) := by
  obtain ⟨M, hM, hs, hmem, hlen⟩ := sort_rw L
  obtain ⟨h1, h2⟩ := h
  rcases h2 with ⟨e0, h0⟩ | ⟨g, cap, cur, hv, hg, hb, hn, hcap, hsz, htk⟩
  · injection e0 with e1 e2 e3
    subst e1
    have : L = [] := List.length_eq_zero_iff.1 e2
    subst this
    refine (AnyF.slices_SortFunc_none Tryz.sortRows none c _ w : Calls Tryz.prog 65 _ w _).mono ?_
    rintro e w' ⟨rfl, rfl⟩
    subst e3
    exact ⟨rfl, ⟨[], List.Pairwise.nil, fun x => Iff.rfl, rfl, World.ownsRow_nil _ _ _ _⟩, Below.refl _ _, fun _ _ _ => rfl⟩
  · injection hv with e1 e2 e3
    subst e1
    subst e3
    have hH := holdsR hb htk
    have eg : ∀ args w, (callFunc 66 args).run Tryz.prog w = .ok (.enter 66 args) w := enters_of Tryz.func66 (by kernel_rfl) rfl
    have hkl := block_lt_of_cell hk.k
    have hfl := block_lt_of_cell hk.f0
    have kne : kb ≠ g := fun e => hkb (by rw [e]; rfl)
    have fne : fb ≠ g := fun e => hfb (by rw [e]; rfl)
    have hcmp : CmpLays Tryz.prog 66 #[.pointer (some ⟨kb, 0, none⟩)] encR 3 cfR g 0 L.toArray.size w := fun m os dk _ x y =>
      (sortcmp_any x y kb fb fc _ ⟨cell_far kne hk.k, cell_far fne hk.f0, cell_far fne hk.f1, cell_far fne hk.f2⟩ : Calls Tryz.prog 66 #[.agg (encR x).toArray, .agg (encR y).toArray, .pointer (some ⟨kb, 0, none⟩)] _ _)
    have hSrt := AnyQ.slices_SortFunc_total Tryz.sortRows 3 Tryz.isAgg59 Tryz.sizeOf59 encR (fun _ => rfl) (fun x v hv => by unfold encR bvv at hv; simp at hv; rcases hv with rfl | rfl | rfl <;> rfl) cfR swoR 66 #[.pointer (some ⟨kb, 0, none⟩)] g 0 c L.toArray w eg hcmp hH (size_of_block hb) (by rw [List.size_toArray]; omega) (fun x y h h' => keyR_inj (by rw [cf_lt] at h h'; have := of_decide_eq_false h; have := of_decide_eq_false h'; omega))
    rw [List.size_toArray] at hSrt
    refine (hSrt : Calls Tryz.prog 65 _ w _).mono ?_
    rintro e w' ⟨rfl, n, os, rfl⟩
    rw [show L.toArray.toList = L from rfl, hM]
    have hF : (Go.Sort.flatK encR 3 M.toArray).size = L.length * 3 := by rw [Go.Sort.size_flatK, List.size_toArray, hlen]
    have hgr := grownR (w := w) (g := g) (n := n) (os := os) (Go.Sort.flatK encR 3 M.toArray)
    have hhp := heapR (n := n) (os := os) (Go.Sort.flatK encR 3 M.toArray) hb
    refine ⟨rfl, ⟨M, hs, hmem, hlen, ?_⟩, (Below.refl B w).grown hgr hB (by intro k hk; injection hk with hk; omega), fun k hk hne => hgr.block k hk (fun e => hne e.symm)⟩
    refine ⟨rzV_len M, .inr ⟨g, c, _, by rw [hlen], hg, hhp, by omega, hcap, by simp [Go.Sort.putCells, hsz], ?_⟩⟩
    have ht := takeR cur (Go.Sort.flatK encR 3 M.toArray) (by omega)
    rw [hF, flat_rz, ← hlen] at ht
    exact ht
end Go.Proofs.YtehpccanjlaokaaGreat
namespace Go.Proofs.YtehpccanjlaokaaGreat
open Go.RowKit Go.Joins

/-- What is known of a spec that is right. -/
theorem sp_known {i : Int} {on may : List (BitVec 256)} (h : spB ⟨i, on, may⟩ = true) : ∃ n : Nat, i = n ∧ n ≤ 8 ∧ 1 ≤ on.length ∧ on.length ≤ 4 ∧ on.length = may.length := by
  obtain ⟨h1, h2, h3⟩ := (headS_iff _).1 (sp_iff.1 h).1
  simp only at h1 h2 h3
  exact ⟨i.toNat, by omega, by omega, h2.1, h2.2, h3⟩
theorem eq_row (a b : Rw) (w : World) : (Op.equalIn 10000 59 (.agg #[.int .u8 a.m.toNat, .int .u8 a.v.toNat, .int .u8 a.o.toNat]) (.agg #[.int .u8 b.m.toNat, .int .u8 b.v.toNat, .int .u8 b.o.toNat])).run Tryz.prog w = .ok (decide (a.m = b.m ∧ a.v = b.v ∧ a.o = b.o)) w := by
  simp [go_sem]
  have e : ∀ a b : BitVec 8, ((a.toNat : Int) = (b.toNat : Int)) ↔ a = b := fun a b => ⟨fun h => BitVec.eq_of_toNat_eq (by exact_mod_cast h), fun h => by rw [h]⟩
  simp only [e]
  by_cases h1 : a.m = b.m <;> by_cases h2 : a.v = b.v <;> by_cases h3 : a.o = b.o <;> simp [h1, h2, h3]
end Go.Proofs.YtehpccanjlaokaaGreat
