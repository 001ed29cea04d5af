/- spare of the package reduce: which rows may be left out, all at once. -/
import Derived.Test.YtcbhcclickjpnaaGK12
import Derived.Test.YtcbhcclickjpnaaGK11
import Derived.Test.YtcbhcclickjpnaaGK05
namespace Go.Proofs.Ytcbhcclickjpnaa
open Go.RowKit Go.Joins

attribute [local go_sem] Oper.semAt_some

/-- The marks that loops over functions have left. -/
def mkD (D : Nat) : Deferred := { target := .collected D, args := #[] }
def MarksW (B : Nat) (ds : List Nat) (W : World) : Prop := ds.Nodup ∧ ∀ D, D ∈ ds → B ≤ D ∧ W.heap[D]? = some (.deferred (some []))
theorem marks_leave14 {F : Fence} {n : Nat} {P : Program} {fn : Func} {tmps : Array Value} {R : Ending → World → Prop} {B : Nat} : ∀ (ds : List Nat) (W : World), MarksW B ds W →
    (∀ W', (∀ b, b < B → W'.heap[b]? = W.heap[b]?) → Below B W W' → (∀ (b : Nat) (o : Obj), W.heap[b]? = some o → o.isCells = true → W'.heap[b]? = some o) → LeavesInM F n P fn tmps R [] .returning W') → LeavesInM F n P fn tmps R (ds.map mkD) .returning W
  | [], W, _, h => h W (fun _ _ => rfl) (Below.refl _ _) (fun _ _ h _ => h)
  | D :: ds, W, hM, h => by
    obtain ⟨hB, hD⟩ := hM.2 D (List.mem_cons_self ..)
    have hnd := List.nodup_cons.1 hM.1
    refine ⟨by simp, .inl ⟨_, _, rfl, run_takeDeferred hD, ?_⟩⟩
    have hg := grownBy_putObj' W D (.deferred none)
    have hblk : ∀ b, b < B → (W.putObj D (.deferred none)).heap[b]? = W.heap[b]? := fun b hb => World.putObj_heap_other (by omega)
    have hbel : Below B W (W.putObj D (.deferred none)) := ⟨hg.os, hg.tape, hg.output, hg.size, hblk⟩
    refine marks_leave14 ds _ ⟨hnd.2, fun D' h' => ⟨(hM.2 D' (List.mem_cons_of_mem _ h')).1, ?_⟩⟩ (fun W' h1 h2 h3 => h W' (fun b hb => (h1 b hb).trans (hblk b hb)) (hbel.trans h2) (fun b o hb ho => h3 b o ?_ ho))
    · exact (World.putObj_heap_other (fun e => hnd.1 (by rw [← e]; exact h'))).trans (hM.2 D' (List.mem_cons_of_mem _ h')).2
    · refine (World.putObj_heap_other (fun e => ?_)).trans hb
      subst e
      rw [hD] at hb
      injection hb with hb
      subst hb
      cases ho
theorem MarksW.grown {B b : Nat} {ds : List Nat} {W W' : World} {o : Obj} (h : MarksW B ds W) (hg : W.grownBy W' (some b)) (hb : W.heap[b]? = some o) (ho : o.isCells = true) : MarksW B ds W' :=
  ⟨h.1, fun D hD => ⟨(h.2 D hD).1, (hg.block D (size_of_block (h.2 D hD).2) (fun e => by
    injection e with e
    subst e
    rw [(h.2 D hD).2] at hb
    injection hb with hb
    subst hb
    cases ho)).trans (h.2 D hD).2⟩⟩
theorem MarksW.push {B D : Nat} {ds : List Nat} {w W : World} (h : MarksW B ds W) (hw : MarksW B ds w) (hD : w.heap.size ≤ D) (hB : B ≤ D) (hd : W.heap[D]? = some (.deferred (some []))) : MarksW B (D :: ds) W :=
  ⟨List.nodup_cons.2 ⟨fun hm => by have := size_of_block (hw.2 D hm).2; omega, h.1⟩, fun D' h' => by
    rcases List.mem_cons.1 h' with e | h'
    · subst e; exact ⟨hB, hd⟩
    · exact h.2 D' h'⟩
/-- The test on a row that has all of row k's columns. -/
def sprT (ls : List (List Int)) (r : List Int) (k : Nat) (x : Int) : Bool := decide (r.length < (ls.getD x.toNat []).length) || decide ((k : Int) < x)
theorem spr_dom14 {ls : List (List Int)} {r : List Int} {k : Nat} (hk : ls[k]? = some r) {d : Nat} (h1 : hldB ls r k (d : Int) = true) : sprT ls r k (d : Int) = true ↔ domR ls k d := by
  have e : ls.getD k [] = r := by rw [List.getD_eq_getElem?_getD, hk]; rfl
  obtain ⟨h3, h4⟩ := hold_iff14.1 h1
  unfold sprT domR
  rw [Int.toNat_natCast, Bool.or_eq_true, decide_eq_true_iff, decide_eq_true_iff, e]
  constructor
  · rintro (h | h)
    · exact ⟨h3, h4, .inl h⟩
    · exact ⟨h3, h4, .inr (by omega)⟩
  · rintro ⟨-, -, h | h⟩
    · exact .inl h
    · exact .inr (by omega)
theorem spr_all14 {ls hv : List (List Int)} {r q : List Int} {k : Nat} (hk : ls[k]? = some r) (hq : FewOk ls hv r q) (hcomp : ∀ (x j : Nat), x < hv.length → (x : Int) ∈ ls.getD j [] → j < ls.length → (j : Int) ∈ hv.getD x [])
    {xs : List (HoldT ls r k)} (hxs : xs.map HoldT.i = q.filter (hldB ls r k)) {f : Nat → Bool} (ht : ∀ x, x ∈ xs → sprT ls r k x.i = true → f x.i.toNat = true) : ∀ j, j < ls.length → domR ls k j → f j = true := by
  intro j hj hd
  have e : ls.getD k [] = r := by rw [List.getD_eq_getElem?_getD, hk]; rfl
  have hs := hd.2.1
  rw [e] at hs
  have hh : hldB ls r k (j : Int) = true := hold_iff14.2 ⟨hd.1, hs⟩
  have hm : (j : Int) ∈ xs.map HoldT.i := by
    rw [hxs]
    exact List.mem_filter.2 ⟨few_all14 hq hj hs hcomp, hh⟩
  obtain ⟨x, hx, hxj⟩ := List.mem_map.1 hm
  have := ht x hx (by rw [hxj]; exact (spr_dom14 hk hh).2 hd)
  rw [hxj, Int.toNat_natCast] at this
  exact this
theorem spr_end14 {ls : List (List Int)} (h : RiseM ls) {f : Nat → Bool} (h1 : ∀ j, j < ls.length → f j = true → rowGo ls j = true) (h2 : ∀ i, i < ls.length → rowGo ls i = false → ∀ j, j < ls.length → domR ls i j → f j = true) : ∀ j, j < ls.length → f j = rowGo ls j := by
  intro j hj
  cases hg : rowGo ls j with
  | true =>
    obtain ⟨k, hk, h3, h4⟩ := go_least14 h _ j rfl hj hg
    exact h2 k hk h3 j hj h4
  | false =>
    cases hf : f j with
    | false => rfl
    | true =>
      have := h1 j hj hf
      rw [hg] at this
      cases this
theorem bolO_ext14 {n : Nat} {f g : Nat → Bool} (h : ∀ j, j < n → f j = g j) : bolO n f = bolO n g := by
  unfold bolO bolA
  congr 2
  exact List.map_congr_left fun j hj => by rw [h j (List.mem_range.1 hj)]
def hvR (n : Nat) (ls : List (List Int)) : List (List Int) := (List.range n).map fun y : Nat => whr ls (y : Int)
theorem hvR_len (n : Nat) (ls : List (List Int)) : (hvR n ls).length = n := by unfold hvR; simp
theorem hvR_get {n x : Nat} {ls : List (List Int)} (h : x < n) : (hvR n ls)[x]? = some (whr ls (x : Int)) := by unfold hvR; simp [h]
theorem hvR_getD {n x : Nat} {ls : List (List Int)} (h : x < n) : (hvR n ls).getD x [] = whr ls (x : Int) := by rw [List.getD_eq_getElem?_getD, hvR_get h]; rfl
theorem whr_in {ls : List (List Int)} {c x : Int} (h : x ∈ whr ls c) : 0 ≤ x ∧ x < ls.length := by
  unfold whr at h
  obtain ⟨j, hj, rfl⟩ := List.mem_map.1 h
  have := List.mem_range.1 (List.mem_filter.1 hj).1
  omega
theorem hv_few14 {n : Nat} {ls : List (List Int)} {r q : List Int} (hq : FewOk ls (hvR n ls) r q) : ∀ x, x ∈ q → 0 ≤ x ∧ x < ls.length := by
  intro x hx
  rcases hq with ⟨-, rfl⟩ | ⟨y, -, hl⟩
  · obtain ⟨j, hj, rfl⟩ := List.mem_map.1 hx
    have := List.mem_range.1 hj
    omega
  · have hyn := (List.getElem?_eq_some_iff.1 hl).1
    rw [hvR_len] at hyn
    rw [hvR_get hyn] at hl
    injection hl with hl
    subst hl
    exact whr_in hx
theorem hv_comp14 {n : Nat} {ls : List (List Int)} : ∀ (x j : Nat), x < (hvR n ls).length → (x : Int) ∈ ls.getD j [] → j < ls.length → (j : Int) ∈ (hvR n ls).getD x [] := by
  intro x j hx hm hj
  rw [hvR_len] at hx
  rw [hvR_getD hx]
  exact mem_whr.2 ⟨hj, hm⟩
theorem keepC_grown14 {wl W : World} {ob : Nat} (h : wl.grownBy W (some ob)) : KeepC (fun b => b = ob) wl W := ⟨h.size, fun b o h1 _ h3 => (h.block b (size_of_block h1) (fun e => by injection e with e; exact h3 e)).trans h1⟩
theorem MarksW.below {B : Nat} {ds : List Nat} {W W' : World} (h : MarksW B ds W) (hb : Below W.heap.size W W') : MarksW B ds W' := ⟨h.1, fun D hD => ⟨(h.2 D hD).1, keep_blk hb (h.2 D hD).2⟩⟩
theorem two_below14 (W : World) (o1 o2 : Obj) : Below W.heap.size W ((W.alloc o1).alloc o2) := (below_alloc1 W o1).alloc (below_alloc1 W o1).size o2
theorem three_made14 (w : World) (o0 o1 o2 : Obj) :
    (((w.alloc o0).alloc o1).alloc o2).heap[w.heap.size]? = some o0 ∧ (((w.alloc o0).alloc o1).alloc o2).heap[w.heap.size + 1]? = some o1 ∧ (((w.alloc o0).alloc o1).alloc o2).heap[w.heap.size + 1 + 1]? = some o2 := by
  have t1 := two_made14 w o0 o1
  have t2 := heap_alloc_new ((w.alloc o0).alloc o1) o2
  simp only [World.size_alloc] at t2
  exact ⟨keep_alloc t1.1, keep_alloc t1.2, t2⟩
theorem three_below14 (w : World) (o0 o1 o2 : Obj) : Below w.heap.size w (((w.alloc o0).alloc o1).alloc o2) := (two_below14 w o0 o1).alloc (two_below14 w o0 o1).size o2
theorem keepC_set14 (W : World) (b j : Nat) (v : Value) : KeepC (fun c => c = b) W (W.setCell ⟨b, j, none⟩ v) := ⟨by simp [World.setCell], fun c o h1 _ h3 => (Below.heap_setCell _ _ _ _ h3).trans h1⟩
theorem grown_set14 (W : World) (b j : Nat) (v : Value) : W.grownBy (W.setCell ⟨b, j, none⟩ v) (some b) := ⟨rfl, rfl, rfl, by simp [World.setCell], fun c _ h => Below.heap_setCell _ _ _ _ (fun e => h (by rw [e]))⟩
theorem bol_set14 {w : World} {b n p : Nat} {f : Nat → Bool} (h : w.heap[b]? = some (bolO n f)) (u : Bool) : (w.setCell ⟨b, p, none⟩ (.bool u)).heap[b]? = some (bolO n fun j => if j = p then u else f j) := by
  unfold bolO at *
  rw [← bolA_set]
  exact block_setCell h _
/-- What holds ahead of each round of spare's loop. -/
def SprInv (n : Nat) (ls : List (List Int)) (sV sH : Value) (b0 ob : Nat) (wl : World) (a : Act) (W : World) : Prop :=
  ∃ (u5 u6 u7 u20 u21 u22 u23 u24 u25 u26 u27 u28 u29 u30 u31 u32 u33 u34 u35 u36 u37 u38 u39 u40 u41 u42 u43 u44 u45 u46 u47 u48 u49 u50 u51 u52 : Value) (k : Nat) (ds : List Nat) (f : Nat → Bool), (k ≤ ls.length ∧ u20 = .int .i64 k ∧ W.heap[ob]? = some (bolO ls.length f) ∧ Hid (∀ j, j < ls.length → f j = true → rowGo ls j = true) ∧
    Hid (∀ i, i < k → rowGo ls i = false → ∀ j, j < ls.length → domR ls i j → f j = true) ∧ MarksW wl.heap.size ds W ∧ wl.grownBy W (some ob)) ∧ a = { tmps := #[.agg #[.int .i64 n, sV], .pointer (some ⟨b0, 0, none⟩), .slice none 0 0, sH, .pointer (some ⟨ob + 1, 0, none⟩), u5, u6, u7, .pointer (some ⟨b0, 1, none⟩), sV, .pointer (some ⟨b0, 0, none⟩), .int .i64 n, sH, .pointer (some ⟨b0, 1, none⟩), sV, .int .i64 ls.length, .slice (some ⟨ob, 0, none⟩) ls.length ls.length, .pointer (some ⟨b0, 1, none⟩), sV, .int .i64 ls.length, u20, u21, u22, u23, u24, u25, u26, u27, u28, u29, u30, u31, u32, u33, u34, u35, u36, u37, u38, u39, u40, u41, u42, u43, u44, u45, u46, u47, u48, u49, u50, u51, u52, undef], defers := ds.map mkD }
set_option maxHeartbeats 16000000 in
set_option maxRecDepth 100000 in
theorem spare14_any (n : Nat) (V : Value) (ls : List (List Int)) (w : World) (hV : MatAt w w.heap.size V ls) (hn : n ≤ 4000) (hls : ls.length ≤ 4000) (hr : ∀ r, r ∈ ls → risL n r) :
    Calls Try.prog 99 #[mtv n V] w fun e w' => ∃ ob, e = .returned (.slice (some ⟨ob, 0, none⟩) ls.length ls.length) ∧ w.heap.size ≤ ob ∧ w'.heap[ob]? = some (bolO ls.length (rowGo ls)) ∧ Below w.heap.size w w' := by
  refine (callsIn_wide (n := 4)).1 ?_
  have hRM : RiseM ls := rise_m14 fun r h => (hr r h).2
  have hB0 := below_alloc1 w (mtb n V)
  have hm0 : (w.alloc (mtb n V)).heap[w.heap.size]? = some (mtb n V) := heap_alloc_new _ _
  have hVV := hV
  have HA := across14_any V ls n (w.alloc (mtb n V)) ((hV.below hB0).more hB0.size) hn hls hr (fun r h => by have := row_len14 (hr r h); omega)
  have hmk := fun w => make_bols ls.length (by omega) w
  obtain ⟨A, c, rfl, hl, -⟩ := hV
  unfold mtv
  unfold mtb at hB0 hm0 HA
  obtain ⟨m0, m1, -⟩ := now2 hm0 rfl
  refine callsIn_of_wp_marks Try.func99 rfl trivial ?_ rfl
  simp only [Try.ntmps99, List.size_toArray, List.length_cons, List.length_nil, Nat.reduceAdd, Nat.reduceSub, Array.replicate_succ, Array.replicate_zero, List.push_toArray, List.append_toArray, List.nil_append, List.cons_append]
  gi_wp2_with fail
  refine ⟨trivial, (callsIn_wide.2 HA).mono ?_⟩
  rintro e w1 ⟨hvv, rfl, hHv, hb1⟩
  have hn1 := keep_blk hb1 hm0
  have hB1 := hB0.trans (hb1.mono hB0.size)
  have hHv2 := hHv
  obtain ⟨AH, cH, rfl, -, -⟩ := hHv2
  replace hHv : MatAt w1 w1.heap.size (.slice AH n cH) (hvR n ls) := by
    have e : (List.map (fun y : Nat => whr ls (y : Int)) (List.range n)).length = n := by simp
    rw [e] at hHv
    exact hHv
  clear m0 m1 HA hb1 hm0 hB0
  obtain ⟨m0, m1, -⟩ := now2 hn1 rfl
  have hs1 := size_of_block hn1
  have t := two_made14 w1 (bolO ls.length fun _ => false) (.cells #[.slice (some ⟨w1.heap.size, 0, none⟩) ls.length ls.length] 44)
  have hn2 := two_keep14 (o1 := bolO ls.length fun _ => false) (o2 := .cells #[.slice (some ⟨w1.heap.size, 0, none⟩) ls.length ls.length] 44) hn1
  have hB2 := (hB1.alloc hB1.size (bolO ls.length fun _ => false)).alloc (hB1.alloc hB1.size (bolO ls.length fun _ => false)).size (.cells #[.slice (some ⟨w1.heap.size, 0, none⟩) ls.length ls.length] 44)
  have hb12 := (below_alloc1 w1 (bolO ls.length fun _ => false)).alloc (below_alloc1 w1 (bolO ls.length fun _ => false)).size (.cells #[.slice (some ⟨w1.heap.size, 0, none⟩) ls.length ls.length] 44)
  gi_wp2_with fail
  generalize hob : w1.heap.size = ob at *
  generalize (w1.alloc (bolO ls.length fun _ => false)).alloc (.cells #[.slice (some ⟨ob, 0, none⟩) ls.length ls.length] 44) = wl at *
  obtain ⟨t0, t1⟩ := t
  have hwo : w.heap.size ≤ ob := by have := hB1.size; omega
  have hVl := ((hVV.below hB2).toN (N := fun b => ¬ b = ob) (fun b hb => by omega))
  have hHl := ((hHv.below hb12).toN (N := fun b => ¬ b = ob) (fun b hb => by omega))
  have st := size_of_block t1
  clear m0 m1 hn1 hb12 hB1 hHv hmk
  refine wpIn_loop (SprInv n ls (.slice A ls.length c) (.slice AH n cH) w.heap.size ob wl) (fun a _ => ls.length - (intOf (a.tmps.getD 20 undef)).toNat) ?_ ?_
  · exact ⟨_, _, _, _, _, _, _, _, _, _, _, _, _, _, _, _, _, _, _, _, _, _, _, _, _, _, _, _, _, _, _, _, _, _, _, _, 0, [], _, ⟨Nat.zero_le _, rfl, t0, Lib.hid (fun _ _ h => by cases h), Lib.hid (fun i h => absurd h (Nat.not_lt_zero _)), ⟨List.nodup_nil, fun D h => absurd h List.not_mem_nil⟩, grown_row14 _ (grown_of_below14 (Below.refl _ _))⟩, rfl⟩
  · rintro a W ⟨u5, u6, u7, u20, u21, u22, u23, u24, u25, u26, u27, u28, u29, u30, u31, u32, u33, u34, u35, u36, u37, u38, u39, u40, u41, u42, u43, u44, u45, u46, u47, u48, u49, u50, u51, u52, k, ds, f, ⟨hk, rfl, hh, hsd, hcp, hM, hg⟩, rfl⟩
    have nm : W.heap[w.heap.size]? = _ := (hg.block w.heap.size (size_of_block hn2) (fun e => by injection e with e; omega)).trans hn2
    have nb : W.heap[ob + 1]? = _ := (hg.block (ob + 1) st (fun e => by injection e with e; omega)).trans t1
    have hsz := hg.size
    by_cases hlt : k < ls.length
    · obtain ⟨r, hrk⟩ : ∃ r, ls[k]? = some r := ⟨_, List.getElem?_eq_getElem hlt⟩
      have hVW := (keepC_grown14 hg).mat hVl
      obtain ⟨A1, c1, e1, -, hcv⟩ := hVW
      injection e1 with e1 _ e2
      subst e1
      subst e2
      obtain ⟨bv, ov, rfl, dv, hcell⟩ := hcv (by omega)
      obtain ⟨ok, p0, hik⟩ := hcell k r hrk
      obtain ⟨Ar, cr, rfl, -, -⟩ := hik
      obtain ⟨m0, m1, -⟩ := now2 nm rfl
      have t5 := two_made14 W (.cells #[.int .i64 k] 3) (.cells #[.slice Ar r.length cr] 30)
      have hh2 := two_keep14 (o1 := .cells #[.int .i64 k] 3) (o2 := .cells #[.slice Ar r.length cr] 30) hh
      have nm2 := two_keep14 (o1 := .cells #[.int .i64 k] 3) (o2 := .cells #[.slice Ar r.length cr] 30) nm
      have nb2 := two_keep14 (o1 := .cells #[.int .i64 k] 3) (o2 := .cells #[.slice Ar r.length cr] 30) nb
      have hW2 := two_below14 W (.cells #[.int .i64 k] 3) (.cells #[.slice Ar r.length cr] 30)
      have hM2 := hM.below hW2
      have hg2 := grown_trans14 hg (grown_row14 (some ob) (grown_of_below14 hW2))
      obtain ⟨x0, -⟩ := bol_cell hh2 hlt
      have y0 : ((W.alloc (.cells #[.int .i64 k] 3)).alloc (.cells #[.slice Ar r.length cr] 30)).cell? ⟨ob + 1, 0, none⟩ = some (.slice (some ⟨ob, 0, none⟩) ls.length ls.length) := by rw [cell_of_block nb2]; rfl
      have y1 : ((W.alloc (.cells #[.int .i64 k] 3)).alloc (.cells #[.slice Ar r.length cr] 30)).cell? ⟨W.heap.size, 0, none⟩ = some (.int .i64 k) := by rw [cell_of_block t5.1]; rfl
      have y2 : ((W.alloc (.cells #[.int .i64 k] 3)).alloc (.cells #[.slice Ar r.length cr] 30)).cell? ⟨W.heap.size + 1, 0, none⟩ = some (.slice Ar r.length cr) := by rw [cell_of_block t5.2]; rfl
      obtain ⟨y3, y4, -⟩ := now2 nm2 rfl
      have k0 : (0 : Int) ≤ (k : Int) := by omega
      have k1 : (k : Int) < (ls.length : Int) := by omega
      cases hf : f k
      · rw [hf] at x0
        have hVW2 := ((keepC_grown14 hg2).mat hVl)
        have hHW2 := ((keepC_grown14 hg2).mat hHl)
        have sob := size_of_block hh2
        have sW : W.heap.size + 1 < ((W.alloc (.cells #[.int .i64 k] 3)).alloc (.cells #[.slice Ar r.length cr] 30)).heap.size := size_of_block t5.2
        have snm := size_of_block nm2
        have snb := size_of_block nb2
        clear hh nm nb hM hg hcell hcv
        gi_wp2_with fail
        generalize (W.alloc (.cells #[.int .i64 k] 3)).alloc (.cells #[.slice Ar r.length cr] 30) = W2 at *
        refine ⟨trivial, (callsIn_wide.2 (holders14_any _ _ _ _ ⟨_, _, _, rfl⟩ ⟨_, _, _, rfl⟩)).mono ?_⟩
        rintro e w' ⟨rfl, rfl⟩
        clear x0 y0 y1 y2 y3 y4
        gi_wp2_with fail
        have hm3 := three_made14 W2 (.cells #[.slice (some ⟨bv, ov, none⟩) ls.length c] 22) (.cells #[.slice AH n cH] 22) (.cells #[.int .i64 k] 3)
        have hB3 := three_below14 W2 (.cells #[.slice (some ⟨bv, ov, none⟩) ls.length c] 22) (.cells #[.slice AH n cH] 22) (.cells #[.int .i64 k] 3)
        generalize ((W2.alloc (.cells #[.slice (some ⟨bv, ov, none⟩) ls.length c] 22)).alloc (.cells #[.slice AH n cH] 22)).alloc (.cells #[.int .i64 k] 3) = wz at *
        obtain ⟨g1, g2, g3⟩ := hm3
        have hM3 := hM2.below hB3
        have hh3 := keep_blk hB3 hh2
        have nm3 := keep_blk hB3 nm2
        have nb3 := keep_blk hB3 nb2
        have nk3 := keep_blk hB3 t5.1
        have nr3 := keep_blk hB3 t5.2
        have hg3 := grown_trans14 hg2 (grown_row14 (some ob) (grown_of_below14 hB3))
        have hkc3 : KeepC (fun b => b = ob) W2 wz := KeepC.of_below hB3
        have hV3 := hkc3.mat hVW2
        have hH3 : MatN wz (fun b => ¬ (fun b => b = ob) b) (.slice AH n cH) (hvR n ls) := hkc3.mat hHW2
        have sz3 := hB3.size
        have hlen := hvR_len n ls
        have hris : ∀ q, q ∈ ls → q.Pairwise (· < ·) := fun q hq => (hr q hq).2
        have hrin : ∀ x, x ∈ r → 0 ≤ x ∧ x < (hvR n ls).length := fun x hx => by rw [hlen]; exact (hr r (List.mem_of_getElem? hrk)).1 x hx
        have hall : Hid (∀ (q : List Int) (xs : List (HoldT ls r k)) (f' : Nat → Bool), FewOk ls (hvR n ls) r q → xs.map HoldT.i = q.filter (hldB ls r k) → (∀ x, x ∈ xs → sprT ls r k x.i = true → f' x.i.toNat = true) → ∀ j, j < ls.length → domR ls k j → f' j = true) := Lib.hid (fun q xs f' hq hxs ht => spr_all14 hrk hq hv_comp14 hxs ht)
        have hdom : Hid (∀ x : HoldT ls r k, sprT ls r k x.i = true → rowGo ls x.i.toNat = true) := Lib.hid (fun x ht => by
          obtain ⟨x, x0, x1, x2⟩ := x
          obtain ⟨d, rfl⟩ := Int.eq_ofNat_of_zero_le x0
          exact (go_iff14 hRM).2 ⟨k, hlt, (spr_dom14 hrk x2).1 ht⟩)
        generalize hbs : W2.heap.size = bs at *
        refine wpIn_rangeFunc_ownG (α := HoldT ls r k) (w := wz) rfl (by omega) (show Act.eval _ _ = Value.func (.func 104) #[] #[.pointer (some ⟨bs, 0, none⟩), .pointer (some ⟨bs + 1, 0, none⟩), .pointer (some ⟨bs + 1 + 1, 0, none⟩)] from rfl) trivial (fun _ _ => by kernel_rfl)
          (holds14_stops 3 (fun b => b = ob) _ _ _ _ _ ls (hvR n ls) k r wz (by omega) hrk hrin (by omega) hris (fun q hq => hv_few14 hq) (fun b h => by subst h; omega) (by rw [cell_of_block g1]; rfl) (by rw [cell_of_block g2]; rfl) (by rw [cell_of_block g3]; rfl) (by omega) (by omega) (by omega) hV3 hH3)
          (fun h k => h.trans k) (fun W l o o' _ hl ho _ => keepC_b W l o o' hl ho) (Below.refl _ _) (fun _ => rfl)
          (fun (pre : List (HoldT ls r k)) W' => (∃ f' : Nat → Bool, W'.heap[ob]? = some (bolO ls.length f') ∧ Hid (∀ j, f j = true → f' j = true) ∧ Hid (∀ j, j < ls.length → f' j = true → rowGo ls j = true) ∧ Hid (∀ x, x ∈ pre → sprT ls r k x.i = true → f' x.i.toNat = true)) ∧ wz.grownBy W' (some ob))
          (fun _ _ _ => False)
          (fun s A B row h hgr hrow => by
            obtain ⟨⟨f', q1, q2, q3, q4⟩, q5⟩ := h
            exact ⟨⟨f', (hgr.block ob (size_of_block q1) (fun e => by have := (hrow ob e.symm).1; omega)).trans q1, q2, q3, q4⟩, ownFrom_grown14 (β := Unit) _ () A B row q5 hgr hrow⟩)
          (fun _ _ _ _ _ h _ _ => h)
          ⟨⟨f, hh3, Lib.hid (fun _ h => h), hsd, Lib.hid (fun x h => absurd h List.not_mem_nil)⟩, grown_row14 _ (grown_of_below14 (Below.refl _ _))⟩
          (fun x : HoldT ls r k => { tmps := #[.agg #[.int .i64 n, .slice (some ⟨bv, ov, none⟩) ls.length c], .pointer (some ⟨w.heap.size, 0, none⟩), .slice none 0 0, .slice AH n cH, .pointer (some ⟨ob + 1, 0, none⟩), .pointer (some ⟨W.heap.size, 0, none⟩), .pointer (some ⟨W.heap.size + 1, 0, none⟩), .int .i64 x.i, .pointer (some ⟨w.heap.size, 1, none⟩), .slice (some ⟨bv, ov, none⟩) ls.length c, .pointer (some ⟨w.heap.size, 0, none⟩), .int .i64 n, .slice AH n cH, .pointer (some ⟨w.heap.size, 1, none⟩), .slice (some ⟨bv, ov, none⟩) ls.length c, .int .i64 ls.length, .slice (some ⟨ob, 0, none⟩) ls.length ls.length, .pointer (some ⟨w.heap.size, 1, none⟩), .slice (some ⟨bv, ov, none⟩) ls.length c, .int .i64 ls.length, .int .i64 k, .bool true, .int .i64 k, .pointer (some ⟨bv, ov + k, none⟩), .slice Ar r.length cr, .slice (some ⟨ob, 0, none⟩) ls.length ls.length, .int .i64 k, .pointer (some ⟨ob, k, none⟩), .bool false, .pointer (some ⟨w.heap.size, 1, none⟩), .slice (some ⟨bv, ov, none⟩) ls.length c, .slice AH n cH, .int .i64 k, .func (.func 104) #[] #[.pointer (some ⟨bs, 0, none⟩), .pointer (some ⟨bs + 1, 0, none⟩), .pointer (some ⟨bs + 1 + 1, 0, none⟩)], .int .i64 x.i, u35, u36, u37, u38, u39, u40, u41, u42, u43, u44, u45, u46, u47, u48, u49, u50, u51, u52, undef], defers := [] }) ?assign ?body ?done ?stop
        case assign =>
          intro l x W K hK
          gi_wp2
          exact hK
        case body =>
          rintro l pre x W3 ⟨⟨f', q1, q2, q3, q4⟩, q5⟩ _
          have hm4 : W3.heap[w.heap.size]? = _ := (q5.block _ (by omega) (fun e => by injection e with e; omega)).trans nm3
          have hb4 : W3.heap[ob + 1]? = _ := (q5.block _ (by omega) (fun e => by injection e with e; omega)).trans nb3
          have hk4 : W3.heap[W.heap.size]? = _ := (q5.block _ (by omega) (fun e => by injection e with e; omega)).trans nk3
          have hr4 : W3.heap[W.heap.size + 1]? = _ := (q5.block _ (by omega) (fun e => by injection e with e; omega)).trans nr3
          have hV4 := (keepC_grown14 q5).mat hV3
          have hpx1 : Hid (∀ g : Nat → Bool, (∀ j, f' j = true → g j = true) → g x.i.toNat = true → ∀ y, y ∈ pre ++ [x] → sprT ls r k y.i = true → g y.i.toNat = true) := Lib.hid (fun g h1 h2 y hy ht => by
            rcases List.mem_append.1 hy with h | h
            · exact h1 _ (q4.out y h ht)
            · rw [List.mem_singleton.1 h]; exact h2)
          have hpx0 : Hid (sprT ls r k x.i = false → ∀ y, y ∈ pre ++ [x] → sprT ls r k y.i = true → f' y.i.toNat = true) := Lib.hid (fun h0 y hy ht => by
            rcases List.mem_append.1 hy with h | h
            · exact q4.out y h ht
            · rw [List.mem_singleton.1 h, h0] at ht; cases ht)
          have hdomx := Lib.hid (hdom.out x)
          generalize pre ++ [x] = pre2 at *
          obtain ⟨x, x0, x1, x2⟩ := x
          have ex : HoldT.i (⟨x, x0, x1, x2⟩ : HoldT ls r k) = x := rfl
          rw [ex] at hpx1 hpx0 hdomx
          dsimp only [HoldT.i]
          obtain ⟨d, rfl⟩ := Int.eq_ofNat_of_zero_le x0
          rw [Int.toNat_natCast] at hpx1 hdomx
          have hdl : d < ls.length := by omega
          obtain ⟨A3, c3, e3, -, hc3⟩ := hV4
          injection e3 with e3 _ e4
          subst e4
          subst e3
          obtain ⟨bh, oh, e5, -, hcell⟩ := hc3 (by omega)
          injection e5 with e5
          injection e5 with e5 e6
          subst e5
          subst e6
          obtain ⟨ld, hld⟩ : ∃ q, ls[d]? = some q := ⟨_, List.getElem?_eq_getElem hdl⟩
          obtain ⟨o1, p1, hi1⟩ := hcell d ld hld
          obtain ⟨A4, c4, rfl, -, -⟩ := hi1
          have gd : ls.getD (d : Int).toNat [] = ld := by rw [Int.toNat_natCast, List.getD_eq_getElem?_getD, hld]; rfl
          have f1 := fun X : After W3 => After.cell X p1
          obtain ⟨-, f2, -⟩ := box2 hm4 rfl
          have f3 := fun X : After W3 => After.cell X (show W3.cell? ⟨W.heap.size, 0, none⟩ = some (.int .i64 k) by rw [cell_of_block hk4]; rfl)
          have f4 := fun X : After W3 => After.cell X (show W3.cell? ⟨W.heap.size + 1, 0, none⟩ = some (.slice Ar r.length cr) by rw [cell_of_block hr4]; rfl)
          have f5 := fun X : After W3 => After.cell X (show W3.cell? ⟨ob + 1, 0, none⟩ = some (.slice (some ⟨ob, 0, none⟩) ls.length ls.length) by rw [cell_of_block hb4]; rfl)
          have x00 : (0 : Int) ≤ (d : Int) := by omega
          have x01 : (d : Int) < (ls.length : Int) := by omega
          have hT : Hid (sprT ls r k (d : Int) = (decide (r.length < ld.length) || decide ((k : Int) < (d : Int)))) := Lib.hid (by unfold sprT; rw [gd])
          clear p1 hcell hc3 hld gd hm4 hk4 hr4 x0 x1 x2 ex q4 hall hdom hcp hsd hV3 hH3 hh3 nm3 nb3 nk3 nr3 g1 g2 g3 hVl hHl hVW2 hHW2 hh2 nm2 nb2 t5 hM2 hM3 hg2 hg3 hW2 hris hrin hVV hkc3
          gi_wp2_with fail
          by_cases h1 : r.length < ld.length
          · have g1 : decide ((r.length : Int) < (ld.length : Int)) = true := decide_eq_true (by omega)
            have g3 : decide (r.length < ld.length) = true := decide_eq_true h1
            have hT2 := Lib.hid (hdomx.out (by rw [hT.out, g3]; simp))
            clear hT hdomx hpx0
            refine wpIn_region_after (lets_round l _) (by kernel_rfl) (by kernel_rfl) (by kernel_rfl) ?_
            repeat (first | go_big_quiet_step (fail))
            refine wpQuiet_nil ?_
            intro z
            have v0 := keep_blk z.2 q1
            have v1 := keep_blk z.2 hb4
            obtain ⟨v2, v3⟩ := bol_cell v0 hdl
            have v4 : z.1.cell? ⟨ob + 1, 0, none⟩ = some (.slice (some ⟨ob, 0, none⟩) ls.length ls.length) := by rw [cell_of_block v1]; rfl
            have v5 := bol_set14 (p := d) v0 true
            have v6 : KeepsFrom wz.heap.size W3 (z.1.setCell ⟨ob, d, none⟩ (.bool true)) := (keepsFrom_below14 z.2).trans ((KeepsOthers.setCell _ _ _).from _)
            have v7 := grown_trans14 q5 (grown_trans14 (grown_row14 (some ob) (grown_of_below14 z.2)) (grown_set14 z.1 ob d (.bool true)))
            have v8 : KeepC (fun b => b = ob) W3 (z.1.setCell ⟨ob, d, none⟩ (.bool true)) := (KeepC.of_below z.2).trans (keepC_set14 _ _ _ _)
            have v9 : Hid (∀ j, f j = true → (if j = d then true else f' j) = true) := Lib.hid (fun j h => by
              split
              · rfl
              · exact q2.out j h)
            have v10 : Hid (∀ j, j < ls.length → (if j = d then true else f' j) = true → rowGo ls j = true) := Lib.hid (fun j hj h => by
              by_cases e : j = d
              · subst e; exact hT2.out
              · rw [if_neg e] at h; exact q3.out j hj h)
            have v11 := Lib.hid (hpx1.out (fun j => if j = d then true else f' j) (fun j h => by
              show (if j = d then true else f' j) = true
              split
              · rfl
              · exact h) (by show (if d = d then true else f' d) = true; rw [if_pos rfl]))
            clear f1 f2 f3 f4 f5 v0 v1 q1 q2 q3 q5 hb4 hpx1
            gi_wp2
            exact ⟨v6, v8, ⟨_, v5, v9, v10, v11.out⟩, v7⟩
          have g1 : decide ((r.length : Int) < (ld.length : Int)) = false := decide_eq_false (by omega)
          by_cases h2 : (k : Int) < (d : Int)
          · have g2 : decide ((k : Int) < (d : Int)) = true := decide_eq_true h2
            have hT2 := Lib.hid (hdomx.out (by rw [hT.out, g2]; simp))
            clear hT hdomx hpx0
            refine wpIn_region_after (lets_round l _) (by kernel_rfl) (by kernel_rfl) (by kernel_rfl) ?_
            repeat (first | go_big_quiet_step (fail))
            refine wpQuiet_nil ?_
            intro z
            have v0 := keep_blk z.2 q1
            have v1 := keep_blk z.2 hb4
            obtain ⟨v2, v3⟩ := bol_cell v0 hdl
            have v4 : z.1.cell? ⟨ob + 1, 0, none⟩ = some (.slice (some ⟨ob, 0, none⟩) ls.length ls.length) := by rw [cell_of_block v1]; rfl
            have v5 := bol_set14 (p := d) v0 true
            have v6 : KeepsFrom wz.heap.size W3 (z.1.setCell ⟨ob, d, none⟩ (.bool true)) := (keepsFrom_below14 z.2).trans ((KeepsOthers.setCell _ _ _).from _)
            have v7 := grown_trans14 q5 (grown_trans14 (grown_row14 (some ob) (grown_of_below14 z.2)) (grown_set14 z.1 ob d (.bool true)))
            have v8 : KeepC (fun b => b = ob) W3 (z.1.setCell ⟨ob, d, none⟩ (.bool true)) := (KeepC.of_below z.2).trans (keepC_set14 _ _ _ _)
            have v9 : Hid (∀ j, f j = true → (if j = d then true else f' j) = true) := Lib.hid (fun j h => by
              split
              · rfl
              · exact q2.out j h)
            have v10 : Hid (∀ j, j < ls.length → (if j = d then true else f' j) = true → rowGo ls j = true) := Lib.hid (fun j hj h => by
              by_cases e : j = d
              · subst e; exact hT2.out
              · rw [if_neg e] at h; exact q3.out j hj h)
            have v11 := Lib.hid (hpx1.out (fun j => if j = d then true else f' j) (fun j h => by
              show (if j = d then true else f' j) = true
              split
              · rfl
              · exact h) (by show (if d = d then true else f' d) = true; rw [if_pos rfl]))
            clear f1 f2 f3 f4 f5 v0 v1 q1 q2 q3 q5 hb4 hpx1
            gi_wp2
            exact ⟨v6, v8, ⟨_, v5, v9, v10, v11.out⟩, v7⟩
          · have g2 : decide ((k : Int) < (d : Int)) = false := decide_eq_false h2
            have hp2 := Lib.hid (hpx0.out (by rw [hT.out, g2, decide_eq_false h1]; rfl))
            clear hT hdomx hpx0 hpx1
            refine wpIn_region_after (lets_round l _) (by kernel_rfl) (by kernel_rfl) (by kernel_rfl) ?_
            repeat (first | go_big_quiet_step (fail))
            refine wpQuiet_nil ?_
            intro z
            have v0 := keep_blk z.2 q1
            have v6 : KeepsFrom wz.heap.size W3 z.1 := keepsFrom_below14 z.2
            have v7 := grown_trans14 q5 (grown_row14 (some ob) (grown_of_below14 z.2))
            have v8 : KeepC (fun b => b = ob) W3 z.1 := KeepC.of_below z.2
            clear f1 f2 f3 f4 f5 q1 q5 hb4
            gi_wp2
            exact ⟨v6, v8, ⟨f', v0, q2, q3, hp2⟩, v7⟩
        case done =>
          rintro D xs W3 hD ⟨q, hq, hxs⟩ ⟨⟨f', q1, q2, q3, q4⟩, q5⟩ hK
          have hcp2 : Hid (∀ i, i < k + 1 → rowGo ls i = false → ∀ j, j < ls.length → domR ls i j → f' j = true) := Lib.hid (fun i hi hg j hj hd => by
            by_cases e : i = k
            · subst e
              exact hall.out q xs f' hq hxs q4.out j hj hd
            · exact q2.out j (hcp.out i (by omega) hg j hj hd))
          have hM4 := (hM3.grown q5 hh3 rfl).push hM3 hD (by have := hg3.size; omega) hK
          have hg4 := grown_trans14 hg3 q5
          clear hq hxs hall hdom hcp hsd hV3 hH3 hh3 nm3 nb3 nk3 nr3 g1 g2 g3 hVl hHl hVW2 hHW2 hh2 nm2 nb2 t5 hM2 hg2 hW2 hris hrin q2 q4 hVV
          gi_wp2
          exact ⟨⟨_, _, _, _, _, _, _, _, _, _, _, _, _, _, _, _, _, _, _, _, _, _, _, _, _, _, _, _, _, _, _, _, _, _, _, _, k + 1, D :: ds, f', ⟨by omega, by go_num, q1, q3, hcp2, hM4, hg4⟩, rfl⟩, by simp [intOf]; omega⟩
        case stop =>
          rintro D c' pre W3 _ _ h _
          exact h.elim
      · rw [hf] at x0
        have hcp2 : Hid (∀ i, i < k + 1 → rowGo ls i = false → ∀ j, j < ls.length → domR ls i j → f j = true) := Lib.hid (fun i hi hg j hj hd => by
          by_cases e : i = k
          · subst e
            rw [hsd.out i hlt hf] at hg
            cases hg
          · exact hcp.out i (by omega) hg j hj hd)
        clear hcp hVl hHl hh hM hg hcell hcv nm nb nm2 nb2
        gi_wp2
        exact ⟨⟨_, _, _, _, _, _, _, _, _, _, _, _, _, _, _, _, _, _, _, _, _, _, _, _, _, _, _, _, _, _, _, _, _, _, _, _, k + 1, ds, f, ⟨by omega, by go_num, hh2, hsd, hcp2, hM2, hg2⟩, rfl⟩, by simp [intOf]; omega⟩
    · have e : k = ls.length := by omega
      have hkd : ¬ (k : Int) < (ls.length : Int) := by omega
      have hF : bolO ls.length f = bolO ls.length (rowGo ls) := bolO_ext14 (spr_end14 hRM hsd.out (fun i hi => hcp.out i (by omega)))
      have y0 : W.cell? ⟨ob + 1, 0, none⟩ = some (.slice (some ⟨ob, 0, none⟩) ls.length ls.length) := by rw [cell_of_block nb]; rfl
      rw [hF] at hh
      have hbw : Below w.heap.size w W := ⟨hg.os.trans hB2.os, hg.tape.trans hB2.tape, hg.output.trans hB2.output, Nat.le_trans hB2.size hg.size, fun b hb => (hg.block b (Nat.lt_of_lt_of_le hb hB2.size) (by intro e; injection e with e; omega)).trans (hB2.block b hb)⟩
      have hbz := hB2.size
      clear e hF hcp hsd
      gi_wp2
      refine marks_leave14 ds W hM (fun W' h1 h2 h3 => ?_)
      exact ⟨_, results_tmp rfl _ _ _, ob, rfl, hwo, (h1 ob (by omega)).trans hh, hbw.trans (h2.mono hbz)⟩
end Go.Proofs.Ytcbhcclickjpnaa
