/- greedy of the package search. -/
import Derived.Test.YtcbhcclickjpnaaGK16
import Derived.Test.YtcbhcclickjpnaaGK19
namespace Go.Proofs.Ytcbhcclickjpnaa
open Go.RowKit Go.Joins

theorem now1_15 {w : World} {b : Nat} {T : TypeId} {x0 : Value} (h : w.heap[b]? = some (.cells #[x0] T (0, 0))) : w.cell? ⟨b, 0, none⟩ = some x0 ∧ (∀ j : Nat, w.frozen? ⟨b, j, none⟩ = false) :=
  ⟨by rw [cell_of_block h]; rfl, unfrozen_of_block h⟩
theorem put1_15 {w : World} {b : Nat} {T : TypeId} {x y : Value} (h : w.heap[b]? = some (.cells #[y] T (0, 0))) : (w.setCell ⟨b, 0, none⟩ x).heap[b]? = some (.cells #[x] T (0, 0)) := by
  rw [block_setCell h x]; rfl
theorem blkne15 {w : World} {b c : Nat} {A A' : Array Value} {T T' : TypeId} {z z' : Nat × Nat} (h : w.heap[b]? = some (.cells A T z)) (h' : w.heap[c]? = some (.cells A' T' z')) (hT : T ≠ T') : b ≠ c := fun e => by
  subst e
  rw [h] at h'
  injection h' with h'
  injection h' with _ h' _
  exact hT h'
/-- A copy of a matrix's rows: the values are those that it has. -/
theorem clone15_any (B : Nat) (w0 : World) (v : Value) (l : List (List Int)) (w : World) (h8 : l.length ≤ 4000) (hz : MatAt w0 B v l) (hcap : CapM w v) (hb : Below B w0 w) (hB : B ≤ w.heap.size) :
    Calls Try.prog 38 #[v] w fun e w' => ∃ v' vs, e = .returned v' ∧ w'.ownsRow w.heap.size 30 1 v' l.length vs ∧ vs.length = l.length ∧ (∀ (j : Nat) (r : List Int), l[j]? = some r → ∃ u, vs[j]? = some u ∧ IntsAt w0 B u r) ∧ Below w.heap.size w w' := by
  refine (cloneM14_any (fun b => B ≤ b) w v l (by omega) ((hz.below hb).toN (fun b h => by omega)) hcap).mono ?_
  rintro e w' ⟨v', vs, rfl, h1, h2, h3, -, h5, h6⟩
  refine ⟨v', vs, rfl, h1, h2, fun j r hj => ?_, h6⟩
  obtain ⟨u, hu, A, c, rfl, hl, hc⟩ := h3 j r hj
  refine ⟨_, hu, A, c, rfl, hl, fun h0 => ?_⟩
  obtain ⟨b, off, rfl, -, hcc⟩ := hc h0
  have hlo : b < B := by
    have := h5 _ (List.mem_of_getElem? hu) b off _ c rfl h0
    omega
  exact ⟨b, off, rfl, hlo, fun i x hx => ((hb.trans (h6.mono hB)).cell (p := ⟨b, off + i, none⟩) hlo).symm.trans (hcc i x hx)⟩
/-- Numbers sorted are the columns of flags. -/
theorem sort_flg15 {n : Nat} {t : Int → Bool} {K : List Int} (h1 : K.Nodup) (h2 : ∀ x, x ∈ K → 0 ≤ x ∧ x < n) (h3 : ∀ x, t x = true ↔ x ∈ K) : K.mergeSort (fun x y => decide (x ≤ y)) = flgL t n := by
  refine rise_same14 ?_ ?_ fun x => ?_
  · have hs := List.pairwise_mergeSort (le := fun x y : Int => decide (x ≤ y)) (fun a b c h1 h2 => by simp at *; omega) (fun a b => by simp; omega) K
    have hn : (K.mergeSort fun x y => decide (x ≤ y)).Nodup := (List.mergeSort_perm K _).nodup_iff.2 h1
    rw [List.nodup_iff_pairwise_ne] at hn
    exact (hs.and hn).imp fun h => by
      have := h.1
      have := h.2
      simp at *
      omega
  · unfold flgL
    rw [List.pairwise_map]
    exact ((List.pairwise_lt_range).filter _).imp fun h => by omega
  · rw [(List.mergeSort_perm K _).mem_iff, mem_flg]
    constructor
    · intro hx
      obtain ⟨a, b⟩ := h2 x hx
      obtain ⟨q, rfl⟩ := Int.eq_ofNat_of_zero_le a
      exact ⟨q, rfl, by omega, (h3 _).2 hx⟩
    · rintro ⟨c, rfl, -, hT⟩
      exact (h3 _).1 hT
/-- How far the greedy choice is. -/
structure GrF (n : Nat) (ls : List (List Int)) (l : List (List Int)) (K : List Int) : Prop where
  way : ∃ f t, l.length < f ∧ grdT n ls = grdP n f t l ∧ ∀ x, t x = true ↔ x ∈ K
  once : K.Nodup
  low : ∀ x, x ∈ K → 0 ≤ x ∧ x < n
  off : ∀ r, r ∈ l → ∀ x, x ∈ r → x ∉ K
  ris : ∀ r, r ∈ l → risL n r
  bare : bareB l = false
  len : K.length + l.length ≤ 4000
theorem GrF.start {n : Nat} {ls : List (List Int)} (hr : ∀ r, r ∈ ls → risL n r) (hb : bareB ls = false) (hl : ls.length ≤ 4000) : GrF n ls ls [] :=
  ⟨⟨_, _, Nat.lt_succ_self _, rfl, fun x => by simp⟩, List.nodup_nil, fun x h => absurd h List.not_mem_nil, fun _ _ _ _ => List.not_mem_nil, hr, hb, by simpa using hl⟩
theorem GrF.step {n : Nat} {ls l : List (List Int)} {K : List Int} (h : GrF n ls l K) (hne : l ≠ []) : GrF n ls (tkR l ((mstC l n : Nat) : Int)) (K ++ [((mstC l n : Nat) : Int)]) ∧ (tkR l ((mstC l n : Nat) : Int)).length < l.length ∧ mstC l n < n := by
  obtain ⟨f, t, hf, hG, ht⟩ := h.way
  obtain ⟨h1, h2⟩ := grd_less (n := n) (fun r hr => (h.ris r hr).1) h.bare hne
  obtain ⟨f, rfl⟩ : ∃ g, f = g + 1 := ⟨f - 1, by omega⟩
  have hsub : ∀ r, r ∈ tkR l ((mstC l n : Nat) : Int) → r ∈ l ∧ ¬ ((mstC l n : Nat) : Int) ∈ r := fun r hr => by
    have := List.mem_filter.1 hr
    exact ⟨this.1, by simpa using this.2⟩
  have hcK : ((mstC l n : Nat) : Int) ∉ K := by
    have h3 : 0 < cntC l (mstC l n) := by
      refine Nat.pos_of_ne_zero fun e => ?_
      have : tkR l ((mstC l n : Nat) : Int) = l := by
        unfold tkR
        rw [List.filter_eq_self]
        intro r hr
        unfold cntC at e
        rw [List.countP_eq_zero] at e
        have := e r hr
        simpa using this
      rw [this] at h1
      omega
    unfold cntC at h3
    rw [List.countP_pos_iff] at h3
    obtain ⟨r, hr, hm⟩ := h3
    exact h.off r hr _ (of_decide_eq_true hm)
  refine ⟨⟨⟨f, _, by omega, by rw [hG]; show (if l = [] then t else _) = _; rw [if_neg hne], fun x => ?_⟩, ?_, fun x hx => ?_, fun r hr x hx hK => ?_, fun r hr => h.ris r (hsub r hr).1, bare_tk h.bare _, ?_⟩, h1, h2⟩
  · rw [List.mem_append, List.mem_singleton, Bool.or_eq_true, ht, decide_eq_true_iff]
  · rw [List.nodup_append]
    refine ⟨h.once, by simp, fun a ha b hb e => ?_⟩
    rw [List.mem_singleton.1 hb] at e
    exact hcK (e ▸ ha)
  · rcases List.mem_append.1 hx with h1 | h1
    · exact h.low x h1
    · rw [List.mem_singleton.1 h1]; omega
  · rcases List.mem_append.1 hK with h1 | h1
    · exact h.off r (hsub r hr).1 x hx h1
    · rw [List.mem_singleton.1 h1] at hx
      exact (hsub r hr).2 hx
  · have := h.len
    rw [List.length_append, List.length_singleton]
    omega
theorem GrF.done {n : Nat} {ls : List (List Int)} {K : List Int} (h : GrF n ls [] K) : K.mergeSort (fun x y => decide (x ≤ y)) = flgL (grdT n ls) n := by
  obtain ⟨f, t, hf, hG, ht⟩ := h.way
  obtain ⟨f, rfl⟩ : ∃ g, f = g + 1 := ⟨f - 1, by simp at hf; omega⟩
  have e : grdT n ls = t := by rw [hG]; show (if [] = [] then t else _) = _; rw [if_pos rfl]
  rw [e]
  exact sort_flg15 h.once h.low ht
theorem many_ints15 {w : World} {mt n : Nat} {ls : List (List Int)} (h : w.heap[mt]? = some (celO 3 n fun p => .int .i64 (cntC ls p : Nat))) (hn : n ≤ 4000) : IntsAt w w.heap.size (.slice (some ⟨mt, 0, none⟩) n n) (manyL ls n) :=
  (cel_intsN15 (N := fun b => b < w.heap.size) (l := manyL ls n) h (many_len ls n) (by omega) (fun j x hx => by rw [(many_get hx).2]) (size_of_block h)).ints (fun _ h => h)
/-- The memory of a greedy choice. -/
structure GrW (w0 : World) (B n bm mt : Nat) (U T : Value) (zs : List RV) (K : List Int) (W : World) : Prop where
  left : W.ownsRow B 30 1 U zs.length (zs.map Prod.snd)
  took : W.ownsRow B 3 1 T K.length (intI K)
  box : W.heap[bm]? = some (.cells #[.slice (some ⟨mt, 0, none⟩) n n] 30 (0, 0))
  many : W.heap[mt]? = some (celO 3 n fun p => .int .i64 (cntC (zs.map Prod.fst) p : Nat))
  lowm : B ≤ mt
  far : T.ownBlock ≠ some mt
  farb : U.ownBlock ≠ some bm
  bel : Below B w0 W
theorem GrW.below {w0 W W' : World} {B n bm mt : Nat} {U T : Value} {zs : List RV} {K : List Int} (h : GrW w0 B n bm mt U T zs K W) (hb : Below W.heap.size W W') (hB : B ≤ W.heap.size) : GrW w0 B n bm mt U T zs K W' :=
  ⟨owns_below h.left hb, owns_below h.took hb, keep_blk hb h.box, keep_blk hb h.many, h.lowm, h.far, h.farb, h.bel.trans (hb.mono hB)⟩
/-- A row in memory that nobody writes to. -/
theorem own_same15 {w w' : World} {B size n : Nat} {e : TypeId} {v : Value} {xs : List Value} (h : w.ownsRow B e size v n xs) (hk : ∀ k, v.ownBlock = some k → w'.heap[k]? = w.heap[k]?) : w'.ownsRow B e size v n xs := by
  refine ⟨h.1, ?_⟩
  rcases h.2 with h0 | ⟨g, cap, cur, rfl, hg, hgg, h1, h2, h3, h4⟩
  · exact .inl h0
  · exact .inr ⟨g, cap, cur, rfl, hg, (hk g rfl).trans hgg, h1, h2, h3, h4⟩
theorem kpt_fst {zs : List RV} {c : Int} : (kpt (fun r => decide (c ∈ r)) zs).map Prod.fst = tkR (zs.map Prod.fst) c := by
  unfold kpt tkR
  rw [List.filter_map]
  rfl
theorem kept_own15 {w : World} {B g cap : Nat} {cur : Array Value} {zs : List RV} (hB : B ≤ g) (hg : PairC w g cap cur) (hl : zs.length ≤ cap) (hm : cap ≤ maxLen) (hc : ∀ (j : Nat) (z : RV), zs[j]? = some z → cur[j]? = some z.2) : w.ownsRow B 30 1 (.slice (some ⟨g, 0, none⟩) zs.length cap) zs.length (zs.map Prod.snd) := by
  refine ⟨by rw [List.length_map, Nat.mul_one], .inr ⟨g, cap, cur, rfl, hB, hg.1, hl, hm, by rw [hg.2, Nat.mul_one], ?_⟩⟩
  refine List.ext_getElem? fun j => ?_
  rw [Nat.mul_one, List.getElem?_map, List.getElem?_take]
  by_cases hj : j < zs.length
  · rw [if_pos hj, Array.getElem?_toList, hc j _ (List.getElem?_eq_getElem hj), List.getElem?_eq_getElem hj]; rfl
  · rw [if_neg hj, List.getElem?_eq_none (by omega)]; rfl
theorem zip_read15 {w0 : World} {B : Nat} {l : List (List Int)} {vs : List Value} (hvl : vs.length = l.length) (h : ∀ (j : Nat) (r : List Int), l[j]? = some r → ∃ u, vs[j]? = some u ∧ IntsAt w0 B u r) : (l.zip vs).map Prod.fst = l ∧ (l.zip vs).map Prod.snd = vs ∧ ∀ z, z ∈ l.zip vs → IntsAt w0 B z.2 z.1 := by
  refine ⟨List.map_fst_zip (by omega), List.map_snd_zip (by omega), fun z hz => ?_⟩
  obtain ⟨j, hj⟩ := List.mem_iff_getElem?.1 hz
  rw [List.getElem?_zip_eq_some] at hj
  obtain ⟨h1, h2⟩ := hj
  obtain ⟨u, h3, h4⟩ := h j z.1 h1
  rw [h3] at h2
  injection h2 with h2
  rw [← h2]; exact h4
def lenV15 : Value → Nat
  | .slice _ n _ => n
  | _ => 0
theorem many_len0 {ls : List (List Int)} {n : Nat} (h : 0 < n) : 0 < (manyL ls n).length := by rw [many_len]; exact h
theorem own_kept15 {w w' : World} {B B' size size' n n' : Nat} {e e' : TypeId} {v v' : Value} {xs xs' : List Value} (h : w.ownsRow B e size v n xs) (h' : w.ownsRow B' e' size' v' n' xs') (he : e ≠ e') (hg : w.grownBy w' v'.ownBlock) : w'.ownsRow B e size v n xs :=
  own_same15 h fun k hk => hg.block k (h.lt k hk).2 (fun e2 => by
    rcases h.2 with ⟨rfl, -⟩ | ⟨g, cap, cur, rfl, -, hgg, -⟩
    · cases hk
    · have hk : some g = some k := hk
      injection hk with hk
      subst hk
      exact own_ne h' hgg (fun e3 => he e3.symm) e2.symm)
/-- What DeleteFunc keeps, beside what it strikes. -/
def DelI (B n c bc bm mt g : Nat) (l : List (List Int)) (w0 w8 : World) (j : Nat) (W : World) : Prop :=
  StrI B n c bc bm mt l w0 j W ∧ w8.heap.size ≤ W.heap.size ∧ ∀ b, b < w8.heap.size → b ≠ g → b ≠ mt → W.heap[b]? = w8.heap[b]?
theorem del15_ok (n c bc bm mt g cap B : Nat) (zs : List RV) (w0 w8 : World) (cur : Array Value) (hB0 : B ≤ w0.heap.size) (hS : StrI B n c bc bm mt (zs.map Prod.fst) w0 0 w8) (hg : PairC w8 g cap cur) (hl : zs.length ≤ 4000) (hlc : zs.length ≤ cap) (hcur : ∀ (j : Nat) (z : RV), zs[j]? = some z → cur[j]? = some z.2)
    (hbc : bc ≠ mt) (hbm : bm ≠ mt) (hB : B ≤ mt) (hgm : g ≠ mt) (hgc : g ≠ bc) (hgb : g ≠ bm) (hBg : B ≤ g) (hz : ∀ z, z ∈ zs → IntsAt w0 B z.2 z.1) (hris : ∀ r, r ∈ zs.map Prod.fst → risL n r) (hn : n ≤ 4000) :
    Calls Try.prog 42 #[.slice (some ⟨g, 0, none⟩) zs.length cap, .func (.func 43) #[] #[.pointer (some ⟨bc, 0, none⟩), .pointer (some ⟨bm, 0, none⟩)]] w8 fun e w' => ∃ cur', e = .returned (.slice (some ⟨g, 0, none⟩) (kpt (fun r => decide ((c : Int) ∈ r)) zs).length cap) ∧ PairC w' g cap cur' ∧
      (∀ (j : Nat) (z : RV), (kpt (fun r => decide ((c : Int) ∈ r)) zs)[j]? = some z → cur'[j]? = some z.2) ∧ DelI B n c bc bm mt g (zs.map Prod.fst) w0 w8 zs.length w' := by
  refine delG15_any 43 #[.pointer (some ⟨bc, 0, none⟩), .pointer (some ⟨bm, 0, none⟩)] (fun r => decide ((c : Int) ∈ r)) g cap zs (DelI B n c bc bm mt g (zs.map Prod.fst) w0 w8) cur w8 (fun _ _ => by kernel_rfl) (fun z h => ?_) (fun j z W hj hI hgs => ?_) (fun j W k u hI => ?_) ⟨hS, Nat.le_refl _, fun _ _ _ _ => rfl⟩ hg hl hlc hcur
  · obtain ⟨A, cc, e, -⟩ := hz z h
    exact ⟨A, _, cc, e⟩
  · have hj2 : (zs.map Prod.fst)[j]? = some z.1 := by rw [List.getElem?_map, hj]; rfl
    have hr := hris _ (List.mem_of_getElem? hj2)
    refine (grd1_any15 B n c bc bm mt (zs.map Prod.fst) w0 j z.1 z.2 W hj2 hr (hz z (List.mem_of_getElem? hj)) hI.1 (by rw [List.length_map]; exact hl) (by
      rcases ris_len hr with h | h
      · omega
      · rw [h]; decide) hbc hbm hB hB0).mono ?_
    rintro e W' ⟨rfl, h1, h2, h3⟩
    exact ⟨rfl, ⟨h1, Nat.le_trans hI.2.1 h2, fun b hb hne hnm => (h3 b (by have := hI.2.1; omega) hnm).trans (hI.2.2 b hb hne hnm)⟩, h3 g hgs hgm⟩
  · obtain ⟨⟨a1, a2, a3, a4⟩, h2, h3⟩ := hI
    refine ⟨⟨keep_set (fun e => hgc e.symm) a1, keep_set (fun e => hgb e.symm) a2, keep_set (fun e => hgm e.symm) a3, a4.setCell (p := ⟨g, k, none⟩) hBg u⟩, by simpa [World.setCell] using h2, fun b hb hne hnm => (Below.heap_setCell _ _ _ _ hne).trans (h3 b hb hne hnm)⟩
set_option maxHeartbeats 4000000 in
set_option maxRecDepth 100000 in
theorem greedy15_any (n : Nat) (V : Value) (ls : List (List Int)) (w : World) (hV : MatAt w w.heap.size V ls) (hcap : CapM w V) (hn : n ≤ 4000) (hls : ls.length ≤ 4000) (hr : ∀ r, r ∈ ls → risL n r) (hb : bareB ls = false) :
    Calls Try.prog 25 #[mtv n V] w fun e w' => ∃ v, e = .returned v ∧ w'.ownsRow w.heap.size 3 1 v (flgL (grdT n ls) n).length (intI (flgL (grdT n ls) n)) ∧ Below w.heap.size w w' := by
  have hB0 := below_alloc1 w (mtb n V)
  have hbu : (w.alloc (mtb n V)).heap[w.heap.size]? = some (mtb n V) := heap_alloc_new _ _
  have hs0 : (w.alloc (mtb n V)).heap.size = w.heap.size + 1 := World.size_alloc _ _
  have HCL := fun X (h : Below (w.alloc (mtb n V)).heap.size (w.alloc (mtb n V)) X) => clone15_any w.heap.size w V ls X hls hV (hcap.below (hB0.trans (h.mono hB0.size))) (hB0.trans (h.mono hB0.size)) (hB0.trans (h.mono hB0.size)).size
  have HCT := fun X (h : Below (w.alloc (mtb n V)).heap.size (w.alloc (mtb n V)) X) => counts15_any n V ls X ((hV.below (hB0.trans (h.mono hB0.size))).more (hB0.trans (h.mono hB0.size)).size) hn hls hr
  have hF0 := Lib.hid (GrF.start hr hb hls)
  obtain ⟨A, c, rfl, hl, -⟩ := hV
  unfold mtv at *
  unfold mtb at *
  have a0 := fun X : After (w.alloc (.cells #[.int .i64 n, .slice A ls.length c] 24 (0, 0))) => (now2 (X.same hbu) rfl).1
  have a1 := fun X : After (w.alloc (.cells #[.int .i64 n, .slice A ls.length c] 24 (0, 0))) => (now2 (X.same hbu) rfl).2.1
  have hbH := Lib.hid hb
  have hrH := Lib.hid hr
  clear hb hr hcap hbu
  go_enter Try.func25, Try.ntmps25
  go_wp2
  generalize w.alloc _ = W1 at *
  go_cut [4, 5] from 7 (fun s4 s5 wc => ∃ vl bm vs mt, s4 = vl ∧ s5 = .pointer (some ⟨bm, 0, none⟩) ∧ wc.ownsRow W1.heap.size 30 1 vl ls.length vs ∧ vs.length = ls.length ∧ (∀ (j : Nat) (r : List Int), ls[j]? = some r → ∃ u, vs[j]? = some u ∧ IntsAt w w.heap.size u r) ∧
    wc.heap[bm]? = some (.cells #[.slice (some ⟨mt, 0, none⟩) n n] 30 (0, 0)) ∧ wc.heap[mt]? = some (celO 3 n fun p => .int .i64 (cntC ls p : Nat)) ∧ W1.heap.size ≤ mt ∧ vl.ownBlock ≠ some bm ∧ Below W1.heap.size W1 wc)
  case first =>
    refine wp_region_held_drew (S := fun W_ => Below W1.heap.size W1 W_) rfl (Below.refl _ W1).drew (fun hHeld => ?_)
    obtain ⟨X0, hX0⟩ : ∃ X0, X0 = W1.drew := ⟨_, rfl⟩
    rw [← hX0] at hHeld ⊢
    clear hX0
    refine wpAnyH_take (i := 0) (oi := _) (v := ?_) rfl (by kernel_rfl) (by kernel_rfl) (by kernel_rfl) (fun _ _ _ h => h) (Or.inl ⟨by rfl, ?_⟩) (by assumption) ?_
    rotate_left 1
    · intro w_ hSw
      go_simp
      try with_reducible rfl
    try simp only [Act.put, List.setIfInBounds_toArray]
    refine wpAnyH_take (i := 1) (oi := _) (v := ?_) rfl (by kernel_rfl) (by kernel_rfl) (by kernel_rfl) (fun _ _ _ h => h) (Or.inl ⟨by rfl, ?_⟩) (by assumption) ?_
    rotate_left 1
    · intro w_ hSw
      have q_a0 := a0 ⟨w_, hSw⟩
      have q_a1 := a1 ⟨w_, hSw⟩
      dsimp only at q_a0 q_a1
      go_simp
      try with_reducible rfl
    try simp only [Act.put]
    refine wpAnyH_take (i := 3) (oi := _) (v := ?_) rfl (by kernel_rfl) (by kernel_rfl) (by kernel_rfl) (fun _ _ _ h => h) (Or.inl ⟨by rfl, ?_⟩) (by assumption) ?_
    rotate_left 1
    · intro w_ hSw
      have q_a0 := a0 ⟨w_, hSw⟩
      have q_a1 := a1 ⟨w_, hSw⟩
      dsimp only at q_a0 q_a1
      go_simp
      try with_reducible rfl
    try simp only [Act.put]
    refine wpAnyH_ready (rs := [2, 5]) (by kernel_rfl) (by simp) ?_
    refine AllReadyH.cons (o := _) rfl (fun _ hK => ?_) ?_
    · go_simp
      refine (HCL X0 hHeld).mono ?_
      rintro e X1 ⟨vl, vs, rfl, hown, hvl, hrd, hbr⟩
      replace hown := own_more hown hHeld.size
      try go_simp
      refine hK.out _ _ (hHeld.trans (hbr.mono hHeld.size)) (fun hHeld => ?_)
      clear hbr
      clear hK
      try simp only [Act.put, List.setIfInBounds_toArray, List.set_cons_zero, List.set_cons_succ]
      refine wpAnyH_ready (rs := [4, 5]) (by kernel_rfl) (by simp) ?_
      refine AllReadyH.cons (o := _) rfl (fun _ hK => ?_) ?_
      · go_simp
        refine (HCT X1 hHeld).mono ?_
        rintro e X2 ⟨mt, rfl, hmt, hmc, hbr⟩
        replace hown := owns_below hown hbr
        replace hmt := Nat.le_trans hHeld.size hmt
        try go_simp
        refine hK.out _ _ (hHeld.trans (hbr.mono hHeld.size)) (fun hHeld => ?_)
        clear hbr
        clear hK
        try simp only [Act.put, List.setIfInBounds_toArray, List.set_cons_zero, List.set_cons_succ]
        refine wpAnyH_ready (rs := [5]) (by kernel_rfl) (by simp) ?_
        refine AllReadyH.cons (o := _) rfl (fun _ hK => ?_) AllReadyH.nil
        go_simp
        have nm := heap_alloc_new X2 (.cells #[.slice none 0 0] 30 (0, 0))
        have hal := hHeld.alloc hHeld.size (.cells #[.slice none 0 0] 30 (0, 0))
        have lm := hHeld.size
        have e_hown_m : (vl).ownBlock ≠ some X2.heap.size := fun e => by have h1 := (hown.lt _ e).2; omega
        replace hown := hown.alloc (.cells #[.slice none 0 0] 30 (0, 0))
        replace hmc := keep_alloc (x := .cells #[.slice none 0 0] 30 (0, 0)) hmc
        generalize X2.heap.size = bm at *
        generalize X2.alloc (.cells #[.slice none 0 0] 30 (0, 0)) = X3 at *
        refine hK.out _ _ hal (fun hHeld => ?_)
        clear hal
        clear hK
        try simp only [Act.put, List.setIfInBounds_toArray, List.set_cons_zero, List.set_cons_succ]
        refine wpAnyH_ready (rs := [6]) (by kernel_rfl) (by simp) ?_
        refine AllReadyH.cons (o := _) rfl (fun _ hK => ?_) AllReadyH.nil
        go_simp
        refine hK.out _ _ hHeld (fun hHeld => ?_)
        clear hK
        try simp only [Act.put, List.setIfInBounds_toArray, List.set_cons_zero, List.set_cons_succ]
        refine wpAnyH_ready (rs := [7]) (by kernel_rfl) (by simp) ?_
        refine AllReadyH.cons (o := _) rfl (fun _ hK => ?_) AllReadyH.nil
        obtain ⟨y0, yf⟩ := now1_15 nm
        go_simp
        clear y0 yf
        refine hK.out _ _ (hHeld.setCell (by show W1.heap.size ≤ bm; omega) _) (fun hHeld => ?_)
        replace hown := own_set hown e_hown_m 0 (.slice (some ⟨mt, 0, none⟩) n n)
        replace hmc := keep_set (a := ⟨bm, 0, none⟩) (u := .slice (some ⟨mt, 0, none⟩) n n) (blkne15 hmc nm (by decide)) hmc
        replace nm := put1_15 (x := .slice (some ⟨mt, 0, none⟩) n n) nm
        generalize X3.setCell ⟨bm, 0, none⟩ (.slice (some ⟨mt, 0, none⟩) n n) = X4 at *
        clear hK
        try simp only [Act.put, List.setIfInBounds_toArray, List.set_cons_zero, List.set_cons_succ]
        refine wpAnyH_done (by kernel_rfl) ?_ _
        go_wp2_with fail
        go_meet
        exact ⟨vl, bm, vs, mt, rfl, rfl, hown, hvl, hrd, nm, hmc, hmt, e_hown_m, hHeld⟩
      refine AllReadyH.cons (o := _) rfl (fun _ hK => ?_) AllReadyH.nil
      go_simp
      have nm := heap_alloc_new X1 (.cells #[.slice none 0 0] 30 (0, 0))
      have hal := hHeld.alloc hHeld.size (.cells #[.slice none 0 0] 30 (0, 0))
      have lm := hHeld.size
      have e_hown_m : (vl).ownBlock ≠ some X1.heap.size := fun e => by have h1 := (hown.lt _ e).2; omega
      replace hown := hown.alloc (.cells #[.slice none 0 0] 30 (0, 0))
      generalize X1.heap.size = bm at *
      generalize X1.alloc (.cells #[.slice none 0 0] 30 (0, 0)) = X2 at *
      refine hK.out _ _ hal (fun hHeld => ?_)
      clear hal
      clear hK
      try simp only [Act.put, List.setIfInBounds_toArray, List.set_cons_zero, List.set_cons_succ]
      refine wpAnyH_ready (rs := [4]) (by kernel_rfl) (by simp) ?_
      refine AllReadyH.cons (o := _) rfl (fun _ hK => ?_) AllReadyH.nil
      go_simp
      refine (HCT X2 hHeld).mono ?_
      rintro e X3 ⟨mt, rfl, hmt, hmc, hbr⟩
      have nm_ := nm
      replace nm := keep_blk hbr nm
      replace hown := owns_below hown hbr
      replace hmt := Nat.le_trans hHeld.size hmt
      clear nm_
      try go_simp
      refine hK.out _ _ (hHeld.trans (hbr.mono hHeld.size)) (fun hHeld => ?_)
      clear hbr
      clear hK
      try simp only [Act.put, List.setIfInBounds_toArray, List.set_cons_zero, List.set_cons_succ]
      refine wpAnyH_ready (rs := [6]) (by kernel_rfl) (by simp) ?_
      refine AllReadyH.cons (o := _) rfl (fun _ hK => ?_) AllReadyH.nil
      go_simp
      refine hK.out _ _ hHeld (fun hHeld => ?_)
      clear hK
      try simp only [Act.put, List.setIfInBounds_toArray, List.set_cons_zero, List.set_cons_succ]
      refine wpAnyH_ready (rs := [7]) (by kernel_rfl) (by simp) ?_
      refine AllReadyH.cons (o := _) rfl (fun _ hK => ?_) AllReadyH.nil
      obtain ⟨y0, yf⟩ := now1_15 nm
      go_simp
      clear y0 yf
      refine hK.out _ _ (hHeld.setCell (by show W1.heap.size ≤ bm; omega) _) (fun hHeld => ?_)
      replace hown := own_set hown e_hown_m 0 (.slice (some ⟨mt, 0, none⟩) n n)
      replace hmc := keep_set (a := ⟨bm, 0, none⟩) (u := .slice (some ⟨mt, 0, none⟩) n n) (blkne15 hmc nm (by decide)) hmc
      replace nm := put1_15 (x := .slice (some ⟨mt, 0, none⟩) n n) nm
      generalize X3.setCell ⟨bm, 0, none⟩ (.slice (some ⟨mt, 0, none⟩) n n) = X4 at *
      clear hK
      try simp only [Act.put, List.setIfInBounds_toArray, List.set_cons_zero, List.set_cons_succ]
      refine wpAnyH_done (by kernel_rfl) ?_ _
      go_wp2_with fail
      go_meet
      exact ⟨vl, bm, vs, mt, rfl, rfl, hown, hvl, hrd, nm, hmc, hmt, e_hown_m, hHeld⟩
    refine AllReadyH.cons (o := _) rfl (fun _ hK => ?_) AllReadyH.nil
    go_simp
    have nm := heap_alloc_new X0 (.cells #[.slice none 0 0] 30 (0, 0))
    have hal := hHeld.alloc hHeld.size (.cells #[.slice none 0 0] 30 (0, 0))
    have lm := hHeld.size
    generalize X0.heap.size = bm at *
    generalize X0.alloc (.cells #[.slice none 0 0] 30 (0, 0)) = X1 at *
    refine hK.out _ _ hal (fun hHeld => ?_)
    clear hal
    clear hK
    try simp only [Act.put, List.setIfInBounds_toArray, List.set_cons_zero, List.set_cons_succ]
    refine wpAnyH_ready (rs := [2]) (by kernel_rfl) (by simp) ?_
    refine AllReadyH.cons (o := _) rfl (fun _ hK => ?_) AllReadyH.nil
    go_simp
    refine (HCL X1 hHeld).mono ?_
    rintro e X2 ⟨vl, vs, rfl, hown, hvl, hrd, hbr⟩
    have nm_ := nm
    replace nm := keep_blk hbr nm
    have e_hown_m : (vl).ownBlock ≠ some bm := fun e => by have h1 := (hown.lt _ e).1; have h2 := size_of_block nm_; omega
    replace hown := own_more hown hHeld.size
    clear nm_
    try go_simp
    refine hK.out _ _ (hHeld.trans (hbr.mono hHeld.size)) (fun hHeld => ?_)
    clear hbr
    clear hK
    try simp only [Act.put, List.setIfInBounds_toArray, List.set_cons_zero, List.set_cons_succ]
    refine wpAnyH_ready (rs := [4]) (by kernel_rfl) (by simp) ?_
    refine AllReadyH.cons (o := _) rfl (fun _ hK => ?_) AllReadyH.nil
    go_simp
    refine (HCT X2 hHeld).mono ?_
    rintro e X3 ⟨mt, rfl, hmt, hmc, hbr⟩
    have nm_ := nm
    replace nm := keep_blk hbr nm
    replace hown := owns_below hown hbr
    replace hmt := Nat.le_trans hHeld.size hmt
    clear nm_
    try go_simp
    refine hK.out _ _ (hHeld.trans (hbr.mono hHeld.size)) (fun hHeld => ?_)
    clear hbr
    clear hK
    try simp only [Act.put, List.setIfInBounds_toArray, List.set_cons_zero, List.set_cons_succ]
    refine wpAnyH_ready (rs := [6]) (by kernel_rfl) (by simp) ?_
    refine AllReadyH.cons (o := _) rfl (fun _ hK => ?_) AllReadyH.nil
    go_simp
    refine hK.out _ _ hHeld (fun hHeld => ?_)
    clear hK
    try simp only [Act.put, List.setIfInBounds_toArray, List.set_cons_zero, List.set_cons_succ]
    refine wpAnyH_ready (rs := [7]) (by kernel_rfl) (by simp) ?_
    refine AllReadyH.cons (o := _) rfl (fun _ hK => ?_) AllReadyH.nil
    obtain ⟨y0, yf⟩ := now1_15 nm
    go_simp
    clear y0 yf
    refine hK.out _ _ (hHeld.setCell (by show W1.heap.size ≤ bm; omega) _) (fun hHeld => ?_)
    replace hown := own_set hown e_hown_m 0 (.slice (some ⟨mt, 0, none⟩) n n)
    replace hmc := keep_set (a := ⟨bm, 0, none⟩) (u := .slice (some ⟨mt, 0, none⟩) n n) (blkne15 hmc nm (by decide)) hmc
    replace nm := put1_15 (x := .slice (some ⟨mt, 0, none⟩) n n) nm
    generalize X3.setCell ⟨bm, 0, none⟩ (.slice (some ⟨mt, 0, none⟩) n n) = X4 at *
    clear hK
    try simp only [Act.put, List.setIfInBounds_toArray, List.set_cons_zero, List.set_cons_succ]
    refine wpAnyH_done (by kernel_rfl) ?_ _
    go_wp2_with fail
    go_meet
    exact ⟨vl, bm, vs, mt, rfl, rfl, hown, hvl, hrd, nm, hmc, hmt, e_hown_m, hHeld⟩
  case rest =>
    rename World => wB
    obtain ⟨vl, bm, vs, mt, hs4, rfl, hown, hvl, hrd, nm, hmc, hmt, hne, hb1⟩ := hcut
    obtain ⟨Av, cv, rfl⟩ := own_form hown
    subst hs4
    clear HCL HCT a0 a1
    generalize hgb : w.heap.size = gb at *
    have hgbH := Lib.hid hgb
    have hgW : gb ≤ W1.heap.size := by omega
    clear hgb
    have hbB := hB0.trans (hb1.mono hgW)
    obtain ⟨hz1, hz2, hz3⟩ := zip_read15 hvl hrd
    have hzl : (ls.zip vs).length = ls.length := by rw [List.length_zip, hvl, Nat.min_self]
    have hG0 : GrW w gb n bm mt (.slice Av ls.length cv) (.slice none 0 0) (ls.zip vs) [] wB := ⟨by rw [hzl, hz2]; exact own_more hown (by omega), World.ownsRow_nil _ _ _ _, nm, by rw [hz1]; exact hmc, by omega, (fun e => by cases e), hne, hbB⟩
    have hF1 : Hid (GrF n ls ((ls.zip vs).map Prod.fst) []) := Lib.hid (by rw [hz1]; exact hF0.out)
    have hz3 := Lib.hid hz3
    clear hown hvl hrd nm hmc hmt hne hb1 hF0 hz1 hz2 hbB hgW hs0
    generalize ls.zip vs = zs0 at *
    clear hzl
    go_wp2
    go_loopw [3, 4, 6] (fun T U _ wr => ∃ (zs : List RV) (K : List Int), Hid (GrF n ls (zs.map Prod.fst) K) ∧ GrW w gb n bm mt U T zs K wr ∧ Hid (∀ z, z ∈ zs → IntsAt w gb z.2 z.1)) (fun _ U _ _ => lenV15 U)
    case atStart => exact ⟨zs0, [], hF1, hG0, hz3⟩
    case round =>
      clear hF1 hG0 hz3
      obtain ⟨zs, K, hF, hG, hz⟩ := hrel
      obtain ⟨AT, cT, rfl⟩ := own_form hG.took
      by_cases h0 : zs = []
      · subst h0
        obtain ⟨AU, cU, rfl⟩ := own_form hG.left
        have hso := Lib.hid hF.out.done
        have HS := sort14_any (w := wr) hG.took (by have := hF.out.len; simp at this; omega)
        have hbel := hG.bel
        have htk := hG.took
        generalize K.mergeSort _ = Ks at *
        clear hF hG hz
        go_wp2_with fail
        refine HS.mono ?_
        rintro e w2 ⟨rfl, hso2, hg2⟩
        have hfin : Hid (Below gb w w2) := Lib.hid (grown_below htk hg2 hbel (Nat.le_refl _) (by have := hbel.size; have := hgbH.out; omega))
        have hlk : K.length = Ks.length := by
          obtain ⟨A3, c3, e3⟩ := own_form hso2
          injection e3
        have hresl : Hid (w2.ownsRow gb 3 1 (.slice AT K.length cT) Ks.length (intI Ks)) := Lib.hid hso2
        clear HS hso2 hg2 hbel htk hlk
        go_wp2
        go_ret
        exact ⟨_, rfl, by rw [hgbH.out, ← hso.out]; exact hresl.out, by rw [hgbH.out]; exact hfin.out⟩
      · have h0H := Lib.hid h0
        have hzl : 0 < zs.length := List.length_pos_iff.2 h0
        have hne : zs.map Prod.fst ≠ [] := fun e => h0 (by simpa using e)
        obtain ⟨hF2, hlt2, hcn⟩ := hF.out.step hne
        have hlen := hF.out.len
        rw [List.length_map] at hlen
        have hris := Lib.hid hF.out.ris
        have hF2 := Lib.hid hF2
        have hlt2 := Lib.hid hlt2
        have hn0 : 0 < n := by omega
        have hbox := hG.box
        have b0 := fun X : After wr => (now1_15 (X.same hbox)).1
        have hsz := hG.bel.size
        have hMI := fun X (h : Below wr.heap.size wr X) => many_ints15 (keep_blk h hG.many) hn
        have HMX := fun X (h : Below wr.heap.size wr X) => max15_any (hMI X h) (many_len0 hn0)
        have HIX := fun X (h : Below wr.heap.size wr X) => idxI14_any _ _ (Lib.maxOf (manyL (zs.map Prod.fst) n)) X (hMI X h)
        rw [first_most hn0] at HIX
        rcases hG.left.2 with ⟨rfl, h1⟩ | ⟨g, cap, cur, rfl, hg, hgg, h1, h2, h3, h4⟩
        · omega
        have hl0 : (0 : Int) < (zs.length : Int) := by omega
        have hGH := Lib.hid hG
        have hfH := Lib.hid (And.intro hg (And.intro hgg (And.intro h1 (And.intro h2 (And.intro h3 h4)))))
        clear hF h0 hne hG hMI hg hgg h1 h2 h3 h4
        generalize Lib.maxOf (manyL (zs.map Prod.fst) n) = mx at *
        go_wp2
        go_cut [6] from 12 to 25 (fun s6 wc => ∃ bc, s6 = .pointer (some ⟨bc, 0, none⟩) ∧ wc.heap[bc]? = some (.cells #[.int .i64 (mstC (zs.map Prod.fst) n : Nat)] 3 (0, 0)) ∧ wr.heap.size ≤ bc ∧ Below wr.heap.size wr wc)
        case first =>
          refine wp_region_held_drew (S := fun W_ => Below wr.heap.size wr W_) rfl (Below.refl _ wr).drew (fun hHeld => ?_)
          obtain ⟨X0, hX0⟩ : ∃ X0, X0 = wr.drew := ⟨_, rfl⟩
          rw [← hX0] at hHeld ⊢
          clear hX0
          refine wpAnyH_take (i := 0) (oi := _) (v := ?_) rfl (by kernel_rfl) (by kernel_rfl) (by kernel_rfl) (fun _ _ _ h => h) (Or.inl ⟨by rfl, ?_⟩) (by assumption) ?_
          rotate_left 1
          · intro w_ hSw
            have q_b0 := b0 ⟨w_, hSw⟩
            dsimp only at q_b0
            go_simp
            try with_reducible rfl
          try simp only [Act.put, List.setIfInBounds_toArray]
          refine wpAnyH_take (i := 1) (oi := _) (v := ?_) rfl (by kernel_rfl) (by kernel_rfl) (by kernel_rfl) (fun _ _ _ h => h) (Or.inl ⟨by rfl, ?_⟩) (by assumption) ?_
          rotate_left 1
          · intro w_ hSw
            have q_b0 := b0 ⟨w_, hSw⟩
            dsimp only at q_b0
            go_simp
            try with_reducible rfl
          try simp only [Act.put]
          refine wpAnyH_ready (rs := [2, 4]) (by kernel_rfl) (by simp) ?_
          refine AllReadyH.cons (o := _) rfl (fun _ hK => ?_) ?_
          · go_simp
            refine (HMX X0 hHeld).mono ?_
            rintro e X1 ⟨rfl, hbr⟩
            try go_simp
            refine hK.out _ _ (hHeld.trans (hbr.mono hHeld.size)) (fun hHeld => ?_)
            clear hbr
            clear hK
            try simp only [Act.put, List.setIfInBounds_toArray, List.set_cons_zero, List.set_cons_succ]
            refine wpAnyH_ready (rs := [3, 4]) (by kernel_rfl) (by simp) ?_
            refine AllReadyH.cons (o := _) rfl (fun _ hK => ?_) ?_
            · go_simp
              refine (HIX X1 hHeld).mono ?_
              rintro e X2 ⟨rfl, hbr⟩
              try go_simp
              refine hK.out _ _ (hHeld.trans (hbr.mono hHeld.size)) (fun hHeld => ?_)
              clear hbr
              clear hK
              try simp only [Act.put, List.setIfInBounds_toArray, List.set_cons_zero, List.set_cons_succ]
              refine wpAnyH_ready (rs := [4]) (by kernel_rfl) (by simp) ?_
              refine AllReadyH.cons (o := _) rfl (fun _ hK => ?_) AllReadyH.nil
              go_simp
              have nc := heap_alloc_new X2 (.cells #[.int .i64 0] 3 (0, 0))
              have hal := hHeld.alloc hHeld.size (.cells #[.int .i64 0] 3 (0, 0))
              have lc := hHeld.size
              generalize X2.heap.size = bc at *
              generalize X2.alloc (.cells #[.int .i64 0] 3 (0, 0)) = X3 at *
              refine hK.out _ _ hal (fun hHeld => ?_)
              clear hal
              clear hK
              try simp only [Act.put, List.setIfInBounds_toArray, List.set_cons_zero, List.set_cons_succ]
              refine wpAnyH_ready (rs := [5]) (by kernel_rfl) (by simp) ?_
              refine AllReadyH.cons (o := _) rfl (fun _ hK => ?_) AllReadyH.nil
              obtain ⟨y0, yf⟩ := now1_15 nc
              go_simp
              clear y0 yf
              refine hK.out _ _ (hHeld.setCell (by show wr.heap.size ≤ bc; omega) _) (fun hHeld => ?_)
              replace nc := put1_15 (x := .int .i64 (mstC (zs.map Prod.fst) n : Nat)) nc
              generalize X3.setCell ⟨bc, 0, none⟩ (.int .i64 (mstC (zs.map Prod.fst) n : Nat)) = X4 at *
              clear hK
              try simp only [Act.put, List.setIfInBounds_toArray, List.set_cons_zero, List.set_cons_succ]
              refine wpAnyH_done (by kernel_rfl) ?_ _
              go_wp2_with fail
              go_meet
              exact ⟨bc, rfl, nc, by omega, hHeld⟩
            refine AllReadyH.cons (o := _) rfl (fun _ hK => ?_) AllReadyH.nil
            go_simp
            have nc := heap_alloc_new X1 (.cells #[.int .i64 0] 3 (0, 0))
            have hal := hHeld.alloc hHeld.size (.cells #[.int .i64 0] 3 (0, 0))
            have lc := hHeld.size
            generalize X1.heap.size = bc at *
            generalize X1.alloc (.cells #[.int .i64 0] 3 (0, 0)) = X2 at *
            refine hK.out _ _ hal (fun hHeld => ?_)
            clear hal
            clear hK
            try simp only [Act.put, List.setIfInBounds_toArray, List.set_cons_zero, List.set_cons_succ]
            refine wpAnyH_ready (rs := [3]) (by kernel_rfl) (by simp) ?_
            refine AllReadyH.cons (o := _) rfl (fun _ hK => ?_) AllReadyH.nil
            go_simp
            refine (HIX X2 hHeld).mono ?_
            rintro e X3 ⟨rfl, hbr⟩
            have nc_ := nc
            replace nc := keep_blk hbr nc
            clear nc_
            try go_simp
            refine hK.out _ _ (hHeld.trans (hbr.mono hHeld.size)) (fun hHeld => ?_)
            clear hbr
            clear hK
            try simp only [Act.put, List.setIfInBounds_toArray, List.set_cons_zero, List.set_cons_succ]
            refine wpAnyH_ready (rs := [5]) (by kernel_rfl) (by simp) ?_
            refine AllReadyH.cons (o := _) rfl (fun _ hK => ?_) AllReadyH.nil
            obtain ⟨y0, yf⟩ := now1_15 nc
            go_simp
            clear y0 yf
            refine hK.out _ _ (hHeld.setCell (by show wr.heap.size ≤ bc; omega) _) (fun hHeld => ?_)
            replace nc := put1_15 (x := .int .i64 (mstC (zs.map Prod.fst) n : Nat)) nc
            generalize X3.setCell ⟨bc, 0, none⟩ (.int .i64 (mstC (zs.map Prod.fst) n : Nat)) = X4 at *
            clear hK
            try simp only [Act.put, List.setIfInBounds_toArray, List.set_cons_zero, List.set_cons_succ]
            refine wpAnyH_done (by kernel_rfl) ?_ _
            go_wp2_with fail
            go_meet
            exact ⟨bc, rfl, nc, by omega, hHeld⟩
          refine AllReadyH.cons (o := _) rfl (fun _ hK => ?_) AllReadyH.nil
          go_simp
          have nc := heap_alloc_new X0 (.cells #[.int .i64 0] 3 (0, 0))
          have hal := hHeld.alloc hHeld.size (.cells #[.int .i64 0] 3 (0, 0))
          have lc := hHeld.size
          generalize X0.heap.size = bc at *
          generalize X0.alloc (.cells #[.int .i64 0] 3 (0, 0)) = X1 at *
          refine hK.out _ _ hal (fun hHeld => ?_)
          clear hal
          clear hK
          try simp only [Act.put, List.setIfInBounds_toArray, List.set_cons_zero, List.set_cons_succ]
          refine wpAnyH_ready (rs := [2]) (by kernel_rfl) (by simp) ?_
          refine AllReadyH.cons (o := _) rfl (fun _ hK => ?_) AllReadyH.nil
          go_simp
          refine (HMX X1 hHeld).mono ?_
          rintro e X2 ⟨rfl, hbr⟩
          have nc_ := nc
          replace nc := keep_blk hbr nc
          clear nc_
          try go_simp
          refine hK.out _ _ (hHeld.trans (hbr.mono hHeld.size)) (fun hHeld => ?_)
          clear hbr
          clear hK
          try simp only [Act.put, List.setIfInBounds_toArray, List.set_cons_zero, List.set_cons_succ]
          refine wpAnyH_ready (rs := [3]) (by kernel_rfl) (by simp) ?_
          refine AllReadyH.cons (o := _) rfl (fun _ hK => ?_) AllReadyH.nil
          go_simp
          refine (HIX X2 hHeld).mono ?_
          rintro e X3 ⟨rfl, hbr⟩
          have nc_ := nc
          replace nc := keep_blk hbr nc
          clear nc_
          try go_simp
          refine hK.out _ _ (hHeld.trans (hbr.mono hHeld.size)) (fun hHeld => ?_)
          clear hbr
          clear hK
          try simp only [Act.put, List.setIfInBounds_toArray, List.set_cons_zero, List.set_cons_succ]
          refine wpAnyH_ready (rs := [5]) (by kernel_rfl) (by simp) ?_
          refine AllReadyH.cons (o := _) rfl (fun _ hK => ?_) AllReadyH.nil
          obtain ⟨y0, yf⟩ := now1_15 nc
          go_simp
          clear y0 yf
          refine hK.out _ _ (hHeld.setCell (by show wr.heap.size ≤ bc; omega) _) (fun hHeld => ?_)
          replace nc := put1_15 (x := .int .i64 (mstC (zs.map Prod.fst) n : Nat)) nc
          generalize X3.setCell ⟨bc, 0, none⟩ (.int .i64 (mstC (zs.map Prod.fst) n : Nat)) = X4 at *
          clear hK
          try simp only [Act.put, List.setIfInBounds_toArray, List.set_cons_zero, List.set_cons_succ]
          refine wpAnyH_done (by kernel_rfl) ?_ _
          go_wp2_with fail
          go_meet
          exact ⟨bc, rfl, nc, by omega, hHeld⟩
        case rest =>
          rename World => wD
          obtain ⟨bc, rfl, nc, hbc, hbD⟩ := hcut
          have hsz : gb ≤ wr.heap.size := by have := hgbH.out; omega
          have hG := hGH.out.below hbD hsz
          obtain ⟨hg0, hgg0, h1, h2, h3, h4⟩ := hfH.out
          have hgg := keep_blk hbD hgg0
          have hnT : (Value.slice AT K.length cT).ownBlock ≠ some bc := fun e => by
            have := (hGH.out.took.lt _ e).2
            omega
          have hmtl := size_of_block hGH.out.many
          have hsD := hbD.size
          have hgbm : g ≠ bm := fun e => hG.farb (by rw [e]; rfl)
          have hlowm := hG.lowm
          obtain ⟨i0, hi0, hz0, hz1, hz2⟩ := info_parts Try.infoInt15
          have hmf : ∀ (fn : Fn) (first cap : Array Value) (w : World), (Instr.makeFunc fn first cap).run Try.prog w = .ok (.func fn first cap) w := fun _ _ _ _ => rfl
          have c0 := (now1_15 nc).1
          have hK4 : K.length ≤ 4000 := by omega
          have hGd := Lib.hid hG
          have htk := hG.took
          have hDs : gb ≤ wD.heap.size := by omega
          have hnH := Lib.hid nc
          have hgH := Lib.hid hgg
          clear HMX HIX b0 hGH hG hbox hfH hgg0 hgg nc
          generalize hM : mstC (zs.map Prod.fst) n = mc at *
          go_wp2_with (at_builtin; refine wpList_append_own_at _ rfl _ _ 30 rfl gb 3 i0 (.int .i64 0) 1 8 Try.underlying30 hi0 hz0 hz1 hz2 rfl (by decide) _ _ _ rfl (htk.alloc _) ⟨wD.heap.size, 0, none⟩ 1 1 [.int .i64 (mc : Int)] rfl rfl one_new13 (fun u hu => by rw [List.mem_singleton.1 hu]; rfl) ?c3 ?c4 ?c5 ?_)
          case c3 => unfold maxLen; omega
          case c4 => omega
          case c5 => simp; omega
          intro v8 w8 ho8 hg8 _ hloc
          have hba := below_alloc1 wD (.cells #[.int .i64 (mc : Int)] 3 (0, 0))
          have hGa := hGd.out.below hba hDs
          have hsa : (wD.alloc (.cells #[.int .i64 (mc : Int)] 3 (0, 0))).heap.size = wD.heap.size + 1 := World.size_alloc _ _
          have hca := keep_blk hba hnH.out
          have hga := keep_blk hba hgH.out
          have hmta := size_of_block hGa.many
          have hbox8 := (hg8.block _ (size_of_block hGa.box) (fun e => own_ne hGa.took hGa.box (by decide) e.symm)).trans hGa.box
          have hmany8 := (hg8.block _ hmta (fun e => hGa.far e.symm)).trans hGa.many
          have hc8 := (hg8.block _ (size_of_block hca) (fun e => hnT e.symm)).trans hca
          have hgg8 := (hg8.block _ (size_of_block hga) (fun e => own_ne hGa.took hga (by decide) e.symm)).trans hga
          have hleft8 := own_kept15 hGa.left hGa.took (by decide) hg8
          have hbel8 := grown_below hGa.took hg8 hGa.bel (Nat.le_refl _) (by omega)
          have ho9 : w8.ownsRow gb 3 1 v8 (K ++ [(mc : Int)]).length (intI (K ++ [(mc : Int)])) := by
            rw [List.length_append, show intI (K ++ [(mc : Int)]) = intI K ++ [.int .i64 (mc : Int)] from List.map_append]
            exact ho8
          have hfar8 : v8.ownBlock ≠ some mt := fun e => by
            rcases hloc with h | h
            · exact hGa.far (h.symm.trans e)
            · rw [h] at e
              injection e with e
              omega
          have hcur : ∀ (j : Nat) (z : RV), zs[j]? = some z → cur[j]? = some z.2 := fun j z hj => by
            have hjl := (List.getElem?_eq_some_iff.1 hj).1
            have e : (zs.map Prod.snd)[j]? = some z.2 := by rw [List.getElem?_map, hj]; rfl
            rw [← h4, Nat.mul_one, List.getElem?_take, if_pos hjl, Array.getElem?_toList] at e
            exact e
          have hcmt : bc ≠ mt := by omega
          have hbmt : bm ≠ mt := blkne15 hbox8 hmany8 (by decide)
          have hgmt : g ≠ mt := blkne15 hgg8 hmany8 (by decide)
          have hgbc : g ≠ bc := blkne15 hgg8 hc8 (by decide)
          have hH := del15_ok n mc bc bm mt g cap gb zs w w8 cur (by rw [hgbH.out]; exact Nat.le_refl _) ⟨hc8, hbox8, by rw [hmany8]; exact congrArg some (celO_ext fun p _ => by rw [mny_0]), hbel8⟩ ⟨hgg8, by rw [h3, Nat.mul_one]⟩ (by omega) h1 hcur hcmt hbmt hlowm hgmt hgbc hgbm hg0 hz.out hris.out hn
          have hfst := Lib.hid (kpt_fst (zs := zs) (c := (mc : Int)))
          have hkm : Hid (∀ z, z ∈ kpt (fun r => decide ((mc : Int) ∈ r)) zs → IntsAt w gb z.2 z.1) := Lib.hid (fun z h => hz.out z (List.mem_filter.1 h).1)
          have hkl : Hid ((kpt (fun r => decide ((mc : Int) ∈ r)) zs).length < zs.length) := Lib.hid (by
            have h5 := hlt2.out
            rw [← hfst.out, List.length_map, List.length_map] at h5
            exact h5)
          have hkl2 : Hid ((kpt (fun r => decide ((mc : Int) ∈ r)) zs).length ≤ cap ∧ cap ≤ maxLen) := Lib.hid ⟨by have := hkl.out; omega, h2⟩
          have hF3 : Hid (GrF n ls ((kpt (fun r => decide ((mc : Int) ∈ r)) zs).map Prod.fst) (K ++ [(mc : Int)])) := Lib.hid (by rw [hfst.out]; exact hF2.out)
          have hgbd : Hid (gb ≤ g) := Lib.hid hg0
          have hmtH := Lib.hid hlowm
          have hgnb := Lib.hid (fun k (e : v8.ownBlock = some k) (e2 : k = g) => own_ne ho9 hgg8 (by decide) (e2 ▸ e))
          have hvl := Lib.hid (fun k (e : v8.ownBlock = some k) => (ho9.lt k e).2)
          have hgbmH := Lib.hid hgbm
          have hoH := Lib.hid ho9
          have hml : Hid ((zs.map Prod.fst).length = zs.length) := Lib.hid (List.length_map _)
          have hfarH := Lib.hid hfar8
          clear htk hGd hnH hgH hba hGa hca hga hbox8 hmany8 hc8 hgg8 hleft8 hbel8 ho8 hg8 hloc ho9 hcur hF2 hlt2 hris hz hnT hfar8 h1 h2 h3 h4 hg0 hlen
          generalize hk9 : K ++ [(mc : Int)] = K9 at *
          go_wp2_with fail
          refine hH.mono ?_
          rintro e w9 ⟨cur9, rfl, hp9, hc9, hd9⟩
          obtain ⟨⟨d1, d2, d3, d4⟩, d5, d6⟩ := hd9
          have hG9 : GrW w gb n bm mt (.slice (some ⟨g, 0, none⟩) (kpt (fun r => decide ((mc : Int) ∈ r)) zs).length cap) v8 (kpt (fun r => decide ((mc : Int) ∈ r)) zs) K9 w9 :=
            ⟨kept_own15 hgbd.out hp9 hkl2.out.1 hkl2.out.2 hc9, own_same15 hoH.out (fun k hk => d6 k (hvl.out k hk) (fun e => hgnb.out k hk e) (fun e => hfarH.out (e ▸ hk))), d2, by
              rw [d3]
              refine congrArg some (celO_ext fun p _ => ?_)
              rw [← hml.out, mny_end, hfst.out], hmtH.out, hfarH.out, fun e => by
              have e : some g = some bm := e
              injection e with e
              exact hgbmH.out e, d4⟩
          clear hH hp9 hc9 d1 d2 d3 d4 d5 d6 hmf
          go_wp2
          go_roundw
          case rel => exact ⟨_, K9, hF3, hG9, hkm⟩
          case measure => exact hkl.out
end Go.Proofs.Ytcbhcclickjpnaa
