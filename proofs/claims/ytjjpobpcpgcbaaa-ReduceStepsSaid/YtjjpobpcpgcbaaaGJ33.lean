/- Rows of the package reduce, as it is called. -/
import Derived.Test.YtjjpobpcpgcbaaaGJ32
import Derived.Test.YtjjpobpcpgcbaaaGJ18
import Derived.Test.YtjjpobpcpgcbaaaShelf
import Derived.Shelf.SlicesE.Delete
import Derived.Shelf.SlicesE.Index
namespace Go.Proofs.Ytjjpobpcpgcbaaa
open Go.RowKit Go.Joins
open Go.Sort (Holds grow putRow putCells heap_grow_old)

/-- A slice's three words. -/
structure Sl14 where
  a : Option Addr
  n : Nat
  c : Nat
abbrev enc14 (s : Sl14) : Value := .slice s.a s.n s.c
theorem holds14 {α : Type} [Inhabited α] (enc : α → Value) {w : World} {g : Nat} {cur : Array Value} {e : TypeId} {ss : List α} (hb : w.heap[g]? = some (.cells cur e (0, 0))) (ht : cur.toList.take ss.length = ss.map enc) : Holds enc w g 0 ss.toArray := by
  intro j hj
  have hj' : j < ss.length := by simpa using hj
  refine ⟨?_, by simp [World.frozen?, hb]⟩
  have h1 : (cur.toList.take ss.length)[j]? = (ss.map enc)[j]? := by rw [ht]
  rw [List.getElem?_take_of_lt hj'] at h1
  simp only [World.cell?, hb, Nat.zero_add]
  simp only [Option.isSome_none, Bool.false_eq_true, if_false]
  rw [← Array.getElem?_toList, h1]
  simp [hj']
theorem heap14 {α : Type} [Inhabited α] (enc : α → Value) {w : World} {g n : Nat} {os : Array Obj} {cur : Array Value} {e : TypeId} {fr : Nat × Nat} (d : Array α) (hb : w.heap[g]? = some (.cells cur e fr)) :
    (grow (putRow enc (Go.Sort.ahead w n) g 0 d) os).heap[g]? = some (.cells (putCells enc 0 d cur) e fr) := by
  have hg : g < w.heap.size := (Array.getElem?_eq_some_iff.1 hb).1
  rw [heap_grow_old _ _ (by simpa using hg)]
  simp [putRow, Go.Sort.mapBlock, Go.Sort.ahead, Array.getElem?_modify, hb, Go.Sort.onCells]
theorem grown14 {α : Type} [Inhabited α] (enc : α → Value) {w : World} {g n : Nat} {os : Array Obj} (d : Array α) : w.grownBy (grow (putRow enc (Go.Sort.ahead w n) g 0 d) os) (some g) := by
  refine ⟨rfl, rfl, rfl, by simp, fun k hk hne => ?_⟩
  rw [heap_grow_old _ _ (by simpa using hk)]
  have : g ≠ k := fun e => hne (by rw [e])
  simp [putRow, Go.Sort.mapBlock, Go.Sort.ahead, Array.getElem?_modify, this]
theorem take14 {α : Type} [Inhabited α] (enc : α → Value) (cur : Array Value) (ts : List α) (h : ts.length ≤ cur.size) : (putCells enc 0 ts.toArray cur).toList.take ts.length = ts.map enc := by
  apply List.ext_getElem?
  intro j
  by_cases hj : j < ts.length
  · rw [List.getElem?_take_of_lt hj, Array.getElem?_toList]
    simp [putCells, hj, show j < cur.size by omega]
  · rw [List.getElem?_take_eq_none (by omega), List.getElem?_eq_none (by simp; omega)]
theorem least14 (n : Nat) (f : Nat → Bool) : (∀ d, d < n → f d = false) ∨ ∃ c, c < n ∧ f c = true ∧ ∀ d, d < c → f d = false := by
  induction n with
  | zero => exact .inl fun d h => absurd h (Nat.not_lt_zero _)
  | succ n ih =>
    rcases ih with h | ⟨c, h1, h2, h3⟩
    · cases hf : f n
      · exact .inl fun d hd => by
          by_cases e : d = n
          · rw [e]; exact hf
          · exact h d (by omega)
      · exact .inr ⟨n, by omega, hf, h⟩
    · exact .inr ⟨c, by omega, h2, h3⟩
theorem idxB14_any (ob n : Nat) (f : Nat → Bool) (x : Int) (w : World) (hb : w.heap[ob]? = some (bolO n f)) (hn : n ≤ 4000) (hx : ((∀ d, d < n → f d = false) ∧ x = -1) ∨ ∃ c, c < n ∧ f c = true ∧ (∀ d, d < c → f d = false) ∧ x = (c : Int)) :
    Calls Try.prog 26 #[.slice (some ⟨ob, 0, none⟩) n n, .bool true] w fun e w' => e = .returned (.int .i64 x) ∧ w' = w := by
  have hg : ∀ j, j < n → ((List.range n).map f)[j]! = f j := fun j hj => by simp [hj]
  have h := AnyE.slices_Index Try.idxBool Value.bool (fun x y => x == y) (EqlAt.bool _ Try.underlying4) ob 0 n n ((List.range n).map f) true w (by simp) (by omega) (fun j hj => by
    have hj' : j < n := by simpa using hj
    rw [Nat.zero_add, (bol_cell hb hj').1, hg j hj'])
  have e : Lib.idxBy (fun x y => x == y) (((List.range n).map f).take n) true = x := by
    rcases hx with ⟨h1, rfl⟩ | ⟨c, h1, h2, h3, rfl⟩
    · exact Lib.idxBy_miss _ _ _ _ (fun j hj => by rw [hg j hj, h1 j hj]; rfl)
    · exact Lib.idxBy_hit _ _ _ _ _ h1 (by simp) (by rw [hg c h1, h2]; rfl) (fun j hj => by rw [hg j (by omega), h3 j hj]; rfl)
  rw [e] at h
  exact h
instance inhS14 : Inhabited Sl14 := ⟨⟨none, 0, 0⟩⟩
theorem AllCap.dec14 : ∀ {vs : List Value}, AllCap vs → ∃ ts : List Sl14, vs = ts.map enc14
  | [], _ => ⟨[], rfl⟩
  | v :: vs, h => by
    obtain ⟨ts, rfl⟩ := AllCap.dec14 (vs := vs) (fun u hu => h u (List.mem_cons_of_mem _ hu))
    obtain ⟨A, n, c, rfl, -⟩ := h v (List.mem_cons_self ..)
    exact ⟨⟨A, n, c⟩ :: ts, rfl⟩
theorem delete14_any {w : World} {B k : Nat} {u : Value} {vs : List Value} (ho : w.ownsRow B 38 1 u vs.length vs) (hac : AllCap vs) (hk : k < vs.length) :
    Calls Try.prog 28 #[u, .int .i64 k, .int .i64 ((k : Int) + 1)] w fun e w' => ∃ u', e = .returned u' ∧ w'.ownsRow B 38 1 u' (vs.length - 1) (vs.eraseIdx k) ∧ u'.ownBlock = u.ownBlock ∧ w.grownBy w' u.ownBlock := by
  obtain ⟨j0, hj0, jz0, jz1, jz2⟩ := info_parts Try.infoInts
  obtain ⟨ts, rfl⟩ := hac.dec14
  rw [List.length_map] at *
  rcases ho.2 with ⟨-, h1⟩ | ⟨g, cap, cur, rfl, hg, hgg, h1, h2, h3, h4⟩
  · omega
  have hH : Go.Sort.Holds enc14 w g 0 ts.toArray := holds14 enc14 hgg (by rw [← h4, Nat.mul_one])
  have h := AnyE.slices_Delete Try.delRows enc14 (fun _ => rfl) ⟨none, 0, 0⟩ Try.zeroValue38 j0 hj0 jz1 g 0 cap k (k + 1) ts.toArray w hH (by simpa using h1) (by unfold maxLen at h2; omega) (by omega) (by rw [List.size_toArray]; omega)
  have es : ts.toArray.size - (k + 1 - k) = ts.length - 1 := by rw [List.size_toArray]; omega
  rw [es, List.size_toArray, show ((k + 1 : Nat) : Int) = (k : Int) + 1 by omega] at h
  refine Calls.mono h ?_
  rintro e w' ⟨rfl, q, rfl⟩
  have hel : (ts.take k ++ ts.drop (k + 1)) = ts.eraseIdx k := (List.eraseIdx_eq_take_drop_succ ..).symm
  rw [show ts.toArray.toList = ts from rfl, hel, show k + 1 - k = 1 by omega]
  have hem : (ts.map enc14).eraseIdx k = (ts.eraseIdx k).map enc14 := by rw [List.eraseIdx_eq_take_drop_succ, List.eraseIdx_eq_take_drop_succ, List.map_append, List.map_take, List.map_drop]
  have hll : (ts.eraseIdx k).length = ts.length - 1 := List.length_eraseIdx_of_lt hk
  have hh := heap14 enc14 (n := q) (os := #[]) ((ts.eraseIdx k ++ List.replicate 1 (⟨none, 0, 0⟩ : Sl14)).toArray) hgg
  have hgr := grown14 enc14 (w := w) (g := g) (n := q) (os := #[]) ((ts.eraseIdx k ++ List.replicate 1 (⟨none, 0, 0⟩ : Sl14)).toArray)
  have eg : ∀ W : World, Go.Sort.grow W #[] = W := fun W => by simp [Go.Sort.grow]
  rw [eg] at hh hgr
  have htk := take14 enc14 cur (ts.eraseIdx k ++ List.replicate 1 (⟨none, 0, 0⟩ : Sl14)) (by rw [List.length_append, hll, List.length_replicate]; omega)
  refine ⟨_, rfl, ⟨by rw [hem, List.length_map, hll, Nat.mul_one] , .inr ⟨g, cap, _, rfl, hg, hh, by omega, h2, by simp [Go.Sort.putCells, h3], ?_⟩⟩, rfl, hgr⟩
  have h5 : (putCells enc14 0 (ts.eraseIdx k ++ List.replicate 1 (⟨none, 0, 0⟩ : Sl14)).toArray cur).toList.take (ts.length - 1) = (ts.eraseIdx k).map enc14 := by
    have e1 : ∀ L : List Value, L.take (ts.length - 1) = (L.take (ts.eraseIdx k ++ List.replicate 1 (⟨none, 0, 0⟩ : Sl14)).length).take (ts.length - 1) := fun L => by rw [List.take_take, List.length_append, hll, List.length_replicate, Nat.min_eq_left (by omega)]
    rw [e1, htk, List.map_append, List.take_append_of_le_length (by rw [List.length_map, hll]; exact Nat.le_refl _), List.take_of_length_le (by rw [List.length_map, hll]; exact Nat.le_refl _)]
  rw [Nat.mul_one, h5, hem]
theorem RowsX.erase14 {E : Nat → Prop} {w w' : World} {u u' : Value} {K : List (List Int)} {vs : List Value} (h : RowsX E w u K vs) (hg : w.grownBy w' u.ownBlock) (hu : u'.ownBlock = u.ownBlock) (k : Nat) : RowsX E w' u' (K.eraseIdx k) (vs.eraseIdx k) := by
  intro j l hj
  have key : ∀ i : Nat, K[i]? = some l → ∃ v, vs[i]? = some v ∧ IntsN w' (fun b => ¬ E b ∧ b < w'.heap.size ∧ u'.ownBlock ≠ some b) v l := fun i hi => by
    obtain ⟨v, hv, hx⟩ := h i l hi
    exact ⟨v, hv, hx.keep (fun b hN => hg.block b hN.2.1 (fun e => hN.2.2 e.symm)) (fun b hN => ⟨hN.1, Nat.lt_of_lt_of_le hN.2.1 hg.size, by rw [hu]; exact hN.2.2⟩)⟩
  rw [List.getElem?_eraseIdx] at hj
  rw [List.getElem?_eraseIdx]
  by_cases e : j < k
  · rw [if_pos e] at hj ⊢
    exact key _ hj
  · rw [if_neg e] at hj ⊢
    exact key _ hj
theorem RowsX.also14 {E E' : Nat → Prop} {w : World} {V : Value} {K : List (List Int)} {vs : List Value} (h : RowsX E w V K vs) (hE : ∀ b, b < w.heap.size → E' b → E b) : RowsX E' w V K vs := by
  intro j l hj
  obtain ⟨v, hv, hi⟩ := h j l hj
  exact ⟨v, hv, hi.keep (fun _ _ => rfl) (fun b hN => ⟨fun h => hN.1 (hE b hN.2.1 h), hN.2⟩)⟩
theorem fin_gen14 {E : Nat → Prop} {w : World} {B g n : Nat} {u x : Value} {ls : List (List Int)} {vs : List Value} (ho : w.ownsRow B 38 1 u n vs) (hn : n = ls.length) (hl : vs.length = ls.length) (hi : RowsX E w u ls vs) (hac : AllCap vs) (hE : E g) (hg : g < B) :
    MatAt ((w.setCell ⟨g, 0, none⟩ x).setCell ⟨g, 1, none⟩ u) ((w.setCell ⟨g, 0, none⟩ x).setCell ⟨g, 1, none⟩ u).heap.size u ls ∧ CapM ((w.setCell ⟨g, 0, none⟩ x).setCell ⟨g, 1, none⟩ u) u := by
  subst hn
  have hnb : u.ownBlock ≠ some g := fun e => by have := (ho.lt _ e).1; omega
  have ho2 := own_set (own_set ho hnb 0 x) hnb 1 u
  have hi2 := (hi.set (b := g) (j := 0) (u := x) hE).set (b := g) (j := 1) (u := u) hE
  exact ⟨hi2.rows.mat ho2, own_capM14 ho2 hl hac⟩
set_option maxHeartbeats 8000000 in
set_option maxRecDepth 100000 in
theorem rows_good14 (n : Nat) (V : Value) (ls : List (List Int)) (w : World) (hz : MatAt w w.heap.size V ls) (hls : ls.length ≤ 4000) (hlen : ∀ r, r ∈ ls → r.length ≤ 4000) (hr : rightM n ls = true) :
    Calls Try.prog 10 #[mtv n V] w fun e w' => ∃ u, e = .returned (.tuple #[mtv n u, .bool (rwI ls).isSome]) ∧ MatAt w' w'.heap.size u (rwL ls) ∧ CapM w' u ∧ Below w.heap.size w w' := by
  have hB0 := two_below14 w (mtb n V) (.cells #[.int .i64 0, .slice none 0 0] 24 (0, 0))
  have ht := two_made14 w (mtb n V) (.cells #[.int .i64 0, .slice none 0 0] 24 (0, 0))
  have hsz : ((w.alloc (mtb n V)).alloc (.cells #[.int .i64 0, .slice none 0 0] 24 (0, 0))).heap.size = w.heap.size + 2 := by simp
  have HR := cright13 n V ls _ ((hz.below hB0).more hB0.size)
  obtain ⟨hn0, hn4, hri⟩ := right_iff.1 hr
  rw [hr] at HR
  have hzz := hz.below hB0
  have HC := fun W (h1 : MatAt W W.heap.size V ls) => copied14_any n V ls W h1 hls hlen
  have HS := fun W (h1 : MatAt W W.heap.size V ls) => spare14_any n V ls W h1 (by omega) hls hri
  have hcas : ((rwI ls).isSome = false ∧ rwL ls = ls ∧ ∀ d, d < ls.length → rowGo ls d = false) ∨ ∃ c, c < ls.length ∧ rowGo ls c = true ∧ (∀ d, d < c → rowGo ls d = false) ∧ (rwI ls).isSome = true ∧ rwL ls = ls.eraseIdx c := by
    rcases least14 ls.length (rowGo ls) with h | ⟨c, h1, h2, h3⟩
    · have e := rw_none h
      exact .inl ⟨by rw [e]; rfl, by unfold rwL; rw [e], h⟩
    · have e := rw_some h1 h2 h3
      exact .inr ⟨c, h1, h2, h3, by rw [e]; rfl, by unfold rwL; rw [e]⟩
  generalize (rwI ls).isSome = X3 at *
  generalize rwL ls = XL at *
  obtain ⟨A, cp, rfl, hl, -⟩ := hz
  unfold mtv at *
  unfold mtb at hB0 ht hzz hsz HR
  clear hri hlen hr
  go_enter Try.func10, Try.ntmps10
  go_wp2_with fail
  generalize (w.alloc _).alloc _ = w0 at *
  generalize hgb : w.heap.size = gb at *
  have hgbH := Lib.hid hgb
  have hszH := Lib.hid hsz
  clear hgb hsz
  refine HR.mono ?_
  rintro e w1 ⟨rfl, hb1⟩
  have hm := keep_blk hb1 ht.1
  have hrr := keep_blk hb1 ht.2
  have hB1 := hB0.trans (hb1.mono (by have := hszH.out; omega))
  have hz1 := hzz.below (hb1.mono (by have := hszH.out; omega : gb ≤ w0.heap.size))
  have hgz : gb + 2 ≤ w1.heap.size := by have := hszH.out; have := hb1.size; omega
  obtain ⟨m0, m1, -⟩ := now2 hm rfl
  clear HR hb1 hB0 ht hzz
  have HC1 := HC w1 (hz1.more (by omega : gb ≤ w1.heap.size))
  go_wp2_with fail
  refine HC1.mono ?_
  rintro e w2 ⟨u, vs, rfl, ho, hvl, hi, hac, hb2⟩
  have hs2 := hb2.size
  have hi2 : RowsX (fun b => b < w1.heap.size ∨ b = w2.heap.size) w2 u ls vs := hi.also14 (fun b h1 h2 => h2.elim id (fun h => by omega))
  obtain ⟨Au, cu, rfl⟩ := own_form ho
  have hbx := below_alloc1 w2 (.cells #[.int .i64 n, .slice Au ls.length cu] 24 (0, 0))
  have hx := heap_alloc_new w2 (.cells #[.int .i64 n, .slice Au ls.length cu] 24 (0, 0))
  replace hrr := keep_blk hbx (keep_blk hb2 hrr)
  replace hm := keep_blk hbx (keep_blk hb2 hm)
  have hB3 := (hB1.trans (hb2.mono (by omega))).trans (hbx.mono (by omega))
  have hz3 := (hz1.below (hb2.mono (by omega : gb ≤ w1.heap.size))).below (hbx.mono (by omega : gb ≤ w2.heap.size))
  have ho3 := owns_below ho hbx
  have hi3 := hi2.below hbx
  have hs3 := hbx.size
  have hs3' : (w2.alloc (.cells #[.int .i64 n, .slice Au ls.length cu] 24 (0, 0))).heap.size = w2.heap.size + 1 := World.size_alloc ..
  have hgx : ∀ g, (Value.slice Au ls.length cu).ownBlock = some g → w1.heap.size ≤ g ∧ g < w2.heap.size := fun g hg => ho.lt g hg
  clear HC1 HC hi hi2 ho hb2 hbx m0 m1 hz1 hB1
  obtain ⟨m0, m1, -⟩ := now2 hm rfl
  have HS1 := HS _ (hz3.more (by omega : gb ≤ (w2.alloc (.cells #[.int .i64 n, .slice Au ls.length cu] 24 (0, 0))).heap.size))
  go_wp2_with fail
  refine HS1.mono ?_
  rintro e w4 ⟨ob, rfl, hob, hfl, hb4⟩
  replace hrr := keep_blk hb4 hrr
  replace hx := keep_blk hb4 hx
  have hs4 := hb4.size
  have hB4 := hB3.trans (hb4.mono (by omega))
  have ho4 := owns_below ho3 hb4
  have hi4 := hi3.below hb4
  clear HS1 HS m0 m1 hm hz3 hi3 ho3 hb4 hB3
  obtain ⟨x0, x1, xf⟩ := now2 hx rfl
  obtain ⟨r0, r1, rf⟩ := now2 hrr rfl
  rcases hcas with ⟨e1, e2, hno⟩ | ⟨c, hc, hcy, hcn, e1, e2⟩
  · have HI := idxB14_any ob ls.length (rowGo ls) (-1) w4 hfl hls (.inl ⟨hno, rfl⟩)
    subst e1
    subst e2
    have hF := fin_gen14 (g := gb + 1) (x := .int .i64 n) ho4 rfl hvl hi4 hac (Or.inl (by omega)) (by omega)
    have hr3 := put2 (x0 := .int .i64 n) (x1 := .slice Au XL.length cu) hrr
    obtain ⟨q0, q1, -⟩ := now2 hr3 rfl
    have hBz := below2 (x0 := .int .i64 n) (x1 := .slice Au XL.length cu) (by omega : gb ≤ gb + 1) hB4
    clear hno hfl hB4 ho4 hi4 hrr hx
    go_wp2_with fail
    refine HI.mono ?_
    rintro e w5 ⟨rfl, rfl⟩
    clear HI
    go_wp2
    refine bodyPost_ret (v := .tuple #[.agg #[.int .i64 n, .slice Au XL.length cu], .bool false]) (by simp [results, Try.results10, go_sem, q0, q1]) rfl ?_
    exact ⟨_, rfl, hF.1, hF.2, by rw [hgbH.out]; exact hBz⟩
  · have HI := idxB14_any ob ls.length (rowGo ls) c w4 hfl hls (.inr ⟨c, hc, hcy, hcn, rfl⟩)
    subst e1
    subst e2
    have HD := delete14_any (k := c) (by rw [hvl]; exact ho4) hac (by omega)
    rw [hvl] at HD
    have c0 : (0 : Int) ≤ (c : Int) := by omega
    have c1 : IntKind.i64.wrap ((c : Int) + 1) = (c : Int) + 1 := by rw [IntKind.wrap_i64]; omega
    clear hcn hcy hfl
    go_wp2_with fail
    refine HI.mono ?_
    rintro e w5 ⟨rfl, rfl⟩
    clear HI
    go_wp2_with fail
    refine HD.mono ?_
    rintro e w6 ⟨u6, rfl, ho6, hob6, hg6⟩
    have hi6 := hi4.erase14 hg6 hob6 c
    have hnx : (Value.slice Au ls.length cu).ownBlock ≠ some w2.heap.size := fun e => by have := (hgx _ e).2; omega
    have hnr : (Value.slice Au ls.length cu).ownBlock ≠ some (gb + 1) := fun e => by have := (hgx _ e).1; omega
    have hx6 := (hg6.block _ (by omega) (fun e => hnx e.symm)).trans hx
    have hr6 := (hg6.block _ (by omega) (fun e => hnr e.symm)).trans hrr
    have hB6 := hB4.grown hg6 (by omega) (fun k hk => by have := (hgx _ hk).1; omega)
    have hlE : (ls.eraseIdx c).length = ls.length - 1 := List.length_eraseIdx_of_lt hc
    have hvE : (vs.eraseIdx c).length = (ls.eraseIdx c).length := by rw [hlE, List.length_eraseIdx_of_lt (by omega), hvl]
    rw [← hlE] at ho6
    clear hlE
    generalize hXE : ls.eraseIdx c = XE at *
    have hXEH := Lib.hid hXE
    clear hXE
    obtain ⟨A6, c6, rfl⟩ := own_form ho6
    have hx7 : (w5.setCell ⟨w2.heap.size, 1, none⟩ (.int .i64 0)).heap.size = w5.heap.size := by simp [World.setCell]
    have ho7 := own_set ho6 (by rw [hob6]; exact hnx) 1 (.slice A6 XE.length c6)
    have hi7 := hi6.set (b := w2.heap.size) (j := 1) (u := .slice A6 XE.length c6) (Or.inr rfl)
    have hr7 : (w6.setCell ⟨w2.heap.size, 1, none⟩ (.slice A6 XE.length c6)).heap[gb + 1]? = _ := (Below.heap_setCell _ _ _ _ (by show gb + 1 ≠ w2.heap.size; omega)).trans hr6
    have hx8 := block_setCell (i := 1) hx6 (.slice A6 XE.length c6)
    have hB7 := hB6.setCell (p := ⟨w2.heap.size, 1, none⟩) (by show gb ≤ w2.heap.size; omega) (.slice A6 XE.length c6)
    clear x0 x1 xf r0 r1 rf
    obtain ⟨x0, x1, xf⟩ := now2 hx6 rfl
    obtain ⟨y0, y1, -⟩ := now2 hx8 rfl
    obtain ⟨r0, r1, rf⟩ := now2 hr7 rfl
    have hF := fin_gen14 (g := gb + 1) (x := .int .i64 n) ho7 rfl hvE hi7 (fun v hv => hac v (List.mem_of_mem_eraseIdx hv)) (Or.inl (by omega)) (by omega)
    have hr3 := put2 (x0 := .int .i64 n) (x1 := .slice A6 XE.length c6) hr7
    obtain ⟨q0, q1, -⟩ := now2 hr3 rfl
    have hBz := below2 (x0 := .int .i64 n) (x1 := .slice A6 XE.length c6) (by omega : gb ≤ gb + 1) hB7
    clear HD hB4 ho4 hi4 hrr hx hr3 hr6 hr7 hx6 hx8 ho6 ho7 hi6 hi7 hB6 hB7 hgx hg6 hx7
    go_wp2
    refine bodyPost_ret (v := .tuple #[.agg #[.int .i64 n, .slice A6 XE.length c6], .bool true]) (by simp [results, Try.results10, go_sem, q0, q1]) rfl ?_
    exact ⟨_, rfl, by rw [hXEH.out]; exact hF.1, hF.2, by rw [hgbH.out]; exact hBz⟩
end Go.Proofs.Ytjjpobpcpgcbaaa
