/- An attempt: what was made on the way is taken back where it fails. A diagram that is new, a work. New, ofTwo, ofItem; Union, Meet, Less, With, Without as they are called. -/
import Derived.Test.YtehpccanjlaokaaGreatGQ23
import Derived.Test.YtehpccanjlaokaaGreatGQ13
import Derived.Test.YtehpccanjlaokaaGreatGQ25
namespace Go.Proofs.YtehpccanjlaokaaGreat
open Go.RowKit Go.Joins

theorem swp_back {S T : St} (hZS : ZSt S) (hG : Gap S) (hx : Ext S T) (hZ : ZSt T) {K : List Int} (hK : ∀ i : Nat, (i : Int) + 2 ∈ K ↔ i < cnt S) {f : Nat → Bool} (hf : ∀ i, i < T.length → (f i = true ↔ Rch T K i)) :
    Ext S (swp T f) ∧ ZSt (swp T f) ∧ Gap (swp T f) ∧ cnt (swp T f) = cnt S := by
  have hin : ∀ i, Rch T K i → i < cnt S := by
    intro i hr
    induction hr with
    | here h hk => exact (hK _).1 hk
    | @lo i j n m _ h e hm ih =>
      obtain ⟨n', hn'⟩ := (hG.iff i).2 ih
      obtain rfl : n' = n := by have h2 := hx i n' hn'; rw [h] at h2; injection h2 with h2; injection h2 with h2; exact h2.symm
      obtain ⟨k0, -, k2, -⟩ := (okN_iff _ _).1 (hZS.vst.ok i n' hn')
      rw [e] at k2
      rcases lvl_kind (S := S) (id := (j : Int) + 2) (by omega) with he | ⟨q, m', eq, hm', -⟩
      · omega
      · obtain rfl : q = j := by omega
        exact (hG.iff _).1 ⟨m', hm'⟩
    | @hi i j n m _ h e hm ih =>
      obtain ⟨n', hn'⟩ := (hG.iff i).2 ih
      obtain rfl : n' = n := by have h2 := hx i n' hn'; rw [h] at h2; injection h2 with h2; injection h2 with h2; exact h2.symm
      obtain ⟨k0, -, -, k3⟩ := (okN_iff _ _).1 (hZS.vst.ok i n' hn')
      rw [e] at k3
      rcases lvl_kind (S := S) (id := (j : Int) + 2) (by omega) with he | ⟨q, m', eq, hm', -⟩
      · omega
      · obtain rfl : q = j := by omega
        exact (hG.iff _).1 ⟨m', hm'⟩
  have hlt : ∀ {i : Nat} {n : Nd}, T[i]? = some (some n) → i < T.length := fun h => (List.getElem?_eq_some_iff.1 h).1
  have hnode : ∀ (i : Nat) (n : Nd), (swp T f)[i]? = some (some n) ↔ S[i]? = some (some n) := fun i n => by
    rw [swp_some]
    constructor
    · rintro ⟨h1, h2⟩
      obtain ⟨n', hn'⟩ := (hG.iff i).2 (hin i ((hf i (hlt h1)).1 h2))
      have h3 := hx i n' hn'
      rw [h1] at h3; injection h3 with h3; injection h3 with h3
      rw [h3]; exact hn'
    · intro h
      have h1 := hx i n h
      exact ⟨h1, (hf i (hlt h1)).2 (.here h1 ((hK i).2 ((hG.iff i).1 ⟨n, h⟩)))⟩
  have hGap : Gap (swp T f) := fun i n hi j hj => by
    obtain ⟨m, hm⟩ := hG i n ((hnode i n).1 hi) j hj
    exact ⟨m, (hnode j m).2 hm⟩
  refine ⟨fun i n h => (hnode i n).2 h, ⟨hZ.vst.swept hf, fun i n h => hZS.hi i n ((hnode i n).1 h)⟩, hGap, ?_⟩
  have h1 := fun j => hGap.iff j
  have h2 := fun j => hG.iff j
  have h3 : ∀ j, j < cnt (swp T f) ↔ j < cnt S := fun j => by
    rw [← h1 j, ← h2 j]
    exact ⟨fun ⟨n, hn⟩ => ⟨n, (hnode j n).1 hn⟩, fun ⟨n, hn⟩ => ⟨n, (hnode j n).2 hn⟩⟩
  have a := h3 (cnt (swp T f))
  have b := h3 (cnt S)
  omega
def keepA (n k : Nat) : Array Value := ((List.range n).map fun p : Nat => Value.int .i64 (if p < k then (p : Int) + 2 else 0)).toArray
theorem keepA_get {n k p : Nat} (h : p < n) : (keepA n k)[p]? = some (.int .i64 (if p < k then (p : Int) + 2 else 0)) := by
  unfold keepA; simp [h]
theorem keepA_set {n k : Nat} : (keepA n k).setIfInBounds k (.int .i64 ((k : Int) + 2)) = keepA n (k + 1) := by
  unfold keepA
  rw [List.setIfInBounds_toArray]
  congr 1
  apply List.ext_getElem?
  intro j
  rw [List.getElem?_set]
  by_cases e : k = j
  · subst e
    by_cases hk : k < n <;> simp [hk]
  · rw [if_neg e]
    by_cases hj : j < n
    · have : (j < k + 1) = (j < k) := by rw [eq_iff_iff]; omega
      simp [hj, this]
    · simp [hj]
theorem make_keepz (n : Nat) (hn : n ≤ 1000000) (w : World) : (Instr.makeSlice 36 (.int .i64 n) (.int .i64 n)).run Tryz.prog w = .ok (.slice (some ⟨w.heap.size, 0, none⟩) n n) (w.alloc (.cells (keepA n 0) 3 (0, 0))) := by
  obtain ⟨i0, hi, hz0, hz1, hz2⟩ := info_parts Tryz.infoInt
  have h := run_makeSlice (P := Tryz.prog) w 36 3 i0 (.int .i64 0) Tryz.underlying36 hi hz0 .i64 .i64 n n (by omega) (by omega) (by rw [hz1]; simp; omega) (by rw [hz2]; omega) (by omega)
  rw [h, hz1]
  have e : madeCells #[Value.int .i64 0] n = keepA n 0 := by
    unfold keepA
    apply Array.toList_inj.1
    rw [toList_madeCells_one]
    apply List.ext_getElem?
    intro j
    by_cases hj : j < n <;> simp [hj]
  rw [← e]
  simp [Value.cells]
/-- What is left behind a call of a diagram. -/
def DoneZ (E : Prop) (S : St) (G : St → Int → Prop) : World → St → Int → Int → Prop := fun _ T id er => Ext S T ∧ ((er = 0 ∧ G T id) ∨ (er = 5 ∧ id = 0 ∧ cnt T = cnt S ∧ E))
/-- .. of what it does. -/
def TriedZ (E : Prop) (S : St) (G : St → Int → Prop) : World → St → Int → Int → Prop := fun _ T id er => Ext S T ∧ ((er = 0 ∧ G T id) ∨ (er = 5 ∧ id = 0 ∧ E))
set_option maxHeartbeats 4000000 in
set_option maxRecDepth 100000 in
theorem zattempt_any {E : Prop} {G : St → Int → Prop} {C M N : Nat → Prop} {w : World} {zb ab bm : Nat} {v : Value} {room full : Nat} {S : St} (fk : Nat) (caps : Array Value)
    (hcf : ∀ (args : Array Value) (w1 : World), (Sem.run Tryz.prog (callFunc fk args) w1) = .ok (.enter fk args) w1)
    (h : ZdAt w N zb ab bm v room full S) (hM : M bm)
    (hdo : Calls Tryz.prog fk caps w (MadeZ C M N w zb ab bm room (TriedZ E S G))) :
    Calls Tryz.prog 54 #[.pointer (some ⟨zb, 0, none⟩), .func (.func fk) #[] caps] w (MadeZ C M N w zb ab bm room (DoneZ E S G)) := by
  have HLn := len_any h.ar
  have hc20 : cnt S ≤ 20000 := Nat.le_trans (cnt_le S) h.max
  obtain ⟨z0, -⟩ := nowz1 h.head rfl
  have hZS := h.zst
  have hG := h.gap
  go_enter Tryz.func54, Tryz.ntmps54
  go_wp2_with fail
  refine HLn.mono ?_
  rintro e w1 ⟨rfl, rfl⟩
  clear HLn
  go_wp2_with fail
  refine hdo.mono ?_
  rintro e w2 ⟨v2, full2, T, id, er, rfl, hd2, hk2, hx2, hE2⟩
  clear hdo z0
  rcases hE2 with ⟨rfl, hg⟩ | ⟨rfl, rfl, hE⟩
  · have hgH := Lib.hid hg
    clear hg
    go_wp2
    go_ret2
    exact ⟨v2, full2, T, id, 0, rfl, hd2, hk2, hx2, .inl ⟨rfl, hgH.out⟩⟩
  · have hEH := Lib.hid hE
    have hmk := make_keepz (cnt S) (by omega)
    have hk0 := heap_alloc_new w2 (.cells (keepA (cnt S) 0) 3 (0, 0))
    have hB0 := below_alloc1 w2 (.cells (keepA (cnt S) 0) 3 (0, 0))
    have hsb := Nat.le_refl w2.heap.size
    clear hE h
    go_wp2
    go_loopw [28] (fun t wr => ∃ k : Nat, k ≤ cnt S ∧ t = .int .i64 k ∧ wr.heap[w2.heap.size]? = some (.cells (keepA (cnt S) k) 3 (0, 0)) ∧ Below w2.heap.size w2 wr) (fun t _ => cnt S - (intOf t).toNat)
    case atStart => exact ⟨0, by omega, rfl, hk0, hB0⟩
    case round =>
      obtain ⟨k, hk, rfl, hkk, hb⟩ := hrel
      clear hk0 hB0 hmk
      by_cases hlt : k < cnt S
      · have c0 : wr.cell? ⟨w2.heap.size, k, none⟩ = some (.int .i64 (if k < k then (k : Int) + 2 else 0)) := by rw [cell_of_block hkk]; exact keepA_get hlt
        have cf : wr.frozen? ⟨w2.heap.size, k, none⟩ = false := unfrozen_of_block hkk k
        have hw2 : IntKind.i64.wrap (2 + (k : Int)) = (k : Int) + 2 := by rw [IntWalk.i64_in _ (by omega)]; omega
        have hst : (wr.setCell ⟨w2.heap.size, k, none⟩ (.int .i64 ((k : Int) + 2))).heap[w2.heap.size]? = some (.cells (keepA (cnt S) (k + 1)) 3 (0, 0)) := by rw [block_setCell hkk, keepA_set]
        have hbs := hb.setCell (p := ⟨w2.heap.size, k, none⟩) hsb (.int .i64 ((k : Int) + 2))
        clear hkk
        go_wp2
        go_roundw
        case rel => exact ⟨k + 1, by omega, by go_num, hst, hbs⟩
        case measure => simp [intOf]; omega
      · obtain rfl : k = cnt S := by omega
        have hd3 := hd2.below hb
        have hI : IntsAt wr wr.heap.size (.slice (some ⟨w2.heap.size, 0, none⟩) (cnt S) (cnt S)) ((List.range (cnt S)).map fun i : Nat => (i : Int) + 2) := by
          refine ⟨some ⟨w2.heap.size, 0, none⟩, cnt S, by simp, by simp; omega, fun _ => ⟨w2.heap.size, 0, rfl, size_of_block hkk, fun j x hx => ?_⟩⟩
          rw [List.getElem?_map] at hx
          obtain ⟨q, hq, rfl⟩ := Option.map_eq_some_iff.1 hx
          have hjl : j < cnt S := by have := (List.getElem?_eq_some_iff.1 hq).1; simpa using this
          obtain rfl : q = j := by rw [List.getElem?_range hjl] at hq; injection hq with hq; exact hq.symm
          rw [Nat.zero_add, cell_of_block hkk]
          show (keepA (cnt S) (cnt S))[q]? = _
          rw [keepA_get hjl, if_pos hjl]
        have HW := sweep_any hd3.ar hd3.ok _ _ hI
        have hk3 := hk2.more hb
        have hKm : ∀ i : Nat, (i : Int) + 2 ∈ (List.range (cnt S)).map (fun i : Nat => (i : Int) + 2) ↔ i < cnt S := fun i => by
          simp only [List.mem_map, List.mem_range]
          exact ⟨fun ⟨q, hq, e⟩ => by omega, fun h => ⟨i, h, rfl⟩⟩
        obtain ⟨z0, -⟩ := nowz1 hd3.head rfl
        clear hI hkk hb hd2 hk2
        go_wp2_with fail
        refine HW.mono ?_
        rintro e w4 ⟨rfl, f, hf, hA4, hok4, hoff4⟩
        obtain ⟨hx4, hz4, hg4, hc4⟩ := swp_back hZS hG hx2 hd3.zst hKm hf
        have hk4 := Kz.of_off (C := C) hd3.ar hd3.off hoff4
        have hd4 : ZdAt w4 N zb ab bm v2 room 0 (swp T f) := ⟨(Kz.of_off (C := no8) hd3.ar hd3.off hoff4).cells _ _ _ _ hd3.head Tryz.neZddA Tryz.neZddS (fun h => h), hA4, hok4, hz4, hg4, fun k hk => ⟨Nat.lt_of_lt_of_le (hd3.off k hk).1 hoff4.size, (hd3.off k hk).2⟩⟩
        have hk5 := hk3.trans (hk4.mono (fun _ h => h) (fun k hk => by rw [hk]; exact hM) (fun _ h => h))
        have hfin : Hid (DoneZ E S G w4 (swp T f) 0 5) := Lib.hid ⟨hx4, .inr ⟨rfl, rfl, hc4, hEH.out⟩⟩
        clear HW z0 hd3 hk3 hk4 hx4 hz4 hg4 hc4 hf hA4 hok4 hoff4 hx2 hZS hG hKm
        go_wp2
        go_ret2
        exact ⟨v2, 0, swp T f, 0, 5, rfl, hd4, hk5, hfin.out⟩

theorem ArAt.low {w : World} {B ab bm : Nat} {v : Value} {room full : Nat} {S : St} (h : ArAt w B ab bm v room full S) : ArAt w 0 ab bm v room full S :=
  ⟨⟨Nat.zero_le _, Nat.zero_le _⟩, h.head, ⟨h.rows.1, by
    rcases h.rows.2 with hn | ⟨g, cap, cur, hv, hg, r⟩
    · exact .inl hn
    · exact .inr ⟨g, cap, cur, hv, Nat.zero_le _, r⟩⟩, h.ids⟩
theorem znew_yes (w : World) (room : Nat) (hr : room ≤ 20000) (N : Nat → Prop) (hN : ∀ k, N k → k < w.heap.size) :
    Calls Tryz.prog 5 #[.int .i64 room] w fun e w' => ∃ zb ab bm : Nat, e = .returned (.tuple #[.pointer (some ⟨zb, 0, none⟩), .int .i64 0]) ∧ ZdAt w' N zb ab bm (.slice none 0 0) room 0 [] ∧ Below w.heap.size w w' := by
  have HN := new_yes room w hr
  go_enter Tryz.func5, Tryz.ntmps5
  go_wp2_with fail
  refine HN.mono ?_
  rintro e w2 ⟨ab, bm, rfl, hA2, hb2⟩
  clear HN
  go_wp2
  go_ret2
  have hb4 := below_alloc1 w2 (.cells #[.pointer (some ⟨ab, 0, none⟩)] 47 (0, 0))
  refine ⟨_, ab, bm, rfl, ⟨heap_alloc_new _ _, (hA2.below hb4).low, ⟨VSt.nil, Nat.zero_le _, hr, Nat.le_refl _, fun j hj => by omega⟩, ZSt.nil, Gap.nil, fun k hk => ⟨Nat.lt_of_lt_of_le (hN k hk) (Nat.le_trans hb2.size hb4.size), fun hf => ?_⟩⟩, hb2.trans (hb4.mono hb2.size)⟩
  have h1 := hN k hk
  have h2 := hA2.fp k hf
  omega
theorem zstart_any {w : World} (zb : Nat) :
    Calls Tryz.prog 115 #[.pointer (some ⟨zb, 0, none⟩)] w fun e w' => ∃ wk mm : Nat, e = .returned (.pointer (some ⟨wk, 0, none⟩)) ∧ WkAt w' wk zb mm ∧ (∀ S0 S, RemZ w' mm S0 S 0) ∧ w.heap.size ≤ mm ∧ Below w.heap.size w w' := by
  have hmm := @run_makeMap Tryz.prog
  have hB := below_alloc2 w (.map #[] 0) (.cells #[.pointer (some ⟨zb, 0, none⟩), .map (some w.heap.size)] 190 (0, 0))
  have hm2 := fun S0 S => (RemZ.made w S0 S).keep (w' := (w.alloc (.map #[] 0)).alloc (.cells #[.pointer (some ⟨zb, 0, none⟩), .map (some w.heap.size)] 190 (0, 0))) (Below.heap_alloc _ _ _ (RemZ.made w S0 S).lt)
  have hh := heap_alloc2_new w (.map #[] 0) (.cells #[.pointer (some ⟨zb, 0, none⟩), .map (some w.heap.size)] 190 (0, 0))
  have hA := Lib.hid hm2
  have hH := Lib.hid hh
  clear hm2 hh
  go_enter Tryz.func115, Tryz.ntmps115
  go_wp2
  go_ret
  exact ⟨_, _, rfl, hH.out, hA.out, Nat.le_refl _, hB⟩
/-- What a good answer is. -/
def GoodT (S : St) (F : Nat → Bool) (B : Nat) (T : St) (id : Int) : Prop := 0 ≤ lvl T id ∧ zf T 24 id = F ∧ cnt T ≤ cnt S + B
theorem DoneZ.less {S : St} {F : Nat → Bool} {room B B' : Nat} {w : World} {T : St} {id er : Int} (h : DoneZ (room ≤ cnt S + B) S (GoodT S F B) w T id er) (hB : B ≤ B') : DoneZ (room ≤ cnt S + B') S (GoodT S F B') w T id er := by
  obtain ⟨hx, h⟩ := h
  rcases h with ⟨e, g0, g1, g2⟩ | ⟨e, i, c, hE⟩
  · exact ⟨hx, .inl ⟨e, g0, g1, Nat.le_trans g2 (Nat.add_le_add_left hB _)⟩⟩
  · exact ⟨hx, .inr ⟨e, i, c, Nat.le_trans hE (Nat.add_le_add_left hB _)⟩⟩
theorem OutZ.tried {room : Nat} {S T : St} {F : Nat → Bool} {B : Nat} {id er : Int} (h : OutZ 24 room S F B T id er) (w : World) : TriedZ (room ≤ cnt S + B) S (GoodT S F B) w T id er := by
  have hf := h.few
  refine ⟨h.ext, ?_⟩
  rcases h.res with ⟨e0, h0, -, h2⟩ | ⟨e5, h1, h2⟩
  · exact .inl ⟨e0, h0, h2, hf⟩
  · exact .inr ⟨e5, h1, by omega⟩
/-- The map of a call is its own. -/
theorem MadeZ.own {C N : Nat → Prop} {w w' : World} {zb ab bm mm room : Nat} {P : World → St → Int → Int → Prop} {e : Ending} (h : MadeZ C (MZ bm mm) N w zb ab bm room P e w') (hm : w.heap.size ≤ mm) : MadeZ C (· = bm) N w zb ab bm room P e w' := by
  obtain ⟨v', f, T, id, er, h1, h2, h3, h4⟩ := h
  exact ⟨v', f, T, id, er, h1, h2, h3.fresh (fun k hk => .inl hk) (fun k hk => hk.elim .inl (fun e => .inr (by omega))), h4⟩
theorem zofTwo1_any {fr : Nat} (hcf : ∀ (args : Array Value) (w1 : World), (Sem.run Tryz.prog (callFunc fr args) w1) = .ok (.enter fr args) w1) {C M N : Nat → Prop} {w : World} {zb ab bm room x : Nat} {pre caps : Array Value} {f g : Int} {P : World → St → Int → Int → Prop}
    (hf : w.heap[x]? = some (.cells #[.int .i64 f] 3 (0, 0))) (hg : w.heap[x + 1]? = some (.cells #[.int .i64 g] 3 (0, 0))) (hr : w.heap[x + 1 + 1]? = some (.cells #[.func (.func fr) pre caps] 166 (0, 0)))
    (H : Calls Tryz.prog fr (pre ++ (#[.int .i64 f, .int .i64 g] ++ caps)) w (MadeZ C M N w zb ab bm room P)) :
    Calls Tryz.prog 144 #[.pointer (some ⟨x + 1 + 1, 0, none⟩), .pointer (some ⟨x, 0, none⟩), .pointer (some ⟨x + 1, 0, none⟩)] w (MadeZ C M N w zb ab bm room P) := by
  obtain ⟨f0, -⟩ := nowz1 hf rfl
  obtain ⟨g0, -⟩ := nowz1 hg rfl
  obtain ⟨r0, -⟩ := nowz1 hr rfl
  clear hf hg hr
  go_enter Tryz.func144, Tryz.ntmps144
  go_wp2_with fail
  refine H.mono ?_
  rintro e w2 ⟨v2, full2, T, id, er, rfl, hd8, hk8, hP8⟩
  clear H
  go_wp2
  go_ret2
  exact ⟨v2, full2, T, id, er, rfl, hd8, hk8, hP8⟩
set_option maxHeartbeats 2000000 in
set_option maxRecDepth 100000 in
theorem zofTwo_any {fr : Nat} (hcf : ∀ (args : Array Value) (w1 : World), (Sem.run Tryz.prog (callFunc fr args) w1) = .ok (.enter fr args) w1) {E : Prop} {G : St → Int → Prop} {M N : Nat → Prop} {w : World} {zb ab bm : Nat} {v : Value} {room full : Nat} {S : St} (h : ZdAt w N zb ab bm v room full S) (hM : M bm) (f g : Int) (f0 : 0 ≤ lvl S f) (g0 : 0 ≤ lvl S g) (pre caps : Array Value)
    (hdo : ∀ w1, Below w.heap.size w w1 → Calls Tryz.prog fr (pre ++ (#[.int .i64 f, .int .i64 g] ++ caps)) w1 (MadeZ no8 M N w1 zb ab bm room (TriedZ E S G))) :
    Calls Tryz.prog 114 #[.pointer (some ⟨zb, 0, none⟩), .int .i64 f, .int .i64 g, .func (.func fr) pre caps] w (MadeZ no8 M N w zb ab bm room (DoneZ E S G)) := by
  have hB3 := below_alloc3 w (.cells #[.int .i64 f] 3 (0, 0)) (.cells #[.int .i64 g] 3 (0, 0)) (.cells #[.func (.func fr) pre caps] 166 (0, 0))
  have hB4 := hB3.alloc hB3.size (.cells #[.int .i64 f, .int .i64 g] 3 (0, 0))
  have bf := keep_alloc (x := .cells #[.int .i64 f, .int .i64 g] 3 (0, 0)) (heap_alloc3_a w (.cells #[.int .i64 f] 3 (0, 0)) (.cells #[.int .i64 g] 3 (0, 0)) (.cells #[.func (.func fr) pre caps] 166 (0, 0)))
  have bg := keep_alloc (x := .cells #[.int .i64 f, .int .i64 g] 3 (0, 0)) (heap_alloc3_b w (.cells #[.int .i64 f] 3 (0, 0)) (.cells #[.int .i64 g] 3 (0, 0)) (.cells #[.func (.func fr) pre caps] 166 (0, 0)))
  have br := keep_alloc (x := .cells #[.int .i64 f, .int .i64 g] 3 (0, 0)) (heap_alloc3_c w (.cells #[.int .i64 f] 3 (0, 0)) (.cells #[.int .i64 g] 3 (0, 0)) (.cells #[.func (.func fr) pre caps] 166 (0, 0)))
  have hd4 := h.below hB4
  have hz3 : (((w.alloc (.cells #[.int .i64 f] 3 (0, 0))).alloc (.cells #[.int .i64 g] 3 (0, 0))).alloc (.cells #[.func (.func fr) pre caps] 166 (0, 0))).heap.size = w.heap.size + 1 + 1 + 1 := by simp
  have hU := zuses_any hd4 (((w.alloc (.cells #[.int .i64 f] 3 (0, 0))).alloc (.cells #[.int .i64 g] 3 (0, 0))).alloc (.cells #[.func (.func fr) pre caps] 166 (0, 0))).heap.size 2 [f, g] (by simp) (fun j x hj => by
    match j, hj with
    | 0, hj => simp at hj; subst hj; rw [cell_of_block (heap_alloc_new _ _)]; rfl
    | 1, hj => simp at hj; subst hj; rw [cell_of_block (heap_alloc_new _ _)]; rfl)
  rw [hz3] at hU
  simp only [List.length_cons, List.length_nil, List.all_cons, List.all_nil, used8 f0, used8 g0, Bool.and_true, Nat.zero_add] at hU
  have hcf2 : ∀ (args : Array Value) (w1 : World), (Sem.run Tryz.prog (callFunc 144 args) w1) = .ok (.enter 144 args) w1 := fun _ _ => by kernel_rfl
  clear h hz3
  go_enter Tryz.func114, Tryz.ntmps114
  go_wp2_with fail
  refine hU.mono ?_
  rintro e w5 ⟨rfl, hb5⟩
  have hB5 := hB4.trans (hb5.mono hB4.size)
  have hd5 := hd4.below hb5
  have HA := zattempt_any 144 #[.pointer (some ⟨w.heap.size + 1 + 1, 0, none⟩), .pointer (some ⟨w.heap.size, 0, none⟩), .pointer (some ⟨w.heap.size + 1, 0, none⟩)] hcf2 hd5 hM (zofTwo1_any hcf (keep_blk hb5 bf) (keep_blk hb5 bg) (keep_blk hb5 br) (hdo w5 hB5))
  have hK5 : Kz no8 M N w w5 := Kz.of_below hB5
  obtain ⟨y0, -⟩ := nowz1 (keep_blk hb5 bg) rfl
  clear hU hcf2 hdo hd4 hd5 bf bg br hB4 hB3
  go_wp2_with fail
  refine HA.mono ?_
  rintro e w6 ⟨v6, full6, T, id, er, rfl, hd6, hk6, hP6⟩
  clear HA
  go_wp2
  go_ret2
  exact ⟨v6, full6, T, id, er, rfl, hd6, hK5.trans hk6, hP6⟩
set_option maxHeartbeats 1000000 in
theorem zUnionT_any {N : Nat → Prop} {w : World} {zb ab bm : Nat} {v : Value} {room full : Nat} {S : St} (h : ZdAt w N zb ab bm v room full S) (f g : Int) (f0 : 0 ≤ lvl S f) (g0 : 0 ≤ lvl S g) (hc : (24 * min (zn S f) (zn S g)) ≤ 1000000) :
    Calls Tryz.prog 81 #[.pointer (some ⟨zb, 0, none⟩), .int .i64 f, .int .i64 g] w (MadeZ no8 (· = bm) N w zb ab bm room (DoneZ (room ≤ cnt S + (tB 24 (op2F 0 (zf S 24 f) (zf S 24 g)) (24 * min (zn S f) (zn S g)))) S (GoodT S (op2F 0 (zf S 24 f) (zf S 24 g)) (tB 24 (op2F 0 (zf S 24 f) (zf S 24 g)) (24 * min (zn S f) (zn S g)))))) := by
  have HS := zstart_any (w := w) zb
  have hcf : ∀ (args : Array Value) (w1 : World), (Sem.run Tryz.prog (callFunc 120 args) w1) = .ok (.enter 120 args) w1 := fun _ _ => by kernel_rfl
  go_enter Tryz.func81, Tryz.ntmps81
  go_wp2_with fail
  refine HS.mono ?_
  rintro e w2 ⟨wk, mm, rfl, hw2, hr2, hmm, hb2⟩
  have hd2 := h.below hb2
  have hbm := h.ar.lt.2.2
  have hne : mm ≠ bm := by omega
  have hNm : ¬ N mm := fun hn => by have := (h.off mm hn).1; omega
  have HT := zofTwo_any (M := MZ bm mm) hcf hd2 (.inl rfl) f g f0 g0 #[.pointer (some ⟨wk, 0, none⟩)] #[] (E := room ≤ cnt S + (tB 24 (op2F 0 (zf S 24 f) (zf S 24 g)) (24 * min (zn S f) (zn S g)))) (G := GoodT S (op2F 0 (zf S 24 f) (zf S 24 g)) (tB 24 (op2F 0 (zf S 24 f) (zf S 24 g)) (24 * min (zn S f) (zn S g))))
    (fun w3 hb3 => (show Calls Tryz.prog _ #[.pointer (some ⟨wk, 0, none⟩), .int .i64 f, .int .i64 g] w3 _ from zunion_any 24 (hd2.below hb3) (hw2.below hb3) ((hr2 S S).below hb3) hne hNm f g f0 g0 (by omega) (by omega) (Nat.le_refl _) (by omega)).mono fun e w' hm => hm.mono fun T id er ho => ho.1.tried w')
  have hK2 : Kz no8 (MZ bm mm) N w w2 := Kz.of_below hb2
  clear HS hcf hw2 hr2 hd2 hb2 hc
  go_wp2_with fail
  refine HT.mono ?_
  rintro e w4 ⟨v4, full4, T, id, er, rfl, hd4, hk4, hP4⟩
  clear HT
  go_wp2
  go_ret2
  exact MadeZ.own ⟨v4, full4, T, id, er, rfl, hd4, hK2.trans hk4, hP4⟩ hmm
set_option maxHeartbeats 1000000 in
theorem zLessT_any {N : Nat → Prop} {w : World} {zb ab bm : Nat} {v : Value} {room full : Nat} {S : St} (h : ZdAt w N zb ab bm v room full S) (f g : Int) (f0 : 0 ≤ lvl S f) (g0 : 0 ≤ lvl S g) (hc : (24 * min (zn S f) (zn S g)) ≤ 1000000) :
    Calls Tryz.prog 79 #[.pointer (some ⟨zb, 0, none⟩), .int .i64 f, .int .i64 g] w (MadeZ no8 (· = bm) N w zb ab bm room (DoneZ (room ≤ cnt S + (tB 24 (op2F 2 (zf S 24 f) (zf S 24 g)) (24 * min (zn S f) (zn S g)))) S (GoodT S (op2F 2 (zf S 24 f) (zf S 24 g)) (tB 24 (op2F 2 (zf S 24 f) (zf S 24 g)) (24 * min (zn S f) (zn S g)))))) := by
  have HS := zstart_any (w := w) zb
  have hcf : ∀ (args : Array Value) (w1 : World), (Sem.run Tryz.prog (callFunc 116 args) w1) = .ok (.enter 116 args) w1 := fun _ _ => by kernel_rfl
  go_enter Tryz.func79, Tryz.ntmps79
  go_wp2_with fail
  refine HS.mono ?_
  rintro e w2 ⟨wk, mm, rfl, hw2, hr2, hmm, hb2⟩
  have hd2 := h.below hb2
  have hbm := h.ar.lt.2.2
  have hne : mm ≠ bm := by omega
  have hNm : ¬ N mm := fun hn => by have := (h.off mm hn).1; omega
  have HT := zofTwo_any (M := MZ bm mm) hcf hd2 (.inl rfl) f g f0 g0 #[.pointer (some ⟨wk, 0, none⟩)] #[] (E := room ≤ cnt S + (tB 24 (op2F 2 (zf S 24 f) (zf S 24 g)) (24 * min (zn S f) (zn S g)))) (G := GoodT S (op2F 2 (zf S 24 f) (zf S 24 g)) (tB 24 (op2F 2 (zf S 24 f) (zf S 24 g)) (24 * min (zn S f) (zn S g))))
    (fun w3 hb3 => (show Calls Tryz.prog _ #[.pointer (some ⟨wk, 0, none⟩), .int .i64 f, .int .i64 g] w3 _ from zless_any 24 (hd2.below hb3) (hw2.below hb3) ((hr2 S S).below hb3) hne hNm f g f0 g0 (by omega) (by omega) (Nat.le_refl _) (by omega)).mono fun e w' hm => hm.mono fun T id er ho => ho.1.tried w')
  have hK2 : Kz no8 (MZ bm mm) N w w2 := Kz.of_below hb2
  clear HS hcf hw2 hr2 hd2 hb2 hc
  go_wp2_with fail
  refine HT.mono ?_
  rintro e w4 ⟨v4, full4, T, id, er, rfl, hd4, hk4, hP4⟩
  clear HT
  go_wp2
  go_ret2
  exact MadeZ.own ⟨v4, full4, T, id, er, rfl, hd4, hK2.trans hk4, hP4⟩ hmm
end Go.Proofs.YtehpccanjlaokaaGreat
