/- Package multi: sortBy; slices.Compact at rows that are sorted. -/
import Derived.Test.YtehpccanjlaokaaGreatGQ40
import Derived.Lib.SliceRun
namespace Go.Proofs.YtehpccanjlaokaaGreat
open Go.RowKit Go.Joins

set_option maxRecDepth 100000 in
theorem sortBy_any {w : World} {B : Nat} {L : List Rw} {A : Option Addr} {c fb fc : Nat} (h : w.ownsRow B 59 3 (.slice A L.length c) L.length (rzV L)) (hB : B ≤ w.heap.size) (hl : L.length ≤ 1000000)
    (f0 : w.cell? ⟨fb, 0, none⟩ = some (.func (.func 29) #[] #[])) (f1 : w.cell? ⟨fb, 1, none⟩ = some (.func (.func 30) #[] #[])) (f2 : w.cell? ⟨fb, 2, none⟩ = some (.func (.func 31) #[] #[])) (hfb : (Value.slice A L.length c).ownBlock ≠ some fb) :
    Calls Tryz.prog 28 #[.slice A L.length c, .slice (some ⟨fb, 0, none⟩) 3 fc] w fun e w' => e = .returned (.tuple #[]) ∧ (∃ M : List Rw, M.Pairwise (fun a b => keyR a ≤ keyR b) ∧ (∀ x, x ∈ M ↔ x ∈ L) ∧ M.length = L.length ∧ w'.ownsRow B 59 3 (.slice A L.length c) M.length (rzV M)) ∧ Below B w w' ∧ (∀ k, k < w.heap.size → (Value.slice A L.length c).ownBlock ≠ some k → w'.heap[k]? = w.heap[k]?) := by
  have hmf : ∀ (fn : Fn) (first cap : Array Value) (w : World), (Instr.makeFunc fn first cap).run Tryz.prog w = .ok (.func fn first cap) w := fun _ _ _ _ => rfl
  have hb1 := below_alloc1 w (.cells #[.slice (some ⟨fb, 0, none⟩) 3 fc] 116)
  have hk0 := heap_alloc_new w (.cells #[.slice (some ⟨fb, 0, none⟩) 3 fc] 116)
  have hk : KeysAt (w.alloc (.cells #[.slice (some ⟨fb, 0, none⟩) 3 fc] 116)) w.heap.size fb fc := ⟨by rw [cell_of_block hk0]; rfl, (World.cell?_alloc_lt _ _ _ (block_lt_of_cell f0)).trans f0, (World.cell?_alloc_lt _ _ _ (block_lt_of_cell f1)).trans f1, (World.cell?_alloc_lt _ _ _ (block_lt_of_cell f2)).trans f2⟩
  have hS := sortf_any (h.alloc _) (Nat.le_trans hB hb1.size) hl hk (fun e => by have := (h.lt _ e).2; omega) hfb
  have hold : ∀ k, k < w.heap.size → (w.alloc (.cells #[.slice (some ⟨fb, 0, none⟩) 3 fc] 116)).heap[k]? = w.heap[k]? := fun k hk => hb1.block k hk
  have hsz : w.heap.size < (w.alloc (.cells #[.slice (some ⟨fb, 0, none⟩) 3 fc] 116)).heap.size := size_of_block hk0
  have hB1 : Below B w (w.alloc (.cells #[.slice (some ⟨fb, 0, none⟩) 3 fc] 116)) := (Below.refl B w).alloc hB _
  have hH := Lib.hid hold
  clear f0 f1 f2 hk hk0 h hold
  go_enter Tryz.func28, Tryz.ntmps28
  go_upto_region 1 with (fail)
  generalize w.alloc _ = W at *
  go_wp2_with fail
  refine hS.mono ?_
  rintro e w' ⟨rfl, hM, hb, hf⟩
  clear hS
  go_wp2
  go_end0
  exact ⟨rfl, hM, hB1.trans hb, fun k h1 h2 => (hf k (by omega) h2).trans (hH.out k h1)⟩

/- COMPACT. -/
/-- How far it has come: r rows are read, p are kept; E: what the row holds. -/
structure CpI (L E : List Rw) (p r : Nat) : Prop where
  len : E.length = L.length
  lt : p < r
  le : r ≤ L.length
  rise : (E.take p).Pairwise fun a b => keyR a < keyR b
  mem : ∀ x, x ∈ E.take p ↔ x ∈ L.take r
  rest : ∀ j, r ≤ j + 1 → E[j]? = L[j]?
theorem CpI.lo {L E : List Rw} {p r : Nat} (h : CpI L E p r) : ∀ {x y : Rw}, L.Pairwise (fun a b => keyR a ≤ keyR b) → L[r - 1]? = some y → x ∈ E.take p → keyR x ≤ keyR y := by
  intro x y hs hy hx
  rw [h.mem] at hx
  obtain ⟨i, hi⟩ := List.mem_iff_getElem?.1 hx
  have hil : i < r := by
    have := (List.getElem?_eq_some_iff.1 hi).1
    rw [List.length_take] at this
    omega
  rw [List.getElem?_take_of_lt hil] at hi
  rcases Nat.lt_or_ge i (r - 1) with q | q
  · obtain ⟨a1, a2⟩ := List.getElem?_eq_some_iff.1 hi
    obtain ⟨b1, b2⟩ := List.getElem?_eq_some_iff.1 hy
    have := List.pairwise_iff_getElem.1 hs i (r - 1) a1 b1 q
    rw [a2, b2] at this
    exact this
  · have : i = r - 1 := by omega
    subst this
    rw [hi] at hy
    injection hy with hy
    rw [hy]; exact Nat.le_refl _
theorem CpI.same {L E : List Rw} {p r : Nat} (h : CpI L E p r) {x : Rw} (hx : L[r]? = some x) (hy : L[r - 1]? = some x) : CpI L E p (r + 1) := by
  have hl := (List.getElem?_eq_some_iff.1 hx).1
  have hr : 0 < r := by have := h.lt; omega
  refine ⟨h.len, by have := h.lt; omega, hl, h.rise, fun z => ?_, fun j hj => h.rest j (by omega)⟩
  rw [h.mem, List.take_succ_eq_append_getElem hl, List.mem_append, (List.getElem?_eq_some_iff.1 hx).2]
  constructor
  · exact .inl
  · rintro (h | h)
    · exact h
    · rw [List.mem_singleton.1 h]
      refine List.mem_iff_getElem?.2 ⟨r - 1, ?_⟩
      rw [List.getElem?_take_of_lt (by omega)]
      exact hy
theorem CpI.more {L E : List Rw} {p r : Nat} (h : CpI L E p r) (hs : L.Pairwise (fun a b => keyR a ≤ keyR b)) {x y : Rw} (hx : L[r]? = some x) (hy : L[r - 1]? = some y) (hne : keyR y ≠ keyR x) : CpI L (E.set p x) (p + 1) (r + 1) := by
  have hl := (List.getElem?_eq_some_iff.1 hx).1
  have hlt := h.lt
  have hle := h.len
  have hyx : keyR y < keyR x := by
    obtain ⟨a1, a2⟩ := List.getElem?_eq_some_iff.1 hy
    obtain ⟨b1, b2⟩ := List.getElem?_eq_some_iff.1 hx
    have := List.pairwise_iff_getElem.1 hs (r - 1) r a1 b1 (by omega)
    rw [a2, b2] at this
    omega
  have ht : (E.set p x).take (p + 1) = E.take p ++ [x] := by
    rw [List.take_succ_eq_append_getElem (by rw [List.length_set]; omega), List.take_set_of_le (Nat.le_refl p), List.getElem_set_self]
  refine ⟨by rw [List.length_set]; exact hle, by omega, hl, ?_, fun z => ?_, fun j hj => ?_⟩
  · rw [ht, List.pairwise_append]
    refine ⟨h.rise, List.pairwise_singleton _ _, fun a ha b hb => ?_⟩
    rw [List.mem_singleton.1 hb]
    exact Nat.lt_of_le_of_lt (h.lo hs hy ha) hyx
  · rw [ht, List.take_succ_eq_append_getElem hl, List.mem_append, List.mem_append, h.mem, (List.getElem?_eq_some_iff.1 hx).2]
  · rw [List.getElem?_set_ne (by omega)]
    exact h.rest j (by omega)
theorem CpI.start {L : List Rw} {k : Nat} (hk : 0 < k) (hs : L.Pairwise (fun a b => keyR a ≤ keyR b)) (hne : ∀ i x y, i + 1 < k → L[i]? = some x → L[i + 1]? = some y → keyR x ≠ keyR y) {x : Rw} (hx : L[k]? = some x) (hy : L[k - 1]? = some x) : CpI L L k (k + 1) := by
  have hl := (List.getElem?_eq_some_iff.1 hx).1
  refine ⟨rfl, by omega, hl, ?_, fun z => ?_, fun _ _ => rfl⟩
  · rw [List.pairwise_iff_getElem]
    intro i j hi hj hij
    rw [List.length_take] at hi hj
    rw [List.getElem_take, List.getElem_take]
    have h1 : keyR (L[i]'(by omega)) < keyR (L[i + 1]'(by omega)) := by
      have := List.pairwise_iff_getElem.1 hs i (i + 1) (by omega) (by omega) (by omega)
      have := hne i _ _ (by omega) (List.getElem?_eq_getElem (by omega)) (List.getElem?_eq_getElem (by omega))
      omega
    rcases Nat.lt_or_ge (i + 1) j with q | q
    · have := List.pairwise_iff_getElem.1 hs (i + 1) j (by omega) (by omega) q
      omega
    · have : j = i + 1 := by omega
      subst this
      exact h1
  · rw [List.take_succ_eq_append_getElem hl, List.mem_append, (List.getElem?_eq_some_iff.1 hx).2]
    constructor
    · exact .inl
    · rintro (h | h)
      · exact h
      · rw [List.mem_singleton.1 h]
        refine List.mem_iff_getElem?.2 ⟨k - 1, ?_⟩
        rw [List.getElem?_take_of_lt (by omega)]
        exact hy
/-- No two neighbours are alike: it rises. -/
theorem rise_all {L : List Rw} (hs : L.Pairwise (fun a b => keyR a ≤ keyR b)) (hne : ∀ i x y, i + 1 < L.length → L[i]? = some x → L[i + 1]? = some y → keyR x ≠ keyR y) : L.Pairwise fun a b => keyR a < keyR b := by
  rw [List.pairwise_iff_getElem]
  intro i j hi hj hij
  have h1 : keyR (L[i]'(by omega)) < keyR (L[i + 1]'(by omega)) := by
    have := List.pairwise_iff_getElem.1 hs i (i + 1) (by omega) (by omega) (by omega)
    have := hne i _ _ (by omega) (List.getElem?_eq_getElem (by omega)) (List.getElem?_eq_getElem (by omega))
    omega
  rcases Nat.lt_or_ge (i + 1) j with q | q
  · have := List.pairwise_iff_getElem.1 hs (i + 1) j (by omega) (by omega) q
    omega
  · have : j = i + 1 := by omega
    subst this
    exact h1

theorem run_clear_k {P : Program} (w : World) (t e ty : TypeId) (z : Value) (zs : List Value) (ht : P.underlying t = some (.slice e)) (hv : ∀ w, (zeroValue e).run P w = .ok z w) (b o n c : Nat) (hn : 0 < n) (hz : (Builtin.zeroCells z.cells n).toList = zs) (h1 : ∀ v ∈ zs, v.oneCell' = true)
    (hc : ∀ j, j < zs.length → (w.cell? ⟨b, o + j, none⟩).isSome = true) (hf : ∀ j, j < zs.length → w.frozen? ⟨b, o + j, none⟩ = false) :
    (Builtin.clear_ #[t] ty #[.slice (some ⟨b, o, none⟩) n c]).run P w = .ok (.tuple #[]) (w.setCells b o zs) := by
  have hst := run_storeCells_cells (P := P) b o zs 0 w (by simpa using hc) (by simpa using hf) h1
  simp only [Nat.add_zero] at hst
  obtain ⟨m, rfl⟩ : ∃ m, n = m + 1 := ⟨n - 1, by omega⟩
  simp [Builtin.clear_, run_underlying ht, hv, hz, hst]
theorem zeros_rw (n : Nat) : (Builtin.zeroCells (Value.agg #[.int .u8 0, .int .u8 0, .int .u8 0]).cells n).toList.length = n * 3 ∧ ∀ v ∈ (Builtin.zeroCells (Value.agg #[.int .u8 0, .int .u8 0, .int .u8 0]).cells n).toList, v.oneCell' = true := by
  constructor
  · simp [Builtin.zeroCells, Value.cells]
  · intro v hv
    simp [Builtin.zeroCells, Value.cells] at hv
    obtain ⟨i, -, rfl⟩ := hv
    rcases (by omega : i % 3 = 0 ∨ i % 3 = 1 ∨ i % 3 = 2) with e | e | e <;> rw [e] <;> rfl
theorem rzV_set : ∀ (l : List Rw) (i : Nat) (y : Rw), (((rzV l).set (i * 3) (bvv y.m)).set (i * 3 + 1) (bvv y.v)).set (i * 3 + 2) (bvv y.o) = rzV (l.set i y)
  | [], _, _ => rfl
  | a :: l, 0, y => rfl
  | a :: l, i + 1, y => by
    have ih := rzV_set l i y
    have e : ∀ (b : Rw) (l : List Rw), rzV (b :: l) = bvv b.m :: bvv b.v :: bvv b.o :: rzV l := fun _ _ => rfl
    rw [List.set_cons_succ, e, e, ← ih, show (i + 1) * 3 = i * 3 + 1 + 1 + 1 by omega]
    rfl
theorem own_put3 {w : World} {base g n cap i : Nat} {l : List Rw} (h : w.ownsRow base 59 3 (.slice (some ⟨g, 0, none⟩) n cap) n (rzV l)) (y : Rw) :
    (((w.setCell ⟨g, i * 3, none⟩ (.int .u8 y.m.toNat)).setCell ⟨g, i * 3 + 1, none⟩ (.int .u8 y.v.toNat)).setCell ⟨g, i * 3 + 2, none⟩ (.int .u8 y.o.toNat)).ownsRow base 59 3 (.slice (some ⟨g, 0, none⟩) n cap) n (rzV (l.set i y)) := by
  obtain ⟨o0, -⟩ := h.stored (i * 3) (bvv y.m)
  obtain ⟨o1, -⟩ := o0.stored (i * 3 + 1) (bvv y.v)
  obtain ⟨o2, -⟩ := o1.stored (i * 3 + 2) (bvv y.o)
  rw [rzV_set] at o2
  exact o2
theorem below_cells10 {B b : Nat} {a : World} (hb : B ≤ b) : ∀ (vs : List Value) (o : Nat) (w : World), Below B a w → Below B a (w.setCells b o vs)
  | [], _, _, h => h
  | v :: r, o, w, h => by
    rw [World.setCells]
    exact below_cells10 hb r (o + 1) _ (h.setCell hb _)
theorem row_cells {w : World} {B g n c j : Nat} {L : List Rw} {x : Rw} (h : w.ownsRow B 59 3 (.slice (some ⟨g, 0, none⟩) n c) n (rzV L)) (hn : L.length = n) (hj : L[j]? = some x) :
    w.cell? ⟨g, j * 3, none⟩ = some (.int .u8 x.m.toNat) ∧ w.cell? ⟨g, j * 3 + 1, none⟩ = some (.int .u8 x.v.toNat) ∧ w.cell? ⟨g, j * 3 + 2, none⟩ = some (.int .u8 x.o.toNat) := by
  have hjl := (List.getElem?_eq_some_iff.1 hj).1
  obtain ⟨g', c', e, -, -, -, hc⟩ := own_cellq h (by omega)
  injection e with e _ _
  injection e with e
  injection e with e _ _
  subst e
  obtain ⟨a, b, d⟩ := rzV_at L j x hj
  exact ⟨hc _ _ a, hc _ _ b, hc _ _ d⟩
set_option maxHeartbeats 4000000 in
set_option maxRecDepth 100000 in
theorem compact_any {w : World} {B g c : Nat} {L : List Rw} (h : w.ownsRow B 59 3 (.slice (some ⟨g, 0, none⟩) L.length c) L.length (rzV L)) (hB : B ≤ w.heap.size) (hs : L.Pairwise (fun a b => keyR a ≤ keyR b)) (hl : L.length ≤ 1000000) :
    Calls Tryz.prog 32 #[.slice (some ⟨g, 0, none⟩) L.length c] w fun e w' => ∃ v, e = .returned v ∧ (∃ R : List Rw, R.Pairwise (fun a b => keyR a < keyR b) ∧ (∀ x, x ∈ R ↔ x ∈ L) ∧ RwsAt w' w'.heap.size v R) ∧ Below B w w' := by
  have EQh := Lib.hid (fun a b w => eq_row a b w)
  have hst := Lib.hid (fun k hk hne x hx hy => CpI.start (L := L) (k := k) hk hs hne (x := x) hx hy)
  have hall := Lib.hid (fun hne => rise_all (L := L) hs hne)
  have hg := h.lt g rfl
  have hnc : L.length ≤ c := by
    rcases h.2 with ⟨e, h0⟩ | ⟨g', cap, cur, e, -, -, h, -⟩
    · cases e
    · injection e with _ _ e; omega
  have hsame := Lib.hid (fun E p r (h : CpI L E p r) x hx hy => CpI.same h (x := x) hx hy)
  have hmore := Lib.hid (fun E p r (h : CpI L E p r) x y hx hy hne => CpI.more h hs (x := x) (y := y) hx hy hne)
  clear hs
  generalize hn : L.length = n at *
  replace hn := Lib.hid hn
  go_enter Tryz.func32, Tryz.ntmps32
  by_cases h2 : n < 2
  · have d2 : decide ((n : Int) < 2) = true := decide_eq_true (by omega)
    have hR := Lib.hid (hall.out (fun i x y hi => by have := hn.out; omega))
    have hrw := own_rz (rs := L) (by rw [hn.out]; exact h)
    clear hst hall hsame hmore EQh
    go_wp2
    go_ret
    exact ⟨_, rfl, ⟨L, hR.out, fun x => Iff.rfl, hrw⟩, Below.refl _ _⟩
  · have d2 : decide ((n : Int) < 2) = false := decide_eq_false (by omega)
    go_wp2
    go_loopw [3] (fun t wr => ∃ k : Nat, 1 ≤ k ∧ k ≤ n ∧ t = .int .i64 k ∧ Hid (∀ i x y, i + 1 < k → L[i]? = some x → L[i + 1]? = some y → keyR x ≠ keyR y) ∧ Below w.heap.size w wr) (fun t _ => n - (intOf t).toNat)
    case atStart => exact ⟨1, by omega, by omega, rfl, Lib.hid (by omega), Below.refl _ _⟩
    case round =>
      obtain ⟨k, hk1, hkn, rfl, hne, hb⟩ := hrel
      by_cases hlt : k < n
      · obtain ⟨j, rfl⟩ : ∃ j, k = j + 1 := ⟨k - 1, by omega⟩
        have hd : decide (((j + 1 : Nat) : Int) < (n : Int)) = true := decide_eq_true (by omega)
        obtain ⟨x, hx⟩ : ∃ x, L[j + 1]? = some x := ⟨_, List.getElem?_eq_getElem (by have := hn.out; omega)⟩
        obtain ⟨y, hy⟩ : ∃ y, L[j]? = some y := ⟨_, List.getElem?_eq_getElem (by have := hn.out; omega)⟩
        have hown := owns_below h hb
        obtain ⟨x0, x1, x2⟩ := row_cells hown hn.out hx
        obtain ⟨y0, y1, y2⟩ := row_cells hown hn.out hy
        have X0 := fun z : After wr => After.cell z x0
        have X1 := fun z : After wr => After.cell z x1
        have X2 := fun z : After wr => After.cell z x2
        have Y0 := fun z : After wr => After.cell z y0
        have Y1 := fun z : After wr => After.cell z y1
        have Y2 := fun z : After wr => After.cell z y2
        have E := EQh.out x y
        clear x0 x1 x2 y0 y1 y2
        have hq : (decide (x.m = y.m ∧ x.v = y.v ∧ x.o = y.o) = true) ↔ x = y := by
          rw [decide_eq_true_iff]
          cases x; cases y
          simp
        have hq := Lib.hid hq
        generalize decide (x.m = y.m ∧ x.v = y.v ∧ x.o = y.o) = q at *
        go_upto_region 6 with (fail)
        refine wp_region_after (by kernel_rfl) (by kernel_rfl) ?_
        repeat (first | go_big_quiet_step (fail))
        refine wpQuiet_nil ?_
        intro z
        have hbz := hb.trans (z.2.mono hb.size)
        have hoz := owns_below h hbz
        clear X0 X1 X2 Y0 Y1 Y2 E hown hb
        cases q
        · have hne2 : Hid (∀ i x y, i + 1 < j + 1 + 1 → L[i]? = some x → L[i + 1]? = some y → keyR x ≠ keyR y) := Lib.hid (fun i a b hi ha hb' => by
            by_cases e : i = j
            · subst e
              rw [hy] at ha
              rw [hx] at hb'
              injection ha with ha
              injection hb' with hb'
              subst ha
              subst hb'
              intro hk
              have := hq.out.2 (keyR_inj hk.symm)
              cases this
            · exact hne.out i a b (by omega) ha hb')
          clear hne hq hx hy hoz hst hall hsame hmore
          go_wp2
          go_roundw
          case rel => exact ⟨j + 1 + 1, by omega, by omega, by go_num, hne2, hbz⟩
          case measure => simp [intOf]; omega
        · have exy := hq.out.1 rfl
          subst exy
          have hcp := Lib.hid (hst.out (j + 1) (by omega) hne.out x hx hy)
          have hck : ¬ c = j + 1 := by omega
          clear hst hall hne hq hx hy hd
          generalize z.1 = w1 at *
          have hB1 : Below B w w1 := hbz.mono hB
          go_wp2
          go_loopw [3, 5] (fun t u wr => ∃ (p q : Nat) (E : List Rw), t = .int .i64 p ∧ u = .int .i64 q ∧ 1 ≤ q ∧ q ≤ n - (j + 1) ∧ Hid (CpI L E p (j + 1 + q)) ∧ wr.ownsRow B 59 3 (.slice (some ⟨g, 0, none⟩) n c) n (rzV E) ∧ Below B w wr) (fun _ u _ => n - (j + 1) - (intOf u).toNat)
          case atStart => exact ⟨j + 1, 1, L, by go_num, rfl, by omega, by omega, hcp, hoz, hB1⟩
          case round =>
            clear hcp hoz hB1 hbz
            obtain ⟨p, q, E, rfl, rfl, hq1, hqn, hI, hoE, hBr⟩ := hrel
            have hpr := hI.out.lt
            have hEl : Hid (E.length = n) := Lib.hid (hI.out.len.trans hn.out)
            by_cases hql : q < n - (j + 1)
            · obtain ⟨i, rfl⟩ : ∃ i, q = i + 1 := ⟨q - 1, by omega⟩
              have hd : decide (((i + 1 : Nat) : Int) < ((n - (j + 1) : Nat) : Int)) = true := decide_eq_true (by omega)
              obtain ⟨x, hx⟩ : ∃ x, L[j + 1 + (i + 1)]? = some x := ⟨_, List.getElem?_eq_getElem (by have := hn.out; omega)⟩
              obtain ⟨y, hy⟩ : ∃ y, L[j + 1 + i]? = some y := ⟨_, List.getElem?_eq_getElem (by have := hn.out; omega)⟩
              obtain ⟨x0, x1, x2⟩ := row_cells hoE hEl.out (((hI.out.rest _ (by omega)).trans hx))
              obtain ⟨y0, y1, y2⟩ := row_cells hoE hEl.out (((hI.out.rest _ (by omega)).trans hy))
              rw [show (j + 1 + (i + 1)) * 3 = (j + 1) * 3 + (i + 1) * 3 by omega] at x0 x1 x2
              rw [show (j + 1 + i) * 3 = (j + 1) * 3 + i * 3 by omega] at y0 y1 y2
              have X0 := fun z : After wr => After.cell z x0
              have X1 := fun z : After wr => After.cell z x1
              have X2 := fun z : After wr => After.cell z x2
              have Y0 := fun z : After wr => After.cell z y0
              have Y1 := fun z : After wr => After.cell z y1
              have Y2 := fun z : After wr => After.cell z y2
              have EQ1 := EQh.out x y
              have hs1 := Lib.hid (hsame.out E p (j + 1 + (i + 1)) hI.out)
              have hm1 := Lib.hid (hmore.out E p (j + 1 + (i + 1)) hI.out x y hx hy)
              have hxy := Lib.hid (And.intro hx hy)
              have hq : (decide (x.m = y.m ∧ x.v = y.v ∧ x.o = y.o) = true) ↔ x = y := by
                rw [decide_eq_true_iff]
                cases x; cases y
                simp
              have hq := Lib.hid hq
              generalize decide (x.m = y.m ∧ x.v = y.v ∧ x.o = y.o) = b at *
              clear x0 x1 x2 y0 y1 y2 EQh hx hy hsame hmore
              go_upto_region 11 with (fail)
              refine wp_region_after (by kernel_rfl) (by kernel_rfl) ?_
              repeat (first | go_big_quiet_step (fail))
              refine wpQuiet_nil ?_
              intro z
              have hBz : Below B w z.1 := hBr.trans (z.2.mono (Nat.le_trans hB hBr.size))
              have hoz := owns_below hoE z.2
              have hX := Lib.hid (And.intro (X0 z) (And.intro (X1 z) (X2 z)))
              clear X0 X1 X2 Y0 Y1 Y2 EQ1 hoE hBr
              generalize z.1 = wz at *
              cases b
              · have hI2 := Lib.hid (hm1.out (fun e => by
                  have := hq.out.2 (keyR_inj e.symm)
                  cases this))
                have df := hoz.frozenAt
                obtain ⟨pr, hpx⟩ : ∃ pr, E[p]? = some pr := ⟨_, List.getElem?_eq_getElem (by have := hEl.out; omega)⟩
                obtain ⟨p0, p1, p2⟩ := row_cells hoz hEl.out hpx
                have hoz2 := own_put3 (i := p) hoz x
                have hBz2 : Below B w (((wz.setCell ⟨g, p * 3, none⟩ (.int .u8 x.m.toNat)).setCell ⟨g, p * 3 + 1, none⟩ (.int .u8 x.v.toNat)).setCell ⟨g, p * 3 + 2, none⟩ (.int .u8 x.o.toNat)) := ((hBz.setCell hg.1 _).setCell hg.1 _).setCell hg.1 _
                obtain ⟨x0, x1, x2⟩ := hX.out
                have I2 := Lib.hid (And.intro hoz2 hBz2)
                have hpn : p < n := by omega
                have hpd : decide ((p : Int) < (n : Int)) = true := decide_eq_true (by omega)
                clear hq hs1 hm1 hxy hoz hBz hoz2 hBz2 hX hpx
                go_wp2
                · rename_i hh; exact absurd hh (by rw [df]; decide)
                · rename_i hh; exact absurd hh (by rw [df]; decide)
                · rename_i hh; exact absurd hh (by rw [df]; decide)
                go_roundw
                case rel => exact ⟨p + 1, i + 1 + 1, E.set p x, by go_num, by go_num, by omega, by omega, hI2, I2.out.1, I2.out.2⟩
                case measure => simp [intOf]; omega
              · have exy := hq.out.1 rfl
                subst exy
                have hI2 := Lib.hid (hs1.out x hxy.out.1 hxy.out.2)
                clear hq hs1 hm1 hxy hX
                go_wp2
                go_roundw
                case rel => exact ⟨p, i + 1 + 1, E, rfl, by go_num, by omega, by omega, hI2, hoz, hBz⟩
                case measure => simp [intOf]; omega
            · have e : j + 1 + q = n := by omega
              have hpn : p < n := by omega
              have hd : decide ((q : Int) < ((n - (j + 1) : Nat) : Int)) = false := decide_eq_false (by omega)
              have hcp : ¬ c = p := by omega
              obtain ⟨hzl, hz1⟩ := zeros_rw (n - p)
              have hfr : ∀ a, wr.frozen? ⟨g, a, none⟩ = false := hoE.frozenAt
              have hrz := rzV_len E
              have hclr := fun ty => run_clear_k (P := Tryz.prog) wr 33 59 ty _ _ Tryz.underlying33 Tryz.zeroValue59 g (p * 3) (n - p) (c - p) (by omega) rfl hz1
                (fun a ha => by
                  rw [hzl] at ha
                  rw [hoE.cellAt (p * 3 + a) (by omega), List.getElem?_eq_getElem (by have := hEl.out; omega)]
                  rfl) (fun a _ => hfr _)
              generalize (Builtin.zeroCells (Value.agg #[.int .u8 0, .int .u8 0, .int .u8 0]).cells (n - p)).toList = zs at *
              have hBw : Below B w (wr.setCells g (p * 3) zs) := below_cells10 hg.1 zs (p * 3) wr hBr
              have hR : RwsAt (wr.setCells g (p * 3) zs) (wr.setCells g (p * 3) zs).heap.size (.slice (some ⟨g, 0, none⟩) p c) (E.take p) := by
                have hpl : (E.take p).length = p := by rw [List.length_take]; have := hEl.out; omega
                refine ⟨some ⟨g, 0, none⟩, c, by rw [hpl], by omega, fun _ => ⟨g, 0, rfl, Nat.lt_of_lt_of_le hg.2 hBw.size, fun a x hx => ?_⟩⟩
                have hap : a < p := by have := (List.getElem?_eq_some_iff.1 hx).1; omega
                rw [List.getElem?_take_of_lt hap] at hx
                obtain ⟨x0, x1, x2⟩ := row_cells hoE hEl.out hx
                rw [Nat.zero_add]
                refine ⟨?_, ?_, ?_⟩
                · rw [World.cell?_setCells_out _ _ _ _ _ (fun _ _ => .inl (by show a * 3 < p * 3; omega))]; exact x0
                · rw [World.cell?_setCells_out _ _ _ _ _ (fun _ _ => .inl (by show a * 3 + 1 < p * 3; omega))]; exact x1
                · rw [World.cell?_setCells_out _ _ _ _ _ (fun _ _ => .inl (by show a * 3 + 2 < p * 3; omega))]; exact x2
              have hres := Lib.hid (show ∃ R : List Rw, R.Pairwise (fun a b => keyR a < keyR b) ∧ (∀ x, x ∈ R ↔ x ∈ L) ∧ RwsAt (wr.setCells g (p * 3) zs) (wr.setCells g (p * 3) zs).heap.size (.slice (some ⟨g, 0, none⟩) p c) R from
                ⟨E.take p, hI.out.rise, fun x => by rw [hI.out.mem, List.take_of_length_le (by have := hn.out; omega)], hR⟩)
              have hBw := Lib.hid hBw
              have hpc : p ≤ c := by omega
              clear hsame hmore hI hEl hR hz1 hzl hrz hoE hBr hfr e EQh
              go_wp2
              go_ret
              exact ⟨_, rfl, hres.out, hBw.out⟩
      · obtain rfl : k = n := by omega
        have hR := Lib.hid (hall.out (fun i x y hi => hne.out i x y (by have := hn.out; omega)))
        have hB1 : Below B w wr := hb.mono hB
        have hrw := own_rz (rs := L) (by rw [hn.out]; exact owns_below h hb)
        have hd : decide ((k : Int) < (k : Int)) = false := decide_eq_false (by omega)
        clear hst hall hsame hmore EQh hne hb
        go_wp2
        go_ret
        exact ⟨_, rfl, ⟨L, hR.out, fun x => Iff.rfl, hrw⟩, hB1⟩
end Go.Proofs.YtehpccanjlaokaaGreat
