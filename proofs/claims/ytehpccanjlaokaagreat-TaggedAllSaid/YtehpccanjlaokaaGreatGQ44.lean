/- slices.Insert at a slice of cubes of the call's own. -/
import Derived.Test.YtehpccanjlaokaaGreatGQ43
import Derived.Lib.AppendZerosOnto
import Derived.Lib.Overlaps
import Derived.Deep.RegionLaw
namespace Go.Proofs.YtehpccanjlaokaaGreat
open Go.RowKit Go.Joins

/-- copy, at elements of more cells than one. -/
theorem run_copy_k {P : Program} (w : World) (dT sT ty elem : TypeId) (sz g o dLen dCap : Nat) (a : Addr) (sLen sCap : Nat) (cur : Array Value) (t : TypeId) (cs : List Value)
    (hu : P.underlying dT = some (.slice elem)) (hs : (P.info? elem).map (·.size) = some sz)
    (hg : w.heap[g]? = some (.cells cur t (0, 0))) (hn : cs.length = Nat.min sLen dLen * sz)
    (hsrc : ∀ j v, cs[j]? = some v → w.cell? (a.add j) = some v) (hfit : o + cs.length ≤ cur.size) (h1 : ∀ v ∈ cs, v.oneCell' = true) :
    (Builtin.copy_ #[dT, sT] ty #[.slice (some ⟨g, o, none⟩) dLen dCap, .slice (some a) sLen sCap]).run P w =
      .ok (goInt (Nat.min sLen dLen)) (w.setRow g (cur.toList.take o ++ cs ++ cur.toList.drop (o + cs.length)).toArray) := by
  have hl := run_loadCells_list (P := P) w a cs hsrc
  have hst := run_storeCells_at P g o t cs 0 cur w hg (by simpa using hfit) h1
  cases hq : P.info? elem with
  | none => simp [hq] at hs
  | some i =>
    have hi : i.size = sz := by simpa [hq] using hs
    simp [Builtin.copy_, run_underlying hu, Builtin.lenOf, Builtin.firstCells, sizeOf, typeInfo, hq, hi, ← hn, hl, hst]
theorem wp_copy_k {P : Program} (w : World) {o : Oper} {a : Act} {K : Act → World → Prop} {Q : Exit → Act → World → Prop} (d s : Operand) (t t' : TypeId)
    (ho : o.op = .call { callee := .builtin .copy, args := #[d, s], argTypes := #[t, t'] }) (v u : Value) (hd : a.eval d = v) (hs : a.eval s = u) {v' : Value} {w' : World}
    (hr : (Builtin.copy_ #[t, t'] o.type #[v, u]).run P w = .ok v' w') (h : K (a.put o.dst v') w') : o.wp P a w K Q := by
  unfold Oper.wp execOp
  simp only [ho, resolve, invoke, builtin, Sem.run_bind, Sem.run_pure, Result.andThen_ok, List.map_toArray, List.map_cons, List.map_nil, hd, hs, hr]
  exact h
theorem wpList_copy_k {P : Program} (w : World) {ops : Array Oper} {rest : List Oper} {o : Oper} {a : Act} {Q : Exit → Act → World → Prop} (hgd : o.guard = none) (d s : Operand) (t t' : TypeId)
    (ho : o.op = .call { callee := .builtin .copy, args := #[d, s], argTypes := #[t, t'] }) (v u : Value) (hd : a.eval d = v) (hs : a.eval s = u) {v' : Value} {w' : World}
    (hr : (Builtin.copy_ #[t, t'] o.type #[v, u]).run P w = .ok v' w') (h : wpList P ops Q rest (a.put o.dst v') w') : wpList P ops Q (o :: rest) a w :=
  wpList_plain hgd fun _ hK => wp_copy_k w d s t t' ho v u hd hs hr (hK _ _ h)
theorem step_copy_k {P : Program} {ops : Array Oper} {o : Oper} {a : Act} {w : World} {K : Act → World → Prop} {Q : Exit → Act → World → Prop} {E : Prop}
    (hg : o.guard = none) (d x : Operand) (dT sT : TypeId) (hop : o.op = Op.call { callee := Callee.builtin Builtin.copy, args := #[d, x], argTypes := #[dT, sT] })
    (v u : Value) (hd : a.eval d = v) (hx : a.eval x = u) {v' : Value} {w' : World} (hr : (Builtin.copy_ #[dT, sT] o.type #[v, u]).run P w = .ok v' w') (hK : K (a.put o.dst v') w') :
    if Region.wanted o (yielded ops a.tmps) = true then Oper.wp P o a w K Q else E := by
  have hw : Region.wanted o (yielded ops a.tmps) = true := by simp [Region.wanted, hg]
  rw [if_pos hw]
  exact wp_copy_k w d x dT sT hop v u hd hx hr hK
/-- Two stretches are laid one behind the other. -/
theorem splice_two {R a b : List Value} {p : Nat} (h : p + a.length + b.length ≤ R.length) :
    let S1 := R.take p ++ a ++ R.drop (p + a.length)
    let S2 := S1.take (p + a.length) ++ b ++ S1.drop (p + a.length + b.length)
    S2.length = R.length ∧ S2.take (p + a.length + b.length) = R.take p ++ a ++ b := by
  intro S1 S2
  have e1 : (R.take p ++ a).length = p + a.length := by rw [List.length_append, List.length_take]; omega
  have h1 : S1.length = R.length := by
    show (R.take p ++ a ++ R.drop (p + a.length)).length = _
    rw [List.length_append, e1, List.length_drop]; omega
  have t1 : S1.take (p + a.length) = R.take p ++ a := by rw [← e1]; exact List.take_left
  have e2 : (S1.take (p + a.length) ++ b).length = p + a.length + b.length := by rw [List.length_append, List.length_take]; omega
  refine ⟨?_, ?_⟩
  · show (S1.take (p + a.length) ++ b ++ S1.drop (p + a.length + b.length)).length = _
    rw [List.length_append, e2, List.length_drop]; omega
  · show (S1.take (p + a.length) ++ b ++ S1.drop (p + a.length + b.length)).take (p + a.length + b.length) = _
    rw [← e2, List.take_left, t1]
theorem splice_back {R a b : List Value} {p : Nat} (h : p + a.length + b.length ≤ R.length) :
    let S1 := R.take (p + a.length) ++ b ++ R.drop (p + a.length + b.length)
    let S2 := S1.take p ++ a ++ S1.drop (p + a.length)
    S2.length = R.length ∧ S2.take (p + a.length + b.length) = R.take p ++ a ++ b := by
  intro S1 S2
  have e1 : (R.take (p + a.length)).length = p + a.length := by rw [List.length_take]; omega
  have e2 : (R.take (p + a.length) ++ b).length = p + a.length + b.length := by rw [List.length_append, e1]
  have h1 : S1.length = R.length := by
    show (R.take (p + a.length) ++ b ++ R.drop (p + a.length + b.length)).length = _
    rw [List.length_append, e2, List.length_drop]; omega
  have t1 : S1.take p = R.take p := by
    show (R.take (p + a.length) ++ b ++ R.drop (p + a.length + b.length)).take p = _
    rw [List.append_assoc, List.take_append_of_le_length (by omega), List.take_take, Nat.min_eq_left (by omega)]
  have d1 : S1.drop (p + a.length) = b ++ R.drop (p + a.length + b.length) := by
    show (R.take (p + a.length) ++ b ++ R.drop (p + a.length + b.length)).drop (p + a.length) = _
    rw [List.append_assoc]
    have := List.drop_left (l₁ := R.take (p + a.length)) (l₂ := b ++ R.drop (p + a.length + b.length))
    rwa [e1] at this
  have e3 : (R.take p ++ a ++ b).length = p + a.length + b.length := by simp only [List.length_append, List.length_take]; omega
  refine ⟨?_, ?_⟩
  · show (S1.take p ++ a ++ S1.drop (p + a.length)).length = _
    simp only [List.length_append, List.length_take, List.length_drop, h1]; omega
  · show (S1.take p ++ a ++ S1.drop (p + a.length)).take (p + a.length + b.length) = _
    rw [t1, d1, ← List.append_assoc, ← e3, List.take_left]
theorem cbsV_len : ∀ cs : List Cb, (cbsV cs).length = cs.length * 2
  | [] => rfl
  | x :: cs => by
    have := cbsV_len cs
    unfold cbsV at *
    rw [List.flatMap_cons, List.length_append, this, List.length_cons]
    simp
    omega
theorem cbsV_app (a b : List Cb) : cbsV (a ++ b) = cbsV a ++ cbsV b := by unfold cbsV; simp
theorem cbsV_take (cs : List Cb) (i : Nat) : (cbsV cs).take (i * 2) = cbsV (cs.take i) := by
  rcases Nat.lt_or_ge i cs.length with h | h
  · have e : cbsV cs = cbsV (cs.take i) ++ cbsV (cs.drop i) := by rw [← cbsV_app, List.take_append_drop]
    have l : (cbsV (cs.take i)).length = i * 2 := by rw [cbsV_len, List.length_take]; omega
    rw [e, ← l, List.take_left]
  · rw [List.take_of_length_le (by rw [cbsV_len]; omega), List.take_of_length_le h]
theorem cbsV_drop (cs : List Cb) (i : Nat) : (cbsV cs).drop (i * 2) = cbsV (cs.drop i) := by
  rcases Nat.lt_or_ge i cs.length with h | h
  · have e : cbsV cs = cbsV (cs.take i) ++ cbsV (cs.drop i) := by rw [← cbsV_app, List.take_append_drop]
    have l : (cbsV (cs.take i)).length = i * 2 := by rw [cbsV_len, List.length_take]; omega
    rw [e, ← l, List.drop_left]
  · rw [List.drop_of_length_le (by rw [cbsV_len]; omega), List.drop_of_length_le h]; rfl
theorem cbsV_one (cs : List Cb) : ∀ v ∈ cbsV cs, v.oneCell' = true := by
  intro v hv
  unfold cbsV at hv
  obtain ⟨x, -, hx⟩ := List.mem_flatMap.1 hv
  simp only [List.mem_cons, List.not_mem_nil, or_false] at hx
  rcases hx with rfl | rfl <;> rfl
/-- What Insert makes. -/
def insC (cs : List Cb) (i : Nat) (x : Cb) : List Cb := cs.take i ++ x :: cs.drop i
theorem insC_len {cs : List Cb} {i : Nat} (h : i ≤ cs.length) (x : Cb) : (insC cs i x).length = cs.length + 1 := by
  unfold insC
  rw [List.length_append, List.length_cons, List.length_take, List.length_drop]
  omega
theorem insC_cells (cs : List Cb) (i : Nat) (x : Cb) : cbsV (insC cs i x) = cbsV (cs.take i) ++ [bvv x.m, bvv x.v] ++ cbsV (cs.drop i) := by
  unfold insC
  rw [cbsV_app, List.append_assoc]
  rfl
set_option maxHeartbeats 1000000 in
set_option maxRecDepth 100000 in
theorem insert_end (B : Nat) (V : Value) (cs : List Cb) (x : Cb) (vb : Nat) (w : World) (hl : cs.length ≤ 65536) (hB : B ≤ w.heap.size) (hown : w.ownsRow B 57 2 V cs.length (cbsV cs))
    (hv : w.heap[vb]? = some (.cells #[bvv x.m, bvv x.v] 57 (0, 0))) :
    Calls Tryz.prog 60 #[V, .int .i64 cs.length, .slice (some ⟨vb, 0, none⟩) 1 1] w fun e w' =>
      ∃ V', e = .returned V' ∧ w'.ownsRow B 57 2 V' (cs.length + 1) (cbsV (cs ++ [x])) ∧ w.grownBy w' V.ownBlock := by
  obtain ⟨i0, hi0, hz0, hz1, hz2⟩ := info_parts Tryz.infoCube9
  have hcell : ∀ j u, [bvv x.m, bvv x.v][j]? = some u → w.cell? ((⟨vb, 0, none⟩ : Addr).add j) = some u := fun j u hj => by
    obtain ⟨v0, v1, -⟩ := now2 hv rfl
    rw [Addr.add_lit, Nat.zero_add]
    match j, hj with
    | 0, hj => simp at hj; rw [← hj]; exact v0
    | 1, hj => simp at hj; rw [← hj]; exact v1
  have hone : ∀ u ∈ [bvv x.m, bvv x.v], u.oneCell' = true := fun u hu => cbsV_one [x] u hu
  rw [cbsV_snoc]
  generalize bvv x.m = b0 at *
  generalize bvv x.v = b1 at *
  obtain ⟨A, c, rfl⟩ := own_form hown
  have hc : cs.length ≤ c := by
    rcases hown.2 with ⟨e, h0⟩ | ⟨g, cap, cur, e, -, -, h, -⟩
    · omega
    · injection e with _ _ e; omega
  have hd : decide ((cs.length : Int) ≤ (cs.length : Int)) = true := decide_eq_true (Int.le_refl _)
  generalize hn : cs.length = n at *
  clear hn
  by_cases hcn : c = n
  · subst hcn
    go_enter Tryz.func60, Tryz.ntmps60
    go_wp2_with (at_builtin; go_loud (refine wpList_append_own _ rfl _ _ 65 rfl B 57 i0 (.agg #[.int .u8 0, .int .u8 0]) 2 2 Tryz.underlying65 hi0 hz0 hz1 hz2 rfl (by decide) _ _ _ rfl hown ⟨vb, 0, none⟩ 1 1 [b0, b1] rfl rfl hcell hone ?c3 ?c4 hB ?_))
    case c3 => unfold maxLen; omega
    case c4 => omega
    intro v' w1 hown1 hg1 _
    clear hcell hone hv
    go_wp2
    go_ret
    exact ⟨v', rfl, hown1, hg1⟩
  · go_enter Tryz.func60, Tryz.ntmps60
    go_wp2_with (at_builtin; go_loud (refine wpList_append_own _ rfl _ _ 65 rfl B 57 i0 (.agg #[.int .u8 0, .int .u8 0]) 2 2 Tryz.underlying65 hi0 hz0 hz1 hz2 rfl (by decide) _ _ _ rfl hown ⟨vb, 0, none⟩ 1 1 [b0, b1] rfl rfl hcell hone ?c3 ?c4 hB ?_))
    case c3 => unfold maxLen; omega
    case c4 => omega
    intro v' w1 hown1 hg1 _
    clear hcell hone hv
    go_wp2
    go_ret
    exact ⟨v', rfl, hown1, hg1⟩
set_option maxHeartbeats 4000000 in
set_option maxRecDepth 100000 in
theorem insert_grow (B g c : Nat) (cs : List Cb) (i : Nat) (x : Cb) (vb : Nat) (w : World) (hl : cs.length ≤ 65536) (hi : i < cs.length) (hc : c = cs.length) (hB : B ≤ w.heap.size) (hown : w.ownsRow B 57 2 (.slice (some ⟨g, 0, none⟩) cs.length c) cs.length (cbsV cs))
    (hv : w.heap[vb]? = some (.cells #[bvv x.m, bvv x.v] 57 (0, 0))) :
    Calls Tryz.prog 60 #[.slice (some ⟨g, 0, none⟩) cs.length c, .int .i64 i, .slice (some ⟨vb, 0, none⟩) 1 1] w fun e w' =>
      ∃ V', e = .returned V' ∧ w'.ownsRow B 57 2 V' (cs.length + 1) (cbsV (insC cs i x)) ∧ w.grownBy w' none := by
  obtain ⟨i0, hi0, hz0, hz1, hz2⟩ := info_parts Tryz.infoCube9
  obtain ⟨hgB, hgw⟩ := hown.lt g rfl
  have hvw : vb < w.heap.size := size_of_block hv
  have hsz : (Tryz.prog.info? 57).map (·.size) = some 2 := by rw [hi0]; simp [hz1]
  have hlen := cbsV_len cs
  have ha : ([bvv x.m, bvv x.v] : List Value).length = 2 := rfl
  have hbl : (cbsV (cs.drop i)).length = (cs.length - i) * 2 := by rw [cbsV_len, List.length_drop]
  have hpl : (cbsV (cs.take i)).length = i * 2 := by rw [cbsV_len, List.length_take]; omega
  have h1a : ∀ u ∈ [bvv x.m, bvv x.v], u.oneCell' = true := fun u hu => cbsV_one [x] u hu
  have h1b := cbsV_one (cs.drop i)
  have hcells := hown.cells (g := g) rfl
  have hva : ∀ j u, [bvv x.m, bvv x.v][j]? = some u → w.cell? ((⟨vb, 0, none⟩ : Addr).add j) = some u := fun j u hj => by
    obtain ⟨v0, v1, -⟩ := now2 hv rfl
    rw [Addr.add_lit, Nat.zero_add]
    match j, hj with
    | 0, hj => simp at hj; rw [← hj]; exact v0
    | 1, hj => simp at hj; rw [← hj]; exact v1
  have hdr : ∀ j u, (cbsV (cs.drop i))[j]? = some u → w.cell? ⟨g, i * 2 + j, none⟩ = some u := fun j u hj => by
    rw [← cbsV_drop, List.getElem?_drop] at hj
    have := hcells _ _ hj
    rwa [Addr.add_lit, Nat.zero_add] at this
  have hold : (Builtin.firstCells i0.size i (.slice (some ⟨g, 0, none⟩) i c)).run Tryz.prog w.drew = .ok (cbsV (cs.take i)).toArray w.drew := by
    rw [hz1]
    exact run_firstCells_some w.drew 2 i ⟨g, 0, none⟩ i c (cbsV (cs.take i)) (by rw [hpl]) (fun j u hj => by
      rw [← cbsV_take, List.getElem?_take] at hj
      split at hj
      · exact hcells _ _ hj
      · cases hj)
  rw [insC_cells]
  have hgr := grownCap_ge w (cs.length + 1) c 57
  have hgm := grownCap_le_maxLen w (cs.length + 1) c 57 (by unfold maxLen; omega)
  have hrz : ∀ ty, (Builtin.append_ #[65, 3] ty #[.slice (some ⟨g, 0, none⟩) i c, .int .i64 ((cs.length : Int) + 1 - (i : Int))]).run Tryz.prog w =
      .ok (.slice (some ⟨w.heap.size, 0, none⟩) (cs.length + 1) (grownCap w (cs.length + 1) c 57)) (w.drew.alloc (.cells ((cbsV (cs.take i)).toArray ++ Builtin.zeroCells (Value.agg #[.int .u8 0, .int .u8 0]).cells (cs.length + 1 - i) ++ Builtin.zeroCells (Value.agg #[.int .u8 0, .int .u8 0]).cells (grownCap w (cs.length + 1) c 57 - (cs.length + 1))) 57)) := fun ty => by
    have h := Lib.run_append_grow_zeros w 65 3 ty 57 i0 _ .i64 .i64 Tryz.underlying65 Tryz.underlying3 hi0 hz0 (some ⟨g, 0, none⟩) i c (cbsV (cs.take i)) hold (cs.length + 1 - i) (by omega) (by omega) (by omega) (by omega) (by rw [hz2]; omega) (by rw [hz2]; exact growslice_fits (by omega) (by omega))
    rw [show i + (cs.length + 1 - i) = cs.length + 1 by omega] at h
    rw [show (cs.length : Int) + 1 - (i : Int) = ((cs.length + 1 - i : Nat) : Int) by omega]
    exact h
  obtain ⟨G, hG⟩ : ∃ G, G = grownCap w (cs.length + 1) c 57 := ⟨_, rfl⟩
  rw [← hG] at hrz hgr hgm
  obtain ⟨ROW, hROW⟩ : ∃ ROW : Array Value, ROW = (cbsV (cs.take i)).toArray ++ Builtin.zeroCells (Value.agg #[.int .u8 0, .int .u8 0]).cells (cs.length + 1 - i) ++ Builtin.zeroCells (Value.agg #[.int .u8 0, .int .u8 0]).cells (G - (cs.length + 1)) := ⟨_, rfl⟩
  rw [← hROW] at hrz
  have hz2c : (Value.agg #[.int .u8 0, .int .u8 0]).cells.size = 2 := by decide
  have hRl : ROW.size = G * 2 := by
    rw [hROW, Array.size_append, Array.size_append, size_zeroCells, size_zeroCells, hz2c, List.size_toArray, hpl]
    omega
  have hRt : ROW.toList.take (i * 2) = cbsV (cs.take i) := by
    rw [hROW, Array.toList_append, Array.toList_append, ← hpl, List.append_assoc]
    exact List.take_left
  have hfin : (cbsV (cs.take i) ++ [bvv x.m, bvv x.v] ++ cbsV (cs.drop i)).length = (cs.length + 1) * 2 := by rw [List.length_append, List.length_append, hpl, ha, hbl]; omega
  clear hz0 hz1 hz2 hi0 hold hROW hlen hcells hG
  generalize ([bvv x.m, bvv x.v] : List Value) = a at *
  generalize cbsV (cs.take i) = pr at *
  generalize cbsV (cs.drop i) = b at *
  have hn1 : ¬ ((i : Int) = (cs.length : Int)) := by omega
  have hn2 : (c : Int) < (cs.length : Int) + 1 := by omega
  have hi0 : ¬ (i : Int) < 0 := by omega
  have hi1 : (i : Int) ≤ (cs.length : Int) := by omega
  have hci : ¬ (c = i) := by omega
  have hGi : ¬ (G = i) := by omega
  have hGi1 : ¬ (G = i + 1) := by omega
  have hic : (i : Int) ≤ (c : Int) := by omega
  have hic' : i ≤ c := by omega
  have hcn : Hid (c = cs.length) := Lib.hid hc
  clear hc
  generalize hn : cs.length = n at *
  clear hn
  obtain ⟨W1, hW1⟩ : ∃ W1, W1 = w.drew.alloc (.cells ROW 57) := ⟨_, rfl⟩
  have hN1 : W1.heap[w.heap.size]? = some (.cells ROW 57 (0, 0)) := by rw [hW1]; exact heap_alloc_new w.drew _
  have hO1 : ∀ k, k < w.heap.size → W1.heap[k]? = w.heap[k]? := fun k hk => by rw [hW1]; exact heap_alloc_old w.drew _ hk
  obtain ⟨S1, hS1⟩ : ∃ S1 : Array Value, S1 = (ROW.toList.take (i * 2) ++ a ++ ROW.toList.drop (i * 2 + a.length)).toArray := ⟨_, rfl⟩
  obtain ⟨S2, hS2⟩ : ∃ S2 : Array Value, S2 = (S1.toList.take (i * 2 + a.length) ++ b ++ S1.toList.drop (i * 2 + a.length + b.length)).toArray := ⟨_, rfl⟩
  have hRL : ROW.toList.length = G * 2 := (Array.length_toList (xs := ROW)).trans hRl
  have hsp := splice_two (R := ROW.toList) (a := a) (b := b) (p := i * 2) (by omega)
  have hS1l : S1.size = G * 2 := by
    rw [hS1, List.size_toArray, List.length_append, List.length_append, List.length_take, List.length_drop]; omega
  have hcpA : ∀ (W : World), W.heap = W1.heap → ∀ ty dc, (Builtin.copy_ #[65, 65] ty #[.slice (some ⟨w.heap.size, i * 2, none⟩) (n + 1 - i) dc, .slice (some ⟨vb, 0, none⟩) 1 1]).run Tryz.prog W = .ok (goInt 1) (W.setRow w.heap.size S1) := fun W hW ty dc => by
    have hm1 : Nat.min 1 (n + 1 - i) = 1 := Nat.min_eq_left (by omega)
    have h := run_copy_k W 65 65 ty 57 2 w.heap.size (i * 2) (n + 1 - i) dc ⟨vb, 0, none⟩ 1 1 ROW 57 a Tryz.underlying65 hsz (by rw [hW]; exact hN1) (by rw [hm1, ha])
      (fun j u hj => by
        have := hva j u hj
        rw [Addr.add_lit] at *
        rw [← this]
        exact World.cell?_of_block (by rw [hW]; exact hO1 vb hvw)) (by rw [ha, hRl]; omega) h1a
    rw [hm1, ← hS1] at h
    exact h
  have hcpB : ∀ (W : World), W.heap = (W1.setRow w.heap.size S1).heap → ∀ ty dc sc, (Builtin.copy_ #[65, 65] ty #[.slice (some ⟨w.heap.size, (i + 1) * 2, none⟩) (n + 1 - (i + 1)) dc, .slice (some ⟨g, i * 2, none⟩) (n - i) sc]).run Tryz.prog W = .ok (goInt ((n - i : Nat) : Int)) (W.setRow w.heap.size S2) := fun W hW ty dc sc => by
    have hm1 : Nat.min (n - i) (n + 1 - (i + 1)) = n - i := Nat.min_eq_left (by omega)
    have h := run_copy_k W 65 65 ty 57 2 w.heap.size ((i + 1) * 2) (n + 1 - (i + 1)) dc ⟨g, i * 2, none⟩ (n - i) sc S1 57 b Tryz.underlying65 hsz (by rw [hW]; exact setRow_heap W1 w.heap.size ROW S1 _ _ hN1) (by rw [hm1, hbl])
      (fun j u hj => by
        have := hdr j u hj
        rw [Addr.add_lit]
        rw [← this]
        exact World.cell?_of_block (by rw [hW]; exact (setRow_other W1 w.heap.size g S1 (by omega)).trans (hO1 g hgw))) (by rw [hbl, hS1l]; omega) h1b
    rw [hm1, show (i + 1) * 2 = i * 2 + a.length by rw [ha]; omega, ← hS2] at h
    rw [show (i + 1) * 2 = i * 2 + a.length by rw [ha]; omega]
    exact h
  have hE : Hid (∀ W : World, W.heap = ((W1.setRow w.heap.size S1).setRow w.heap.size S2).heap → W.os = w.os → W.tape = w.tape → W.output = w.output → W.ownsRow B 57 2 (.slice (some ⟨w.heap.size, 0, none⟩) (n + 1) G) (n + 1) (pr ++ a ++ b) ∧ w.grownBy W none) := Lib.hid fun W hW ho ht hu => by
    have hb1 := setRow_heap W1 w.heap.size ROW S1 _ _ hN1
    have hb2 := setRow_heap (W1.setRow w.heap.size S1) w.heap.size S1 S2 _ _ hb1
    have e1 : S1.toList = ROW.toList.take (i * 2) ++ a ++ ROW.toList.drop (i * 2 + a.length) := by rw [hS1]
    have e2 : S2.toList = S1.toList.take (i * 2 + a.length) ++ b ++ S1.toList.drop (i * 2 + a.length + b.length) := by rw [hS2]
    rw [e1] at e2
    refine ⟨⟨hfin, .inr ⟨w.heap.size, G, S2, rfl, hB, by rw [hW]; exact hb2, by omega, hgm, ?_, ?_⟩⟩, ⟨ho, ht, hu, ?_, fun k hk _ => ?_⟩⟩
    · rw [← Array.length_toList, e2]
      exact hsp.1.trans hRL
    · rw [e2, show (n + 1) * 2 = i * 2 + a.length + b.length by rw [ha, hbl]; omega]
      exact hsp.2.trans (by rw [hRt])
    · rw [hW, size_setRow, size_setRow, hW1]; simp
    · rw [hW, setRow_other _ _ _ _ (by omega), setRow_other _ _ _ _ (by omega)]
      exact hO1 k hk
  clear hsp hS1 hS2 hRL hRl hRt hfin hva hdr hN1 hO1 hS1l h1a h1b hbl hpl ha hown hv hsz
  subst hW1
  generalize pr ++ a ++ b = Z at *
  have hw1 : IntKind.i64.wrap ((i : Int) + 1) = (i : Int) + 1 := by rw [IntKind.wrap_i64]; omega
  have hb1 : (0 : Int) ≤ (i : Int) + 1 := by omega
  have htn : ((i : Int) + 1).toNat = i + 1 := by omega
  have hin : i ≤ n := by omega
  have hb3 : (i : Int) ≤ (n : Int) + 1 := by omega
  have hEA : ((w.alloc (.cells ROW 57)).drew).heap = (w.drew.alloc (.cells ROW 57)).heap := rfl
  have hEB : (((w.alloc (.cells ROW 57)).drew.setRow w.heap.size S1).drew).heap = ((w.drew.alloc (.cells ROW 57)).setRow w.heap.size S1).heap := rfl
  go_enter Tryz.func60, Tryz.ntmps60
  go_upto_region 11 with (first
    | (at_builtin; refine Lib.wpList_append_run _ rfl _ _ _ _ rfl _ _ rfl rfl _ _ (hrz _) ?_)
    | (at_builtin; refine wpList_copy_k _ rfl _ _ 65 65 rfl _ _ rfl rfl (hcpA _ hEA _ _) ?_))
  go_region_law (refine step_copy_k rfl _ _ 65 65 rfl (.slice (some ⟨w.heap.size, (i + 1) * 2, none⟩) (n + 1 - (i + 1)) (G - (i + 1))) (.slice (some ⟨g, i * 2, none⟩) (n - i) (c - i)) (by simp [Act.eval, Act.put]) (by simp [Act.eval, Act.put]) (hcpB _ hEB 3 (G - (i + 1)) (c - i)) ?_)
  all_goals
    clear hcpA hcpB hrz
    go_wp2
    go_ret
    refine ⟨_, rfl, ?_⟩
    exact hE.out _ (by rfl) (by rfl) (by rfl) (by rfl)
set_option maxHeartbeats 4000000 in
set_option maxRecDepth 100000 in
theorem insert_shift (B g c : Nat) (cs : List Cb) (i : Nat) (x : Cb) (vb : Nat) (w : World) (hl : cs.length ≤ 65536) (hi : i < cs.length) (hc : cs.length + 1 ≤ c) (hvg : vb ≠ g) (hown : w.ownsRow B 57 2 (.slice (some ⟨g, 0, none⟩) cs.length c) cs.length (cbsV cs))
    (hv : w.heap[vb]? = some (.cells #[bvv x.m, bvv x.v] 57 (0, 0))) :
    Calls Tryz.prog 60 #[.slice (some ⟨g, 0, none⟩) cs.length c, .int .i64 i, .slice (some ⟨vb, 0, none⟩) 1 1] w fun e w' =>
      ∃ V', e = .returned V' ∧ w'.ownsRow B 57 2 V' (cs.length + 1) (cbsV (insC cs i x)) ∧ w.grownBy w' (some g) := by
  obtain ⟨i0, hi0, hz0, hz1, hz2⟩ := info_parts Tryz.infoCube9
  obtain ⟨hgB, hgw⟩ := hown.lt g rfl
  have hsz : (Tryz.prog.info? 57).map (·.size) = some 2 := by rw [hi0]; simp [hz1]
  have hso : ∀ w, (Go.sizeOf 57).run Tryz.prog w = .ok 2 w := fun w => by simp [Go.sizeOf, typeInfo, hi0, hz1]
  have hlen := cbsV_len cs
  have ha : ([bvv x.m, bvv x.v] : List Value).length = 2 := rfl
  have hbl : (cbsV (cs.drop i)).length = (cs.length - i) * 2 := by rw [cbsV_len, List.length_drop]
  have hpl : (cbsV (cs.take i)).length = i * 2 := by rw [cbsV_len, List.length_take]; omega
  have h1a : ∀ u ∈ [bvv x.m, bvv x.v], u.oneCell' = true := fun u hu => cbsV_one [x] u hu
  have h1b := cbsV_one (cs.drop i)
  obtain ⟨cur, hcur, hcm, hcs, hct⟩ : ∃ cur, w.heap[g]? = some (.cells cur 57 (0, 0)) ∧ c ≤ maxLen ∧ cur.size = c * 2 ∧ cur.toList.take (cs.length * 2) = cbsV cs := by
    rcases hown.2 with ⟨e, -⟩ | ⟨g', cap, cur, e, -, hg, -, h1, h2, h3⟩
    · cases e
    · injection e with e0 _ e2
      injection e0 with e0
      injection e0 with e0
      subst e0; subst e2
      exact ⟨cur, hg, h1, h2, h3⟩
  have hct1 : cur.toList.take (i * 2) = cbsV (cs.take i) := by
    rw [← cbsV_take, ← hct, List.take_take, Nat.min_eq_left (by omega)]
  have hct2 : ∀ j u, (cbsV (cs.drop i))[j]? = some u → cur[i * 2 + j]? = some u := fun j u hj => by
    rw [← cbsV_drop, List.getElem?_drop, ← hct, List.getElem?_take] at hj
    split at hj
    · simpa using hj
    · cases hj
  have hva : ∀ j u, [bvv x.m, bvv x.v][j]? = some u → ∀ W : World, W.heap[vb]? = w.heap[vb]? → W.cell? ((⟨vb, 0, none⟩ : Addr).add j) = some u := fun j u hj W hW => by
    obtain ⟨v0, v1, -⟩ := now2 (hW.trans hv) rfl
    rw [Addr.add_lit, Nat.zero_add]
    match j, hj with
    | 0, hj => simp at hj; rw [← hj]; exact v0
    | 1, hj => simp at hj; rw [← hj]; exact v1
  have hov : ∀ lenv cb, (callFunc 89 #[.slice (some ⟨vb, 0, none⟩) 1 1, .slice (some ⟨g, (i + 1) * 2, none⟩) lenv cb]).run Tryz.prog w = .ok (.value (.bool false)) w := fun lenv cb => by
    rw [run_callFunc_extern Tryz.func89 (by kernel_rfl) (by kernel_rfl) (by kernel_rfl) (e := Extern.SlicesOverlaps.overlaps #[65, 65] #[4]) (by kernel_rfl),
      Lib.run_overlaps_apart w 65 4 57 Tryz.underlying65 2 hso ⟨vb, 0, none⟩ ⟨g, (i + 1) * 2, none⟩ 1 1 lenv cb hvg 57 57 2 (c * 2) (by simp [World.shape?, hv]) (by simp [World.shape?, hcur, hcs]) (by omega) (by simp [World.frozen?, hv]) (by simp [World.frozen?, hv])]
    rfl
  rw [insC_cells]
  have hfin : (cbsV (cs.take i) ++ [bvv x.m, bvv x.v] ++ cbsV (cs.drop i)).length = (cs.length + 1) * 2 := by rw [List.length_append, List.length_append, hpl, ha, hbl]; omega
  clear hz0 hz1 hz2 hi0 hlen hct
  generalize ([bvv x.m, bvv x.v] : List Value) = a at *
  generalize cbsV (cs.take i) = pr at *
  generalize cbsV (cs.drop i) = b at *
  have hn1 : ¬ ((i : Int) = (cs.length : Int)) := by omega
  have hn2 : ¬ (c : Int) < (cs.length : Int) + 1 := by omega
  have hn3 : (cs.length : Int) + 1 ≤ (c : Int) := by omega
  have hi0 : ¬ (i : Int) < 0 := by omega
  have hi1 : (i : Int) ≤ (cs.length : Int) := by omega
  have hi2 : (i : Int) ≤ (cs.length : Int) + 1 := by omega
  have hi3 : (i : Int) + 1 ≤ (cs.length : Int) + 1 := by omega
  have hci : ¬ (c = i) := by omega
  have hci1 : ¬ (c = i + 1) := by omega
  have htn0 : ((cs.length : Int) + 1).toNat = cs.length + 1 := by omega
  have hn4 : (0 : Int) ≤ (cs.length : Int) + 1 := by omega
  generalize hn : cs.length = n at *
  clear hn
  obtain ⟨S1, hS1⟩ : ∃ S1 : Array Value, S1 = (cur.toList.take (i * 2 + a.length) ++ b ++ cur.toList.drop (i * 2 + a.length + b.length)).toArray := ⟨_, rfl⟩
  obtain ⟨S2, hS2⟩ : ∃ S2 : Array Value, S2 = (S1.toList.take (i * 2) ++ a ++ S1.toList.drop (i * 2 + a.length)).toArray := ⟨_, rfl⟩
  have hRL : cur.toList.length = c * 2 := (Array.length_toList (xs := cur)).trans hcs
  have hsp := splice_back (R := cur.toList) (a := a) (b := b) (p := i * 2) (by omega)
  have hS1l : S1.size = c * 2 := by
    rw [hS1, List.size_toArray, List.length_append, List.length_append, List.length_take, List.length_drop]; omega
  have hcpB : ∀ (W : World), W.heap = w.heap → ∀ ty dc sc, (Builtin.copy_ #[65, 65] ty #[.slice (some ⟨g, (i + 1) * 2, none⟩) (n + 1 - (i + 1)) dc, .slice (some ⟨g, i * 2, none⟩) (n + 1 - i) sc]).run Tryz.prog W = .ok (goInt ((n - i : Nat) : Int)) (W.setRow g S1) := fun W hW ty dc sc => by
    have hm1 : Nat.min (n + 1 - i) (n + 1 - (i + 1)) = n - i := (Nat.min_eq_right (by omega)).trans (by omega)
    have h := run_copy_k W 65 65 ty 57 2 g ((i + 1) * 2) (n + 1 - (i + 1)) dc ⟨g, i * 2, none⟩ (n + 1 - i) sc cur 57 b Tryz.underlying65 hsz (by rw [hW]; exact hcur) (by rw [hm1, hbl])
      (fun j u hj => by
        rw [Addr.add_lit, cell_of_row W g (i * 2 + j) cur 57 (0, 0) (by rw [hW]; exact hcur)]
        exact hct2 j u hj) (by rw [hbl, hcs]; omega) h1b
    rw [hm1, show (i + 1) * 2 = i * 2 + a.length by rw [ha]; omega, ← hS1] at h
    rw [show (i + 1) * 2 = i * 2 + a.length by rw [ha]; omega]
    exact h
  have hcpA : ∀ (W : World), W.heap = (w.setRow g S1).heap → ∀ ty dc, (Builtin.copy_ #[65, 65] ty #[.slice (some ⟨g, i * 2, none⟩) (n + 1 - i) dc, .slice (some ⟨vb, 0, none⟩) 1 1]).run Tryz.prog W = .ok (goInt 1) (W.setRow g S2) := fun W hW ty dc => by
    have hm1 : Nat.min 1 (n + 1 - i) = 1 := Nat.min_eq_left (by omega)
    have h := run_copy_k W 65 65 ty 57 2 g (i * 2) (n + 1 - i) dc ⟨vb, 0, none⟩ 1 1 S1 57 a Tryz.underlying65 hsz (by rw [hW]; exact setRow_heap w g cur S1 _ _ hcur) (by rw [hm1, ha])
      (fun j u hj => hva j u hj W (by rw [hW]; exact setRow_other w g vb S1 hvg)) (by rw [ha, hS1l]; omega) h1a
    rw [hm1, ← hS2] at h
    exact h
  have hE : Hid (∀ W : World, W.heap = ((w.setRow g S1).setRow g S2).heap → W.os = w.os → W.tape = w.tape → W.output = w.output → W.ownsRow B 57 2 (.slice (some ⟨g, 0, none⟩) (n + 1) c) (n + 1) (pr ++ a ++ b) ∧ w.grownBy W (some g)) := Lib.hid fun W hW ho ht hu => by
    have hb1 := setRow_heap w g cur S1 _ _ hcur
    have hb2 := setRow_heap (w.setRow g S1) g S1 S2 _ _ hb1
    have e1 : S1.toList = cur.toList.take (i * 2 + a.length) ++ b ++ cur.toList.drop (i * 2 + a.length + b.length) := by rw [hS1]
    have e2 : S2.toList = S1.toList.take (i * 2) ++ a ++ S1.toList.drop (i * 2 + a.length) := by rw [hS2]
    rw [e1] at e2
    refine ⟨⟨hfin, .inr ⟨g, c, S2, rfl, hgB, by rw [hW]; exact hb2, by omega, hcm, ?_, ?_⟩⟩, ⟨ho, ht, hu, ?_, fun k hk hne => ?_⟩⟩
    · rw [← Array.length_toList, e2]
      exact hsp.1.trans hRL
    · rw [e2, show (n + 1) * 2 = i * 2 + a.length + b.length by rw [ha, hbl]; omega]
      exact hsp.2.trans (by rw [hct1])
    · rw [hW, size_setRow, size_setRow]
      exact Nat.le_refl _
    · have hkg : k ≠ g := fun e => hne (by rw [e])
      rw [hW, setRow_other _ _ _ _ hkg, setRow_other _ _ _ _ hkg]
  clear hsp hS1 hS2 hRL hct1 hct2 hfin hva hcur hcs hS1l h1a h1b hbl hpl ha hown hv hsz hso
  generalize pr ++ a ++ b = Z at *
  have hw1 : IntKind.i64.wrap ((i : Int) + 1) = (i : Int) + 1 := by rw [IntKind.wrap_i64]; omega
  have hb1 : (0 : Int) ≤ (i : Int) + 1 := by omega
  have htn : ((i : Int) + 1).toNat = i + 1 := by omega
  have hin : i ≤ n := by omega
  have hEA : (w.drew).heap = w.heap := rfl
  have hEB : (w.drew.setRow g S1).heap = (w.setRow g S1).heap := rfl
  go_enter Tryz.func60, Tryz.ntmps60
  go_upto_region 15 with (simp only [hov])
  go_region_law (refine step_copy_k rfl _ _ 65 65 rfl (.slice (some ⟨g, (i + 1) * 2, none⟩) (n + 1 - (i + 1)) (c - (i + 1))) (.slice (some ⟨g, i * 2, none⟩) (n + 1 - i) (c - i)) (by simp [Act.eval, Act.put]) (by simp [Act.eval, Act.put]) (hcpB _ hEA 3 (c - (i + 1)) (c - i)) ?_)
  all_goals
    clear hcpB hov
    go_wp2_with (at_builtin; refine wpList_copy_k _ rfl _ _ 65 65 rfl _ _ rfl rfl (hcpA _ hEB _ _) ?_)
    go_ret
    refine ⟨_, rfl, ?_⟩
    exact hE.out _ (by rfl) (by rfl) (by rfl) (by rfl)
/-- slices.Insert of one cube, whatever room there is. -/
theorem insert_any (B : Nat) (V : Value) (cs : List Cb) (i : Nat) (x : Cb) (vb : Nat) (w : World) (hl : cs.length ≤ 65536) (hi : i ≤ cs.length) (hB : B ≤ w.heap.size) (hvb : V.ownBlock ≠ some vb) (hown : w.ownsRow B 57 2 V cs.length (cbsV cs))
    (hv : w.heap[vb]? = some (.cells #[bvv x.m, bvv x.v] 57 (0, 0))) :
    Calls Tryz.prog 60 #[V, .int .i64 i, .slice (some ⟨vb, 0, none⟩) 1 1] w fun e w' =>
      ∃ V', e = .returned V' ∧ w'.ownsRow B 57 2 V' (insC cs i x).length (cbsV (insC cs i x)) ∧ w.grownBy w' V.ownBlock := by
  rw [insC_len hi]
  by_cases hin : i = cs.length
  · subst hin
    have e : insC cs cs.length x = cs ++ [x] := by unfold insC; rw [List.take_length, List.drop_length]
    rw [e]
    exact insert_end B V cs x vb w hl hB hown hv
  · obtain ⟨g, c, rfl⟩ := ownsRow_form hown (by omega)
    have hc : cs.length ≤ c := by
      rcases hown.2 with ⟨e, h0⟩ | ⟨g, cap, cur, e, -, -, h, -⟩
      · cases e
      · injection e with _ _ e; omega
    by_cases hroom : cs.length + 1 ≤ c
    · exact (insert_shift B g c cs i x vb w hl (by omega) hroom (fun e => hvb (by rw [e]; rfl)) hown hv)
    · exact (insert_grow B g c cs i x vb w hl (by omega) (by omega) hB hown hv).mono fun e w' ⟨V', h1, h2, h3⟩ => ⟨V', h1, h2, h3.os, h3.tape, h3.output, h3.size, fun k hk _ => h3.block k hk (by simp)⟩
end Go.Proofs.YtehpccanjlaokaaGreat
