/- CoverMore, over what the package answers. -/
import Derived.Test.YtdfllifjbabfjaaDoorGD25
import Derived.Test.YtdfllifjbabfjaaDoorGD16
import Derived.Deep.RegionHeld3
namespace Go.Proofs.YtdfllifjbabfjaaDoor
open Go.RowKit Go.Joins

theorem wpList_append13 {ops : Array Oper} {rest : List Oper} {o : Oper} {a : Act} {Q : Exit → Act → World → Prop} {w : World}
    (hg : o.guard = none) (s x : Operand) (hop : o.op = .call { callee := .builtin .append, args := #[s, x], argTypes := #[25, 25] }) (V v v' : Value) (w' : World) (hs : a.eval s = V) (hx : a.eval x = v)
    (hrun : (Builtin.append_ #[25, 25] o.type #[V, v]).run Tryd.prog w = .ok v' w') (hK : wpList Tryd.prog ops Q rest (a.put o.dst v') w') : wpList Tryd.prog ops Q (o :: rest) a w := by
  refine wpList_plain hg fun K' hK' => ?_
  unfold Oper.wp execOp
  simp [hop, resolve, invoke, builtin, hs, hx, hrun, Result.andThen]
  exact hK' _ _ hK
theorem step_run13 {ops : Array Oper} {o : Oper} {a : Act} {w : World} {K : Act → World → Prop} {Q : Exit → Act → World → Prop} {E : Prop} (hgd : o.guard = none) (s x : Operand)
    (ho : o.op = .call { callee := .builtin .append, args := #[s, x], argTypes := #[25, 25] }) (V v v' : Value) (w' : World) (hs : a.eval s = V) (hx : a.eval x = v)
    (hrun : (Builtin.append_ #[25, 25] o.type #[V, v]).run Tryd.prog w = .ok v' w') (h : K (a.put o.dst v') w') :
    if Region.wanted o (yielded ops a.tmps) = true then Oper.wp Tryd.prog o a w K Q else E := by
  have hw : Region.wanted o (yielded ops a.tmps) = true := by simp [Region.wanted, hgd]
  rw [if_pos hw]
  unfold Oper.wp execOp
  simp [ho, resolve, invoke, builtin, hs, hx, hrun, Result.andThen]
  exact h
theorem right_pos13 {n : Int} {ls : List (List Int)} (h : rightM n ls = true) : 0 ≤ n := by
  unfold rightM at h
  rw [Bool.and_eq_true, Bool.and_eq_true, decide_eq_true_iff, decide_eq_true_iff] at h
  exact h.1.1
theorem alloc_size13 (w : World) (o : Obj) : (w.alloc o).heap.size = w.heap.size + 1 := by simp
theorem two13 {w : World} {b : Nat} {x y : Int} (h : w.heap[b]? = some (.cells #[.int .i64 x, .int .i64 y] 3 (0, 0))) : IntsAt w w.heap.size (.slice (some ⟨b, 0, none⟩) 2 2) [x, y] := by
  refine ⟨some ⟨b, 0, none⟩, 2, rfl, by simp, fun _ => ⟨b, 0, rfl, size_of_block h, fun j z hj => ?_⟩⟩
  rw [cell_of_block h]
  match j, hj with
  | 0, hj => injection hj with hj; subst hj; rfl
  | 1, hj => injection hj with hj; subst hj; rfl
  | j + 2, hj => cases hj
set_option maxRecDepth 100000 in
/-- 'append(o, v...)' for a row of the call's own; what else there is stays. -/
theorem append13g {w : World} {B : Nat} {V v : Value} {xs l : List Int} (ty : TypeId) (hown : w.ownsRow B 3 1 V xs.length (intI xs)) (hB : B ≤ w.heap.size) (hz : IntsAt w w.heap.size v l) (h1 : xs.length ≤ 1000) (h2 : l.length ≤ 1000) :
    ∃ v' w', (Builtin.append_ #[25, 25] ty #[V, v]).run Tryd.prog w = .ok v' w' ∧ w'.ownsRow B 3 1 v' (xs ++ l).length (intI (xs ++ l)) ∧ Below B w w' ∧ w.grownBy w' V.ownBlock := by
  obtain ⟨i0, hi0, hz0, hz1, hz2⟩ := info_parts Tryd.infoInt
  obtain ⟨A, c, rfl, hl, hc⟩ := hz
  cases A with
  | none =>
    have h0 : l = [] := by
      cases l with
      | nil => rfl
      | cons x r => obtain ⟨b, off, e, _⟩ := hc (by simp); cases e
    subst h0
    refine ⟨V, w, ?_, by rw [List.append_nil]; exact hown, Below.refl _ _, ⟨rfl, rfl, rfl, Nat.le_refl _, fun _ _ _ => rfl⟩⟩
    rcases hown.2 with ⟨rfl, h⟩ | ⟨g, cap, cur, rfl, _, _, hnc, _⟩
    · simp [Builtin.append_, run_underlying Tryd.underlying25, sizeOf, typeInfo, hi0, Builtin.lenOf, Builtin.firstCells]
    · simp [Builtin.append_, run_underlying Tryd.underlying25, sizeOf, typeInfo, hi0, Builtin.lenOf, Builtin.firstCells, hnc, storeCells]
  | some a =>
    obtain ⟨v', w', hrun, ho, hg, -⟩ := run_append_own (P := Tryd.prog) w B 25 ty 3 i0 (.int .i64 0) 1 8 Tryd.underlying25 hi0 hz0 hz1 hz2 rfl (by decide) V xs.length (intI xs) hown a l.length c (intI l) (by rw [intI_len, Nat.mul_one])
      (fun j u hj => by
        unfold intI at hj
        rw [List.getElem?_map] at hj
        cases hx : l[j]? with
        | none => rw [hx] at hj; cases hj
        | some x =>
          rw [hx, Option.map_some] at hj
          have hjl := (List.getElem?_eq_some_iff.1 hx).1
          obtain ⟨b, off, e, hb, hcell⟩ := hc (by omega)
          injection e with e
          subst e
          rw [Addr.add_lit, hcell j x hx]
          exact hj)
      (fun u hu => by unfold intI at hu; obtain ⟨x, _, rfl⟩ := List.mem_map.1 hu; rfl) (by unfold maxLen; omega) (by omega) hB
    refine ⟨v', w', hrun, ?_, (Below.refl B w).grown hg hB (fun k hk => (hown.lt k hk).1), hg⟩
    rw [List.length_append]
    have e : intI (xs ++ l) = intI xs ++ intI l := by unfold intI; rw [List.map_append]
    rw [e]
    exact ho
set_option maxHeartbeats 16000000 in
set_option maxRecDepth 100000 in
theorem more13_great (HK : Knows13) (n : Int) (L u t : Value) (ls : List (List Int)) (cols more : List Int) (w : World) (hT : TabW w) (hL : MatAt w w.heap.size L ls) (hu : IntsAt w w.heap.size u cols) (ht : IntsAt w w.heap.size t more) (hg : greatM ls = true) :
    Calls Tryd.prog 4 #[mtv n L, u, t] w fun e w' => e = .returned (.bool true) ∧ Below w.heap.size w w' := by
  have hB0 := below_alloc1 w (mtb n L)
  have hbu : (w.alloc (mtb n L)).heap[w.heap.size]? = some (mtb n L) := heap_alloc_new _ _
  have HG := fun W (hb : Below w.heap.size w W) => great13_any n L ls W ((hL.below hb).more hb.size)
  have HR := fun W (hb : Below w.heap.size w W) => rright13_any W L n ls ((hL.below hb).more hb.size)
  have HK1 := fun W (h : Below w.heap.size w W) => HK W (hT.below h)
  rw [hg] at HG
  clear hg HR
  obtain ⟨A, c, rfl, hlen, -⟩ := id hL
  obtain ⟨A2, c2, rfl, hlu, -⟩ := id hu
  obtain ⟨A3, c3, rfl, hlt, -⟩ := id ht
  unfold mtb at hB0 hbu
  unfold mtv at *
  obtain ⟨u0, u1, -⟩ := now2 hbu rfl
  go_enter Tryd.func4, Tryd.ntmps4
  have Hc := HG _ hB0
  go_wp2_with fail
  refine Hc.mono ?_
  rintro e w1 ⟨rfl, hb⟩
  have hB1 := hB0.trans (hb.mono hB0.size)
  replace hbu := keep_blk hb hbu
  clear u0 u1 hb Hc hB0
  obtain ⟨u0, u1, -⟩ := now2 hbu rfl
  have Hc := HK1 _ hB1
  go_wp2_with fail
  refine Hc.mono ?_
  rintro e w2 ⟨rfl, hb⟩
  have hB2 := hB1.trans (hb.mono hB1.size)
  clear hb Hc
  go_wp2
  go_ret
  exact ⟨rfl, hB2⟩
set_option maxHeartbeats 16000000 in
set_option maxRecDepth 100000 in
theorem more13_many (HK : Knows13) (n : Int) (L u t : Value) (ls : List (List Int)) (cols more : List Int) (w : World) (hT : TabW w) (hL : MatAt w w.heap.size L ls) (hu : IntsAt w w.heap.size u cols) (ht : IntsAt w w.heap.size t more) (hg : greatM ls = false) (hm : 100 < cols.length) :
    Calls Tryd.prog 4 #[mtv n L, u, t] w fun e w' => e = .returned (.bool true) ∧ Below w.heap.size w w' := by
  have hB0 := below_alloc1 w (mtb n L)
  have hbu : (w.alloc (mtb n L)).heap[w.heap.size]? = some (mtb n L) := heap_alloc_new _ _
  have HG := fun W (hb : Below w.heap.size w W) => great13_any n L ls W ((hL.below hb).more hb.size)
  have HR := fun W (hb : Below w.heap.size w W) => rright13_any W L n ls ((hL.below hb).more hb.size)
  have HK1 := fun W (h : Below w.heap.size w W) => HK W (hT.below h)
  rw [hg] at HG
  clear hg
  clear HR
  have m1 : decide ((100 : Int) < (cols.length : Int)) = true := decide_eq_true (by omega)
  obtain ⟨A, c, rfl, hlen, -⟩ := id hL
  obtain ⟨A2, c2, rfl, hlu, -⟩ := id hu
  obtain ⟨A3, c3, rfl, hlt, -⟩ := id ht
  unfold mtb at hB0 hbu
  unfold mtv at *
  obtain ⟨u0, u1, -⟩ := now2 hbu rfl
  go_enter Tryd.func4, Tryd.ntmps4
  have Hc := HG _ hB0
  go_wp2_with fail
  refine Hc.mono ?_
  rintro e w1 ⟨rfl, hb⟩
  have hB1 := hB0.trans (hb.mono hB0.size)
  replace hbu := keep_blk hb hbu
  clear u0 u1 hb Hc hB0
  obtain ⟨u0, u1, -⟩ := now2 hbu rfl
  have Hc := HK1 _ hB1
  go_wp2_with fail
  refine Hc.mono ?_
  rintro e w2 ⟨rfl, hb⟩
  have hB2 := hB1.trans (hb.mono hB1.size)
  clear hb Hc
  go_wp2
  go_ret
  exact ⟨rfl, hB2⟩
set_option maxHeartbeats 16000000 in
set_option maxRecDepth 100000 in
theorem more13_more (HK : Knows13) (n : Int) (L u t : Value) (ls : List (List Int)) (cols more : List Int) (w : World) (hT : TabW w) (hL : MatAt w w.heap.size L ls) (hu : IntsAt w w.heap.size u cols) (ht : IntsAt w w.heap.size t more) (hg : greatM ls = false) (hm : ¬ 100 < cols.length) (hn : 100 < more.length) :
    Calls Tryd.prog 4 #[mtv n L, u, t] w fun e w' => e = .returned (.bool true) ∧ Below w.heap.size w w' := by
  have hB0 := below_alloc1 w (mtb n L)
  have hbu : (w.alloc (mtb n L)).heap[w.heap.size]? = some (mtb n L) := heap_alloc_new _ _
  have HG := fun W (hb : Below w.heap.size w W) => great13_any n L ls W ((hL.below hb).more hb.size)
  have HR := fun W (hb : Below w.heap.size w W) => rright13_any W L n ls ((hL.below hb).more hb.size)
  have HK1 := fun W (h : Below w.heap.size w W) => HK W (hT.below h)
  rw [hg] at HG
  clear hg
  clear HR
  have m1 : decide ((100 : Int) < (cols.length : Int)) = false := decide_eq_false (by omega)
  have m2 : decide ((100 : Int) < (more.length : Int)) = true := decide_eq_true (by omega)
  obtain ⟨A, c, rfl, hlen, -⟩ := id hL
  obtain ⟨A2, c2, rfl, hlu, -⟩ := id hu
  obtain ⟨A3, c3, rfl, hlt, -⟩ := id ht
  unfold mtb at hB0 hbu
  unfold mtv at *
  obtain ⟨u0, u1, -⟩ := now2 hbu rfl
  go_enter Tryd.func4, Tryd.ntmps4
  have Hc := HG _ hB0
  go_wp2_with fail
  refine Hc.mono ?_
  rintro e w1 ⟨rfl, hb⟩
  have hB1 := hB0.trans (hb.mono hB0.size)
  replace hbu := keep_blk hb hbu
  clear u0 u1 hb Hc hB0
  obtain ⟨u0, u1, -⟩ := now2 hbu rfl
  have Hc := HK1 _ hB1
  go_wp2_with fail
  refine Hc.mono ?_
  rintro e w2 ⟨rfl, hb⟩
  have hB2 := hB1.trans (hb.mono hB1.size)
  clear hb Hc
  go_wp2
  go_ret
  exact ⟨rfl, hB2⟩
set_option maxHeartbeats 16000000 in
set_option maxRecDepth 100000 in
theorem more13_wrong (HK : Knows13) (n : Int) (L u t : Value) (ls : List (List Int)) (cols more : List Int) (w : World) (hT : TabW w) (hL : MatAt w w.heap.size L ls) (hu : IntsAt w w.heap.size u cols) (ht : IntsAt w w.heap.size t more) (hg : greatM ls = false) (hm : ¬ 100 < cols.length) (hn : ¬ 100 < more.length) (hr : rightM n ls = false) :
    Calls Tryd.prog 4 #[mtv n L, u, t] w fun e w' => e = .returned (.bool true) ∧ Below w.heap.size w w' := by
  have hB0 := below_alloc1 w (mtb n L)
  have hbu : (w.alloc (mtb n L)).heap[w.heap.size]? = some (mtb n L) := heap_alloc_new _ _
  have HG := fun W (hb : Below w.heap.size w W) => great13_any n L ls W ((hL.below hb).more hb.size)
  have HR := fun W (hb : Below w.heap.size w W) => rright13_any W L n ls ((hL.below hb).more hb.size)
  have HK1 := fun W (h : Below w.heap.size w W) => HK W (hT.below h)
  rw [hg] at HG
  clear hg
  rw [hr] at HR
  clear hr
  have m1 : decide ((100 : Int) < (cols.length : Int)) = false := decide_eq_false (by omega)
  have m2 : decide ((100 : Int) < (more.length : Int)) = false := decide_eq_false (by omega)
  obtain ⟨A, c, rfl, hlen, -⟩ := id hL
  obtain ⟨A2, c2, rfl, hlu, -⟩ := id hu
  obtain ⟨A3, c3, rfl, hlt, -⟩ := id ht
  unfold mtb at hB0 hbu
  unfold mtv at *
  obtain ⟨u0, u1, -⟩ := now2 hbu rfl
  go_enter Tryd.func4, Tryd.ntmps4
  have Hc := HG _ hB0
  go_wp2_with fail
  refine Hc.mono ?_
  rintro e w1 ⟨rfl, hb⟩
  have hB1 := hB0.trans (hb.mono hB0.size)
  replace hbu := keep_blk hb hbu
  clear u0 u1 hb Hc hB0
  obtain ⟨u0, u1, -⟩ := now2 hbu rfl
  have Hc := HR _ hB1
  go_wp2_with fail
  refine Hc.mono ?_
  rintro e w2 ⟨rfl, hb⟩
  have hB2 := hB1.trans (hb.mono hB1.size)
  replace hbu := keep_blk hb hbu
  clear u0 u1 hb Hc hB1
  obtain ⟨u0, u1, -⟩ := now2 hbu rfl
  have Hc := HK1 _ hB2
  go_wp2_with fail
  refine Hc.mono ?_
  rintro e w3 ⟨rfl, hb⟩
  have hB3 := hB2.trans (hb.mono hB2.size)
  clear hb Hc
  go_wp2
  go_ret
  exact ⟨rfl, hB3⟩
set_option maxHeartbeats 16000000 in
set_option maxRecDepth 100000 in
theorem more13_wide (HK : Knows13) (n : Int) (L u t : Value) (ls : List (List Int)) (cols more : List Int) (w : World) (hT : TabW w) (hL : MatAt w w.heap.size L ls) (hu : IntsAt w w.heap.size u cols) (ht : IntsAt w w.heap.size t more) (hg : greatM ls = false) (hm : ¬ 100 < cols.length) (hn : ¬ 100 < more.length) (hr : rightM n ls = true) (hw : 200 < n) :
    Calls Tryd.prog 4 #[mtv n L, u, t] w fun e w' => e = .returned (.bool true) ∧ Below w.heap.size w w' := by
  have hB0 := below_alloc1 w (mtb n L)
  have hbu : (w.alloc (mtb n L)).heap[w.heap.size]? = some (mtb n L) := heap_alloc_new _ _
  have HG := fun W (hb : Below w.heap.size w W) => great13_any n L ls W ((hL.below hb).more hb.size)
  have HR := fun W (hb : Below w.heap.size w W) => rright13_any W L n ls ((hL.below hb).more hb.size)
  have HK1 := fun W (h : Below w.heap.size w W) => HK W (hT.below h)
  rw [hg] at HG
  clear hg
  rw [hr] at HR
  clear hr
  have m1 : decide ((100 : Int) < (cols.length : Int)) = false := decide_eq_false (by omega)
  have m2 : decide ((100 : Int) < (more.length : Int)) = false := decide_eq_false (by omega)
  have m3 : decide (200 < n) = true := decide_eq_true hw
  obtain ⟨A, c, rfl, hlen, -⟩ := id hL
  obtain ⟨A2, c2, rfl, hlu, -⟩ := id hu
  obtain ⟨A3, c3, rfl, hlt, -⟩ := id ht
  unfold mtb at hB0 hbu
  unfold mtv at *
  obtain ⟨u0, u1, -⟩ := now2 hbu rfl
  go_enter Tryd.func4, Tryd.ntmps4
  have Hc := HG _ hB0
  go_wp2_with fail
  refine Hc.mono ?_
  rintro e w1 ⟨rfl, hb⟩
  have hB1 := hB0.trans (hb.mono hB0.size)
  replace hbu := keep_blk hb hbu
  clear u0 u1 hb Hc hB0
  obtain ⟨u0, u1, -⟩ := now2 hbu rfl
  have Hc := HR _ hB1
  go_wp2_with fail
  refine Hc.mono ?_
  rintro e w2 ⟨rfl, hb⟩
  have hB2 := hB1.trans (hb.mono hB1.size)
  replace hbu := keep_blk hb hbu
  clear u0 u1 hb Hc hB1
  obtain ⟨u0, u1, -⟩ := now2 hbu rfl
  have Hc := HK1 _ hB2
  go_wp2_with fail
  refine Hc.mono ?_
  rintro e w3 ⟨rfl, hb⟩
  have hB3 := hB2.trans (hb.mono hB2.size)
  clear hb Hc
  go_wp2
  go_ret
  exact ⟨rfl, hB3⟩
set_option maxHeartbeats 16000000 in
set_option maxRecDepth 100000 in
theorem more13_good (HS : SolvesV) (HK : Knows13) (n : Int) (L u t : Value) (ls : List (List Int)) (cols more : List Int) (w : World) (hT : TabW w) (hL : MatAt w w.heap.size L ls) (hu : IntsAt w w.heap.size u cols) (ht : IntsAt w w.heap.size t more) (hg : greatM ls = false) (hm : ¬ 100 < cols.length) (hn : ¬ 100 < more.length) (hr : rightM n ls = true) (hw : ¬ 200 < n) :
    Calls Tryd.prog 4 #[mtv n L, u, t] w fun e w' => e = .returned (.bool true) ∧ Below w.heap.size w w' := by
  have hB0 := below_alloc1 w (mtb n L)
  have hbu : (w.alloc (mtb n L)).heap[w.heap.size]? = some (mtb n L) := heap_alloc_new _ _
  have HG := fun W (hb : Below w.heap.size w W) => great13_any n L ls W ((hL.below hb).more hb.size)
  have HR := fun W (hb : Below w.heap.size w W) => rright13_any W L n ls ((hL.below hb).more hb.size)
  have HK1 := fun W (h : Below w.heap.size w W) => HK W (hT.below h)
  rw [hg] at HG
  clear hg
  rw [hr] at HR
  have m1 : decide ((100 : Int) < (cols.length : Int)) = false := decide_eq_false (by omega)
  have m2 : decide ((100 : Int) < (more.length : Int)) = false := decide_eq_false (by omega)
  have m3 : decide (200 < n) = false := decide_eq_false hw
  obtain ⟨A, c, rfl, hlen, -⟩ := id hL
  obtain ⟨A2, c2, rfl, hlu, -⟩ := id hu
  obtain ⟨A3, c3, rfl, hlt, -⟩ := id ht
  unfold mtb at hB0 hbu
  unfold mtv at *
  obtain ⟨u0, u1, -⟩ := now2 hbu rfl
  go_enter Tryd.func4, Tryd.ntmps4
  have Hc := HG _ hB0
  go_wp2_with fail
  refine Hc.mono ?_
  rintro e w1 ⟨rfl, hb⟩
  have hB1 := hB0.trans (hb.mono hB0.size)
  replace hbu := keep_blk hb hbu
  clear u0 u1 hb Hc hB0
  obtain ⟨u0, u1, -⟩ := now2 hbu rfl
  have Hc := HR _ hB1
  go_wp2_with fail
  refine Hc.mono ?_
  rintro e w2 ⟨rfl, hb⟩
  have hB2 := hB1.trans (hb.mono hB1.size)
  replace hbu := keep_blk hb hbu
  clear u0 u1 hb Hc hB1
  obtain ⟨u0, u1, -⟩ := now2 hbu rfl
  have hN := right_pos13 hr
  obtain ⟨N, rfl⟩ : ∃ N : Nat, n = N := ⟨n.toNat, by omega⟩
  have hN2 : N ≤ 200 := by omega
  clear hN hw
  have hL2 := (hL.below hB2).more hB2.size
  have hu2 := (hu.below hB2).more hB2.size
  have ht2 := (ht.below hB2).more hB2.size
  obtain ⟨v1, wa, v2, wb, e1, e2, hz2, hbb⟩ := append13_two 25 hu2 ht2 (by omega) (by omega)
  have hB3 := hB2.trans (hbb.mono hB2.size)
  replace hbu := keep_blk hbb hbu
  clear hL2 hu2 ht2 hB2 hbb
  obtain ⟨x0, x1, -⟩ := now2 hbu rfl
  have S1 := HS N _ _ ls _ wb ((hL.below hB3).more hB3.size) ((hu.below hB3).more hB3.size)
  rw [hr, Bool.true_and] at S1
  unfold mtv at S1
  have hmo : Hid (solvesM ls cols = true → solvesM ls (cols ++ more) = true) := Lib.hid (fun h => solves_more h)
  generalize hs1 : solvesM ls cols = s1 at S1 hmo
  clear hs1
  go_wp2_with (at_builtin; first | refine wpList_append13 rfl _ _ rfl (.slice (some ⟨w2.heap.size, 0, none⟩) 0 0) (.slice A2 cols.length c2) v1 wa rfl rfl e1 ?_ | refine wpList_append13 rfl _ _ rfl v1 (.slice A3 more.length c3) v2 wb rfl rfl e2 ?_)
  refine S1.mono ?_
  rintro e w4 ⟨rfl, hb⟩
  have hB4 := hB3.trans (hb.mono hB3.size)
  replace hbu := keep_blk hb hbu
  have hz4 := (hz2.below hb).more hb.size
  clear S1 u0 u1 x0 x1 hB3 hb e1 e2 hz2
  obtain ⟨u0, u1, -⟩ := now2 hbu rfl
  cases s1
  · clear hmo hz4
    obtain ⟨i0, hi0, hz0, hz1, hz2⟩ := info_parts Tryd.infoInt
    clear u0 u1
    go_wp2
    go_loopw [8, 9] (fun V t wr => ∃ k : Nat, k ≤ N ∧ t = .int .i64 k ∧ wr.ownsRow w4.heap.size 3 1 V k (intI ((List.range k).map fun c : Nat => (c : Int))) ∧ Below w4.heap.size w4 wr) (fun _ t _ => N - (intOf t).toNat)
    case atStart => exact ⟨0, by omega, rfl, World.ownsRow_nil _ _ _ _, Below.refl _ _⟩
    case round =>
      obtain ⟨k, hk, rfl, hown, hb⟩ := hrel
      obtain ⟨Av, cv1, rfl⟩ := own_form hown
      have hbr := keep_blk hb hbu
      obtain ⟨y0, y1, -⟩ := now2 hbr rfl
      have hbs := hb.size
      by_cases hlt : k < N
      · have hkd : decide ((k : Int) < (N : Int)) = true := decide_eq_true (by omega)
        go_wp2_with (at_builtin; refine wpList_append_own_at _ rfl _ _ 25 rfl w4.heap.size 3 i0 (.int .i64 0) 1 8 Tryd.underlying25 hi0 hz0 hz1 hz2 rfl (by decide) _ _ _ rfl (hown.alloc _) ⟨wr.heap.size, 0, none⟩ 1 1 [.int .i64 (k : Int)] rfl rfl one_new13 (fun u hu => by rw [List.mem_singleton.1 hu]; rfl) ?c3 ?c4 ?c5 ?_)
        case c3 => unfold maxLen; omega
        case c4 => omega
        case c5 => first | omega | (simp; omega)
        intro v' w8 ho8 hg8 _ _
        have hB8 := grown_below (hown.alloc (.cells #[.int .i64 k] 3)) hg8 (hb.alloc hbs (.cells #[.int .i64 k] 3)) (Nat.le_refl _) (by simp; omega)
        have ho9 : w8.ownsRow w4.heap.size 3 1 v' (k + 1) (intI ((List.range (k + 1)).map fun c : Nat => (c : Int))) := by
          have e : intI ((List.range (k + 1)).map fun c : Nat => (c : Int)) = intI ((List.range k).map fun c : Nat => (c : Int)) ++ [.int .i64 (k : Int)] := by unfold intI; rw [List.range_succ, List.map_append, List.map_append]; rfl
          rw [e]
          exact ho8
        clear hg8 ho8 hown hb y0 y1 hbr
        go_wp2
        go_roundw
        case rel => exact ⟨k + 1, by omega, by go_num, ho9, hB8⟩
        case measure => simp [intOf]; omega
      · have e : k = N := by omega
        have hkd : decide ((k : Int) < (N : Int)) = false := decide_eq_false (by omega)
        have hall := own_intI hown
        have hevH : Hid (solvesM ls ((List.range k).map fun c : Nat => (c : Int)) = ls.all fun x => decide (0 < x.length)) := Lib.hid (by rw [e]; exact solves_every hr)
        clear e
        have hBr := hB4.trans (hb.mono hB4.size)
        have hLr := (hL.below hBr).more hBr.size
        have hur := (hu.below hBr).more hBr.size
        have hstH := Lib.hid (solves_strange (cols := cols) hr)
        have hrH := Lib.hid hr
        clear hr hown hb hbu
        go_wp2
        go_loop [10, 11] (fun s t => ∃ i : Nat, i ≤ ls.length ∧ t = .int .i64 i ∧ s = .bool ((ls.take i).all fun x => decide (0 < x.length))) (fun _ t => ls.length - (intOf t).toNat)
        case atStart => exact ⟨0, by omega, rfl, rfl⟩
        case round =>
          obtain ⟨i, hi, rfl, rfl⟩ := hrel
          by_cases hil : i < ls.length
          · obtain ⟨Ax, cx, hLe, -, hLc⟩ := id hLr
            injection hLe with hA1 _ hA2
            subst hA1
            subst hA2
            obtain ⟨b, off, rfl, hBm, hcm⟩ := hLc (by omega)
            obtain ⟨l, hl⟩ : ∃ l, ls[i]? = some l := ⟨_, List.getElem?_eq_getElem hil⟩
            obtain ⟨ov, z2, A5, c5, rfl, hol, -⟩ := hcm i l hl
            have hs : Hid (((ls.take (i + 1)).all fun x => decide (0 < x.length)) = (((ls.take i).all fun x => decide (0 < x.length)) && decide (0 < l.length))) := Lib.hid (by rw [List.take_add_one, hl, List.all_append]; simp)
            clear hcm hl hLc
            generalize ((ls.take i).all fun x => decide (0 < x.length)) = fl at *
            cases fl
            · clear z2
              go_wp2
              go_round
              case rel => exact ⟨i + 1, by omega, by go_num, by rw [hs.out]; rfl⟩
              case measure => simp [intOf]; omega
            · by_cases hl0 : 0 < l.length
              · have hld : decide ((0 : Int) < (l.length : Int)) = true := decide_eq_true (by omega)
                have hs2 : Hid (decide (0 < l.length) = true) := Lib.hid (decide_eq_true hl0)
                clear hl0
                go_wp2
                go_round
                case rel => exact ⟨i + 1, by omega, by go_num, by rw [hs.out, hs2.out]; rfl⟩
                case measure => simp [intOf]; omega
              · have hld : decide ((0 : Int) < (l.length : Int)) = false := decide_eq_false (by omega)
                have hs2 : Hid (decide (0 < l.length) = false) := Lib.hid (decide_eq_false hl0)
                clear hl0
                go_wp2
                go_round
                case rel => exact ⟨i + 1, by omega, by go_num, by rw [hs.out, hs2.out]; rfl⟩
                case measure => simp [intOf]; omega
          · have e : i = ls.length := by omega
            have hid2 : decide ((i : Int) < (ls.length : Int)) = false := decide_eq_false (by omega)
            rw [e, List.take_length]
            rw [e] at hid2
            clear e hil hi
            have hcs := hur
            generalize hsm : (ls.all fun x => decide (0 < x.length)) = sm at *
            clear hsm
            go_upto_region 16 with (fail)
            obtain ⟨n0, n1, -⟩ := box2 hbr rfl
            go_cut [12] from 80 to 87 (fun s12 wc => ∃ v12, s12 = v12 ∧ IntsAt wc wc.heap.size v12 (cols ++ [-1, (N : Int)]) ∧ Below wr.heap.size wr wc)
            case first =>
              clear hevH hstH hrH hall hLr hur HK HS
              refine wp_region_held_drew (S := fun W_ => Below wr.heap.size wr W_) rfl (Below.refl _ wr).drew (fun hHeld => ?_)
              obtain ⟨X0, hX0⟩ : ∃ X0, X0 = wr.drew := ⟨_, rfl⟩
              rw [← hX0] at hHeld ⊢
              clear hX0
              refine wpAnyH_take (i := 1) (oi := _) (v := ?_) rfl (by kernel_rfl) (by kernel_rfl) (by kernel_rfl) (fun _ _ _ h => h) (Or.inl ⟨by rfl, ?_⟩) (by assumption) ?_
              rotate_left 1
              · intro w_ hSw
                go_simp
                try with_reducible rfl
              try simp only [Act.put, List.setIfInBounds_toArray]
              refine wpAnyH_take (i := 3) (oi := _) (v := ?_) rfl (by kernel_rfl) (by kernel_rfl) (by kernel_rfl) (fun _ _ _ h => h) (Or.inl ⟨by rfl, ?_⟩) (by assumption) ?_
              rotate_left 1
              · intro w_ hSw
                go_simp
                try with_reducible rfl
              try simp only [Act.put]
              refine wpAnyH_take (i := 4) (oi := _) (v := ?_) rfl (by kernel_rfl) (by kernel_rfl) (by kernel_rfl) (fun _ _ _ h => h) (Or.inl ⟨by rfl, ?_⟩) (by assumption) ?_
              rotate_left 1
              · intro w_ hSw
                have q_n0 := n0 ⟨w_, hSw⟩
                dsimp only at q_n0
                go_simp
                try with_reducible rfl
              try simp only [Act.put]
              refine wpAnyH_ready (rs := [0, 5]) (by kernel_rfl) (by simp) ?_
              refine AllReadyH.cons (o := _) rfl (fun _ hK => ?_) ?_
              · go_simp
                have ho := own_nil13 X0
                have hal := hHeld.alloc hHeld.size (.cells #[] 3 (0, 0))
                have lbz := hHeld.size
                have hsz := Lib.hid (alloc_size13 X0 (.cells #[] 3 (0, 0)))
                generalize X0.heap.size = b0 at *
                generalize X0.alloc (.cells #[] 3 (0, 0)) = X1 at *
                have lsz : b0 ≤ X1.heap.size := by rw [hsz.out]; omega
                refine hK.out _ _ hal (fun hHeld => ?_)
                clear hal
                clear hK
                try simp only [Act.put, List.setIfInBounds_toArray, List.set_cons_zero, List.set_cons_succ]
                refine wpAnyH_ready (rs := [2, 5]) (by kernel_rfl) (by simp) ?_
                refine AllReadyH.cons (o := _) rfl (fun _ hK => ?_) ?_
                · obtain ⟨v1, X2, e1, o1, b1, g1⟩ := append13g 25 ho lsz ((hcs.below hHeld).more hHeld.size) (by decide) (by omega)
                  have hS := hHeld.trans (b1.mono lbz)
                  replace lsz := Nat.le_trans lsz b1.size
                  rw [List.nil_append] at o1
                  refine step_run13 rfl _ _ rfl _ _ v1 X2 rfl rfl e1 ?_
                  refine hK.out _ _ hS (fun hHeld => ?_)
                  clear hS e1 b1 g1 ho
                  clear hK
                  try simp only [Act.put, List.setIfInBounds_toArray]
                  have ho := o1
                  clear o1
                  refine wpAnyH_ready (rs := [5]) (by kernel_rfl) (by simp) ?_
                  refine AllReadyH.cons (o := _) rfl (fun _ hK => ?_) AllReadyH.nil
                  go_simp
                  have n5 := heap_alloc_new X2 (.cells #[.int .i64 (-1), .int .i64 N] 3 (0, 0))
                  have hal := hHeld.alloc hHeld.size (.cells #[.int .i64 (-1), .int .i64 N] 3 (0, 0))
                  replace ho := ho.alloc (.cells #[.int .i64 (-1), .int .i64 N] 3 (0, 0))
                  have hsz5 := Lib.hid (alloc_size13 X2 (.cells #[.int .i64 (-1), .int .i64 N] 3 (0, 0)))
                  generalize X2.heap.size = b5 at *
                  generalize X2.alloc (.cells #[.int .i64 (-1), .int .i64 N] 3 (0, 0)) = X3 at *
                  replace lsz : b0 ≤ X3.heap.size := by rw [hsz5.out]; omega
                  refine hK.out _ _ hal (fun hHeld => ?_)
                  clear hal
                  clear hK
                  try simp only [Act.put, List.setIfInBounds_toArray, List.set_cons_zero, List.set_cons_succ]
                  refine wpAnyH_ready (rs := [6]) (by kernel_rfl) (by simp) ?_
                  refine AllReadyH.cons (o := _) rfl (fun _ hK => ?_) AllReadyH.nil
                  have h5 := two13 n5
                  obtain ⟨v2, X4, e2, o2, b2, -⟩ := append13g 25 ho lsz h5 (by omega) (by simp)
                  have hS := hHeld.trans (b2.mono lbz)
                  have hz12 := own_intI o2
                  refine step_run13 rfl _ _ rfl _ _ v2 X4 rfl rfl e2 ?_
                  refine hK.out _ _ hS (fun hHeld => ?_)
                  clear hS e2 b2 ho n5 h5 o2
                  clear hK
                  try simp only [Act.put, List.setIfInBounds_toArray]
                  refine wpAnyH_ready (rs := [7]) (by kernel_rfl) (by simp) ?_
                  refine AllReadyH.cons (o := _) rfl (fun _ hK => ?_) AllReadyH.nil
                  go_simp
                  refine hK.out _ _ hHeld (fun hHeld => ?_)
                  clear hK
                  try simp only [Act.put, List.setIfInBounds_toArray, List.set_cons_zero, List.set_cons_succ]
                  refine wpAnyH_done (by kernel_rfl) ?_ _
                  go_wp2_with fail
                  go_meet
                  exact ⟨v2, rfl, hz12, hHeld⟩
                refine AllReadyH.cons (o := _) rfl (fun _ hK => ?_) AllReadyH.nil
                go_simp
                have n5 := heap_alloc_new X1 (.cells #[.int .i64 (-1), .int .i64 N] 3 (0, 0))
                have hal := hHeld.alloc hHeld.size (.cells #[.int .i64 (-1), .int .i64 N] 3 (0, 0))
                replace ho := ho.alloc (.cells #[.int .i64 (-1), .int .i64 N] 3 (0, 0))
                have hsz5 := Lib.hid (alloc_size13 X1 (.cells #[.int .i64 (-1), .int .i64 N] 3 (0, 0)))
                generalize X1.heap.size = b5 at *
                generalize X1.alloc (.cells #[.int .i64 (-1), .int .i64 N] 3 (0, 0)) = X2 at *
                replace lsz : b0 ≤ X2.heap.size := by rw [hsz5.out]; omega
                refine hK.out _ _ hal (fun hHeld => ?_)
                clear hal
                clear hK
                try simp only [Act.put, List.setIfInBounds_toArray, List.set_cons_zero, List.set_cons_succ]
                refine wpAnyH_ready (rs := [2]) (by kernel_rfl) (by simp) ?_
                refine AllReadyH.cons (o := _) rfl (fun _ hK => ?_) AllReadyH.nil
                obtain ⟨v1, X3, e1, o1, b1, g1⟩ := append13g 25 ho lsz ((hcs.below hHeld).more hHeld.size) (by decide) (by omega)
                have hS := hHeld.trans (b1.mono lbz)
                replace lsz := Nat.le_trans lsz b1.size
                rw [List.nil_append] at o1
                replace n5 := (g1.block b5 (size_of_block n5) (fun e => absurd (Option.some.inj e : b5 = b0) (by have := hsz.out; have := hsz5.out; omega))).trans n5
                refine step_run13 rfl _ _ rfl _ _ v1 X3 rfl rfl e1 ?_
                refine hK.out _ _ hS (fun hHeld => ?_)
                clear hS e1 b1 g1 ho
                clear hK
                try simp only [Act.put, List.setIfInBounds_toArray]
                have ho := o1
                clear o1
                refine wpAnyH_ready (rs := [6]) (by kernel_rfl) (by simp) ?_
                refine AllReadyH.cons (o := _) rfl (fun _ hK => ?_) AllReadyH.nil
                have h5 := two13 n5
                obtain ⟨v2, X4, e2, o2, b2, -⟩ := append13g 25 ho lsz h5 (by omega) (by simp)
                have hS := hHeld.trans (b2.mono lbz)
                have hz12 := own_intI o2
                refine step_run13 rfl _ _ rfl _ _ v2 X4 rfl rfl e2 ?_
                refine hK.out _ _ hS (fun hHeld => ?_)
                clear hS e2 b2 ho n5 h5 o2
                clear hK
                try simp only [Act.put]
                refine wpAnyH_ready (rs := [7]) (by kernel_rfl) (by simp) ?_
                refine AllReadyH.cons (o := _) rfl (fun _ hK => ?_) AllReadyH.nil
                go_simp
                refine hK.out _ _ hHeld (fun hHeld => ?_)
                clear hK
                try simp only [Act.put, List.setIfInBounds_toArray, List.set_cons_zero, List.set_cons_succ]
                refine wpAnyH_done (by kernel_rfl) ?_ _
                go_wp2_with fail
                go_meet
                exact ⟨v2, rfl, hz12, hHeld⟩
              refine AllReadyH.cons (o := _) rfl (fun _ hK => ?_) AllReadyH.nil
              go_simp
              have n5 := heap_alloc_new X0 (.cells #[.int .i64 (-1), .int .i64 N] 3 (0, 0))
              have hal := hHeld.alloc hHeld.size (.cells #[.int .i64 (-1), .int .i64 N] 3 (0, 0))
              have hsz5 := Lib.hid (alloc_size13 X0 (.cells #[.int .i64 (-1), .int .i64 N] 3 (0, 0)))
              generalize X0.heap.size = b5 at *
              generalize X0.alloc (.cells #[.int .i64 (-1), .int .i64 N] 3 (0, 0)) = X1 at *
              refine hK.out _ _ hal (fun hHeld => ?_)
              clear hal
              clear hK
              try simp only [Act.put, List.setIfInBounds_toArray, List.set_cons_zero, List.set_cons_succ]
              refine wpAnyH_ready (rs := [0]) (by kernel_rfl) (by simp) ?_
              refine AllReadyH.cons (o := _) rfl (fun _ hK => ?_) AllReadyH.nil
              go_simp
              have ho := own_nil13 X1
              have hal := hHeld.alloc hHeld.size (.cells #[] 3 (0, 0))
              have lbz := hHeld.size
              have l5 := size_of_block n5
              replace n5 := keep_alloc (x := .cells #[] 3 (0, 0)) n5
              have hsz := Lib.hid (alloc_size13 X1 (.cells #[] 3 (0, 0)))
              generalize X1.heap.size = b0 at *
              generalize X1.alloc (.cells #[] 3 (0, 0)) = X2 at *
              have lsz : b0 ≤ X2.heap.size := by rw [hsz.out]; omega
              refine hK.out _ _ hal (fun hHeld => ?_)
              clear hal
              clear hK
              try simp only [Act.put, List.setIfInBounds_toArray, List.set_cons_zero, List.set_cons_succ]
              refine wpAnyH_ready (rs := [2]) (by kernel_rfl) (by simp) ?_
              refine AllReadyH.cons (o := _) rfl (fun _ hK => ?_) AllReadyH.nil
              obtain ⟨v1, X3, e1, o1, b1, g1⟩ := append13g 25 ho lsz ((hcs.below hHeld).more hHeld.size) (by decide) (by omega)
              have hS := hHeld.trans (b1.mono lbz)
              replace lsz := Nat.le_trans lsz b1.size
              rw [List.nil_append] at o1
              replace n5 := (g1.block b5 (size_of_block n5) (fun e => absurd (Option.some.inj e : b5 = b0) (by have := hsz.out; have := hsz5.out; omega))).trans n5
              refine step_run13 rfl _ _ rfl _ _ v1 X3 rfl rfl e1 ?_
              refine hK.out _ _ hS (fun hHeld => ?_)
              clear hS e1 b1 g1 ho
              clear hK
              try simp only [Act.put, List.setIfInBounds_toArray]
              have ho := o1
              clear o1
              refine wpAnyH_ready (rs := [6]) (by kernel_rfl) (by simp) ?_
              refine AllReadyH.cons (o := _) rfl (fun _ hK => ?_) AllReadyH.nil
              have h5 := two13 n5
              obtain ⟨v2, X4, e2, o2, b2, -⟩ := append13g 25 ho lsz h5 (by omega) (by simp)
              have hS := hHeld.trans (b2.mono lbz)
              have hz12 := own_intI o2
              refine step_run13 rfl _ _ rfl _ _ v2 X4 rfl rfl e2 ?_
              refine hK.out _ _ hS (fun hHeld => ?_)
              clear hS e2 b2 ho n5 h5 o2
              clear hK
              try simp only [Act.put]
              refine wpAnyH_ready (rs := [7]) (by kernel_rfl) (by simp) ?_
              refine AllReadyH.cons (o := _) rfl (fun _ hK => ?_) AllReadyH.nil
              go_simp
              refine hK.out _ _ hHeld (fun hHeld => ?_)
              clear hK
              try simp only [Act.put, List.setIfInBounds_toArray, List.set_cons_zero, List.set_cons_succ]
              refine wpAnyH_done (by kernel_rfl) ?_ _
              go_wp2_with fail
              go_meet
              exact ⟨v2, rfl, hz12, hHeld⟩
            case rest =>
              obtain ⟨v12, rfl, h12, hc⟩ := hcut
              have hBc := hBr.trans (hc.mono hBr.size)
              have hbc := keep_blk hc hbr
              have S1 := fun X : After wc => HS N _ _ ls _ X.1 ((hLr.below (hc.trans (X.2.mono hc.size))).more (hc.trans (X.2.mono hc.size)).size) ((hall.below (hc.trans (X.2.mono hc.size))).more (hc.trans (X.2.mono hc.size)).size)
              have S2 := fun X : After wc => HS N _ _ ls _ X.1 ((hLr.below (hc.trans (X.2.mono hc.size))).more (hc.trans (X.2.mono hc.size)).size) ((h12.below X.2).more X.2.size)
              have S3 := fun X : After wc => HS N _ _ ls _ X.1 ((hLr.below (hc.trans (X.2.mono hc.size))).more (hc.trans (X.2.mono hc.size)).size) ((hur.below (hc.trans (X.2.mono hc.size))).more (hc.trans (X.2.mono hc.size)).size)
              have hK4 := fun X : After wc => HK X.1 (hT.below (hBc.trans (X.2.mono hBc.size)))
              rw [hrH.out, Bool.true_and, hevH.out] at S1
              rw [hrH.out, Bool.true_and, hstH.out] at S2
              rw [hrH.out, Bool.true_and] at S3
              generalize solvesM ls cols = s3 at *
              have e1 : (sm == sm) = true := by simp
              have e2 : (s3 == s3) = true := by simp
              unfold mtv at S1 S2 S3
              clear hevH hstH hrH hall hLr hur HK HS n0 n1
              obtain ⟨n0, n1, -⟩ := box2 hbc rfl
              go_upto_region 17 with (fail)
              refine wp_region_after (by kernel_rfl) (by kernel_rfl) ?_
              repeat (first | go_big_quiet_step (first | (go_at_call_of 9 (Value.slice Av k cv1); exact Calls.after_of (S1 _)) | (go_at_call_of 9 u12; exact Calls.after_of (S2 _)) | (go_at_call_of 9 (Value.slice A2 cols.length c2); exact Calls.after_of (S3 _)) | (go_at_call 6; exact Calls.after_of (hK4 _))))
              refine wpQuiet_nil ?_
              intro z
              have hBz := hBc.trans (z.2.mono hBc.size)
              clear S1 S2 S3 hK4 n0 n1
              go_wp2
              go_ret
              exact ⟨rfl, hBz⟩
  · have S2 := HS N _ _ ls _ w4 ((hL.below hB4).more hB4.size) hz4
    rw [hr, Bool.true_and, hmo.out rfl] at S2
    unfold mtv at S2
    clear hmo
    go_wp2_with fail
    refine S2.mono ?_
    rintro e w5 ⟨rfl, hb⟩
    have hB5 := hB4.trans (hb.mono hB4.size)
    replace hbu := keep_blk hb hbu
    clear S2 u0 u1 hB4 hb hz4
    obtain ⟨u0, u1, -⟩ := now2 hbu rfl
    obtain ⟨i0, hi0, hz0, hz1, hz2⟩ := info_parts Tryd.infoInt
    clear u0 u1
    go_wp2
    go_loopw [8, 9] (fun V t wr => ∃ k : Nat, k ≤ N ∧ t = .int .i64 k ∧ wr.ownsRow w5.heap.size 3 1 V k (intI ((List.range k).map fun c : Nat => (c : Int))) ∧ Below w5.heap.size w5 wr) (fun _ t _ => N - (intOf t).toNat)
    case atStart => exact ⟨0, by omega, rfl, World.ownsRow_nil _ _ _ _, Below.refl _ _⟩
    case round =>
      obtain ⟨k, hk, rfl, hown, hb⟩ := hrel
      obtain ⟨Av, cv1, rfl⟩ := own_form hown
      have hbr := keep_blk hb hbu
      obtain ⟨y0, y1, -⟩ := now2 hbr rfl
      have hbs := hb.size
      by_cases hlt : k < N
      · have hkd : decide ((k : Int) < (N : Int)) = true := decide_eq_true (by omega)
        go_wp2_with (at_builtin; refine wpList_append_own_at _ rfl _ _ 25 rfl w5.heap.size 3 i0 (.int .i64 0) 1 8 Tryd.underlying25 hi0 hz0 hz1 hz2 rfl (by decide) _ _ _ rfl (hown.alloc _) ⟨wr.heap.size, 0, none⟩ 1 1 [.int .i64 (k : Int)] rfl rfl one_new13 (fun u hu => by rw [List.mem_singleton.1 hu]; rfl) ?c3 ?c4 ?c5 ?_)
        case c3 => unfold maxLen; omega
        case c4 => omega
        case c5 => first | omega | (simp; omega)
        intro v' w8 ho8 hg8 _ _
        have hB8 := grown_below (hown.alloc (.cells #[.int .i64 k] 3)) hg8 (hb.alloc hbs (.cells #[.int .i64 k] 3)) (Nat.le_refl _) (by simp; omega)
        have ho9 : w8.ownsRow w5.heap.size 3 1 v' (k + 1) (intI ((List.range (k + 1)).map fun c : Nat => (c : Int))) := by
          have e : intI ((List.range (k + 1)).map fun c : Nat => (c : Int)) = intI ((List.range k).map fun c : Nat => (c : Int)) ++ [.int .i64 (k : Int)] := by unfold intI; rw [List.range_succ, List.map_append, List.map_append]; rfl
          rw [e]
          exact ho8
        clear hg8 ho8 hown hb y0 y1 hbr
        go_wp2
        go_roundw
        case rel => exact ⟨k + 1, by omega, by go_num, ho9, hB8⟩
        case measure => simp [intOf]; omega
      · have e : k = N := by omega
        have hkd : decide ((k : Int) < (N : Int)) = false := decide_eq_false (by omega)
        have hall := own_intI hown
        have hevH : Hid (solvesM ls ((List.range k).map fun c : Nat => (c : Int)) = ls.all fun x => decide (0 < x.length)) := Lib.hid (by rw [e]; exact solves_every hr)
        clear e
        have hBr := hB5.trans (hb.mono hB5.size)
        have hLr := (hL.below hBr).more hBr.size
        have hur := (hu.below hBr).more hBr.size
        have hstH := Lib.hid (solves_strange (cols := cols) hr)
        have hrH := Lib.hid hr
        clear hr hown hb hbu
        go_wp2
        go_loop [10, 11] (fun s t => ∃ i : Nat, i ≤ ls.length ∧ t = .int .i64 i ∧ s = .bool ((ls.take i).all fun x => decide (0 < x.length))) (fun _ t => ls.length - (intOf t).toNat)
        case atStart => exact ⟨0, by omega, rfl, rfl⟩
        case round =>
          obtain ⟨i, hi, rfl, rfl⟩ := hrel
          by_cases hil : i < ls.length
          · obtain ⟨Ax, cx, hLe, -, hLc⟩ := id hLr
            injection hLe with hA1 _ hA2
            subst hA1
            subst hA2
            obtain ⟨b, off, rfl, hBm, hcm⟩ := hLc (by omega)
            obtain ⟨l, hl⟩ : ∃ l, ls[i]? = some l := ⟨_, List.getElem?_eq_getElem hil⟩
            obtain ⟨ov, z2, A5, c5, rfl, hol, -⟩ := hcm i l hl
            have hs : Hid (((ls.take (i + 1)).all fun x => decide (0 < x.length)) = (((ls.take i).all fun x => decide (0 < x.length)) && decide (0 < l.length))) := Lib.hid (by rw [List.take_add_one, hl, List.all_append]; simp)
            clear hcm hl hLc
            generalize ((ls.take i).all fun x => decide (0 < x.length)) = fl at *
            cases fl
            · clear z2
              go_wp2
              go_round
              case rel => exact ⟨i + 1, by omega, by go_num, by rw [hs.out]; rfl⟩
              case measure => simp [intOf]; omega
            · by_cases hl0 : 0 < l.length
              · have hld : decide ((0 : Int) < (l.length : Int)) = true := decide_eq_true (by omega)
                have hs2 : Hid (decide (0 < l.length) = true) := Lib.hid (decide_eq_true hl0)
                clear hl0
                go_wp2
                go_round
                case rel => exact ⟨i + 1, by omega, by go_num, by rw [hs.out, hs2.out]; rfl⟩
                case measure => simp [intOf]; omega
              · have hld : decide ((0 : Int) < (l.length : Int)) = false := decide_eq_false (by omega)
                have hs2 : Hid (decide (0 < l.length) = false) := Lib.hid (decide_eq_false hl0)
                clear hl0
                go_wp2
                go_round
                case rel => exact ⟨i + 1, by omega, by go_num, by rw [hs.out, hs2.out]; rfl⟩
                case measure => simp [intOf]; omega
          · have e : i = ls.length := by omega
            have hid2 : decide ((i : Int) < (ls.length : Int)) = false := decide_eq_false (by omega)
            rw [e, List.take_length]
            rw [e] at hid2
            clear e hil hi
            have hcs := hur
            generalize hsm : (ls.all fun x => decide (0 < x.length)) = sm at *
            clear hsm
            go_upto_region 16 with (fail)
            obtain ⟨n0, n1, -⟩ := box2 hbr rfl
            go_cut [12] from 80 to 87 (fun s12 wc => ∃ v12, s12 = v12 ∧ IntsAt wc wc.heap.size v12 (cols ++ [-1, (N : Int)]) ∧ Below wr.heap.size wr wc)
            case first =>
              clear hevH hstH hrH hall hLr hur HK HS
              refine wp_region_held_drew (S := fun W_ => Below wr.heap.size wr W_) rfl (Below.refl _ wr).drew (fun hHeld => ?_)
              obtain ⟨X0, hX0⟩ : ∃ X0, X0 = wr.drew := ⟨_, rfl⟩
              rw [← hX0] at hHeld ⊢
              clear hX0
              refine wpAnyH_take (i := 1) (oi := _) (v := ?_) rfl (by kernel_rfl) (by kernel_rfl) (by kernel_rfl) (fun _ _ _ h => h) (Or.inl ⟨by rfl, ?_⟩) (by assumption) ?_
              rotate_left 1
              · intro w_ hSw
                go_simp
                try with_reducible rfl
              try simp only [Act.put, List.setIfInBounds_toArray]
              refine wpAnyH_take (i := 3) (oi := _) (v := ?_) rfl (by kernel_rfl) (by kernel_rfl) (by kernel_rfl) (fun _ _ _ h => h) (Or.inl ⟨by rfl, ?_⟩) (by assumption) ?_
              rotate_left 1
              · intro w_ hSw
                go_simp
                try with_reducible rfl
              try simp only [Act.put]
              refine wpAnyH_take (i := 4) (oi := _) (v := ?_) rfl (by kernel_rfl) (by kernel_rfl) (by kernel_rfl) (fun _ _ _ h => h) (Or.inl ⟨by rfl, ?_⟩) (by assumption) ?_
              rotate_left 1
              · intro w_ hSw
                have q_n0 := n0 ⟨w_, hSw⟩
                dsimp only at q_n0
                go_simp
                try with_reducible rfl
              try simp only [Act.put]
              refine wpAnyH_ready (rs := [0, 5]) (by kernel_rfl) (by simp) ?_
              refine AllReadyH.cons (o := _) rfl (fun _ hK => ?_) ?_
              · go_simp
                have ho := own_nil13 X0
                have hal := hHeld.alloc hHeld.size (.cells #[] 3 (0, 0))
                have lbz := hHeld.size
                have hsz := Lib.hid (alloc_size13 X0 (.cells #[] 3 (0, 0)))
                generalize X0.heap.size = b0 at *
                generalize X0.alloc (.cells #[] 3 (0, 0)) = X1 at *
                have lsz : b0 ≤ X1.heap.size := by rw [hsz.out]; omega
                refine hK.out _ _ hal (fun hHeld => ?_)
                clear hal
                clear hK
                try simp only [Act.put, List.setIfInBounds_toArray, List.set_cons_zero, List.set_cons_succ]
                refine wpAnyH_ready (rs := [2, 5]) (by kernel_rfl) (by simp) ?_
                refine AllReadyH.cons (o := _) rfl (fun _ hK => ?_) ?_
                · obtain ⟨v1, X2, e1, o1, b1, g1⟩ := append13g 25 ho lsz ((hcs.below hHeld).more hHeld.size) (by decide) (by omega)
                  have hS := hHeld.trans (b1.mono lbz)
                  replace lsz := Nat.le_trans lsz b1.size
                  rw [List.nil_append] at o1
                  refine step_run13 rfl _ _ rfl _ _ v1 X2 rfl rfl e1 ?_
                  refine hK.out _ _ hS (fun hHeld => ?_)
                  clear hS e1 b1 g1 ho
                  clear hK
                  try simp only [Act.put, List.setIfInBounds_toArray]
                  have ho := o1
                  clear o1
                  refine wpAnyH_ready (rs := [5]) (by kernel_rfl) (by simp) ?_
                  refine AllReadyH.cons (o := _) rfl (fun _ hK => ?_) AllReadyH.nil
                  go_simp
                  have n5 := heap_alloc_new X2 (.cells #[.int .i64 (-1), .int .i64 N] 3 (0, 0))
                  have hal := hHeld.alloc hHeld.size (.cells #[.int .i64 (-1), .int .i64 N] 3 (0, 0))
                  replace ho := ho.alloc (.cells #[.int .i64 (-1), .int .i64 N] 3 (0, 0))
                  have hsz5 := Lib.hid (alloc_size13 X2 (.cells #[.int .i64 (-1), .int .i64 N] 3 (0, 0)))
                  generalize X2.heap.size = b5 at *
                  generalize X2.alloc (.cells #[.int .i64 (-1), .int .i64 N] 3 (0, 0)) = X3 at *
                  replace lsz : b0 ≤ X3.heap.size := by rw [hsz5.out]; omega
                  refine hK.out _ _ hal (fun hHeld => ?_)
                  clear hal
                  clear hK
                  try simp only [Act.put, List.setIfInBounds_toArray, List.set_cons_zero, List.set_cons_succ]
                  refine wpAnyH_ready (rs := [6]) (by kernel_rfl) (by simp) ?_
                  refine AllReadyH.cons (o := _) rfl (fun _ hK => ?_) AllReadyH.nil
                  have h5 := two13 n5
                  obtain ⟨v2, X4, e2, o2, b2, -⟩ := append13g 25 ho lsz h5 (by omega) (by simp)
                  have hS := hHeld.trans (b2.mono lbz)
                  have hz12 := own_intI o2
                  refine step_run13 rfl _ _ rfl _ _ v2 X4 rfl rfl e2 ?_
                  refine hK.out _ _ hS (fun hHeld => ?_)
                  clear hS e2 b2 ho n5 h5 o2
                  clear hK
                  try simp only [Act.put, List.setIfInBounds_toArray]
                  refine wpAnyH_ready (rs := [7]) (by kernel_rfl) (by simp) ?_
                  refine AllReadyH.cons (o := _) rfl (fun _ hK => ?_) AllReadyH.nil
                  go_simp
                  refine hK.out _ _ hHeld (fun hHeld => ?_)
                  clear hK
                  try simp only [Act.put, List.setIfInBounds_toArray, List.set_cons_zero, List.set_cons_succ]
                  refine wpAnyH_done (by kernel_rfl) ?_ _
                  go_wp2_with fail
                  go_meet
                  exact ⟨v2, rfl, hz12, hHeld⟩
                refine AllReadyH.cons (o := _) rfl (fun _ hK => ?_) AllReadyH.nil
                go_simp
                have n5 := heap_alloc_new X1 (.cells #[.int .i64 (-1), .int .i64 N] 3 (0, 0))
                have hal := hHeld.alloc hHeld.size (.cells #[.int .i64 (-1), .int .i64 N] 3 (0, 0))
                replace ho := ho.alloc (.cells #[.int .i64 (-1), .int .i64 N] 3 (0, 0))
                have hsz5 := Lib.hid (alloc_size13 X1 (.cells #[.int .i64 (-1), .int .i64 N] 3 (0, 0)))
                generalize X1.heap.size = b5 at *
                generalize X1.alloc (.cells #[.int .i64 (-1), .int .i64 N] 3 (0, 0)) = X2 at *
                replace lsz : b0 ≤ X2.heap.size := by rw [hsz5.out]; omega
                refine hK.out _ _ hal (fun hHeld => ?_)
                clear hal
                clear hK
                try simp only [Act.put, List.setIfInBounds_toArray, List.set_cons_zero, List.set_cons_succ]
                refine wpAnyH_ready (rs := [2]) (by kernel_rfl) (by simp) ?_
                refine AllReadyH.cons (o := _) rfl (fun _ hK => ?_) AllReadyH.nil
                obtain ⟨v1, X3, e1, o1, b1, g1⟩ := append13g 25 ho lsz ((hcs.below hHeld).more hHeld.size) (by decide) (by omega)
                have hS := hHeld.trans (b1.mono lbz)
                replace lsz := Nat.le_trans lsz b1.size
                rw [List.nil_append] at o1
                replace n5 := (g1.block b5 (size_of_block n5) (fun e => absurd (Option.some.inj e : b5 = b0) (by have := hsz.out; have := hsz5.out; omega))).trans n5
                refine step_run13 rfl _ _ rfl _ _ v1 X3 rfl rfl e1 ?_
                refine hK.out _ _ hS (fun hHeld => ?_)
                clear hS e1 b1 g1 ho
                clear hK
                try simp only [Act.put, List.setIfInBounds_toArray]
                have ho := o1
                clear o1
                refine wpAnyH_ready (rs := [6]) (by kernel_rfl) (by simp) ?_
                refine AllReadyH.cons (o := _) rfl (fun _ hK => ?_) AllReadyH.nil
                have h5 := two13 n5
                obtain ⟨v2, X4, e2, o2, b2, -⟩ := append13g 25 ho lsz h5 (by omega) (by simp)
                have hS := hHeld.trans (b2.mono lbz)
                have hz12 := own_intI o2
                refine step_run13 rfl _ _ rfl _ _ v2 X4 rfl rfl e2 ?_
                refine hK.out _ _ hS (fun hHeld => ?_)
                clear hS e2 b2 ho n5 h5 o2
                clear hK
                try simp only [Act.put]
                refine wpAnyH_ready (rs := [7]) (by kernel_rfl) (by simp) ?_
                refine AllReadyH.cons (o := _) rfl (fun _ hK => ?_) AllReadyH.nil
                go_simp
                refine hK.out _ _ hHeld (fun hHeld => ?_)
                clear hK
                try simp only [Act.put, List.setIfInBounds_toArray, List.set_cons_zero, List.set_cons_succ]
                refine wpAnyH_done (by kernel_rfl) ?_ _
                go_wp2_with fail
                go_meet
                exact ⟨v2, rfl, hz12, hHeld⟩
              refine AllReadyH.cons (o := _) rfl (fun _ hK => ?_) AllReadyH.nil
              go_simp
              have n5 := heap_alloc_new X0 (.cells #[.int .i64 (-1), .int .i64 N] 3 (0, 0))
              have hal := hHeld.alloc hHeld.size (.cells #[.int .i64 (-1), .int .i64 N] 3 (0, 0))
              have hsz5 := Lib.hid (alloc_size13 X0 (.cells #[.int .i64 (-1), .int .i64 N] 3 (0, 0)))
              generalize X0.heap.size = b5 at *
              generalize X0.alloc (.cells #[.int .i64 (-1), .int .i64 N] 3 (0, 0)) = X1 at *
              refine hK.out _ _ hal (fun hHeld => ?_)
              clear hal
              clear hK
              try simp only [Act.put, List.setIfInBounds_toArray, List.set_cons_zero, List.set_cons_succ]
              refine wpAnyH_ready (rs := [0]) (by kernel_rfl) (by simp) ?_
              refine AllReadyH.cons (o := _) rfl (fun _ hK => ?_) AllReadyH.nil
              go_simp
              have ho := own_nil13 X1
              have hal := hHeld.alloc hHeld.size (.cells #[] 3 (0, 0))
              have lbz := hHeld.size
              have l5 := size_of_block n5
              replace n5 := keep_alloc (x := .cells #[] 3 (0, 0)) n5
              have hsz := Lib.hid (alloc_size13 X1 (.cells #[] 3 (0, 0)))
              generalize X1.heap.size = b0 at *
              generalize X1.alloc (.cells #[] 3 (0, 0)) = X2 at *
              have lsz : b0 ≤ X2.heap.size := by rw [hsz.out]; omega
              refine hK.out _ _ hal (fun hHeld => ?_)
              clear hal
              clear hK
              try simp only [Act.put, List.setIfInBounds_toArray, List.set_cons_zero, List.set_cons_succ]
              refine wpAnyH_ready (rs := [2]) (by kernel_rfl) (by simp) ?_
              refine AllReadyH.cons (o := _) rfl (fun _ hK => ?_) AllReadyH.nil
              obtain ⟨v1, X3, e1, o1, b1, g1⟩ := append13g 25 ho lsz ((hcs.below hHeld).more hHeld.size) (by decide) (by omega)
              have hS := hHeld.trans (b1.mono lbz)
              replace lsz := Nat.le_trans lsz b1.size
              rw [List.nil_append] at o1
              replace n5 := (g1.block b5 (size_of_block n5) (fun e => absurd (Option.some.inj e : b5 = b0) (by have := hsz.out; have := hsz5.out; omega))).trans n5
              refine step_run13 rfl _ _ rfl _ _ v1 X3 rfl rfl e1 ?_
              refine hK.out _ _ hS (fun hHeld => ?_)
              clear hS e1 b1 g1 ho
              clear hK
              try simp only [Act.put, List.setIfInBounds_toArray]
              have ho := o1
              clear o1
              refine wpAnyH_ready (rs := [6]) (by kernel_rfl) (by simp) ?_
              refine AllReadyH.cons (o := _) rfl (fun _ hK => ?_) AllReadyH.nil
              have h5 := two13 n5
              obtain ⟨v2, X4, e2, o2, b2, -⟩ := append13g 25 ho lsz h5 (by omega) (by simp)
              have hS := hHeld.trans (b2.mono lbz)
              have hz12 := own_intI o2
              refine step_run13 rfl _ _ rfl _ _ v2 X4 rfl rfl e2 ?_
              refine hK.out _ _ hS (fun hHeld => ?_)
              clear hS e2 b2 ho n5 h5 o2
              clear hK
              try simp only [Act.put]
              refine wpAnyH_ready (rs := [7]) (by kernel_rfl) (by simp) ?_
              refine AllReadyH.cons (o := _) rfl (fun _ hK => ?_) AllReadyH.nil
              go_simp
              refine hK.out _ _ hHeld (fun hHeld => ?_)
              clear hK
              try simp only [Act.put, List.setIfInBounds_toArray, List.set_cons_zero, List.set_cons_succ]
              refine wpAnyH_done (by kernel_rfl) ?_ _
              go_wp2_with fail
              go_meet
              exact ⟨v2, rfl, hz12, hHeld⟩
            case rest =>
              obtain ⟨v12, rfl, h12, hc⟩ := hcut
              have hBc := hBr.trans (hc.mono hBr.size)
              have hbc := keep_blk hc hbr
              have S1 := fun X : After wc => HS N _ _ ls _ X.1 ((hLr.below (hc.trans (X.2.mono hc.size))).more (hc.trans (X.2.mono hc.size)).size) ((hall.below (hc.trans (X.2.mono hc.size))).more (hc.trans (X.2.mono hc.size)).size)
              have S2 := fun X : After wc => HS N _ _ ls _ X.1 ((hLr.below (hc.trans (X.2.mono hc.size))).more (hc.trans (X.2.mono hc.size)).size) ((h12.below X.2).more X.2.size)
              have S3 := fun X : After wc => HS N _ _ ls _ X.1 ((hLr.below (hc.trans (X.2.mono hc.size))).more (hc.trans (X.2.mono hc.size)).size) ((hur.below (hc.trans (X.2.mono hc.size))).more (hc.trans (X.2.mono hc.size)).size)
              have hK4 := fun X : After wc => HK X.1 (hT.below (hBc.trans (X.2.mono hBc.size)))
              rw [hrH.out, Bool.true_and, hevH.out] at S1
              rw [hrH.out, Bool.true_and, hstH.out] at S2
              rw [hrH.out, Bool.true_and] at S3
              generalize solvesM ls cols = s3 at *
              have e1 : (sm == sm) = true := by simp
              have e2 : (s3 == s3) = true := by simp
              unfold mtv at S1 S2 S3
              clear hevH hstH hrH hall hLr hur HK HS n0 n1
              obtain ⟨n0, n1, -⟩ := box2 hbc rfl
              go_upto_region 17 with (fail)
              refine wp_region_after (by kernel_rfl) (by kernel_rfl) ?_
              repeat (first | go_big_quiet_step (first | (go_at_call_of 9 (Value.slice Av k cv1); exact Calls.after_of (S1 _)) | (go_at_call_of 9 u12; exact Calls.after_of (S2 _)) | (go_at_call_of 9 (Value.slice A2 cols.length c2); exact Calls.after_of (S3 _)) | (go_at_call 6; exact Calls.after_of (hK4 _))))
              refine wpQuiet_nil ?_
              intro z
              have hBz := hBc.trans (z.2.mono hBc.size)
              clear S1 S2 S3 hK4 n0 n1
              go_wp2
              go_ret
              exact ⟨rfl, hBz⟩
theorem coverMore_any (HS : SolvesV) (HK : Knows13) (n : Int) (L u t : Value) (ls : List (List Int)) (cols more : List Int) (w : World) (hT : TabW w) (hL : MatAt w w.heap.size L ls) (hu : IntsAt w w.heap.size u cols) (ht : IntsAt w w.heap.size t more) :
    Calls Tryd.prog 4 #[mtv n L, u, t] w fun e w' => e = .returned (.bool true) ∧ Below w.heap.size w w' := by
  cases hg : greatM ls
  · by_cases h1 : 100 < cols.length
    · exact more13_many HK n L u t ls cols more w hT hL hu ht hg h1
    by_cases h2 : 100 < more.length
    · exact more13_more HK n L u t ls cols more w hT hL hu ht hg h1 h2
    cases hr : rightM n ls
    · exact more13_wrong HK n L u t ls cols more w hT hL hu ht hg h1 h2 hr
    by_cases h3 : 200 < n
    · exact more13_wide HK n L u t ls cols more w hT hL hu ht hg h1 h2 hr h3
    · exact more13_good HS HK n L u t ls cols more w hT hL hu ht hg h1 h2 hr h3
  · exact more13_great HK n L u t ls cols more w hT hL hu ht hg
end Go.Proofs.YtdfllifjbabfjaaDoor
