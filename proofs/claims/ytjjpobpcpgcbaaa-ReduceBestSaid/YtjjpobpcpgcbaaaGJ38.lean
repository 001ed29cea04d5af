/- CoverMore, over what the package answers. The document's examples of layer 14, over what package reduce answers. A set that comes in reads as 256 bits. A slice of numbers that comes in. A matrix that comes in. -/
import Derived.Test.YtjjpobpcpgcbaaaGJ13
import Derived.Test.YtjjpobpcpgcbaaaGJ25
import Derived.Test.YtjjpobpcpgcbaaaGJxLaw14d
import Derived.Test.YtjjpobpcpgcbaaaGJ37
import Derived.Test.YtjjpobpcpgcbaaaRows
import Derived.Test.YtjjpobpcpgcbaaaGJ01
import Derived.Test.YtjjpobpcpgcbaaaGJ03
import Derived.Test.YtjjpobpcpgcbaaaGJ05
import Derived.Deep.RegionHeld3
import Derived.ProofKit
import Derived.OpenShut
import Derived.Lib.SmallJoins
import Derived.Deep.Slices
import Derived.ChangeSlices
namespace Go.Proofs.Ytjjpobpcpgcbaaa
open Go.RowKit Go.Joins

theorem wpList_append13 {ops : Array Oper} {rest : List Oper} {o : Oper} {a : Act} {Q : Exit → Act → World → Prop} {w : World}
    (hg : o.guard = none) (s x : Operand) (hop : o.op = .call { callee := .builtin .append, args := #[s, x], argTypes := #[38, 38] }) (V v v' : Value) (w' : World) (hs : a.eval s = V) (hx : a.eval x = v)
    (hrun : (Builtin.append_ #[38, 38] o.type #[V, v]).run Try.prog w = .ok v' w') (hK : wpList Try.prog ops Q rest (a.put o.dst v') w') : wpList Try.prog ops Q (o :: rest) a w := by
  refine wpList_plain hg fun K' hK' => ?_
  unfold Oper.wp execOp
  simp [hop, resolve, invoke, builtin, hs, hx, hrun, Result.andThen]
  exact hK' _ _ hK
theorem step_run13 {ops : Array Oper} {o : Oper} {a : Act} {w : World} {K : Act → World → Prop} {Q : Exit → Act → World → Prop} {E : Prop} (hgd : o.guard = none) (s x : Operand)
    (ho : o.op = .call { callee := .builtin .append, args := #[s, x], argTypes := #[38, 38] }) (V v v' : Value) (w' : World) (hs : a.eval s = V) (hx : a.eval x = v)
    (hrun : (Builtin.append_ #[38, 38] o.type #[V, v]).run Try.prog w = .ok v' w') (h : K (a.put o.dst v') w') :
    if Region.wanted o (yielded ops a.tmps) = true then Oper.wp Try.prog o a w K Q else E := by
  have hw : Region.wanted o (yielded ops a.tmps) = true := by simp [Region.wanted, hgd]
  rw [if_pos hw]
  unfold Oper.wp execOp
  simp [ho, resolve, invoke, builtin, hs, hx, hrun, Result.andThen]
  exact h
theorem right_pos13 {n : Int} {ls : List (List Int)} (h : rightM n ls = true) : 0 ≤ n := by
  unfold rightM at h
  rw [Bool.and_eq_true, Bool.and_eq_true, decide_eq_true_iff, decide_eq_true_iff] at h
  exact h.1.1
theorem alloc_size13 (w : World) (o : Obj) : (w.alloc o).heap.size = w.heap.size + 1 := by simp
theorem two13 {w : World} {b : Nat} {x y : Int} (h : w.heap[b]? = some (.cells #[.int .i64 x, .int .i64 y] 3 (0, 0))) : IntsAt w w.heap.size (.slice (some ⟨b, 0, none⟩) 2 2) [x, y] := by
  refine ⟨some ⟨b, 0, none⟩, 2, rfl, by simp, fun _ => ⟨b, 0, rfl, size_of_block h, fun j z hj => ?_⟩⟩
  rw [cell_of_block h]
  match j, hj with
  | 0, hj => injection hj with hj; subst hj; rfl
  | 1, hj => injection hj with hj; subst hj; rfl
  | j + 2, hj => cases hj
set_option maxRecDepth 100000 in
/-- 'append(o, v...)' for a row of the call's own; what else there is stays. -/
theorem append13g {w : World} {B : Nat} {V v : Value} {xs l : List Int} (ty : TypeId) (hown : w.ownsRow B 3 1 V xs.length (intI xs)) (hB : B ≤ w.heap.size) (hz : IntsAt w w.heap.size v l) (h1 : xs.length ≤ 1000) (h2 : l.length ≤ 1000) :
    ∃ v' w', (Builtin.append_ #[38, 38] ty #[V, v]).run Try.prog w = .ok v' w' ∧ w'.ownsRow B 3 1 v' (xs ++ l).length (intI (xs ++ l)) ∧ Below B w w' ∧ w.grownBy w' V.ownBlock := by
  obtain ⟨i0, hi0, hz0, hz1, hz2⟩ := info_parts Try.infoInt
  obtain ⟨A, c, rfl, hl, hc⟩ := hz
  cases A with
  | none =>
    have h0 : l = [] := by
      cases l with
      | nil => rfl
      | cons x r => obtain ⟨b, off, e, _⟩ := hc (by simp); cases e
    subst h0
    refine ⟨V, w, ?_, by rw [List.append_nil]; exact hown, Below.refl _ _, ⟨rfl, rfl, rfl, Nat.le_refl _, fun _ _ _ => rfl⟩⟩
    rcases hown.2 with ⟨rfl, h⟩ | ⟨g, cap, cur, rfl, _, _, hnc, _⟩
    · simp [Builtin.append_, run_underlying Try.underlying38, sizeOf, typeInfo, hi0, Builtin.lenOf, Builtin.firstCells]
    · simp [Builtin.append_, run_underlying Try.underlying38, sizeOf, typeInfo, hi0, Builtin.lenOf, Builtin.firstCells, hnc, storeCells]
  | some a =>
    obtain ⟨v', w', hrun, ho, hg, -⟩ := run_append_own (P := Try.prog) w B 38 ty 3 i0 (.int .i64 0) 1 8 Try.underlying38 hi0 hz0 hz1 hz2 rfl (by decide) V xs.length (intI xs) hown a l.length c (intI l) (by rw [intI_len, Nat.mul_one])
      (fun j u hj => by
        unfold intI at hj
        rw [List.getElem?_map] at hj
        cases hx : l[j]? with
        | none => rw [hx] at hj; cases hj
        | some x =>
          rw [hx, Option.map_some] at hj
          have hjl := (List.getElem?_eq_some_iff.1 hx).1
          obtain ⟨b, off, e, hb, hcell⟩ := hc (by omega)
          injection e with e
          subst e
          rw [Addr.add_lit, hcell j x hx]
          exact hj)
      (fun u hu => by unfold intI at hu; obtain ⟨x, _, rfl⟩ := List.mem_map.1 hu; rfl) (by unfold maxLen; omega) (by omega) hB
    refine ⟨v', w', hrun, ?_, (Below.refl B w).grown hg hB (fun k hk => (hown.lt k hk).1), hg⟩
    rw [List.length_append]
    have e : intI (xs ++ l) = intI xs ++ intI l := by unfold intI; rw [List.map_append]
    rw [e]
    exact ho
end Go.Proofs.Ytjjpobpcpgcbaaa
namespace Go.Proofs.Ytjjpobpcpgcbaaa
open Go.RowKit Go.Joins

theorem lit_mat3 {w : World} {b : Nat} {u v x : Value} {l m k : List Int} {T : TypeId} (h : w.heap[b]? = some (.cells #[u, v, x] T (0, 0))) (hu : IntsAt w w.heap.size u l) (hv : IntsAt w w.heap.size v m) (hx : IntsAt w w.heap.size x k) : MatAt w w.heap.size (.slice (some ⟨b, 0, none⟩) 3 3) [l, m, k] := by
  refine ⟨_, 3, rfl, (show (3 : Nat) ≤ 9223372036854775807 by decide), fun _ => ⟨b, 0, rfl, size_of_block h, fun j y hy => ?_⟩⟩
  match j, hy with
  | 0, hy =>
    injection hy with hy
    subst hy
    exact ⟨u, by rw [cell_of_block h]; rfl, hu⟩
  | 1, hy =>
    injection hy with hy
    subst hy
    exact ⟨v, by rw [cell_of_block h]; rfl, hv⟩
  | 2, hy =>
    injection hy with hy
    subst hy
    exact ⟨x, by rw [cell_of_block h]; rfl, hx⟩
theorem cap_ok14 (A : Option Addr) (n : Nat) : CapOk (.slice A n n) := fun _ _ _ h => by
  injection h with _ h1 h2
  omega
theorem cap_lit14 {w : World} {b n : Nat} {cs : Array Value} (h : w.heap[b]? = some (.cells cs 38 (0, 0))) (hc : ∀ j, j < n → ∃ A m, cs[j]? = some (.slice A m m)) : CapM w (.slice (some ⟨b, 0, none⟩) n n) := fun A m c e => by
  injection e with e1 e2 e3
  subst e1
  subst e2
  subst e3
  refine ⟨Nat.le_refl _, fun _ => ⟨b, 0, rfl, size_of_block h, fun j hj => ?_⟩⟩
  obtain ⟨A', m', h1⟩ := hc j hj
  exact ⟨A', m', m', by rw [Nat.zero_add, cell_of_block h]; exact h1, Nat.le_refl _⟩
theorem x14_great : gr14 3 [[0], [0, 1], [1, 2]] = false := by decide +kernel
theorem x14_right : rightM 3 [[0], [0, 1], [1, 2]] = true := by decide +kernel
theorem x14_tak : takL 3 [[0], [0, 1], [1, 2]] = [0, 1] := by decide +kernel
theorem x14_red : (redL 3 [[0], [0, 1], [1, 2]]).2 = [] := by decide +kernel
theorem y14_great : gr14 3 [[0, 1], [2]] = false := by decide +kernel
theorem y14_right : rightM 3 [[0, 1], [2]] = true := by decide +kernel
theorem y14_tkV : tkV [[0, 1], [2]] = 2 := by decide +kernel
theorem y14_tkC : (tkC [[0, 1], [2]]).isSome = true := by decide +kernel
theorem mat3_new (w : World) : MatAt ((((w.alloc (.cells #[.int .i64 0] 3)).alloc (.cells #[.int .i64 0, .int .i64 1] 3)).alloc (.cells #[.int .i64 1, .int .i64 2] 3)).alloc (.cells #[.slice (some ⟨w.heap.size, 0, none⟩) 1 1, .slice (some ⟨w.heap.size + 1, 0, none⟩) 2 2, .slice (some ⟨w.heap.size + 1 + 1, 0, none⟩) 2 2] 38)) ((((w.alloc (.cells #[.int .i64 0] 3)).alloc (.cells #[.int .i64 0, .int .i64 1] 3)).alloc (.cells #[.int .i64 1, .int .i64 2] 3)).alloc (.cells #[.slice (some ⟨w.heap.size, 0, none⟩) 1 1, .slice (some ⟨w.heap.size + 1, 0, none⟩) 2 2, .slice (some ⟨w.heap.size + 1 + 1, 0, none⟩) 2 2] 38)).heap.size (.slice (some ⟨w.heap.size + 1 + 1 + 1, 0, none⟩) 3 3) [[0], [0, 1], [1, 2]] ∧ Below w.heap.size w ((((w.alloc (.cells #[.int .i64 0] 3)).alloc (.cells #[.int .i64 0, .int .i64 1] 3)).alloc (.cells #[.int .i64 1, .int .i64 2] 3)).alloc (.cells #[.slice (some ⟨w.heap.size, 0, none⟩) 1 1, .slice (some ⟨w.heap.size + 1, 0, none⟩) 2 2, .slice (some ⟨w.heap.size + 1 + 1, 0, none⟩) 2 2] 38)) ∧ CapM ((((w.alloc (.cells #[.int .i64 0] 3)).alloc (.cells #[.int .i64 0, .int .i64 1] 3)).alloc (.cells #[.int .i64 1, .int .i64 2] 3)).alloc (.cells #[.slice (some ⟨w.heap.size, 0, none⟩) 1 1, .slice (some ⟨w.heap.size + 1, 0, none⟩) 2 2, .slice (some ⟨w.heap.size + 1 + 1, 0, none⟩) 2 2] 38)) (.slice (some ⟨w.heap.size + 1 + 1 + 1, 0, none⟩) 3 3) := by
  have t0 := heap_alloc_new w (.cells #[.int .i64 0] 3)
  have b := below_alloc1 w (.cells #[.int .i64 0] 3)
  have t1 := heap_alloc_new (w.alloc (.cells #[.int .i64 0] 3)) (.cells #[.int .i64 0, .int .i64 1] 3)
  rw [alloc_size13] at t1
  replace t0 := keep_alloc (x := .cells #[.int .i64 0, .int .i64 1] 3) t0
  replace b := b.trans ((below_alloc1 (w.alloc (.cells #[.int .i64 0] 3)) (.cells #[.int .i64 0, .int .i64 1] 3)).mono b.size)
  have t2 := heap_alloc_new ((w.alloc (.cells #[.int .i64 0] 3)).alloc (.cells #[.int .i64 0, .int .i64 1] 3)) (.cells #[.int .i64 1, .int .i64 2] 3)
  rw [alloc_size13, alloc_size13] at t2
  replace t0 := keep_alloc (x := .cells #[.int .i64 1, .int .i64 2] 3) t0
  replace t1 := keep_alloc (x := .cells #[.int .i64 1, .int .i64 2] 3) t1
  replace b := b.trans ((below_alloc1 ((w.alloc (.cells #[.int .i64 0] 3)).alloc (.cells #[.int .i64 0, .int .i64 1] 3)) (.cells #[.int .i64 1, .int .i64 2] 3)).mono b.size)
  have t3 := heap_alloc_new (((w.alloc (.cells #[.int .i64 0] 3)).alloc (.cells #[.int .i64 0, .int .i64 1] 3)).alloc (.cells #[.int .i64 1, .int .i64 2] 3)) (.cells #[.slice (some ⟨w.heap.size, 0, none⟩) 1 1, .slice (some ⟨w.heap.size + 1, 0, none⟩) 2 2, .slice (some ⟨w.heap.size + 1 + 1, 0, none⟩) 2 2] 38)
  rw [alloc_size13, alloc_size13, alloc_size13] at t3
  replace t0 := keep_alloc (x := .cells #[.slice (some ⟨w.heap.size, 0, none⟩) 1 1, .slice (some ⟨w.heap.size + 1, 0, none⟩) 2 2, .slice (some ⟨w.heap.size + 1 + 1, 0, none⟩) 2 2] 38) t0
  replace t1 := keep_alloc (x := .cells #[.slice (some ⟨w.heap.size, 0, none⟩) 1 1, .slice (some ⟨w.heap.size + 1, 0, none⟩) 2 2, .slice (some ⟨w.heap.size + 1 + 1, 0, none⟩) 2 2] 38) t1
  replace t2 := keep_alloc (x := .cells #[.slice (some ⟨w.heap.size, 0, none⟩) 1 1, .slice (some ⟨w.heap.size + 1, 0, none⟩) 2 2, .slice (some ⟨w.heap.size + 1 + 1, 0, none⟩) 2 2] 38) t2
  replace b := b.trans ((below_alloc1 (((w.alloc (.cells #[.int .i64 0] 3)).alloc (.cells #[.int .i64 0, .int .i64 1] 3)).alloc (.cells #[.int .i64 1, .int .i64 2] 3)) (.cells #[.slice (some ⟨w.heap.size, 0, none⟩) 1 1, .slice (some ⟨w.heap.size + 1, 0, none⟩) 2 2, .slice (some ⟨w.heap.size + 1 + 1, 0, none⟩) 2 2] 38)).mono b.size)
  exact ⟨lit_mat3 t3 (lit_int1 t0) (lit_int2 t1) (lit_int2 t2), b, cap_lit14 t3 (fun j hj => by match j, hj with | 0, _ => exact ⟨_, _, rfl⟩ | 1, _ => exact ⟨_, _, rfl⟩ | 2, _ => exact ⟨_, _, rfl⟩)⟩
theorem mat2_new (w : World) : MatAt (((w.alloc (.cells #[.int .i64 0, .int .i64 1] 3)).alloc (.cells #[.int .i64 2] 3)).alloc (.cells #[.slice (some ⟨w.heap.size, 0, none⟩) 2 2, .slice (some ⟨w.heap.size + 1, 0, none⟩) 1 1] 38)) (((w.alloc (.cells #[.int .i64 0, .int .i64 1] 3)).alloc (.cells #[.int .i64 2] 3)).alloc (.cells #[.slice (some ⟨w.heap.size, 0, none⟩) 2 2, .slice (some ⟨w.heap.size + 1, 0, none⟩) 1 1] 38)).heap.size (.slice (some ⟨w.heap.size + 1 + 1, 0, none⟩) 2 2) [[0, 1], [2]] ∧ Below w.heap.size w (((w.alloc (.cells #[.int .i64 0, .int .i64 1] 3)).alloc (.cells #[.int .i64 2] 3)).alloc (.cells #[.slice (some ⟨w.heap.size, 0, none⟩) 2 2, .slice (some ⟨w.heap.size + 1, 0, none⟩) 1 1] 38)) ∧ CapM (((w.alloc (.cells #[.int .i64 0, .int .i64 1] 3)).alloc (.cells #[.int .i64 2] 3)).alloc (.cells #[.slice (some ⟨w.heap.size, 0, none⟩) 2 2, .slice (some ⟨w.heap.size + 1, 0, none⟩) 1 1] 38)) (.slice (some ⟨w.heap.size + 1 + 1, 0, none⟩) 2 2) := by
  have t0 := heap_alloc_new w (.cells #[.int .i64 0, .int .i64 1] 3)
  have b := below_alloc1 w (.cells #[.int .i64 0, .int .i64 1] 3)
  have t1 := heap_alloc_new (w.alloc (.cells #[.int .i64 0, .int .i64 1] 3)) (.cells #[.int .i64 2] 3)
  rw [alloc_size13] at t1
  replace t0 := keep_alloc (x := .cells #[.int .i64 2] 3) t0
  replace b := b.trans ((below_alloc1 (w.alloc (.cells #[.int .i64 0, .int .i64 1] 3)) (.cells #[.int .i64 2] 3)).mono b.size)
  have t2 := heap_alloc_new ((w.alloc (.cells #[.int .i64 0, .int .i64 1] 3)).alloc (.cells #[.int .i64 2] 3)) (.cells #[.slice (some ⟨w.heap.size, 0, none⟩) 2 2, .slice (some ⟨w.heap.size + 1, 0, none⟩) 1 1] 38)
  rw [alloc_size13, alloc_size13] at t2
  replace t0 := keep_alloc (x := .cells #[.slice (some ⟨w.heap.size, 0, none⟩) 2 2, .slice (some ⟨w.heap.size + 1, 0, none⟩) 1 1] 38) t0
  replace t1 := keep_alloc (x := .cells #[.slice (some ⟨w.heap.size, 0, none⟩) 2 2, .slice (some ⟨w.heap.size + 1, 0, none⟩) 1 1] 38) t1
  replace b := b.trans ((below_alloc1 ((w.alloc (.cells #[.int .i64 0, .int .i64 1] 3)).alloc (.cells #[.int .i64 2] 3)) (.cells #[.slice (some ⟨w.heap.size, 0, none⟩) 2 2, .slice (some ⟨w.heap.size + 1, 0, none⟩) 1 1] 38)).mono b.size)
  exact ⟨lit_mat2 t2 (lit_int2 t0) (lit_int1 t1), b, cap_lit14 t2 (fun j hj => by match j, hj with | 0, _ => exact ⟨_, _, rfl⟩ | 1, _ => exact ⟨_, _, rfl⟩)⟩
set_option maxHeartbeats 4000000 in
set_option maxRecDepth 100000 in
theorem knows14_any (HR : ReduceGood) (HT : TakeGood) : Knows14 := by
  intro w
  obtain ⟨hM0, hB, hC0⟩ := mat3_new w
  go_enter Try.func8, Try.ntmps8
  go_wp2_with fail
  generalize (((w.alloc _).alloc _).alloc _).alloc _ = w1 at *
  have D := HR 3 _ _ w1 hM0 hC0 x14_great x14_right
  rw [x14_tak, x14_red] at D
  unfold mtv at D
  clear hM0 hC0
  refine D.mono ?_
  rintro e w2 ⟨u, r, rfl, hu, hM, -, hb⟩
  replace hB := hB.trans (hb.mono hB.size)
  obtain ⟨Ar, cr, rfl, -, -⟩ := id hM
  obtain ⟨Au, cu, rfl, -, -⟩ := id hu
  clear D hM hb
  have hA := below_alloc1 w2 (.cells #[.int .i64 3, .slice Ar 0 cr] 24 (0, 0))
  have hbr := heap_alloc_new w2 (.cells #[.int .i64 3, .slice Ar 0 cr] 24 (0, 0))
  replace hB := hB.trans (hA.mono hB.size)
  replace hu := (hu.below hA).more hA.size
  clear hA
  go_upto_region 2 with (fail)
  generalize w2.alloc _ = w3 at *
  obtain ⟨hM0, hb, hC0⟩ := mat2_new w3
  replace hB := hB.trans (hb.mono hB.size)
  replace hu := (hu.below hb).more hb.size
  replace hbr := keep_blk hb hbr
  clear hb
  go_wp2_with fail
  generalize ((w3.alloc _).alloc _).alloc _ = w4 at *
  have D := HT 3 _ _ w4 hM0 hC0 y14_great y14_right
  rw [y14_tkV, y14_tkC] at D
  unfold mtv at D
  clear hM0 hC0
  refine D.mono ?_
  rintro e w5 ⟨v, rfl, hM, hb⟩
  replace hB := hB.trans (hb.mono hB.size)
  replace hu := (hu.below hb).more hb.size
  replace hbr := keep_blk hb hbr
  obtain ⟨Av, cv, rfl, -, -⟩ := id hM
  clear D hM hb
  have hA := below_alloc1 w5 (.cells #[.int .i64 3, .slice Av (tkL [[0, 1], [2]]).length cv] 24 (0, 0))
  replace hB := hB.trans (hA.mono hB.size)
  replace hu := (hu.below hA).more hA.size
  replace hbr := keep_blk hA hbr
  clear hA
  go_upto_region 3 with (fail)
  generalize w5.alloc _ = w6 at *
  have hA := below_alloc1 w6 (.cells #[.int .i64 0, .int .i64 1] 3)
  have t := heap_alloc_new w6 (.cells #[.int .i64 0, .int .i64 1] 3)
  replace hB := hB.trans (hA.mono hB.size)
  replace hu := (hu.below hA).more hA.size
  replace hbr := keep_blk hA hbr
  clear hA
  go_wp2_with fail
  generalize w6.alloc _ = w7 at *
  have D := rsame13_any w7 _ _ _ _ hu (lit_int2 t)
  rw [decide_eq_true rfl] at D
  clear t hu
  refine D.mono ?_
  rintro e w8 ⟨rfl, hb⟩
  replace hB := hB.trans (hb.mono hB.size)
  replace hbr := keep_blk hb hbr
  clear D hb
  obtain ⟨m0, m1, -⟩ := now2 hbr rfl
  go_wp2
  go_ret
  exact ⟨rfl, hB⟩
end Go.Proofs.Ytjjpobpcpgcbaaa
namespace Go.Proofs.Ytjjpobpcpgcbaaa
open Go.ChangeShapes Go.WideShapes Go.ChangeAt Go.RowKit Go.Joins

theorem Try.own : ownKnob Try.prog.godebug = none := by kernel_rfl
theorem Try.laidOut : laidOutB Try.prog = true := by kernel_rfl
theorem Try.cellsWord : Try.prog.cellsOf 90 = 1 := by kernel_rfl

set_option maxRecDepth 100000 in
theorem word_of {H : Type} {enc : TypeId × Value → H} {w : World} {base m : Nat} {sp : Nat → Bool} {held : Bool} {c : Value} {y : DataW H × List MemPlace}
    (h : DataW.trod enc Try.prog w base sp held m 90 [c] = some y) : ∃ x : BitVec 64, c = wv x := by
  obtain ⟨a, e0, _, wa⟩ := DataW.trod_int Try.underlying90 h
  simp at e0
  subst e0
  have hb : 0 ≤ a ∧ a ≤ 18446744073709551615 := by
    simp [Lit.wf, IntKind.min, IntKind.max, IntKind.signed, IntKind.bits] at wa
    omega
  obtain ⟨n, rfl⟩ := Int.eq_ofNat_of_zero_le hb.1
  refine ⟨BitVec.ofNat 64 n, ?_⟩
  unfold wv
  rw [BitVec.toNat_ofNat, Nat.mod_eq_of_lt (by omega)]

end Go.Proofs.Ytjjpobpcpgcbaaa
namespace Go.Proofs.Ytjjpobpcpgcbaaa
open Go.ChangeShapes Go.WideShapes Go.ChangeAt Go.RowKit Go.Joins

theorem Try.cellsInt : Try.prog.cellsOf 3 = 1 := by kernel_rfl
set_option maxRecDepth 100000 in
theorem num_of {H : Type} {enc : TypeId × Value → H} {w : World} {base m : Nat} {sp : Nat → Bool} {held : Bool} {c : Value} {y : DataW H × List MemPlace}
    (h : DataW.trod enc Try.prog w base sp held m 3 [c] = some y) : ∃ x : Int, c = .int .i64 x := by
  obtain ⟨a, e0, _, wa⟩ := DataW.trod_int Try.underlying3 h
  simp at e0
  exact ⟨a, e0⟩
theorem plain_addr {w : World} {a : Addr} {v : Value} (h : w.cell? (a.add 0) = some v) : a = ⟨a.block, a.off, none⟩ ∧ a.block < w.heap.size := by
  have h0 : w.cell? a = some v := by simpa [Addr.add] using h
  have hs := World.cell?_spot h0
  refine ⟨?_, World.block_lt_of_cell? w a h0⟩
  cases a with
  | mk b o s => simp at hs; subst hs; rfl
theorem add_plain (b off i : Nat) : (⟨b, off, none⟩ : Addr).add i = ⟨b, off + i, none⟩ := by
  unfold Addr.add
  split
  · rename_i h; subst h; rfl
  · rfl
set_option maxRecDepth 100000 in
theorem ints_of {H : Type} {enc : TypeId × Value → H} {w : World} {base m : Nat} {sp : Nat → Bool} {held : Bool} {c : Value} {y : DataW H × List MemPlace}
    (h : DataW.trod enc Try.prog w base sp held m 38 [c] = some y) : ∃ o, IntsAt w w.heap.size c o := by
  rcases open_ints Try.underlying38 Try.underlying3 Try.cellsInt h with ⟨e, _⟩ | ⟨a, len, cap, zs, e, hb, hl, hm, hz, hx, hc, hw⟩
  · simp at e
    subst e
    exact ⟨[], none, 0, rfl, by decide, fun h => absurd h (by simp)⟩
  · simp at e
    subst e
    have hle : len ≤ zs.length := by rw [hz]; split <;> omega
    have hlen : (zs.take len).length = len := by rw [List.length_take]; omega
    have hmx : maxLen = 9223372036854775807 := rfl
    refine ⟨zs.take len, some a, cap, by rw [hlen], by omega, fun h0 => ?_⟩
    obtain ⟨ea, hblk⟩ := plain_addr (hc 0 (by omega))
    refine ⟨a.block, a.off, congrArg some ea, hblk, fun j x hx => ?_⟩
    rw [List.getElem?_take] at hx
    split at hx
    · have := hc j (by omega)
      rw [ea, add_plain] at this
      rw [this, List.getD_eq_getElem?_getD, hx]
      rfl
    · cases hx
theorem slice_cells {P : Program} {W : World} {r : Reach} {b t e : Nat} {v : Value} (ht : P.underlying t = some (.slice e)) (h : Value.okWide P W r b t v) : v.cells = #[v] := by
  obtain ⟨a, len, cap, rfl⟩ := okWide_slice ht h
  rfl
theorem open_intl {H : Type} {enc : TypeId × Value → H} {w : World} {base : Nat} {sp : Nat → Bool} {held : Bool} {v : Value} {d : DataW H} {p : List MemPlace}
    (hc : v.cells = #[v]) (h : DataW.Trod enc Try.prog w base sp held 38 v d p) : ∃ ks, IntsAt w w.heap.size v ks := by
  obtain ⟨fuel, hf⟩ := h
  rw [hc] at hf
  exact ints_of hf
end Go.Proofs.Ytjjpobpcpgcbaaa
namespace Go.Proofs.Ytjjpobpcpgcbaaa
open Go.ChangeShapes Go.WideShapes Go.ChangeAt Go.RowKit Go.Joins

theorem Try.cellsMatrix : Try.prog.cellsOf 24 = 2 := by kernel_rfl
theorem Try.cellsRowM : Try.prog.cellsOf 38 = 1 := by kernel_rfl
theorem Try.cellsRowsM : Try.prog.cellsOf 22 = 1 := by kernel_rfl
set_option maxRecDepth 100000 in
theorem mat_of {H : Type} {enc : TypeId × Value → H} {w : World} {base m : Nat} {sp : Nat → Bool} {held : Bool} {c : Value} {y : DataW H × List MemPlace}
    (h : DataW.trod enc Try.prog w base sp held m 22 [c] = some y) : ∃ ls, MatAt w w.heap.size c ls := by
  rcases Go.Deep.open_slice Try.underlying22 h with ⟨e, _⟩ | ⟨a, len, cap, m, n, D, Pl, e, hb, hl, hm, hmm, hx, hel⟩
  · simp at e
    subst e
    exact ⟨[], none, 0, rfl, by decide, fun h => absurd h (by simp)⟩
  · simp at e
    subst e
    have hle : len ≤ m := by rw [hmm]; split <;> omega
    have hmx : maxLen = 9223372036854775807 := rfl
    have each : ∀ i, i < len → ∃ l : List Int, ∃ ov, w.cell? (a.add i) = some ov ∧ IntsAt w w.heap.size ov l := by
      intro i hi
      obtain ⟨cs, hcs, ht⟩ := hel i (by omega)
      rw [Try.cellsRowM] at hcs
      obtain ⟨_, hn, hat⟩ := World.cells?_some hcs
      match cs, hn with
      | [c0], _ =>
        have a0 := hat 0 (by decide)
        obtain ⟨o, ho⟩ := ints_of ht
        exact ⟨o, c0, by simpa [Addr.add] using a0, ho⟩
    obtain ⟨F, hF⟩ := Go.Deep.choose_lt each
    refine ⟨(List.range len).map F, some a, cap, by simp, by simp; omega, fun h0 => ?_⟩
    have hl0 : 0 < len := by simpa using h0
    obtain ⟨ov0, z0, -⟩ := hF 0 hl0
    obtain ⟨ea, hblk⟩ := plain_addr (by simpa using z0)
    refine ⟨a.block, a.off, congrArg some ea, hblk, fun j l hj => ?_⟩
    rw [List.getElem?_map] at hj
    obtain ⟨j', hj', rfl⟩ := Option.map_eq_some_iff.1 hj
    obtain ⟨hlt, e⟩ := List.getElem?_eq_some_iff.1 hj'
    have e' : j' = j := by simpa using e.symm
    subst e'
    obtain ⟨ov, q0, hi⟩ := hF j' (by simpa using hlt)
    rw [ea] at q0
    simp only [add_plain] at q0
    exact ⟨ov, q0, hi⟩
set_option maxRecDepth 100000 in
theorem open_matrix {H : Type} {enc : TypeId × Value → H} {w W : World} {r : Reach} {b0 base : Nat} {sp : Nat → Bool} {held : Bool} {v : Value} {d : DataW H} {p : List MemPlace}
    (hv : Value.okWide Try.prog W r b0 24 v) (h : DataW.Trod enc Try.prog w base sp held 24 v d p) : ∃ (n : Int) (L : Value) (ls : List (List Int)), v = mtv n L ∧ MatAt w w.heap.size L ls := by
  have hv' : ∃ cs, v = .agg cs ∧ cs.size = Try.prog.cellsOf 24 := by
    unfold Value.okWide at hv
    rw [Try.underlying24] at hv
    obtain ⟨cs, h1, h2, _⟩ := hv
    exact ⟨cs, h1, h2⟩
  obtain ⟨cs, rfl, hsz⟩ := hv'
  obtain ⟨c0, c1, rfl⟩ := array2 (hsz.trans Try.cellsMatrix)
  obtain ⟨fuel, hf⟩ := h
  obtain ⟨y0, y1, n, _, _, h0, h1⟩ := trod_struct2 Try.underlying24 hf
  simp only [Value.cells, List.drop_zero, Try.cellsInt, Try.cellsRowsM] at h0 h1
  obtain ⟨k, rfl⟩ := num_of h0
  obtain ⟨ls, hL⟩ := mat_of h1
  exact ⟨k, c1, ls, rfl, hL⟩
end Go.Proofs.Ytjjpobpcpgcbaaa
