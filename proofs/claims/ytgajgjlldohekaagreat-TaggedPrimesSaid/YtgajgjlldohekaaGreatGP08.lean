/- The document's own Row of layer 11. -/
import Derived.Test.YtgajgjlldohekaaGreatGP07
import Derived.Test.YtgajgjlldohekaaGreatGP06
namespace Go.Proofs.YtgajgjlldohekaaGreat
open Go.RowKit Go.Joins

/-- The literals that a member tells. -/
def gK (k i : Nat) : Nat := if k.testBit (2 * i) = true then 0 else if k.testBit (2 * i + 1) = true then 1 else 2
theorem gK_le (k i : Nat) : gK k i ≤ 2 := by unfold gK; split <;> (try split) <;> omega
theorem gK_m (k : Nat) : mB (gK k) 8 = rmM k := by
  apply BitVec.eq_of_getLsbD_eq
  intro j hj
  rw [mB_bit, rmM_bit]
  unfold gK
  cases k.testBit (2 * j) <;> cases k.testBit (2 * j + 1) <;> simp [hj]
theorem gK_v {k : Nat} (h : twoB k 8 = true) : vB (gK k) 8 = rmV k := by
  apply BitVec.eq_of_getLsbD_eq
  intro j hj
  have := (twoB_iff k 8).1 h j hj
  rw [vB_bit, rmV_bit]
  unfold gK
  cases ha : k.testBit (2 * j) <;> cases hb : k.testBit (2 * j + 1) <;> simp_all
def glK (k i : Nat) : List Nat := (List.range i).map (gK k)
theorem glK_succ (k i : Nat) : glK k (i + 1) = glK k i ++ [gK k i] := by unfold glK; rw [List.range_succ, List.map_append]; rfl
theorem glK_len (k i : Nat) : (glK k i).length = i := by unfold glK; simp
theorem glK_get {k i j : Nat} (h : j < i) : (glK k i)[j]? = some (gK k j) := by
  unfold glK
  rw [List.getElem?_map, List.getElem?_range h]; rfl
def rwZ11 : Obj := .cells #[.int .u8 0, .int .u8 0, .int .u8 0] 25 (0, 0)
theorem putQ {w : World} {b : Nat} {T : TypeId} {x0 x1 x2 y0 y1 y2 : Value} (h : w.heap[b]? = some (.cells #[y0, y1, y2] T (0, 0))) :
    (((w.setCell ⟨b, 0, none⟩ x0).setCell ⟨b, 1, none⟩ x1).setCell ⟨b, 2, none⟩ x2).heap[b]? = some (.cells #[x0, x1, x2] T (0, 0)) := by
  rw [block_setCell (block_setCell (block_setCell h x0) x1) x2]
  rfl
theorem belowQ {w a : World} {B b : Nat} {x0 x1 x2 : Value} (hb : B ≤ b) (h : Below B a w) : Below B a (((w.setCell ⟨b, 0, none⟩ x0).setCell ⟨b, 1, none⟩ x1).setCell ⟨b, 2, none⟩ x2) :=
  ((h.setCell hb _).setCell hb _).setCell hb _
def rowZ11 : Value := .agg #[.int .u8 0, .int .u8 0, .int .u8 0]
set_option maxHeartbeats 1000000 in
theorem rrow11_out (k : Int) (h : k < 65536 ∨ 1048576 ≤ k) (w : World) :
    Calls Tryz.prog 8 #[.int .i64 k] w fun e w' => e = .returned (.tuple #[rowZ11, .bool false]) ∧ Below w.heap.size w w' := by
  have HP := fun w => rpower11_any 20 (by omega) w
  rw [show ((2 ^ 20 : Nat) : Int) = 1048576 by decide, show ((20 : Nat) : Int) = 20 from rfl] at HP
  have hz := heap_alloc_new w rwZ11
  have hb := below_alloc1 w rwZ11
  unfold rwZ11 at hz hb
  unfold rowZ11
  by_cases hlo : k < 65536
  · have d1 : decide (k < 65536) = true := decide_eq_true hlo
    clear h HP
    go_enter Tryz.func8, Tryz.ntmps8
    go_upto_region 1 with (fail)
    generalize w.alloc _ = W at *
    obtain ⟨z0, z1, z2, zf⟩ := now3 hz rfl
    have hput := putQ (x0 := .int .u8 0) (x1 := .int .u8 0) (x2 := .int .u8 0) hz
    obtain ⟨q0, q1, q2, -⟩ := now3 hput rfl
    have hBz := belowQ (b := w.heap.size) (x0 := .int .u8 0) (x1 := .int .u8 0) (x2 := .int .u8 0) (Nat.le_refl _) hb
    go_wp2
    exact bodyPost_ret (v := .tuple #[.agg #[.int .u8 0, .int .u8 0, .int .u8 0], .bool false]) (by simp [results, Tryz.results8, go_sem, q0, q1, q2]) rfl ⟨rfl, hBz⟩
  · have d1 : decide (k < 65536) = false := decide_eq_false hlo
    have d2 : decide (1048576 ≤ k) = true := decide_eq_true (by omega)
    clear h
    go_enter Tryz.func8, Tryz.ntmps8
    go_upto_region 1 with (fail)
    generalize w.alloc _ = W at *
    go_wp2_with fail
    refine (HP _).mono ?_
    rintro e w1 ⟨rfl, rfl⟩
    obtain ⟨z0, z1, z2, zf⟩ := now3 hz rfl
    have hput := putQ (x0 := .int .u8 0) (x1 := .int .u8 0) (x2 := .int .u8 0) hz
    obtain ⟨q0, q1, q2, -⟩ := now3 hput rfl
    have hBz := belowQ (b := w.heap.size) (x0 := .int .u8 0) (x1 := .int .u8 0) (x2 := .int .u8 0) (Nat.le_refl _) hb
    clear HP
    go_wp2
    exact bodyPost_ret (v := .tuple #[.agg #[.int .u8 0, .int .u8 0, .int .u8 0], .bool false]) (by simp [results, Tryz.results8, go_sem, q0, q1, q2]) rfl ⟨rfl, hBz⟩
/-- The boxes of Row. -/
structure RwI (w wr : World) (xb : Nat) (c0 c1 : Value) (o : Int) : Prop where
  r : wr.heap[w.heap.size]? = some (.cells #[.int .u8 0, .int .u8 0, .int .u8 0] 25 (0, 0))
  x : wr.heap[xb]? = some (.cells #[c0, c1, .int .u8 o] 25 (0, 0))
  b : Below w.heap.size w wr
theorem RwI.after {w wr w2 : World} {xb : Nat} {c0 c1 : Value} {o : Int} (h : RwI w wr xb c0 c1 o) (hb : Below wr.heap.size wr w2) : RwI w w2 xb c0 c1 o :=
  ⟨keep_blk hb h.r, keep_blk hb h.x, h.b.trans (hb.mono h.b.size)⟩
theorem RwI.grown {w wr w2 : World} {xb : Nat} {c0 c1 : Value} {o : Int} (h : RwI w wr xb c0 c1 o) (hx : w.heap.size < xb) {g : Option Nat} (hg : wr.grownBy w2 g) (hn : ∀ k, g = some k → xb < k) : RwI w w2 xb c0 c1 o := by
  have h1 := size_of_block h.r
  have h2 := size_of_block h.x
  refine ⟨(hg.block _ h1 (fun e => by have := hn _ e.symm; omega)).trans h.r, (hg.block _ h2 (fun e => by have := hn _ e.symm; omega)).trans h.x, h.b.grown hg (by omega) (fun j e => by have := hn j e; omega)⟩
set_option maxHeartbeats 4000000 in
set_option maxRecDepth 100000 in
theorem rrow11_in (k : Nat) (h1 : 65536 ≤ k) (h2 : k < 1048576) (w : World) :
    Calls Tryz.prog 8 #[.int .i64 k] w fun e w' => e = .returned (.tuple #[if twoB k 8 = true then .agg #[bvv (rmM k), bvv (rmV k), bvv (rmO k)] else rowZ11, .bool (twoB k 8)]) ∧ Below w.heap.size w w' := by
  obtain ⟨i0, hi0, hz0, hz1, hz2⟩ := info_parts Tryz.infoInt
  have HP := fun w => rpower11_any 20 (by omega) w
  rw [show ((2 ^ 20 : Nat) : Int) = 1048576 by decide, show ((20 : Nat) : Int) = 20 from rfl] at HP
  have HPj := fun j (hj : j < 4) w => rpower11_any j (by omega) w
  have HH := fun t ht w => rhas11_any k t h2 ht w
  have hz := heap_alloc_new w rwZ11
  have hb := below_alloc1 w rwZ11
  have d1 : decide ((k : Int) < 65536) = false := decide_eq_false (by omega)
  have d2 : decide ((1048576 : Int) ≤ (k : Int)) = false := decide_eq_false (by omega)
  have hts := Lib.hid (twoB_succ k)
  have htn := Lib.hid (fun i => twoB_no (k := k) (i := i))
  have hgs := Lib.hid (glK_succ k)
  have hgl := Lib.hid (glK_len k)
  have hC := Lib.hid (fun ad cap w h => rcube_any (gK k) 8 (by omega) (fun i _ => gK_le k i) ad cap w h)
  have hgg := Lib.hid (fun i j (h : j < i) => glK_get (k := k) h)
  unfold rwZ11 at hz hb
  unfold rowZ11
  generalize hR : Value.tuple #[if twoB k 8 = true then Value.agg #[bvv (rmM k), bvv (rmV k), bvv (rmO k)] else .agg #[.int .u8 0, .int .u8 0, .int .u8 0], .bool (twoB k 8)] = RES
  have hRy : Hid (twoB k 8 = true → RES = .tuple #[.agg #[bvv (rmM k), bvv (rmV k), bvv (rmO k)], .bool true]) := Lib.hid (fun h => by rw [← hR, h]; rfl)
  have hRn : Hid (twoB k 8 = false → RES = .tuple #[.agg #[.int .u8 0, .int .u8 0, .int .u8 0], .bool false]) := Lib.hid (fun h => by rw [← hR, h]; rfl)
  clear hR
  go_enter Tryz.func8, Tryz.ntmps8
  go_upto_region 1 with (fail)
  generalize w.alloc _ = W at *
  go_wp2_with fail
  refine (HP _).mono ?_
  rintro e w1 ⟨rfl, rfl⟩
  clear HP
  go_upto_region 4 with (fail)
  have hI : RwI w (W.alloc (.cells #[.int .u8 0, .int .u8 0, .int .u8 0] 25)) W.heap.size (.int .u8 0) (.int .u8 0) 0 := ⟨keep_alloc hz, heap_alloc_new W _, hb.trans ((below_alloc1 W _).mono hb.size)⟩
  have hxb : w.heap.size < W.heap.size := size_of_block hz
  clear hz hb d1 d2
  have hxs := size_of_block hI.x
  generalize W.alloc _ = W2 at *
  generalize W.heap.size = xb at *
  go_wp2
  go_loopw [5, 6] (fun l t wr => ∃ i : Nat, i ≤ 8 ∧ t = .int .i64 i ∧ wr.ownsRow W2.heap.size 3 1 l (glK k i).length (intsV (glK k i)) ∧ RwI w wr xb (.int .u8 0) (.int .u8 0) 0 ∧ W2.heap.size ≤ wr.heap.size ∧ Hid (twoB k i = true)) (fun _ t _ => 8 - (intOf t).toNat)
  case atStart => exact ⟨0, by omega, rfl, World.ownsRow_nil _ _ _ _, hI, Nat.le_refl _, Lib.hid rfl⟩
  case round =>
    clear hI
    obtain ⟨i, hi, rfl, hown, I, hws, ht⟩ := hrel
    have hlen := hgl.out i
    have hlen' := hgl.out (i + 1)
    by_cases h8 : i < 8
    · have d1 : decide ((i : Int) < 8) = true := decide_eq_true (by omega)
      have HA : ∀ w, Calls Tryz.prog 27 #[.int .i64 k, .int .i64 (2 * (i : Int))] w fun e w' => e = .returned (.bool (k.testBit (2 * i))) ∧ w = w' := fun w => by
        have := HH (2 * i) (by omega) w
        rwa [show ((2 * i : Nat) : Int) = 2 * (i : Int) by omega] at this
      have HB : ∀ w, Calls Tryz.prog 27 #[.int .i64 k, .int .i64 (2 * (i : Int) + 1)] w fun e w' => e = .returned (.bool (k.testBit (2 * i + 1))) ∧ w = w' := fun w => by
        have := HH (2 * i + 1) (by omega) w
        rwa [show ((2 * i + 1 : Nat) : Int) = 2 * (i : Int) + 1 by omega] at this
      have hsn := Lib.hid (hts.out i)
      have hno := Lib.hid (fun h => htn.out i h8 h)
      have hgn := Lib.hid (hgs.out i)
      clear HH HPj hts htn hgs hgl hC hgg
      cases ha : k.testBit (2 * i)
      · rw [ha] at HA
        cases hbq : k.testBit (2 * i + 1)
        · rw [hbq] at HB
          go_wp2_with fail
          refine (HA _).mono ?_
          rintro e w3 ⟨rfl, rfl⟩
          go_wp2_with fail
          refine (HA _).mono ?_
          rintro e w3 ⟨rfl, rfl⟩
          go_wp2_with fail
          refine (HB _).mono ?_
          rintro e w3 ⟨rfl, rfl⟩
          have hgv : Hid (gK k i = 2) := Lib.hid (by unfold gK; rw [if_neg (by rw [ha]; decide), if_neg (by rw [hbq]; decide)])
          have htw : Hid (twoB k (i + 1) = true) := Lib.hid (by rw [hsn.out, ht.out, ha, hbq]; rfl)
          clear HA HB hno hsn ht
          go_wp2_with (at_builtin; go_loud (refine wpList_append_own _ rfl _ _ 48 rfl W2.heap.size 3 i0 (.int .i64 0) 1 8 Tryz.underlying48 hi0 hz0 hz1 hz2 rfl (by decide) _ _ _ rfl (hown.alloc _) ⟨wr.heap.size, 0, none⟩ 1 1 [.int .i64 2] rfl rfl one_news one_cell ?c3 ?c4 ?c5 ?_))
          case c3 => unfold maxLen; omega
          case c4 => omega
          case c5 => simp; omega
          intro l8 w8 ho8 hg8 _
          have hI8 : RwI w w8 xb (.int .u8 0) (.int .u8 0) 0 := (I.after (below_alloc1 wr (.cells #[.int .i64 2] 3))).grown hxb hg8 (fun q e => by have := (hown.lt q e).1; omega)
          have hs8 : W2.heap.size ≤ w8.heap.size := by have := hg8.size; simp at this; omega
          have ho9 : w8.ownsRow W2.heap.size 3 1 l8 (glK k (i + 1)).length (intsV (glK k (i + 1))) := by
            rw [hlen', hgn.out, intsV_app, hgv.out]
            exact ho8
          clear hg8 hown ho8 I hgn hgv
          go_wp2
          go_roundw
          case rel => exact ⟨i + 1, by omega, by go_num, ho9, hI8, hs8, htw⟩
          case measure => simp [intOf]; omega
        · rw [hbq] at HB
          go_wp2_with fail
          refine (HA _).mono ?_
          rintro e w3 ⟨rfl, rfl⟩
          go_wp2_with fail
          refine (HA _).mono ?_
          rintro e w3 ⟨rfl, rfl⟩
          go_wp2_with fail
          refine (HB _).mono ?_
          rintro e w3 ⟨rfl, rfl⟩
          have hgv : Hid (gK k i = 1) := Lib.hid (by unfold gK; rw [if_neg (by rw [ha]; decide), if_pos hbq])
          have htw : Hid (twoB k (i + 1) = true) := Lib.hid (by rw [hsn.out, ht.out, ha, hbq]; rfl)
          clear HA HB hno hsn ht
          go_wp2_with (at_builtin; go_loud (refine wpList_append_own _ rfl _ _ 48 rfl W2.heap.size 3 i0 (.int .i64 0) 1 8 Tryz.underlying48 hi0 hz0 hz1 hz2 rfl (by decide) _ _ _ rfl (hown.alloc _) ⟨wr.heap.size, 0, none⟩ 1 1 [.int .i64 1] rfl rfl one_news one_cell ?c3 ?c4 ?c5 ?_))
          case c3 => unfold maxLen; omega
          case c4 => omega
          case c5 => simp; omega
          intro l8 w8 ho8 hg8 _
          have hI8 : RwI w w8 xb (.int .u8 0) (.int .u8 0) 0 := (I.after (below_alloc1 wr (.cells #[.int .i64 1] 3))).grown hxb hg8 (fun q e => by have := (hown.lt q e).1; omega)
          have hs8 : W2.heap.size ≤ w8.heap.size := by have := hg8.size; simp at this; omega
          have ho9 : w8.ownsRow W2.heap.size 3 1 l8 (glK k (i + 1)).length (intsV (glK k (i + 1))) := by
            rw [hlen', hgn.out, intsV_app, hgv.out]
            exact ho8
          clear hg8 hown ho8 I hgn hgv
          go_wp2
          go_roundw
          case rel => exact ⟨i + 1, by omega, by go_num, ho9, hI8, hs8, htw⟩
          case measure => simp [intOf]; omega
      · rw [ha] at HA
        cases hbq : k.testBit (2 * i + 1)
        · rw [hbq] at HB
          go_wp2_with fail
          refine (HA _).mono ?_
          rintro e w3 ⟨rfl, rfl⟩
          go_wp2_with fail
          refine (HB _).mono ?_
          rintro e w3 ⟨rfl, rfl⟩
          go_wp2_with fail
          refine (HA _).mono ?_
          rintro e w3 ⟨rfl, rfl⟩
          have hgv : Hid (gK k i = 0) := Lib.hid (by unfold gK; rw [if_pos ha])
          have htw : Hid (twoB k (i + 1) = true) := Lib.hid (by rw [hsn.out, ht.out, ha, hbq]; rfl)
          clear HA HB hno hsn ht
          go_wp2_with (at_builtin; go_loud (refine wpList_append_own _ rfl _ _ 48 rfl W2.heap.size 3 i0 (.int .i64 0) 1 8 Tryz.underlying48 hi0 hz0 hz1 hz2 rfl (by decide) _ _ _ rfl (hown.alloc _) ⟨wr.heap.size, 0, none⟩ 1 1 [.int .i64 0] rfl rfl one_news one_cell ?c3 ?c4 ?c5 ?_))
          case c3 => unfold maxLen; omega
          case c4 => omega
          case c5 => simp; omega
          intro l8 w8 ho8 hg8 _
          have hI8 : RwI w w8 xb (.int .u8 0) (.int .u8 0) 0 := (I.after (below_alloc1 wr (.cells #[.int .i64 0] 3))).grown hxb hg8 (fun q e => by have := (hown.lt q e).1; omega)
          have hs8 : W2.heap.size ≤ w8.heap.size := by have := hg8.size; simp at this; omega
          have ho9 : w8.ownsRow W2.heap.size 3 1 l8 (glK k (i + 1)).length (intsV (glK k (i + 1))) := by
            rw [hlen', hgn.out, intsV_app, hgv.out]
            exact ho8
          clear hg8 hown ho8 I hgn hgv
          go_wp2
          go_roundw
          case rel => exact ⟨i + 1, by omega, by go_num, ho9, hI8, hs8, htw⟩
          case measure => simp [intOf]; omega
        · rw [hbq] at HB
          have htf : Hid (twoB k 8 = false) := Lib.hid (hno.out (by rw [ha, hbq]; rfl))
          go_wp2_with fail
          refine (HA _).mono ?_
          rintro e w3 ⟨rfl, rfl⟩
          go_wp2_with fail
          refine (HB _).mono ?_
          rintro e w3 ⟨rfl, rfl⟩
          obtain ⟨z0, z1, z2, zf⟩ := now3 I.r rfl
          have hput := putQ (x0 := .int .u8 0) (x1 := .int .u8 0) (x2 := .int .u8 0) I.r
          obtain ⟨q0, q1, q2, -⟩ := now3 hput rfl
          have hBz := belowQ (b := w.heap.size) (x0 := .int .u8 0) (x1 := .int .u8 0) (x2 := .int .u8 0) (Nat.le_refl _) I.b
          clear HA HB hput I hown
          go_wp2
          exact bodyPost_ret (v := .tuple #[.agg #[.int .u8 0, .int .u8 0, .int .u8 0], .bool false]) (by simp [results, Tryz.results8, go_sem, q0, q1, q2]) rfl ⟨by rw [hRn.out htf.out], hBz⟩
    · have d1 : decide ((i : Int) < 8) = false := decide_eq_false (by omega)
      have e8 : i = 8 := by omega
      have ht8 : Hid (twoB k 8 = true) := Lib.hid (by rw [← e8]; exact ht.out)
      have hown8 := hown
      rw [e8, hgl.out 8] at hown8
      obtain ⟨g, cap, e5⟩ := ownsRow_form hown8 (by decide)
      subst e5
      have hG : GAt (gK k) 8 (some ⟨g, 0, none⟩) wr := fun j hj => ⟨g, rfl, by rw [hown8.cellAt j (by omega)]; simp [intsV, hgg.out 8 j hj]⟩
      have HC := hC.out (some ⟨g, 0, none⟩) cap wr hG
      rw [gK_m, gK_v ht8.out] at HC
      clear hts htn hgs hgl hC hgg hown hown8 hG ht hlen' hRn
      have hwo : Hid (∀ j, j < 4 → wsum (fun q => k.testBit (16 + q)) (j + 1) = wsum (fun q => k.testBit (16 + q)) j + (if k.testBit (16 + j) = true then 2 ^ j else 0)) := Lib.hid (fun j _ => rfl)
      have hwl : Hid (∀ j, j ≤ 4 → wsum (fun q => k.testBit (16 + q)) j < 16) := Lib.hid (fun j hj => Nat.lt_of_lt_of_le (wsum_lt _ _) (Nat.pow_le_pow_right (by decide : 0 < 2) hj))
      have hro : Hid ((rmO k).toNat = wsum (fun q => k.testBit (16 + q)) 4) := Lib.hid (by
        have := wsum_lt (fun q => k.testBit (16 + q)) 4
        unfold rmO
        rw [BitVec.toNat_ofNat]
        omega)
      generalize (fun q => k.testBit (16 + q)) = G at *
      clear hlen e8
      go_wp2_with fail
      refine HC.mono ?_
      rintro e w3 ⟨rfl, hb3⟩
      have I3 := I.after hb3
      clear HC hb3 I hws
      obtain ⟨x0, x1, x2, xf⟩ := now3 I3.x rfl
      unfold cv bvv at *
      have hx4 : ((w3.setCell ⟨xb, 0, none⟩ (.int .u8 (rmM k).toNat)).setCell ⟨xb, 1, none⟩ (.int .u8 (rmV k).toNat)).heap[xb]? = some (.cells #[.int .u8 (rmM k).toNat, .int .u8 (rmV k).toNat, .int .u8 0] 25 (0, 0)) := by
        rw [block_setCell (block_setCell I3.x _) _]; rfl
      have I4 : RwI w ((w3.setCell ⟨xb, 0, none⟩ (.int .u8 (rmM k).toNat)).setCell ⟨xb, 1, none⟩ (.int .u8 (rmV k).toNat)) xb (.int .u8 (rmM k).toNat) (.int .u8 (rmV k).toNat) 0 :=
        ⟨keep_set (by show w.heap.size ≠ xb; omega) (keep_set (by show w.heap.size ≠ xb; omega) I3.r), hx4, (I3.b.setCell (by show w.heap.size ≤ xb; omega) _).setCell (by show w.heap.size ≤ xb; omega) _⟩
      go_upto_region 16 with (fail)
      clear I3 hx4 x0 x1 x2 xf
      generalize (w3.setCell ⟨xb, 0, none⟩ (.int .u8 (rmM k).toNat)).setCell ⟨xb, 1, none⟩ (.int .u8 (rmV k).toNat) = w4 at *
      go_wp2_with fail
      go_loopw [7] (fun t wr => ∃ j A : Nat, j ≤ 4 ∧ t = .int .i64 j ∧ RwI w wr xb (.int .u8 (rmM k).toNat) (.int .u8 (rmV k).toNat) A ∧ Hid (A = wsum G j)) (fun t _ => 4 - (intOf t).toNat)
      case atStart => exact ⟨0, 0, by omega, rfl, I4, Lib.hid rfl⟩
      case round =>
        clear I4
        obtain ⟨j, A, hj, rfl, I, hA⟩ := hrel
        by_cases h4 : j < 4
        · have HHj : ∀ w, Calls Tryz.prog 27 #[.int .i64 k, .int .i64 (16 + (j : Int))] w fun e w' => e = .returned (.bool (k.testBit (16 + j))) ∧ w = w' := fun w => by
            have := HH (16 + j) (by omega) w
            rwa [show ((16 + j : Nat) : Int) = 16 + (j : Int) by omega] at this
          have HPq := fun w => HPj j h4 w
          have hst := Lib.hid (hwo.out j h4)
          have hl := hwl.out (j + 1) (by omega)
          have d3 : decide ((j : Int) < 4) = true := decide_eq_true (by omega)
          clear HH HPj hwo hwl
          go_wp2_with fail
          refine (HHj _).mono ?_
          rintro e w5 ⟨rfl, rfl⟩
          clear HHj
          cases hb : k.testBit (16 + j)
          · have hA2 : Hid (A = wsum G (j + 1)) := Lib.hid (by rw [hst.out, hb, if_neg (by decide), ← hA.out]; rfl)
            clear hst hA HPq hl
            go_wp2
            go_roundw
            case rel => exact ⟨j + 1, A, by omega, by go_num, I, hA2⟩
            case measure => simp [intOf]; omega
          · have hA2 : Hid (A + 2 ^ j = wsum G (j + 1)) := Lib.hid (by rw [hst.out, hb, if_pos rfl, ← hA.out])
            have hl2 : A + 2 ^ j < 16 := by rw [hA2.out]; exact hl
            generalize 2 ^ j = p at *
            clear hst hA hl
            obtain ⟨x0, x1, x2, xf⟩ := box3 I.x rfl
            go_upto_region 20 with (fail)
            refine wp_region_after_tail 7 (by kernel_rfl) (by kernel_rfl) ?_
            simp only [List.take_succ_cons, List.take_zero, List.drop_succ_cons, List.drop_zero]
            repeat (first | go_big_quiet_step ((go_at_call 26; exact Calls.after_same (HPq _))))
            refine wpQuiet_nil ?_
            intro z
            have I5 := I.after z.2
            have I6 : RwI w (z.1.setCell ⟨xb, 2, none⟩ (.int .u8 ((A : Int) + (p : Int)))) xb (.int .u8 (rmM k).toNat) (.int .u8 (rmV k).toNat) ((A : Int) + (p : Int)) :=
              ⟨keep_set (by show w.heap.size ≠ xb; omega) I5.r, by rw [block_setCell (i := 2) I5.x (.int .u8 ((A : Int) + (p : Int)))]; rfl, I5.b.setCell (by show w.heap.size ≤ xb; omega) _⟩
            clear I HPq I5
            go_wp2
            go_roundw
            case rel => exact ⟨j + 1, A + p, by omega, by go_num, by first | exact I6 | (rw [Int.natCast_add]; exact I6), hA2⟩
            case measure => simp [intOf]; omega
        · have e4 : j = 4 := by omega
          have hAo : Hid (A = (rmO k).toNat) := Lib.hid (by rw [hA.out, hro.out, e4])
          have d3 : decide ((j : Int) < 4) = false := decide_eq_false (by omega)
          obtain ⟨x0, x1, x2, -⟩ := now3 I.x rfl
          obtain ⟨z0, z1, z2, zf⟩ := now3 I.r rfl
          have hput := putQ (x0 := .int .u8 (rmM k).toNat) (x1 := .int .u8 (rmV k).toNat) (x2 := .int .u8 A) I.r
          obtain ⟨q0, q1, q2, -⟩ := now3 hput rfl
          have hBz := belowQ (b := w.heap.size) (x0 := .int .u8 (rmM k).toNat) (x1 := .int .u8 (rmV k).toNat) (x2 := .int .u8 A) (Nat.le_refl _) I.b
          clear HH HPj hwo hwl hput I hA hro
          go_wp2
          exact bodyPost_ret (v := .tuple #[.agg #[.int .u8 (rmM k).toNat, .int .u8 (rmV k).toNat, .int .u8 A], .bool true]) (by simp [results, Tryz.results8, go_sem, q0, q1, q2]) rfl ⟨by rw [hRy.out ht8.out, hAo.out], hBz⟩
end Go.Proofs.YtgajgjlldohekaaGreat
