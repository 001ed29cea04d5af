/- ArenaMakes: what is made, ask by ask, and what there is then. -/
import Derived.Test.YtkcchdaadajjcaaKnw05
import Derived.Test.YtkcchdaadajjcaaAsk05
import Derived.Test.YtkcchdaadajjcaaRsw05
import Derived.Test.YtkcchdaadajjcaaRmk05
namespace Go.Proofs.Ytkcchdaadajjcaa
open Go.RowKit Go.Joins

set_option maxRecDepth 100000 in
theorem makes_bad (room : Int) (v : Value) (id : Int) (w : World) (h : room < 0 ∨ 20000 < room) :
    Calls Try.prog 3 #[.int .i64 room, v, .int .i64 id] w fun e w' => e = .returned (.bool true) ∧ Below w.heap.size w w' := by
  have HN := new_no room w h
  have HK := knows5_any w
  by_cases h0 : room < 0
  · go_enter Try.func3, Try.ntmps3
    go_wp2_with fail
    refine HN.mono ?_
    rintro e w1 ⟨rfl, rfl⟩
    clear HN
    go_wp2_with fail
    refine HK.mono ?_
    rintro e w1 ⟨rfl, hb1⟩
    clear HK
    go_wp2
    go_ret
    exact ⟨rfl, hb1⟩
  · have h1 : 20000 < room := by omega
    go_enter Try.func3, Try.ntmps3
    go_wp2_with fail
    refine HN.mono ?_
    rintro e w1 ⟨rfl, rfl⟩
    clear HN
    go_wp2_with fail
    refine HK.mono ?_
    rintro e w1 ⟨rfl, hb1⟩
    clear HK
    go_wp2
    go_ret
    exact ⟨rfl, hb1⟩
theorem now5 {w : World} {b : Nat} {T : TypeId} {C : Array Value} {x0 x1 x2 x3 x4 : Value} (h : w.heap[b]? = some (.cells C T (0, 0))) (hC : C = #[x0, x1, x2, x3, x4]) :
    w.cell? ⟨b, 0, none⟩ = some x0 ∧ w.cell? ⟨b, 1, none⟩ = some x1 ∧ w.cell? ⟨b, 2, none⟩ = some x2 ∧ w.cell? ⟨b, 3, none⟩ = some x3 ∧ w.cell? ⟨b, 4, none⟩ = some x4 ∧ (∀ j : Nat, w.frozen? ⟨b, j, none⟩ = false) := by
  subst hC
  exact ⟨by rw [cell_of_block h]; rfl, by rw [cell_of_block h]; rfl, by rw [cell_of_block h]; rfl, by rw [cell_of_block h]; rfl, by rw [cell_of_block h]; rfl, unfrozen_of_block h⟩
theorem idsK_get {f : Nat → Bool} {k n : Nat} (hk : k < n) (hf : f k = true) : (idsK f n)[(idsK f k).length]? = some k := by
  unfold idsK
  obtain ⟨m, rfl⟩ : ∃ m, n = k + 1 + m := ⟨n - (k + 1), by omega⟩
  rw [List.range_add, List.range_succ, List.filter_append, List.filter_append, List.append_assoc, List.getElem?_append_right (Nat.le_refl _)]
  simp [hf]
theorem idsK_lt {f : Nat → Bool} {k n : Nat} (hk : k < n) (hf : f k = true) : (idsK f k).length < (idsK f n).length := (List.getElem?_eq_some_iff.1 (idsK_get hk hf)).1
theorem ints_one (w : World) (x : Int) : IntsAt (w.alloc (.cells #[.int .i64 x] 3 (0, 0))) (w.alloc (.cells #[.int .i64 x] 3 (0, 0))).heap.size (.slice (some ⟨w.heap.size, 0, none⟩) 1 1) [x] := by
  refine ⟨_, 1, rfl, by simp, fun _ => ⟨w.heap.size, 0, rfl, by simp, fun j y hy => ?_⟩⟩
  match j, hy with
  | 0, hy =>
    simp at hy
    subst hy
    exact cell_one_new w (.int .i64 x) 3 0 _ rfl
  | j + 1, hy => simp at hy
theorem swp_same {S : St} {K : List Int} {f g : Nat → Bool} (hf : ∀ i, i < S.length → (f i = true ↔ Rch S K i)) (hg : ∀ i, i < S.length → (g i = true ↔ Rch S K i)) : swp S f = swp S g :=
  swp_ext fun i hi => by rw [Bool.eq_iff_iff, hf i hi, hg i hi]
theorem Try.neArA : (30 : TypeId) ≠ 55 := by decide
theorem Try.neArS : (30 : TypeId) ≠ 60 := by decide
theorem Try.neNdA : (45 : TypeId) ≠ 55 := by decide
theorem Try.neNdS : (45 : TypeId) ≠ 60 := by decide
theorem Try.neAkA : (33 : TypeId) ≠ 55 := by decide
theorem Try.neAkS : (33 : TypeId) ≠ 60 := by decide
set_option maxHeartbeats 8000000 in
set_option maxRecDepth 100000 in
theorem makes_good (room : Nat) (hroom : room ≤ 20000) (v : Value) (qs : List Ak) (iq : Int) (w : World) (hq : AsksAt w w.heap.size v qs) :
    Calls Try.prog 3 #[.int .i64 room, v, .int .i64 iq] w fun e w' => e = .returned (.bool true) ∧ Below w.heap.size w w' := by
  have HN := new_yes room w hroom
  obtain ⟨QA, qc, rfl, hql, hqc⟩ := hq
  have h0 : ¬ (room : Int) < 0 := by omega
  have h1 : ¬ (20000 : Int) < (room : Int) := by omega
  go_enter Try.func3, Try.ntmps3
  go_wp2_with fail
  refine HN.mono ?_
  rintro e w1 ⟨ab, bm, rfl, hA, hb1⟩
  have hB1 := below_alloc1 w1 (raB room (.slice none 0 0))
  have hbb := heap_alloc_new w1 (raB room (.slice none 0 0))
  have hA1 := hA.below hB1
  have hB := hb1.trans (hB1.mono hb1.size)
  have hw1 := hb1.size
  unfold raB at *
  clear HN hA hB1 hb1
  go_wp2
  go_loopw [10, 11, 12, 13, 14, 15, 16] (fun t _ _ _ _ _ _ wr => ∃ (k : Nat) (v bv : Value) (full : Nat) (L : List Rn), k ≤ qs.length ∧ k ≤ 60 ∧ t = .int .i64 k ∧ ArAt wr w.heap.size ab bm v room full (stOf L) ∧ ArOk room full (stOf L) ∧ RefAt wr w.heap.size bv L ∧ wr.heap[w1.heap.size]? = some (.cells #[.int .i64 room, bv] 30 (0, 0)) ∧ Below w.heap.size w wr) (fun t _ _ _ _ _ _ _ => 60 - (intOf t).toNat)
  case atStart => exact ⟨0, _, _, 0, [], by omega, by omega, rfl, hA1, ArOk.nil room hroom, World.ownsRow_nil _ _ _ _, hbb, hB⟩
  case round =>
    clear hA1 hbb hB
    obtain ⟨k, v, bv, full, L, hk, hk60, rfl, hA, hO, hR, hbb, hB⟩ := hrel
    have hLl : L.length ≤ 20000 := by have := hO.len; have := hO.max; rw [stOf_len] at *; omega
    obtain ⟨RA, rc, rfl⟩ := own_form hR
    by_cases hlt : k < qs.length ∧ k < 60
    · obtain ⟨hlq, hl60⟩ := hlt
      obtain ⟨qb, qo, rfl, hqB, hqx⟩ := hqc (by omega)
      obtain ⟨x, hx⟩ : ∃ x, qs[k]? = some x := ⟨_, List.getElem?_eq_getElem hlq⟩
      obtain ⟨kv, a0, a1, a2, a3, a4, hks⟩ := hqx k x hx
      have u0 := (hB.cell (p := ⟨qb, qo + k * 5, none⟩) hqB).trans a0
      have u1 := (hB.cell (p := ⟨qb, qo + k * 5 + 1, none⟩) hqB).trans a1
      have u2 := (hB.cell (p := ⟨qb, qo + k * 5 + 2, none⟩) hqB).trans a2
      have u3 := (hB.cell (p := ⟨qb, qo + k * 5 + 3, none⟩) hqB).trans a3
      have u4 := (hB.cell (p := ⟨qb, qo + k * 5 + 4, none⟩) hqB).trans a4
      obtain ⟨KA, kc, rfl, hkl, -⟩ := id hks
      obtain ⟨xk, xl, xlo, xhi, ks⟩ := x
      dsimp only at *
      have hXb := heap_alloc_new wr (.cells #[.int .i64 xk, .int .i64 xl, .int .i64 xlo, .int .i64 xhi, .slice KA ks.length kc] 33 (0, 0))
      have hBX := below_alloc1 wr (.cells #[.int .i64 xk, .int .i64 xl, .int .i64 xlo, .int .i64 xhi, .slice KA ks.length kc] 33 (0, 0))
      have hA1 := hA.below hBX
      have hR1 := owns_below hR hBX
      have hbb1 := keep_blk hBX hbb
      have hB1 := hB.trans (hBX.mono hB.size)
      clear a0 a1 a2 a3 a4 hqx hx hA hR hbb hB hBX
      by_cases h20 : 20 < ks.length
      · have HK := fun w => knows5_any w
        clear hks
        go_wp2_with fail
        refine (HK _).mono ?_
        rintro e w2 ⟨rfl, hb2⟩
        clear HK
        go_wp2
        go_ret
        exact ⟨rfl, hB1.trans (hb2.mono hB1.size)⟩
      · -- ASK
        go_upto_region 13 with (fail)
        clear u0 u1 u2 u3 u4
        generalize hWX : wr.alloc (.cells #[.int .i64 xk, .int .i64 xl, .int .i64 xlo, .int .i64 xhi, .slice KA ks.length kc] 33 (0, 0)) = W at *
        generalize hxb : wr.heap.size = xb at *
        clear hxb hWX
        obtain ⟨x0, x1, x2, x3, x4, xf⟩ := now5 hXb rfl
        obtain ⟨b0, b1, bf⟩ := now2 hbb1 rfl
        by_cases hk1 : xk = 1
        · subst hk1
          have hksW := (hks.below hB1).more hB1.size
          have HS := sweep_any hA1 hO (.slice KA ks.length kc) ks hksW
          go_wp2_with fail
          refine HS.mono ?_
          rintro e w2 ⟨rfl, f, hf, hA2, hO2, hoff⟩
          have hR2 := hA1.keepRow hoff hR1 Try.neNdA Try.neNdS
          have hbb2 := hA1.keep hoff hbb1 Try.neArA Try.neArS
          have hXb2 := hA1.keep hoff hXb Try.neAkA Try.neAkS
          have hB2 := hB1.trans (hA1.off_below hoff)
          have hksW2 := (hks.below hB2).more hB2.size
          have HRS := rsweep_any room hR2 (by have := hB2.size; omega) hO.vst hLl (.slice KA ks.length kc) ks hksW2
          unfold raV at HRS
          obtain ⟨x0, x1, x2, x3, x4, xf⟩ := now5 hXb2 rfl
          obtain ⟨b0, b1, bf⟩ := now2 hbb2 rfl
          clear HS hA1 hR1 hbb1 hXb hB1 hoff hksW hksW2
          go_wp2_with fail
          refine HRS.mono ?_
          rintro e w3 ⟨v3, L3, g, he, hR3, hL3, hg, hst, hb3⟩
          unfold raV at he
          subst he
          have hA3 := hA2.below hb3
          have hbb3 := keep_blk hb3 hbb2
          have hB3 := hB2.trans (hb3.mono hB2.size)
          have heq : stOf L3 = swp (stOf L) f := hst.trans (swp_same (by rw [stOf_len]; exact hg) hf)
          have hL3l : L3.length ≤ 20000 := by omega
          rw [← heq] at hA3 hO2
          obtain ⟨A3, c3, rfl⟩ := own_form hR3
          clear HRS hR2 hbb2 hXb2 hB2 hA2 hb3 hf hg hst heq hO hL3
          have hg4 : w3.grownBy ((w3.setCell ⟨w1.heap.size, 0, none⟩ (.int .i64 room)).setCell ⟨w1.heap.size, 1, none⟩ (.slice A3 L3.length c3)) (some w1.heap.size) := grown_set (grown_set (grown_any (Below.refl _ _) _))
          have hA4 := hA3.grown hbb3 Try.neArA Try.neArS hg4
          have hne3 := own_ne hR3 hbb3 (by decide)
          have hR4 := own_set (own_set hR3 hne3 0 (.int .i64 room)) hne3 1 (.slice A3 L3.length c3)
          have hbb4 := put2 (x0 := .int .i64 room) (x1 := .slice A3 L3.length c3) hbb3
          have hB4 := (hB3.setCell (p := ⟨w1.heap.size, 0, none⟩) hw1 (.int .i64 room)).setCell (p := ⟨w1.heap.size, 1, none⟩) hw1 (.slice A3 L3.length c3)
          obtain ⟨b0, b1, bf⟩ := now2 hbb3 rfl
          clear hA3 hR3 hB3 hg4 hne3
          go_upto_region 21 with (fail)
          generalize (w3.setCell ⟨w1.heap.size, 0, none⟩ (.int .i64 room)).setCell ⟨w1.heap.size, 1, none⟩ (.slice A3 L3.length c3) = w4 at *
          clear b0 b1 bf hbb3
          have HL1 := fun y : After w4 => len_any (hA4.below y.2)
          have HL2 := fun y : After w4 => rlen_any room (owns_below hR4 y.2) hL3l
          unfold raV at HL2
          obtain ⟨b0, b1, bf⟩ := box2 hbb4 rfl
          have hcr : ¬ (room : Int) < (cnt (stOf L3) : Nat) := by have := cnt_le (stOf L3); have := hO2.len; omega
          have hnn : (((cnt (stOf L3) : Nat) : Int) != ((cnt (stOf L3) : Nat) : Int)) = false := by simp
          generalize hcn : cnt (stOf L3) = cn at HL1 HL2 hcr hnn
          refine wp_region_after (by kernel_rfl) (by kernel_rfl) ?_
          repeat (first | go_big_quiet_step ((first | (go_at_call 12; exact Calls.after_same (HL1 _)) | (go_at_call 13; exact Calls.after_of (HL2 _)))))
          refine wpQuiet_nil ?_
          intro y
          have hA5 := hA4.below y.2
          have hR5 := owns_below hR4 y.2
          have hbb5 := keep_blk y.2 hbb4
          have hB5 := hB4.trans (y.2.mono hB4.size)
          clear HL1 HL2 b0 b1 bf hA4 hR4 hbb4 hB4
          go_wp2
          go_roundw
          case rel => exact ⟨k + 1, _, _, _, L3, by omega, by omega, by go_num, hA5, hO2, hR5, hbb5, hB5⟩
          case measure => simp [intOf]; omega
        · have HM := make_any hA1 hO xl xlo xhi
          unfold MakeDone at HM
          have hk1' : (xk == 1) = false := by rw [beq_eq_false_iff_ne]; exact hk1
          generalize hmk : mkS room (stOf L) (xl, xlo, xhi) = M at *
          obtain ⟨S2, n2, e2⟩ := M
          dsimp only at *
          clear hk1
          go_wp2_with fail
          refine HM.mono ?_
          rintro e w2 ⟨rfl, v2, full2, hA2, hO2, hoff⟩
          have hR2 := hA1.keepRow hoff hR1 Try.neNdA Try.neNdS
          have hbb2 := hA1.keep hoff hbb1 Try.neArA Try.neArS
          have hXb2 := hA1.keep hoff hXb Try.neAkA Try.neAkS
          have hB2 := hB1.trans (hA1.off_below hoff)
          have HRM := rmake_any room hR2 (by have := hB2.size; omega) hO.vst hLl xl xlo xhi
          unfold RMakeDone raV at HRM
          rw [hmk] at HRM
          obtain ⟨x0, x1, x2, x3, x4, xf⟩ := now5 hXb2 rfl
          obtain ⟨b0, b1, bf⟩ := now2 hbb2 rfl
          clear HM hA1 hR1 hbb1 hXb hB1 hoff hmk
          go_wp2_with fail
          refine HRM.mono ?_
          rintro e w2' ⟨v3, L3, rfl, hR3', hst, hb3⟩
          have hA3' := hA2.below hb3
          have hbb3' := keep_blk hb3 hbb2
          have hB3' := hB2.trans (hb3.mono hB2.size)
          obtain ⟨A3, c3, rfl⟩ := own_form hR3'
          rw [← hst] at hA3' hO2
          have hL3l : L3.length ≤ 20000 := by have h1 := hO2.len; have h2 := hO2.max; rw [stOf_len] at h1; omega
          have hbC := below_alloc1 w2' (.cells #[.int .i64 room, .slice A3 L3.length c3] 30 (0, 0))
          have hCb := heap_alloc_new w2' (.cells #[.int .i64 room, .slice A3 L3.length c3] 30 (0, 0))
          have hA3 := hA3'.below hbC
          have hbb3 := keep_blk hbC hbb3'
          have hB3 := hB3'.trans (hbC.mono hB3'.size)
          have hR3 := owns_below hR3' hbC
          have hneC : w1.heap.size < w2'.heap.size := size_of_block hbb3'
          have hn1 : (n2 != n2) = false := by simp
          have hn2 : (e2 != e2) = false := by simp
          obtain ⟨y0, y1, yf⟩ := now2 hCb rfl
          obtain ⟨b0, b1, bf⟩ := now2 hbb3 rfl
          clear HRM hR2 hbb2 hXb2 hB2 hA2 hb3 hst hO hA3' hbb3' hB3' hR3' hbC hCb
          go_upto_region 18 with (fail)
          generalize w2'.alloc (.cells #[.int .i64 room, .slice A3 L3.length c3] 30 (0, 0)) = w3 at *
          have hg4 : w3.grownBy ((w3.setCell ⟨w1.heap.size, 0, none⟩ (.int .i64 room)).setCell ⟨w1.heap.size, 1, none⟩ (.slice A3 L3.length c3)) (some w1.heap.size) := grown_set (grown_set (grown_any (Below.refl _ _) _))
          have hA4 := hA3.grown hbb3 Try.neArA Try.neArS hg4
          have hne3 := own_ne hR3 hbb3 (by decide)
          have hR4 := own_set (own_set hR3 hne3 0 (.int .i64 room)) hne3 1 (.slice A3 L3.length c3)
          have hbb4 := put2 (x0 := .int .i64 room) (x1 := .slice A3 L3.length c3) hbb3
          have hB4 := (hB3.setCell (p := ⟨w1.heap.size, 0, none⟩) hw1 (.int .i64 room)).setCell (p := ⟨w1.heap.size, 1, none⟩) hw1 (.slice A3 L3.length c3)
          obtain ⟨b0, b1, bf⟩ := now2 hbb3 rfl
          clear hA3 hR3 hB3 hg4 hne3
          go_upto_region 21 with (fail)
          generalize (w3.setCell ⟨w1.heap.size, 0, none⟩ (.int .i64 room)).setCell ⟨w1.heap.size, 1, none⟩ (.slice A3 L3.length c3) = w4 at *
          clear b0 b1 bf hbb3
          have HL1 := fun y : After w4 => len_any (hA4.below y.2)
          have HL2 := fun y : After w4 => rlen_any room (owns_below hR4 y.2) hL3l
          unfold raV at HL2
          obtain ⟨b0, b1, bf⟩ := box2 hbb4 rfl
          have hcr : ¬ (room : Int) < (cnt (stOf L3) : Nat) := by have := cnt_le (stOf L3); have := hO2.len; omega
          have hnn : (((cnt (stOf L3) : Nat) : Int) != ((cnt (stOf L3) : Nat) : Int)) = false := by simp
          generalize hcn : cnt (stOf L3) = cn at HL1 HL2 hcr hnn
          refine wp_region_after (by kernel_rfl) (by kernel_rfl) ?_
          repeat (first | go_big_quiet_step ((first | (go_at_call 12; exact Calls.after_same (HL1 _)) | (go_at_call 13; exact Calls.after_of (HL2 _)))))
          refine wpQuiet_nil ?_
          intro y
          have hA5 := hA4.below y.2
          have hR5 := owns_below hR4 y.2
          have hbb5 := keep_blk y.2 hbb4
          have hB5 := hB4.trans (y.2.mono hB4.size)
          clear HL1 HL2 b0 b1 bf hA4 hR4 hbb4 hB4
          go_wp2
          go_roundw
          case rel => exact ⟨k + 1, _, _, _, L3, by omega, by omega, by go_num, hA5, hO2, hR5, hbb5, hB5⟩
          case measure => simp [intOf]; omega
    · -- EXIT
      clear hqc hql
      by_cases hlq : k < qs.length
      · have hl60 : ¬ k < 60 := fun h => hlt ⟨hlq, h⟩
        clear hlt
        go_wp2
        generalize hwo : wr = wo at *
        clear hwo
        go_loopw [17, 18, 19, 20, 21, 22] (fun t _ _ _ _ _ wx => ∃ q : Nat, q ≤ L.length ∧ t = .int .i64 ((q : Int) + 2) ∧ Below wo.heap.size wo wx) (fun t _ _ _ _ _ _ => L.length + 2 - (intOf t).toNat)
        case atStart => exact ⟨0, by omega, rfl, Below.refl _ _⟩
        case round =>
          obtain ⟨q, hq, rfl, hbx⟩ := hrel
          have hbb1 := keep_blk hbx hbb
          have hA1 := hA.below hbx
          have hR1 := owns_below hR hbx
          have hB1 := hB.trans (hbx.mono hB.size)
          obtain ⟨b0, b1, bf⟩ := now2 hbb1 rfl
          by_cases hlt2 : q < L.length
          · obtain ⟨x, hx⟩ : ∃ x, L[q]? = some x := ⟨_, List.getElem?_eq_getElem hlt2⟩
            obtain ⟨g0, cg, hG⟩ := own_some hR (by omega)
            obtain ⟨rfl, rfl⟩ : RA = some ⟨g0, 0, none⟩ ∧ rc = cg := by injection hG with e1 e2 e3; exact ⟨e1, e3⟩
            have HN := node_any hA1 (by rw [stOf_len]; exact hLl) ((q : Int) + 2)
            rw [ndAt_out (stOf_at hx)] at HN
            obtain ⟨⟨n0, n1, n2⟩, gone⟩ := x
            have hxH := Lib.hid hx
            clear hG hx
            cases gone
            · simp only [Bool.false_eq_true, if_false] at HN
              unfold ndT at HN
              dsimp only at HN
              go_wp2_with fail
              refine HN.mono ?_
              rintro e w5 ⟨rfl, hb5⟩
              have hbb5 := keep_blk hb5 hbb1
              obtain ⟨d0, d1, d2, d3⟩ := nodes_at (owns_below hR1 hb5) hxH.out
              obtain ⟨b0, b1, bf⟩ := now2 hbb5 rfl
              have hB5 := hbx.trans (hb5.mono hbx.size)
              have ne0 : (n0 != n0) = false := by simp
              have ne1 : (n1 != n1) = false := by simp
              have ne2 : (n2 != n2) = false := by simp
              clear HN
              go_wp2
              go_roundw
              case rel => exact ⟨q + 1, by omega, by go_num, hB5.alloc hB5.size _⟩
              case measure => simp [intOf]; omega
            · simp only [if_true] at HN
              unfold ndT at HN
              go_wp2_with fail
              refine HN.mono ?_
              rintro e w5 ⟨rfl, hb5⟩
              have hbb5 := keep_blk hb5 hbb1
              obtain ⟨d0, d1, d2, d3⟩ := nodes_at (owns_below hR1 hb5) hxH.out
              obtain ⟨b0, b1, bf⟩ := now2 hbb5 rfl
              have hB5 := hbx.trans (hb5.mono hbx.size)
              clear HN
              go_wp2
              go_roundw
              case rel => exact ⟨q + 1, by omega, by go_num, hB5.alloc hB5.size _⟩
              case measure => simp [intOf]; omega
          · have hI1 := ints_one wr iq
            have hBi := below_alloc1 wr (.cells #[.int .i64 iq] 3 (0, 0))
            have hR2 := owns_below hR1 hBi
            have HRR := rreach_any room hR2 hO.vst hLl (.slice (some ⟨wr.heap.size, 0, none⟩) 1 1) [iq] hI1
            have hA2 := hA1.below hBi
            have hB2 := hB1.trans (hBi.mono hB1.size)
            unfold raV at HRR
            have hqH := Lib.hid (show q = L.length by omega)
            clear hI1 hR1 hA1 hB1
            go_wp2_with fail
            refine HRR.mono ?_
            rintro e w6 ⟨sb, g, rfl, -, hs6, hg, -, -, hb6⟩
            have hA6 := hA2.below hb6
            have hB6 := hB2.trans (hb6.mono hB2.size)
            have HRe := reach_any hA6 hO iq
            clear HRR hA2 hB2 hb6 hR2
            go_wp2_with fail
            refine HRe.mono ?_
            rintro e w7 ⟨v7, f, rfl, hf, ho7, hb7⟩
            have hs7 := keep_blk hb7 hs6
            have hB7 := hB6.trans (hb7.mono hB6.size)
            have hfg := Lib.hid (fun i (hi : i < L.length) => show g (i + 2) = f i by rw [Bool.eq_iff_iff, hg i hi, hf i (by rw [stOf_len]; exact hi)])
            rw [stOf_len] at ho7
            have hN := idsK_len f L.length
            obtain ⟨A7, c7, rfl⟩ := own_form ho7
            have HK := knows5_any w7
            clear HRe hA6 hs6 hB6 hg hf hb7
            go_wp2
            go_loop [25, 26] (fun a t => ∃ k : Nat, k ≤ L.length ∧ t = .int .i64 ((k : Int) + 2) ∧ a = .int .i64 (idsK f k).length) (fun _ t => L.length + 2 - (intOf t).toNat)
            case atStart => exact ⟨0, by omega, rfl, rfl⟩
            case round =>
              obtain ⟨k3, hk3, rfl, rfl⟩ := hrel
              have hn3 := idsK_len f k3
              by_cases hlt3 : k3 < L.length
              · obtain ⟨p0, pf⟩ := seen_cell hs7 (p := k3 + 2) (by omega)
                rw [hfg.out k3 hlt3] at p0
                have hsucc := Lib.hid (idsK_succ f k3)
                have hk3' : (k3 : Int) + 2 < (L.length : Int) + 2 := by omega
                cases hfk : f k3
                · rw [hfk] at p0 hsucc
                  clear hfk
                  go_wp2
                  go_round
                  case rel => exact ⟨k3 + 1, by omega, by go_num, by rw [hsucc.out]; rfl⟩
                  case measure => simp [intOf]; omega
                · have hget := idsK_get hlt3 hfk
                  have hltN := idsK_lt hlt3 hfk
                  rw [hfk] at p0 hsucc
                  obtain ⟨g7, c8, hG7⟩ := own_some ho7 (by omega)
                  obtain ⟨rfl, rfl⟩ : A7 = some ⟨g7, 0, none⟩ ∧ c7 = c8 := by injection hG7 with e1 e2 e3; exact ⟨e1, e3⟩
                  have hr := ho7.cellAt (idsK f k3).length (by omega)
                  have hv : (idsV (idsK f L.length))[(idsK f k3).length]? = some (.int .i64 ((k3 : Int) + 2)) := by unfold idsV; rw [List.getElem?_map, hget]; rfl
                  rw [hv] at hr
                  have hge : ¬ (((idsK f L.length).length : Nat) : Int) ≤ ((idsK f k3).length : Nat) := by omega
                  have hge' : (((idsK f k3).length : Nat) : Int) < ((idsK f L.length).length : Nat) := by omega
                  have hbn : (((k3 : Int) + 2) != ((k3 : Int) + 2)) = false := by simp
                  have hs1 : Hid ((idsK f (k3 + 1)).length = (idsK f k3).length + 1) := Lib.hid (by rw [hsucc.out]; simp)
                  clear hfk hget hv hG7 hsucc
                  generalize (idsK f k3).length = n3 at *
                  go_wp2
                  go_round
                  case rel => exact ⟨k3 + 1, by omega, by go_num, by rw [hs1.out]; go_num⟩
                  case measure => simp [intOf]; omega
              · have hkL : k3 = L.length := by omega
                subst hkL
                have hee : ((((idsK f L.length).length : Nat) : Int) == ((idsK f L.length).length : Nat)) = true := by simp
                go_wp2_with fail
                refine HK.mono ?_
                rintro e w8 ⟨rfl, hb8⟩
                clear HK
                go_wp2
                go_ret
                exact ⟨rfl, hB7.trans (hb8.mono hB7.size)⟩
      · clear hlt
        go_wp2
        generalize hwo : wr = wo at *
        clear hwo
        go_loopw [17, 18, 19, 20, 21, 22] (fun t _ _ _ _ _ wx => ∃ q : Nat, q ≤ L.length ∧ t = .int .i64 ((q : Int) + 2) ∧ Below wo.heap.size wo wx) (fun t _ _ _ _ _ _ => L.length + 2 - (intOf t).toNat)
        case atStart => exact ⟨0, by omega, rfl, Below.refl _ _⟩
        case round =>
          obtain ⟨q, hq, rfl, hbx⟩ := hrel
          have hbb1 := keep_blk hbx hbb
          have hA1 := hA.below hbx
          have hR1 := owns_below hR hbx
          have hB1 := hB.trans (hbx.mono hB.size)
          obtain ⟨b0, b1, bf⟩ := now2 hbb1 rfl
          by_cases hlt2 : q < L.length
          · obtain ⟨x, hx⟩ : ∃ x, L[q]? = some x := ⟨_, List.getElem?_eq_getElem hlt2⟩
            obtain ⟨g0, cg, hG⟩ := own_some hR (by omega)
            obtain ⟨rfl, rfl⟩ : RA = some ⟨g0, 0, none⟩ ∧ rc = cg := by injection hG with e1 e2 e3; exact ⟨e1, e3⟩
            have HN := node_any hA1 (by rw [stOf_len]; exact hLl) ((q : Int) + 2)
            rw [ndAt_out (stOf_at hx)] at HN
            obtain ⟨⟨n0, n1, n2⟩, gone⟩ := x
            have hxH := Lib.hid hx
            clear hG hx
            cases gone
            · simp only [Bool.false_eq_true, if_false] at HN
              unfold ndT at HN
              dsimp only at HN
              go_wp2_with fail
              refine HN.mono ?_
              rintro e w5 ⟨rfl, hb5⟩
              have hbb5 := keep_blk hb5 hbb1
              obtain ⟨d0, d1, d2, d3⟩ := nodes_at (owns_below hR1 hb5) hxH.out
              obtain ⟨b0, b1, bf⟩ := now2 hbb5 rfl
              have hB5 := hbx.trans (hb5.mono hbx.size)
              have ne0 : (n0 != n0) = false := by simp
              have ne1 : (n1 != n1) = false := by simp
              have ne2 : (n2 != n2) = false := by simp
              clear HN
              go_wp2
              go_roundw
              case rel => exact ⟨q + 1, by omega, by go_num, hB5.alloc hB5.size _⟩
              case measure => simp [intOf]; omega
            · simp only [if_true] at HN
              unfold ndT at HN
              go_wp2_with fail
              refine HN.mono ?_
              rintro e w5 ⟨rfl, hb5⟩
              have hbb5 := keep_blk hb5 hbb1
              obtain ⟨d0, d1, d2, d3⟩ := nodes_at (owns_below hR1 hb5) hxH.out
              obtain ⟨b0, b1, bf⟩ := now2 hbb5 rfl
              have hB5 := hbx.trans (hb5.mono hbx.size)
              clear HN
              go_wp2
              go_roundw
              case rel => exact ⟨q + 1, by omega, by go_num, hB5.alloc hB5.size _⟩
              case measure => simp [intOf]; omega
          · have hI1 := ints_one wr iq
            have hBi := below_alloc1 wr (.cells #[.int .i64 iq] 3 (0, 0))
            have hR2 := owns_below hR1 hBi
            have HRR := rreach_any room hR2 hO.vst hLl (.slice (some ⟨wr.heap.size, 0, none⟩) 1 1) [iq] hI1
            have hA2 := hA1.below hBi
            have hB2 := hB1.trans (hBi.mono hB1.size)
            unfold raV at HRR
            have hqH := Lib.hid (show q = L.length by omega)
            clear hI1 hR1 hA1 hB1
            go_wp2_with fail
            refine HRR.mono ?_
            rintro e w6 ⟨sb, g, rfl, -, hs6, hg, -, -, hb6⟩
            have hA6 := hA2.below hb6
            have hB6 := hB2.trans (hb6.mono hB2.size)
            have HRe := reach_any hA6 hO iq
            clear HRR hA2 hB2 hb6 hR2
            go_wp2_with fail
            refine HRe.mono ?_
            rintro e w7 ⟨v7, f, rfl, hf, ho7, hb7⟩
            have hs7 := keep_blk hb7 hs6
            have hB7 := hB6.trans (hb7.mono hB6.size)
            have hfg := Lib.hid (fun i (hi : i < L.length) => show g (i + 2) = f i by rw [Bool.eq_iff_iff, hg i hi, hf i (by rw [stOf_len]; exact hi)])
            rw [stOf_len] at ho7
            have hN := idsK_len f L.length
            obtain ⟨A7, c7, rfl⟩ := own_form ho7
            have HK := knows5_any w7
            clear HRe hA6 hs6 hB6 hg hf hb7
            go_wp2
            go_loop [25, 26] (fun a t => ∃ k : Nat, k ≤ L.length ∧ t = .int .i64 ((k : Int) + 2) ∧ a = .int .i64 (idsK f k).length) (fun _ t => L.length + 2 - (intOf t).toNat)
            case atStart => exact ⟨0, by omega, rfl, rfl⟩
            case round =>
              obtain ⟨k3, hk3, rfl, rfl⟩ := hrel
              have hn3 := idsK_len f k3
              by_cases hlt3 : k3 < L.length
              · obtain ⟨p0, pf⟩ := seen_cell hs7 (p := k3 + 2) (by omega)
                rw [hfg.out k3 hlt3] at p0
                have hsucc := Lib.hid (idsK_succ f k3)
                have hk3' : (k3 : Int) + 2 < (L.length : Int) + 2 := by omega
                cases hfk : f k3
                · rw [hfk] at p0 hsucc
                  clear hfk
                  go_wp2
                  go_round
                  case rel => exact ⟨k3 + 1, by omega, by go_num, by rw [hsucc.out]; rfl⟩
                  case measure => simp [intOf]; omega
                · have hget := idsK_get hlt3 hfk
                  have hltN := idsK_lt hlt3 hfk
                  rw [hfk] at p0 hsucc
                  obtain ⟨g7, c8, hG7⟩ := own_some ho7 (by omega)
                  obtain ⟨rfl, rfl⟩ : A7 = some ⟨g7, 0, none⟩ ∧ c7 = c8 := by injection hG7 with e1 e2 e3; exact ⟨e1, e3⟩
                  have hr := ho7.cellAt (idsK f k3).length (by omega)
                  have hv : (idsV (idsK f L.length))[(idsK f k3).length]? = some (.int .i64 ((k3 : Int) + 2)) := by unfold idsV; rw [List.getElem?_map, hget]; rfl
                  rw [hv] at hr
                  have hge : ¬ (((idsK f L.length).length : Nat) : Int) ≤ ((idsK f k3).length : Nat) := by omega
                  have hge' : (((idsK f k3).length : Nat) : Int) < ((idsK f L.length).length : Nat) := by omega
                  have hbn : (((k3 : Int) + 2) != ((k3 : Int) + 2)) = false := by simp
                  have hs1 : Hid ((idsK f (k3 + 1)).length = (idsK f k3).length + 1) := Lib.hid (by rw [hsucc.out]; simp)
                  clear hfk hget hv hG7 hsucc
                  generalize (idsK f k3).length = n3 at *
                  go_wp2
                  go_round
                  case rel => exact ⟨k3 + 1, by omega, by go_num, by rw [hs1.out]; go_num⟩
                  case measure => simp [intOf]; omega
              · have hkL : k3 = L.length := by omega
                subst hkL
                have hee : ((((idsK f L.length).length : Nat) : Int) == ((idsK f L.length).length : Nat)) = true := by simp
                go_wp2_with fail
                refine HK.mono ?_
                rintro e w8 ⟨rfl, hb8⟩
                clear HK
                go_wp2
                go_ret
                exact ⟨rfl, hB7.trans (hb8.mono hB7.size)⟩
end Go.Proofs.Ytkcchdaadajjcaa
