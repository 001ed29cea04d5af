/- The statements of layer 10, over what the packages answer: MultiOne. -/
import Derived.Test.YtmgggennbnbjkaaGxLaw10b
import Derived.Test.YtmgggennbnbjkaaG24
namespace Go.Proofs.Ytmgggennbnbjkaa
open Go.RowKit Go.Joins

theorem one_of {n : Int} {S : BitVec 256} (h : spB (spOne n S) = true) : ofB S n = true := by
  obtain ⟨hh, hs⟩ := sp_iff.1 h
  obtain ⟨⟨i0, i8⟩, -, -⟩ := (headS_iff _).1 hh
  have h2 := (hs 0 (by show 0 < 1; omega)).2
  unfold ofB
  rw [Bool.and_eq_true, decide_eq_true_iff, decide_eq_true_iff]
  exact ⟨⟨i0, i8⟩, h2⟩
theorem lit_set1 {w : World} {b : Nat} {C : Array Value} {X : BitVec 256} (h : w.heap[b]? = some (.cells C 45 (0, 0)))
    (hC : C = #[wv (wd X 0), wv (wd X 1), wv (wd X 2), wv (wd X 3)]) : SetsAt w w.heap.size (.slice (some ⟨b, 0, none⟩) 1 1) [X] := by
  subst hC
  refine ⟨some ⟨b, 0, none⟩, 1, rfl, (show (1 : Nat) ≤ 9223372036854775807 by decide), fun _ => ⟨b, 0, rfl, size_of_block h, fun j Z hj => ?_⟩⟩
  have hj2 : j < 1 := (List.getElem?_eq_some_iff.1 hj).1
  obtain rfl : j = 0 := by omega
  simp at hj
  subst hj
  exact ⟨by rw [cell_of_block h]; rfl, by rw [cell_of_block h]; rfl, by rw [cell_of_block h]; rfl, by rw [cell_of_block h]; rfl⟩
set_option maxHeartbeats 4000000 in
set_option maxRecDepth 100000 in
theorem multiOne_any (HA : AllM) (HG : GrowM) (HP : PrimeM) (HA9 : AllC) (S : BitVec 256) (n : Int) (w : World) :
    Calls Try.prog 6 #[sv S, .int .i64 n] w fun e w' => e = .returned (.bool true) ∧ Below w.heap.size w w' := by
  have HK := fun w => knows10_any HA HG HP w
  have hB0 := below_alloc1 w (.cells (sa S) 45)
  have hb0 := heap_alloc_new w (.cells (sa S) 45)
  obtain ⟨s0, s1, s2, s3, -⟩ := now4 hb0 rfl
  unfold sv sa at *
  unfold wv at *
  go_enter Try.func6, Try.ntmps6
  go_upto_region 1 with (fail)
  generalize hW : w.alloc _ = W at *
  have hB1 := hB0.trans ((below_alloc3 W (.cells #[.int .u64 0, .int .u64 0, .int .u64 0, .int .u64 0] 45) (.cells #[.int .u64 (wd S 0).toNat, .int .u64 (wd S 1).toNat, .int .u64 (wd S 2).toNat, .int .u64 (wd S 3).toNat] 45) (.cells #[.int .i64 n, .slice (some ⟨W.heap.size, 0, none⟩) 1 1, .slice (some ⟨W.heap.size + 1, 0, none⟩) 1 1] 24)).mono hB0.size)
  have h1 := heap_alloc3_a W (.cells #[.int .u64 0, .int .u64 0, .int .u64 0, .int .u64 0] 45) (.cells #[.int .u64 (wd S 0).toNat, .int .u64 (wd S 1).toNat, .int .u64 (wd S 2).toNat, .int .u64 (wd S 3).toNat] 45) (.cells #[.int .i64 n, .slice (some ⟨W.heap.size, 0, none⟩) 1 1, .slice (some ⟨W.heap.size + 1, 0, none⟩) 1 1] 24)
  have h2 := heap_alloc3_b W (.cells #[.int .u64 0, .int .u64 0, .int .u64 0, .int .u64 0] 45) (.cells #[.int .u64 (wd S 0).toNat, .int .u64 (wd S 1).toNat, .int .u64 (wd S 2).toNat, .int .u64 (wd S 3).toNat] 45) (.cells #[.int .i64 n, .slice (some ⟨W.heap.size, 0, none⟩) 1 1, .slice (some ⟨W.heap.size + 1, 0, none⟩) 1 1] 24)
  have h3 := heap_alloc3_c W (.cells #[.int .u64 0, .int .u64 0, .int .u64 0, .int .u64 0] 45) (.cells #[.int .u64 (wd S 0).toNat, .int .u64 (wd S 1).toNat, .int .u64 (wd S 2).toNat, .int .u64 (wd S 3).toNat] 45) (.cells #[.int .i64 n, .slice (some ⟨W.heap.size, 0, none⟩) 1 1, .slice (some ⟨W.heap.size + 1, 0, none⟩) 1 1] 24)
  have hbx := keep_blk (below_alloc3 W (.cells #[.int .u64 0, .int .u64 0, .int .u64 0, .int .u64 0] 45) (.cells #[.int .u64 (wd S 0).toNat, .int .u64 (wd S 1).toNat, .int .u64 (wd S 2).toNat, .int .u64 (wd S 3).toNat] 45) (.cells #[.int .i64 n, .slice (some ⟨W.heap.size, 0, none⟩) 1 1, .slice (some ⟨W.heap.size + 1, 0, none⟩) 1 1] 24)) hb0
  clear hW hB0 s0 s1 s2 s3
  obtain ⟨s0, s1, s2, s3⟩ := al4 hb0 rfl
  obtain ⟨t0, t1, t2, -⟩ := now3 h3 rfl
  go_wp2_with fail
  generalize ((W.alloc (.cells #[.int .u64 0, .int .u64 0, .int .u64 0, .int .u64 0] 45)).alloc (.cells #[.int .u64 (wd S 0).toNat, .int .u64 (wd S 1).toNat, .int .u64 (wd S 2).toNat, .int .u64 (wd S 3).toNat] 45)).alloc (.cells #[.int .i64 n, .slice (some ⟨W.heap.size, 0, none⟩) 1 1, .slice (some ⟨W.heap.size + 1, 0, none⟩) 1 1] 24) = W3 at *
  have hS1 : SetsAt W3 W3.heap.size (.slice (some ⟨W.heap.size, 0, none⟩) 1 1) [0] := lit_set1 h1 rfl
  have hS2 : SetsAt W3 W3.heap.size (.slice (some ⟨W.heap.size + 1, 0, none⟩) 1 1) [S] := lit_set1 h2 rfl
  have HR := rspec_any n _ _ [0] [S] W3 hS1 hS2
  rw [show (⟨n, [0], [S]⟩ : Sp) = spOne n S from rfl] at HR
  cases hr : spB (spOne n S)
  · rw [hr] at HR
    refine HR.mono ?_
    rintro e w1 ⟨rfl, hb⟩
    have hB2 := hB1.trans (hb.mono hB1.size)
    clear HA HG HP HA9 HR hb hB1 h1 h2 h3 hS1 hS2 hbx s0 s1 s2 s3 t0 t1 t2
    go_wp2_with fail
    refine (HK _).mono ?_
    rintro e w2 ⟨rfl, hb⟩
    go_wp2
    go_ret
    exact ⟨rfl, hB2.trans (hb.mono hB2.size)⟩
  · rw [hr] at HR
    have ho := one_of hr
    have hpo := primes_one n S
    refine HR.mono ?_
    rintro e w1 ⟨rfl, hb⟩
    have hB2 := hB1.trans (hb.mono hB1.size)
    have hs2 := keep_blk hb h3
    have hbx2 := keep_blk hb hbx
    have HA2 := HA n _ _ [0] [S] w1 ((hS1.below hb).more hb.size) ((hS2.below hb).more hb.size)
    rw [show (⟨n, [0], [S]⟩ : Sp) = spOne n S from rfl, if_pos hr, if_pos hr, hpo] at HA2
    have HX := fun w => all9_yes HA9 ho w
    have hlen : (prims S n).length ≤ 65536 := by unfold prims prmL; rw [List.length_map]; exact prmU_len _ _ _
    generalize prims S n = L at *
    unfold spv at HA2
    unfold sv wv at HX
    clear HA HG HP HA9 HR hb hB1 h1 h2 h3 hS1 hS2 hbx s0 s1 s2 s3 t0 t1 t2 hr ho hpo
    obtain ⟨t0, t1, t2, -⟩ := now3 hs2 rfl
    go_wp2_with fail
    refine HA2.mono ?_
    rintro e w2 ⟨v, rfl, hV, hb⟩
    have hB3 := hB2.trans (hb.mono hB2.size)
    have hbx3 := keep_blk hb hbx2
    clear HA2 hb hB2 hs2 hbx2 t0 t1 t2
    obtain ⟨s0, s1, s2, s3, -⟩ := now4 hbx3 rfl
    go_wp2_with fail
    refine (HX _).mono ?_
    rintro e w3 ⟨u, rfl, hU, hb⟩
    have hB4 := hB3.trans (hb.mono hB3.size)
    have hV3 := (hV.below hb).more hb.size
    clear HX hb hB3 hbx3 s0 s1 s2 s3 hV
    obtain ⟨A, c, rfl, -, hcv⟩ := hV3
    obtain ⟨A2, c2, rfl, -, hcu⟩ := hU
    simp only [List.length_map] at hcv ⊢
    have hne : (((L.length : Nat) : Int) != ((L.length : Nat) : Int)) = false := by simp
    go_wp2
    clear hne
    go_loopw [10] (fun t wr => ∃ k : Nat, k ≤ L.length ∧ t = .int .i64 k ∧ Below w3.heap.size w3 wr) (fun t _ => L.length - (intOf t).toNat)
    case atStart => exact ⟨0, by omega, rfl, Below.refl _ _⟩
    case round =>
      obtain ⟨k, hk, rfl, hb⟩ := hrel
      have hBr := hB4.trans (hb.mono hB4.size)
      by_cases hkl : k < L.length
      · obtain ⟨bl, off, rfl, hBl, hcl⟩ := hcv (by omega)
        obtain ⟨bl2, off2, rfl, hBl2, hcl2⟩ := hcu (by omega)
        obtain ⟨⟨xm, xv⟩, hx⟩ : ∃ x, L[k]? = some x := ⟨_, List.getElem?_eq_getElem hkl⟩
        obtain ⟨x0, x1, x2⟩ := hcl k ⟨xm, xv, 1⟩ (by rw [List.getElem?_map, hx]; rfl)
        obtain ⟨y0, y1⟩ := hcl2 k ⟨xm, xv⟩ hx
        have D0 := fun z : After wr => After.cell z ((hb.cell (p := ⟨bl, off + k * 3, none⟩) hBl).trans x0)
        have D1 := fun z : After wr => After.cell z ((hb.cell (p := ⟨bl, off + k * 3 + 1, none⟩) hBl).trans x1)
        have D2 := fun z : After wr => After.cell z ((hb.cell (p := ⟨bl, off + k * 3 + 2, none⟩) hBl).trans x2)
        have E0 := fun z : After wr => After.cell z ((hb.cell (p := ⟨bl2, off2 + k * 2, none⟩) hBl2).trans y0)
        have E1 := fun z : After wr => After.cell z ((hb.cell (p := ⟨bl2, off2 + k * 2 + 1, none⟩) hBl2).trans y1)
        unfold bvv at D0 D1 E0 E1
        rw [show bvv 1 = .int .u8 1 from rfl] at D2
        have k0 : (0 : Int) ≤ (k : Int) := by omega
        have k1 : (k : Int) < (L.length : Int) := by omega
        clear hcl hcl2 hcv hcu hx x0 x1 x2 y0 y1 HK
        go_upto_region 11 with (fail)
        refine wp_region_after (by kernel_rfl) (by kernel_rfl) ?_
        repeat (first | go_big_quiet_step (fail))
        refine wpQuiet_nil ?_
        intro z
        have hbz := hb.trans (z.2.mono hb.size)
        clear D0 D1 D2 E0 E1
        go_wp2
        go_roundw
        case rel => exact ⟨k + 1, by omega, by go_num, hbz⟩
        case measure => simp [intOf]; omega
      · clear hcv hcu
        go_wp2_with fail
        refine (HK _).mono ?_
        rintro e w5 ⟨rfl, hb5⟩
        go_wp2
        go_ret
        exact ⟨rfl, hBr.trans (hb5.mono hBr.size)⟩
end Go.Proofs.Ytmgggennbnbjkaa
