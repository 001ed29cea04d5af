/- SearchFewest, over what the package answers. SearchNone, over what the package answers. -/
import Derived.Test.YtcbhcclickjpnaaGK35
import Derived.Test.YtcbhcclickjpnaaGK36
import Derived.Test.YtcbhcclickjpnaaGK04
import Derived.Test.YtcbhcclickjpnaaGK22
namespace Go.Proofs.Ytcbhcclickjpnaa
open Go.RowKit Go.Joins

set_option maxHeartbeats 8000000 in
set_option maxRecDepth 100000 in
theorem fewest15_great (HK : Knows15) (n : Int) (L : Value) (ls : List (List Int)) (w : World) (hL : MatAt w w.heap.size L ls) (hg : gr14 n ls = true) :
    Calls Try.prog 4 #[mtv n L] w fun e w' => e = .returned (.bool true) ∧ Below w.heap.size w w' := by
  have hB0 := below_alloc1 w (mtb n L)
  have hbu : (w.alloc (mtb n L)).heap[w.heap.size]? = some (mtb n L) := heap_alloc_new _ _
  have HG := great15_any n L ls _ ((hL.below hB0).more hB0.size)
  rw [hg] at HG
  obtain ⟨A, c, rfl, hlen, -⟩ := hL
  unfold mtb at hB0 hbu HG
  unfold mtv at *
  obtain ⟨u0, u1, -⟩ := now2 hbu rfl
  clear hg
  go_enter Try.func4, Try.ntmps4
  go_wp2_with fail
  refine HG.mono ?_
  rintro e w1 ⟨rfl, hb⟩
  have hB1 := hB0.trans (hb.mono hB0.size)
  clear HG hb
  go_wp2_with fail
  refine (HK _).mono ?_
  rintro e wk ⟨rfl, hb⟩
  go_wp2
  go_ret
  exact ⟨rfl, hB1.trans (hb.mono hB1.size)⟩
set_option maxHeartbeats 8000000 in
set_option maxRecDepth 100000 in
theorem fewest15_wide (HK : Knows15) (n : Int) (L : Value) (ls : List (List Int)) (w : World) (hL : MatAt w w.heap.size L ls) (hg : gr14 n ls = false) (hn : 9 < n) :
    Calls Try.prog 4 #[mtv n L] w fun e w' => e = .returned (.bool true) ∧ Below w.heap.size w w' := by
  have hB0 := below_alloc1 w (mtb n L)
  have hbu : (w.alloc (mtb n L)).heap[w.heap.size]? = some (mtb n L) := heap_alloc_new _ _
  have HG := great15_any n L ls _ ((hL.below hB0).more hB0.size)
  rw [hg] at HG
  obtain ⟨A, c, rfl, hlen, -⟩ := hL
  unfold mtb at hB0 hbu HG
  unfold mtv at *
  obtain ⟨u0, u1, -⟩ := now2 hbu rfl
  have hnd : decide (9 < n) = true := decide_eq_true hn
  clear hg
  go_enter Try.func4, Try.ntmps4
  go_wp2_with fail
  refine HG.mono ?_
  rintro e w1 ⟨rfl, hb⟩
  have hB1 := hB0.trans (hb.mono hB0.size)
  replace hbu := keep_blk hb hbu
  clear u0 u1 hb hB0 HG
  obtain ⟨u0, u1, -⟩ := now2 hbu rfl
  go_wp2_with fail
  refine (HK _).mono ?_
  rintro e wk ⟨rfl, hb⟩
  go_wp2
  go_ret
  exact ⟨rfl, hB1.trans (hb.mono hB1.size)⟩
set_option maxHeartbeats 8000000 in
set_option maxRecDepth 100000 in
theorem fewest15_bad (HK : Knows15) (HF0 : FewestBad) (n : Int) (L : Value) (ls : List (List Int)) (w : World) (hL : MatAt w w.heap.size L ls) (hcap : CapM w L) (hg : gr14 n ls = false) (hn : ¬ 9 < n) (hr : rightM n ls = false) :
    Calls Try.prog 4 #[mtv n L] w fun e w' => e = .returned (.bool true) ∧ Below w.heap.size w w' := by
  have hB0 := below_alloc1 w (mtb n L)
  have hbu : (w.alloc (mtb n L)).heap[w.heap.size]? = some (mtb n L) := heap_alloc_new _ _
  have HG := great15_any n L ls _ ((hL.below hB0).more hB0.size)
  have C1 := fun W (hb : Below w.heap.size w W) => HF0 n L ls 1024 W ((hL.below hb).more hb.size) (hcap.below hb) hg hr
  have C2 := fun W (hb : Below w.heap.size w W) => rright13_any W L n ls ((hL.below hb).more hb.size)
  rw [hr] at C2
  rw [hg] at HG
  simp only [show ((1024 : Nat) : Int) = 1024 from rfl] at C1
  obtain ⟨A, c, rfl, hlen, -⟩ := hL
  unfold mtb at hB0 hbu HG
  unfold mtv at *
  obtain ⟨u0, u1, -⟩ := now2 hbu rfl
  have hnd : decide (9 < n) = false := decide_eq_false hn
  clear hg hr
  go_enter Try.func4, Try.ntmps4
  go_wp2_with fail
  refine HG.mono ?_
  rintro e w1 ⟨rfl, hb⟩
  have hB1 := hB0.trans (hb.mono hB0.size)
  replace hbu := keep_blk hb hbu
  clear u0 u1 hb hB0 HG
  obtain ⟨u0, u1, -⟩ := now2 hbu rfl
  have D := C1 _ hB1
  go_wp2_with fail
  refine D.mono ?_
  rintro e w2 ⟨A', c', rfl, hb⟩
  have hB2 := hB1.trans (hb.mono hB1.size)
  replace hbu := keep_blk hb hbu
  clear u0 u1 hb hB1 D C1
  obtain ⟨u0, u1, -⟩ := now2 hbu rfl
  have D := C2 _ hB2
  go_wp2_with fail
  refine D.mono ?_
  rintro e w3 ⟨rfl, hb⟩
  have hB3 := hB2.trans (hb.mono hB2.size)
  clear u0 u1 D C2 hb hB2 hbu
  go_wp2_with fail
  refine (HK _).mono ?_
  rintro e wk ⟨rfl, hb⟩
  go_wp2
  go_ret
  exact ⟨rfl, hB3.trans (hb.mono hB3.size)⟩
set_option maxHeartbeats 8000000 in
set_option maxRecDepth 100000 in
theorem fewest15_bare (HK : Knows15) (HF1 : FewestBare) (n : Nat) (L : Value) (ls : List (List Int)) (w : World) (hL : MatAt w w.heap.size L ls) (hcap : CapM w L) (hg : gr14 n ls = false) (hn : ¬ 9 < n) (hr : rightM n ls = true) (hbr : bareB ls = true) :
    Calls Try.prog 4 #[mtv n L] w fun e w' => e = .returned (.bool true) ∧ Below w.heap.size w w' := by
  have hB0 := below_alloc1 w (mtb n L)
  have hbu : (w.alloc (mtb n L)).heap[w.heap.size]? = some (mtb n L) := heap_alloc_new _ _
  have HG := great15_any n L ls _ ((hL.below hB0).more hB0.size)
  have C1 := fun W (hb : Below w.heap.size w W) => HF1 n L ls 1024 W ((hL.below hb).more hb.size) (hcap.below hb) hg hr hbr
  have C2 := fun W (hb : Below w.heap.size w W) => rright13_any W L n ls ((hL.below hb).more hb.size)
  have C3 := fun W (hb : Below w.heap.size w W) => rbare15_any L ls W ((hL.below hb).more hb.size)
  rw [hr] at C2
  rw [hbr] at C3
  rw [hg] at HG
  simp only [show ((1024 : Nat) : Int) = 1024 from rfl] at C1
  obtain ⟨A, c, rfl, hlen, -⟩ := hL
  unfold mtb at hB0 hbu HG
  unfold mtv at *
  obtain ⟨u0, u1, -⟩ := now2 hbu rfl
  have hnd : decide (9 < (n : Int)) = false := decide_eq_false (by omega)
  clear hg hr hbr
  go_enter Try.func4, Try.ntmps4
  go_wp2_with fail
  refine HG.mono ?_
  rintro e w1 ⟨rfl, hb⟩
  have hB1 := hB0.trans (hb.mono hB0.size)
  replace hbu := keep_blk hb hbu
  clear u0 u1 hb hB0 HG
  obtain ⟨u0, u1, -⟩ := now2 hbu rfl
  have D := C1 _ hB1
  go_wp2_with fail
  refine D.mono ?_
  rintro e w2 ⟨A', c', rfl, hb⟩
  have hB2 := hB1.trans (hb.mono hB1.size)
  replace hbu := keep_blk hb hbu
  clear u0 u1 hb hB1 D C1
  obtain ⟨u0, u1, -⟩ := now2 hbu rfl
  have D := C2 _ hB2
  go_wp2_with fail
  refine D.mono ?_
  rintro e w3 ⟨rfl, hb⟩
  have hB3 := hB2.trans (hb.mono hB2.size)
  replace hbu := keep_blk hb hbu
  clear u0 u1 hb hB2 D C2
  obtain ⟨u0, u1, -⟩ := now2 hbu rfl
  have D := C3 _ hB3
  go_wp2_with fail
  refine D.mono ?_
  rintro e w4 ⟨rfl, hb⟩
  have hB4 := hB3.trans (hb.mono hB3.size)
  clear u0 u1 D C3 hb hB3 hbu
  go_wp2_with fail
  refine (HK _).mono ?_
  rintro e wk ⟨rfl, hb⟩
  go_wp2
  go_ret
  exact ⟨rfl, hB4.trans (hb.mono hB4.size)⟩
set_option maxHeartbeats 8000000 in
set_option maxRecDepth 100000 in
theorem fewest15_good (HK : Knows15) (HF : FewestGood) (n : Nat) (L : Value) (ls : List (List Int)) (w : World) (hL : MatAt w w.heap.size L ls) (hcap : CapM w L) (hg : gr14 n ls = false) (hn : ¬ 9 < n) (hr : rightM n ls = true) (hbr : bareB ls = false) :
    Calls Try.prog 4 #[mtv n L] w fun e w' => e = .returned (.bool true) ∧ Below w.heap.size w w' := by
  have hpow : 2 ^ (n + 1) ≤ 1024 := Nat.le_trans (Nat.pow_le_pow_right (by decide) (show n + 1 ≤ 10 by omega)) (by decide)
  have hB0 := below_alloc1 w (mtb n L)
  have hbu : (w.alloc (mtb n L)).heap[w.heap.size]? = some (mtb n L) := heap_alloc_new _ _
  have HG := great15_any n L ls _ ((hL.below hB0).more hB0.size)
  have C1 := fun W (hb : Below w.heap.size w W) => HF n L ls 1024 W ((hL.below hb).more hb.size) (hcap.below hb) hg hr hbr (by omega) hpow (by decide)
  have C2 := fun W (hb : Below w.heap.size w W) => rright13_any W L n ls ((hL.below hb).more hb.size)
  have C3 := fun W (hb : Below w.heap.size w W) => rbare15_any L ls W ((hL.below hb).more hb.size)
  have C4 := fun u l W (hb : Below w.heap.size w W) hu => rsolves13_any W L u ls l ((hL.below hb).more hb.size) hu
  have C5 := fun W (hb : Below w.heap.size w W) => rbest14_any L ls n (by omega) W ((hL.below hb).more hb.size)
  have hbest := Lib.hid (fun l h => few_best (n := n) (ls := ls) (l := l) (right_low15 hr) h)
  rw [hr] at C2
  rw [hbr] at C3
  rw [hg] at HG
  simp only [show ((1024 : Nat) : Int) = 1024 from rfl] at C1
  obtain ⟨A, c, rfl, hlen, -⟩ := hL
  unfold mtb at hB0 hbu HG
  unfold mtv at *
  obtain ⟨u0, u1, -⟩ := now2 hbu rfl
  have hnd : decide (9 < (n : Int)) = false := decide_eq_false (by omega)
  clear hg hr hbr
  go_enter Try.func4, Try.ntmps4
  go_wp2_with fail
  refine HG.mono ?_
  rintro e w1 ⟨rfl, hb⟩
  have hB1 := hB0.trans (hb.mono hB0.size)
  replace hbu := keep_blk hb hbu
  clear u0 u1 hb hB0 HG
  obtain ⟨u0, u1, -⟩ := now2 hbu rfl
  have D := C1 _ hB1
  go_wp2_with fail
  refine D.mono ?_
  rintro e w2 ⟨u, l, k, rfl, hk, hu, hfew, hb⟩
  have hB2 := hB1.trans (hb.mono hB1.size)
  replace hbu := keep_blk hb hbu
  have hbl := hbest.out l hfew
  obtain ⟨Au, cu, rfl, -, -⟩ := id hu
  clear u0 u1 hb hB1 D C1
  obtain ⟨u0, u1, -⟩ := now2 hbu rfl
  have D := C2 _ hB2
  go_wp2_with fail
  refine D.mono ?_
  rintro e w3 ⟨rfl, hb⟩
  have hB3 := hB2.trans (hb.mono hB2.size)
  replace hbu := keep_blk hb hbu
  replace hu := (hu.below hb).more hb.size
  clear u0 u1 hb hB2 D C2
  obtain ⟨u0, u1, -⟩ := now2 hbu rfl
  have D := C3 _ hB3
  go_wp2_with fail
  refine D.mono ?_
  rintro e w4 ⟨rfl, hb⟩
  have hB4 := hB3.trans (hb.mono hB3.size)
  replace hbu := keep_blk hb hbu
  replace hu := (hu.below hb).more hb.size
  clear u0 u1 hb hB3 D C3
  obtain ⟨u0, u1, -⟩ := now2 hbu rfl
  have hkk : k ≤ 1024 := by omega
  clear hpow hk hbest
  have hri := hfew.1
  have hsl := hfew.2.1
  clear hfew
  have hw := Lib.hid hB4.size
  go_wp2
  go_loopw [6] (fun t wr => ∃ i : Nat, i ≤ l.length ∧ t = .int .i64 i ∧ Below w4.heap.size w4 wr) (fun t _ => l.length - (intOf t).toNat)
  case atStart => exact ⟨0, by omega, rfl, Below.refl _ _⟩
  case round =>
    clear u0 u1
    obtain ⟨i, hi, rfl, hbz⟩ := hrel
    have hbx := keep_blk hbz hbu
    by_cases hil : i < l.length
    · obtain ⟨x, hx⟩ : ∃ x, l[i]? = some x := ⟨_, List.getElem?_eq_getElem hil⟩
      obtain ⟨x0, x1⟩ := hri.1 x (List.mem_of_getElem? hx)
      have xd0 : decide (x < 0) = false := decide_eq_false (by omega)
      have xd1 : decide ((n : Int) ≤ x) = false := decide_eq_false (by omega)
      obtain ⟨A9, c9, e9, hl9, hc9⟩ := id hu
      injection e9 with e9 eN e9c
      clear eN
      subst e9
      subst e9c
      obtain ⟨b, off, rfl, hB, hc⟩ := hc9 (by omega)
      have q1 := fun X : After wr => After.cell X ((hbz.cell (p := ⟨b, off + i, none⟩) hB).trans (hc i x hx))
      have i0 : (0 : Int) ≤ (i : Int) := by omega
      have i1 : (i : Int) < (l.length : Int) := by omega
      obtain ⟨n0, n1, -⟩ := box2 hbx rfl
      clear hc9
      cases i with
      | zero =>
        rw [Nat.add_zero] at q1
        clear hc hx hri
        go_wp2_with fail
        refine wp_region_after (by kernel_rfl) (by kernel_rfl) ?_
        repeat (first | go_big_quiet_step (fail))
        refine wpQuiet_nil ?_
        intro z
        have hbz2 := hbz.trans (z.2.mono hbz.size)
        clear q1 n0 n1 hbz
        go_wp2
        go_roundw
        case rel => exact ⟨0 + 1, by omega, by go_num, hbz2⟩
        case measure => simp [intOf]; omega
      | succ m =>
        obtain ⟨y, hy⟩ : ∃ y, l[m]? = some y := ⟨_, List.getElem?_eq_getElem (by omega)⟩
        have q2 := fun X : After wr => After.cell X ((hbz.cell (p := ⟨b, off + m, none⟩) hB).trans (hc m y hy))
        have hyx : y < x := by
          have h1 := List.pairwise_iff_getElem.1 hri.2 m (m + 1) (by omega) hil (by omega)
          obtain ⟨h2, h3⟩ := List.getElem?_eq_some_iff.1 hx
          obtain ⟨h4, h5⟩ := List.getElem?_eq_some_iff.1 hy
          rw [h3, h5] at h1
          exact h1
        have m0 : (0 : Int) < ((m + 1 : Nat) : Int) := by omega
        have m1 : ((m + 1 : Nat) : Int) - 1 = (m : Int) := by omega
        have m2 : (0 : Int) ≤ (m : Int) := by omega
        have m3 : (m : Int) < (l.length : Int) := by omega
        have yd : decide (x ≤ y) = false := decide_eq_false (by omega)
        clear hc hx hy hri hyx
        go_wp2_with fail
        refine wp_region_after (by kernel_rfl) (by kernel_rfl) ?_
        repeat (first | go_big_quiet_step (fail))
        refine wpQuiet_nil ?_
        intro z
        have hbz2 := hbz.trans (z.2.mono hbz.size)
        clear q1 q2 n0 n1 hbz
        go_wp2
        go_roundw
        case rel => exact ⟨m + 1 + 1, by omega, by go_num, hbz2⟩
        case measure => simp [intOf]; omega
    · have e : i = l.length := by omega
      subst e
      have hBr := hB4.trans (hbz.mono hw.out)
      replace hu := (hu.below hbz).more hbz.size
      obtain ⟨u0, u1, -⟩ := now2 hbx rfl
      have hll : decide (l.length < l.length) = false := by simp
      have D := C4 _ _ _ hBr hu
      rw [hsl] at D
      have hk0 : (0 : Int) ≤ (k : Int) := by omega
      have hk1 : (k : Int) ≤ 1024 := by omega
      clear hri hsl C4 hbu hbz hB4
      go_wp2_with fail
      refine D.mono ?_
      rintro e w5 ⟨rfl, hb⟩
      have hB5 := hBr.trans (hb.mono hBr.size)
      replace hbx := keep_blk hb hbx
      clear D u0 u1 hb hBr hu
      obtain ⟨u0, u1, -⟩ := now2 hbx rfl
      have D := C5 _ hB5
      rw [hbl] at D
      have hle : ((l.length : Int) == (l.length : Int)) = true := by simp
      clear C5 hbl
      go_wp2_with fail
      refine D.mono ?_
      rintro e w6 ⟨rfl, hb⟩
      have hB6 := hB5.trans (hb.mono hB5.size)
      clear D u0 u1 hb hB5 hbx
      go_wp2_with fail
      refine (HK _).mono ?_
      rintro e wk ⟨rfl, hb⟩
      go_wp2
      go_ret
      exact ⟨rfl, hB6.trans (hb.mono hB6.size)⟩
theorem searchFewest_any (HK : Knows15) (HF : FewestGood) (HF1 : FewestBare) (HF0 : FewestBad) (n : Int) (L : Value) (ls : List (List Int)) (w : World) (hL : MatAt w w.heap.size L ls) (hcap : CapM w L) :
    Calls Try.prog 4 #[mtv n L] w fun e w' => e = .returned (.bool true) ∧ Below w.heap.size w w' := by
  cases hg : gr14 n ls
  · by_cases hn : 9 < n
    · exact fewest15_wide HK n L ls w hL hg hn
    · cases hr : rightM n ls
      · exact fewest15_bad HK HF0 n L ls w hL hcap hg hn hr
      · obtain ⟨k, rfl⟩ : ∃ k : Nat, n = k := ⟨n.toNat, by have := (right_iff.1 hr).1; omega⟩
        cases hbr : bareB ls
        · exact fewest15_good HK HF k L ls w hL hcap hg (by omega) hr hbr
        · exact fewest15_bare HK HF1 k L ls w hL hcap hg (by omega) hr hbr
  · exact fewest15_great HK n L ls w hL hg
end Go.Proofs.Ytcbhcclickjpnaa
namespace Go.Proofs.Ytcbhcclickjpnaa
open Go.RowKit Go.Joins

/-- Columns that hold all that solve are no fewer than the fewest, nor is the bound more. -/
theorem none_few {n : Nat} {ls : List (List Int)} {l cols R : List Int} (h : FewL n ls l) (hR : ∀ x, x ∈ cols → x ∈ R) (hs : solvesM ls cols = true) : l.length ≤ R.length := by
  have h1 : SolT ls fun x => decide (x ∈ R) := by
    rw [solves_all] at hs
    intro r hr
    obtain ⟨c, hc, hm⟩ := hs r hr
    exact ⟨c, hc, decide_eq_true (hR c hm)⟩
  exact Nat.le_trans (h.2.2 _ h1) (crd_list n R)
theorem bound_few {n : Nat} {ls : List (List Int)} {l : List Int} (hl : ∀ r, r ∈ ls → ∀ c, c ∈ r → 0 ≤ c ∧ c < n) (h : FewL n ls l) : boundL ls ≤ l.length :=
  Nat.le_trans (bound_under hl (sol_of h.2.1)) (crd_list n l)
set_option maxHeartbeats 8000000 in
set_option maxRecDepth 100000 in
theorem none15_great (HK : Knows15) (n : Int) (L u : Value) (ls : List (List Int)) (cols : List Int) (w : World) (hL : MatAt w w.heap.size L ls) (hu : IntsAt w w.heap.size u cols) (hg : gr14 n ls = true) :
    Calls Try.prog 5 #[mtv n L, u] w fun e w' => e = .returned (.bool true) ∧ Below w.heap.size w w' := by
  have hB := below_alloc1 w (mtb n L)
  have hbm : (w.alloc (mtb n L)).heap[w.heap.size]? = some (mtb n L) := heap_alloc_new _ _
  have HG := great15_any n L ls _ ((hL.below hB).more hB.size)
  rw [hg] at HG
  obtain ⟨A, c, rfl, hlen, -⟩ := hL
  obtain ⟨A2, c2, rfl, hlu, -⟩ := hu
  unfold mtb at hB hbm HG
  unfold mtv at *
  obtain ⟨m0, m1, -⟩ := now2 hbm rfl
  clear hg
  go_enter Try.func5, Try.ntmps5
  go_wp2_with fail
  refine HG.mono ?_
  rintro e w1 ⟨rfl, hc⟩
  replace hB := hB.trans (hc.mono hB.size)
  replace hbm := keep_blk hc hbm
  clear m0 m1 hc
  obtain ⟨m0, m1, -⟩ := now2 hbm rfl
  go_wp2_with fail
  refine (HK _).mono ?_
  rintro e wk ⟨rfl, hc⟩
  replace hB := hB.trans (hc.mono hB.size)
  clear hc
  go_wp2
  go_ret
  exact ⟨rfl, hB⟩
set_option maxHeartbeats 8000000 in
set_option maxRecDepth 100000 in
theorem none15_wide (HK : Knows15) (n : Int) (L u : Value) (ls : List (List Int)) (cols : List Int) (w : World) (hL : MatAt w w.heap.size L ls) (hu : IntsAt w w.heap.size u cols) (hg : gr14 n ls = false) (hn : 12 < n) :
    Calls Try.prog 5 #[mtv n L, u] w fun e w' => e = .returned (.bool true) ∧ Below w.heap.size w w' := by
  have hB := below_alloc1 w (mtb n L)
  have hbm : (w.alloc (mtb n L)).heap[w.heap.size]? = some (mtb n L) := heap_alloc_new _ _
  have HG := great15_any n L ls _ ((hL.below hB).more hB.size)
  rw [hg] at HG
  obtain ⟨A, c, rfl, hlen, -⟩ := hL
  obtain ⟨A2, c2, rfl, hlu, -⟩ := hu
  unfold mtb at hB hbm HG
  unfold mtv at *
  obtain ⟨m0, m1, -⟩ := now2 hbm rfl
  clear hg
  go_enter Try.func5, Try.ntmps5
  have hnd : decide (12 < n) = true := decide_eq_true hn
  go_wp2_with fail
  refine HG.mono ?_
  rintro e w1 ⟨rfl, hc⟩
  replace hB := hB.trans (hc.mono hB.size)
  replace hbm := keep_blk hc hbm
  clear m0 m1 hc
  obtain ⟨m0, m1, -⟩ := now2 hbm rfl
  go_wp2_with fail
  refine (HK _).mono ?_
  rintro e wk ⟨rfl, hc⟩
  replace hB := hB.trans (hc.mono hB.size)
  clear hc
  go_wp2
  go_ret
  exact ⟨rfl, hB⟩
set_option maxHeartbeats 8000000 in
set_option maxRecDepth 100000 in
theorem none15_long (HK : Knows15) (n : Int) (L u : Value) (ls : List (List Int)) (cols : List Int) (w : World) (hL : MatAt w w.heap.size L ls) (hu : IntsAt w w.heap.size u cols) (hg : gr14 n ls = false) (hn : ¬ 12 < n) (hm : 100 < cols.length) :
    Calls Try.prog 5 #[mtv n L, u] w fun e w' => e = .returned (.bool true) ∧ Below w.heap.size w w' := by
  have hB := below_alloc1 w (mtb n L)
  have hbm : (w.alloc (mtb n L)).heap[w.heap.size]? = some (mtb n L) := heap_alloc_new _ _
  have HG := great15_any n L ls _ ((hL.below hB).more hB.size)
  rw [hg] at HG
  obtain ⟨A, c, rfl, hlen, -⟩ := hL
  obtain ⟨A2, c2, rfl, hlu, -⟩ := hu
  unfold mtb at hB hbm HG
  unfold mtv at *
  obtain ⟨m0, m1, -⟩ := now2 hbm rfl
  clear hg
  go_enter Try.func5, Try.ntmps5
  have hnd : decide (12 < n) = false := decide_eq_false hn
  have hmd : decide ((100 : Int) < (cols.length : Int)) = true := decide_eq_true (by omega)
  go_wp2_with fail
  refine HG.mono ?_
  rintro e w1 ⟨rfl, hc⟩
  replace hB := hB.trans (hc.mono hB.size)
  replace hbm := keep_blk hc hbm
  clear m0 m1 hc
  obtain ⟨m0, m1, -⟩ := now2 hbm rfl
  go_wp2_with fail
  refine (HK _).mono ?_
  rintro e wk ⟨rfl, hc⟩
  replace hB := hB.trans (hc.mono hB.size)
  clear hc
  go_wp2
  go_ret
  exact ⟨rfl, hB⟩
set_option maxHeartbeats 8000000 in
set_option maxRecDepth 100000 in
theorem none15_bad (HK : Knows15) (HF0 : FewestBad) (HB0 : BoundBad) (n : Int) (L u : Value) (ls : List (List Int)) (cols : List Int) (w : World) (hL : MatAt w w.heap.size L ls) (hu : IntsAt w w.heap.size u cols) (hcap : CapM w L) (hg : gr14 n ls = false) (hn : ¬ 12 < n) (hm : ¬ 100 < cols.length) (hr : rightM n ls = false) :
    Calls Try.prog 5 #[mtv n L, u] w fun e w' => e = .returned (.bool true) ∧ Below w.heap.size w w' := by
  have hB := below_alloc1 w (mtb n L)
  have hbm : (w.alloc (mtb n L)).heap[w.heap.size]? = some (mtb n L) := heap_alloc_new _ _
  have HG := great15_any n L ls _ ((hL.below hB).more hB.size)
  have C1 := fun W (hb : Below w.heap.size w W) => HF0 n L ls 8192 W ((hL.below hb).more hb.size) (hcap.below hb) hg hr
  have C2 := fun W (hb : Below w.heap.size w W) => HB0 n L ls W ((hL.below hb).more hb.size) (hcap.below hb) hg hr
  simp only [show ((8192 : Nat) : Int) = 8192 from rfl] at C1
  rw [hg] at HG
  obtain ⟨A, c, rfl, hlen, -⟩ := hL
  obtain ⟨A2, c2, rfl, hlu, -⟩ := hu
  unfold mtb at hB hbm HG
  unfold mtv at *
  obtain ⟨m0, m1, -⟩ := now2 hbm rfl
  clear hg hr
  go_enter Try.func5, Try.ntmps5
  have hnd : decide (12 < n) = false := decide_eq_false hn
  have hmd : decide ((100 : Int) < (cols.length : Int)) = false := decide_eq_false (by omega)
  go_wp2_with fail
  refine HG.mono ?_
  rintro e w1 ⟨rfl, hc⟩
  replace hB := hB.trans (hc.mono hB.size)
  replace hbm := keep_blk hc hbm
  clear m0 m1 hc
  obtain ⟨m0, m1, -⟩ := now2 hbm rfl
  have D := C1 _ hB
  go_wp2_with fail
  refine D.mono ?_
  rintro e w1 ⟨A', c', rfl, hc⟩
  replace hB := hB.trans (hc.mono hB.size)
  replace hbm := keep_blk hc hbm
  clear D C1
  clear m0 m1 hc
  obtain ⟨m0, m1, -⟩ := now2 hbm rfl
  have D := C2 _ hB
  go_wp2_with fail
  refine D.mono ?_
  rintro e w1 ⟨rfl, hc⟩
  replace hB := hB.trans (hc.mono hB.size)
  clear D C2 hbm
  clear m0 m1 hc
  go_wp2_with fail
  refine (HK _).mono ?_
  rintro e wk ⟨rfl, hc⟩
  replace hB := hB.trans (hc.mono hB.size)
  clear hc
  go_wp2
  go_ret
  exact ⟨rfl, hB⟩
set_option maxHeartbeats 8000000 in
set_option maxRecDepth 100000 in
theorem none15_bare (HK : Knows15) (HF1 : FewestBare) (HB1 : BoundGood) (n : Nat) (L u : Value) (ls : List (List Int)) (cols : List Int) (w : World) (hL : MatAt w w.heap.size L ls) (hu : IntsAt w w.heap.size u cols) (hcap : CapM w L) (hg : gr14 n ls = false) (hn : ¬ 12 < n) (hm : ¬ 100 < cols.length) (hr : rightM n ls = true) (hbr : bareB ls = true) :
    Calls Try.prog 5 #[mtv n L, u] w fun e w' => e = .returned (.bool true) ∧ Below w.heap.size w w' := by
  have hB := below_alloc1 w (mtb n L)
  have hbm : (w.alloc (mtb n L)).heap[w.heap.size]? = some (mtb n L) := heap_alloc_new _ _
  have HG := great15_any n L ls _ ((hL.below hB).more hB.size)
  have C1 := fun W (hb : Below w.heap.size w W) => HF1 n L ls 8192 W ((hL.below hb).more hb.size) (hcap.below hb) hg hr hbr
  have C2 := fun W (hb : Below w.heap.size w W) => HB1 n L ls W ((hL.below hb).more hb.size) (hcap.below hb) hg hr
  simp only [show ((8192 : Nat) : Int) = 8192 from rfl] at C1
  rw [hg] at HG
  obtain ⟨A, c, rfl, hlen, -⟩ := hL
  obtain ⟨A2, c2, rfl, hlu, -⟩ := hu
  unfold mtb at hB hbm HG
  unfold mtv at *
  obtain ⟨m0, m1, -⟩ := now2 hbm rfl
  clear hg hr hbr
  go_enter Try.func5, Try.ntmps5
  have hnd : decide (12 < (n : Int)) = false := decide_eq_false (by omega)
  have hmd : decide ((100 : Int) < (cols.length : Int)) = false := decide_eq_false (by omega)
  go_wp2_with fail
  refine HG.mono ?_
  rintro e w1 ⟨rfl, hc⟩
  replace hB := hB.trans (hc.mono hB.size)
  replace hbm := keep_blk hc hbm
  clear m0 m1 hc
  obtain ⟨m0, m1, -⟩ := now2 hbm rfl
  have D := C1 _ hB
  go_wp2_with fail
  refine D.mono ?_
  rintro e w1 ⟨A', c', rfl, hc⟩
  replace hB := hB.trans (hc.mono hB.size)
  replace hbm := keep_blk hc hbm
  clear D C1
  clear m0 m1 hc
  obtain ⟨m0, m1, -⟩ := now2 hbm rfl
  have D := C2 _ hB
  go_wp2_with fail
  refine D.mono ?_
  rintro e w1 ⟨rfl, hc⟩
  replace hB := hB.trans (hc.mono hB.size)
  clear D C2 hbm
  clear m0 m1 hc
  go_wp2_with fail
  refine (HK _).mono ?_
  rintro e wk ⟨rfl, hc⟩
  replace hB := hB.trans (hc.mono hB.size)
  clear hc
  go_wp2
  go_ret
  exact ⟨rfl, hB⟩
set_option maxHeartbeats 8000000 in
set_option maxRecDepth 100000 in
theorem none15_good (HK : Knows15) (HF : FewestGood) (HB1 : BoundGood) (HS : SolvesV) (n : Nat) (L u : Value) (ls : List (List Int)) (cols : List Int) (w : World) (hL : MatAt w w.heap.size L ls) (hu : IntsAt w w.heap.size u cols) (hcap : CapM w L) (hg : gr14 n ls = false) (hn : ¬ 12 < n) (hm : ¬ 100 < cols.length) (hr : rightM n ls = true) (hbr : bareB ls = false) :
    Calls Try.prog 5 #[mtv n L, u] w fun e w' => e = .returned (.bool true) ∧ Below w.heap.size w w' := by
  have hB := below_alloc1 w (mtb n L)
  have hbm : (w.alloc (mtb n L)).heap[w.heap.size]? = some (mtb n L) := heap_alloc_new _ _
  have HG := great15_any n L ls _ ((hL.below hB).more hB.size)
  have hpow : 2 ^ (n + 1) ≤ 8192 := Nat.le_trans (Nat.pow_le_pow_right (by decide) (show n + 1 ≤ 13 by omega)) (by decide)
  have C1 := fun W (hb : Below w.heap.size w W) => HF n L ls 8192 W ((hL.below hb).more hb.size) (hcap.below hb) hg hr hbr (by omega) hpow (by decide)
  have C2 := fun W (hb : Below w.heap.size w W) => HB1 n L ls W ((hL.below hb).more hb.size) (hcap.below hb) hg hr
  have C3 := fun W (hb : Below w.heap.size w W) => HS n L u ls cols W ((hL.below hb).more hb.size) ((hu.below hb).more hb.size)
  have HU := fun W (hb : Below w.heap.size w W) => (hu.below hb).more hb.size
  have hlow := right_low15 hr
  rw [hr, Bool.true_and] at C3
  simp only [show ((8192 : Nat) : Int) = 8192 from rfl] at C1
  rw [hg] at HG
  obtain ⟨A, c, rfl, hlen, -⟩ := hL
  obtain ⟨A2, c2, rfl, hlu, -⟩ := hu
  unfold mtb at hB hbm HG
  unfold mtv at *
  obtain ⟨m0, m1, -⟩ := now2 hbm rfl
  clear hg hr hbr
  go_enter Try.func5, Try.ntmps5
  have hnd : decide (12 < (n : Int)) = false := decide_eq_false (by omega)
  have hmd : decide ((100 : Int) < (cols.length : Int)) = false := decide_eq_false (by omega)
  go_wp2_with fail
  refine HG.mono ?_
  rintro e w1 ⟨rfl, hc⟩
  replace hB := hB.trans (hc.mono hB.size)
  replace hbm := keep_blk hc hbm
  clear m0 m1 hc
  obtain ⟨m0, m1, -⟩ := now2 hbm rfl
  have D := C1 _ hB
  go_wp2_with fail
  refine D.mono ?_
  rintro e w2 ⟨v, l, k, rfl, hk, hv, hfew, hc⟩
  replace hB := hB.trans (hc.mono hB.size)
  replace hbm := keep_blk hc hbm
  obtain ⟨Av, cv, rfl, hlv, -⟩ := hv
  have hbf := bound_few hlow hfew
  have hnf := Lib.hid (fun R h1 h2 => none_few (cols := cols) (R := R) hfew h1 h2)
  clear D C1 hc m0 m1 hfew hlow hk hpow
  obtain ⟨m0, m1, -⟩ := now2 hbm rfl
  generalize l.length = nl at *
  generalize boundL ls = nb at *
  have D := C2 _ hB
  go_wp2_with fail
  refine D.mono ?_
  rintro e w3 ⟨rfl, hc⟩
  replace hB := hB.trans (hc.mono hB.size)
  replace hbm := keep_blk hc hbm
  clear D C2 hc m0 m1 HG
  have hw := Lib.hid hB.size
  obtain ⟨i0, hi0, hz0, hz1, hz2⟩ := info_parts Try.infoInt
  go_wp2
  go_loopw [10, 11] (fun s t wr => ∃ (i : Nat) (R : List Int), i ≤ cols.length ∧ t = .int .i64 i ∧ R.length ≤ i ∧ Hid (∀ (j : Nat) (x : Int), j < i → cols[j]? = some x → x ∈ R) ∧ wr.ownsRow w3.heap.size 3 1 s R.length (intI R) ∧ Below w3.heap.size w3 wr) (fun _ t _ => cols.length - (intOf t).toNat)
  case atStart => exact ⟨0, [], by omega, rfl, by simp, Lib.hid (fun j x h => absurd h (Nat.not_lt_zero j)), World.ownsRow_nil _ _ _ _, Below.refl _ _⟩
  case round =>
    obtain ⟨i, R, hi, rfl, hRl, hR, hown, hb⟩ := hrel
    obtain ⟨Av, cv, rfl⟩ := own_form hown
    by_cases hlt : i < cols.length
    · obtain ⟨x, hx⟩ : ∃ x, cols[i]? = some x := ⟨_, List.getElem?_eq_getElem hlt⟩
      obtain ⟨A9, c9, e9, -, hc9⟩ := HU _ hB
      injection e9 with e9 eN e9c
      clear eN
      subst e9
      subst e9c
      obtain ⟨bk, off, rfl, hBk, hcell⟩ := hc9 (by omega)
      have c0 := (hb.cell (p := ⟨bk, off + i, none⟩) hBk).trans (hcell i x hx)
      have HI := rin14_any _ R x wr (own_intI hown)
      have hbs := hb.size
      clear hcell hc9 HU C3
      by_cases hm : x ∈ R
      · have hR2 : Hid (∀ (j : Nat) (y : Int), j < i + 1 → cols[j]? = some y → y ∈ R) := Lib.hid (fun j y h h1 => by
          by_cases e : j = i
          · subst e
            rw [hx] at h1
            injection h1 with h1
            exact h1 ▸ hm
          · exact hR.out j y (by omega) h1)
        rw [decide_eq_true hm] at HI
        clear hm hR hx hnf
        go_wp2_with fail
        refine HI.mono ?_
        rintro e w4 ⟨rfl, hb2⟩
        have hb3 := hb.trans (hb2.mono hbs)
        have hown3 := owns_below hown hb2
        clear HI c0 hown hb hb2
        go_wp2
        go_roundw
        case rel => exact ⟨i + 1, _, by omega, by go_num, by omega, hR2, hown3, hb3⟩
        case measure => simp [intOf]; omega
      · have hR2 : Hid (∀ (j : Nat) (y : Int), j < i + 1 → cols[j]? = some y → y ∈ R ++ [x]) := Lib.hid (fun j y h h1 => by
          by_cases e : j = i
          · subst e
            rw [hx] at h1
            injection h1 with h1
            exact List.mem_append.2 (.inr (List.mem_singleton.2 h1.symm))
          · exact List.mem_append.2 (.inl (hR.out j y (by omega) h1)))
        rw [decide_eq_false hm] at HI
        have c1 := fun (W : World) (h : Below wr.heap.size wr W) => (h.cell (p := ⟨bk, off + i, none⟩) (by exact Nat.lt_of_lt_of_le hBk hb.size)).trans c0
        clear hm hR hx hnf
        go_wp2_with fail
        refine HI.mono ?_
        rintro e w4 ⟨rfl, hb2⟩
        have hb3 := hb.trans (hb2.mono hbs)
        have hown3 := owns_below hown hb2
        have hbs3 := hb3.size
        have c2 := c1 _ hb2
        clear HI c0 c1 hown hb hb2
        have hna := hown3.alloc (.cells #[.int .i64 x] 3 (0, 0))
        have hba := hb3.alloc hbs3 (.cells #[.int .i64 x] 3 (0, 0))
        go_wp2_with (at_builtin; refine wpList_append_own_at _ rfl _ _ 30 rfl w3.heap.size 3 i0 (.int .i64 0) 1 8 Try.underlying30 hi0 hz0 hz1 hz2 rfl (by decide) _ _ _ rfl hna ⟨w4.heap.size, 0, none⟩ 1 1 [.int .i64 x] rfl rfl one_new13 (fun u hu => by rw [List.mem_singleton.1 hu]; rfl) ?c3 ?c4 ?c5 ?_)
        case c3 => unfold maxLen; omega
        case c4 => omega
        case c5 => first | omega | (simp; omega)
        intro V4 w9 hp9 hg9 _ _
        have hB9 := grown_below hna hg9 hba (Nat.le_refl _) (by simp; omega)
        have hn9 : w9.ownsRow w3.heap.size 3 1 V4 (R ++ [x]).length (intI (R ++ [x])) := by
          have e : intI (R ++ [x]) = intI R ++ [.int .i64 x] := by unfold intI; rw [List.map_append]; rfl
          rw [e, List.length_append]
          exact hp9
        clear hna hba hg9 hp9 hown3 hb3 c2
        go_wp2
        go_roundw
        case rel => exact ⟨i + 1, _, by omega, by go_num, by simp; omega, hR2, hn9, hB9⟩
        case measure => simp [intOf]; omega
    · have e : i = cols.length := by omega
      have hkd : decide ((i : Int) < (cols.length : Int)) = false := decide_eq_false (by omega)
      have hBr := hB.trans (hb.mono hw.out)
      have hno := Lib.hid (fun h => hnf.out R (fun x hx => by
        obtain ⟨j, hj⟩ := List.mem_iff_getElem?.1 hx
        have h2 := (List.getElem?_eq_some_iff.1 hj).1
        exact hR.out j x (by omega) hj) h)
      have hbx := keep_blk hb hbm
      clear hR hnf hown hbm HU
      generalize R.length = nr at *
      obtain ⟨m0, m1, -⟩ := now2 hbx rfl
      have hbd : decide ((nb : Int) ≤ (nl : Int)) = true := decide_eq_true (by omega)
      have D := C3 _ hBr
      clear C3 hB hb hw hi0 hz0 hz1 hz2
      go_wp2_with fail
      refine D.mono ?_
      rintro e w4 ⟨rfl, hc⟩
      replace hB := hBr.trans (hc.mono hBr.size)
      clear D hc hBr hbx m0 m1
      cases hs : solvesM ls cols
      · go_wp2_with fail
        refine (HK _).mono ?_
        rintro e wk ⟨rfl, hc⟩
        replace hB := hB.trans (hc.mono hB.size)
        clear hc
        go_wp2
        go_ret
        exact ⟨rfl, hB⟩
      · have hle := hno.out hs
        have hld : decide ((nl : Int) ≤ (nr : Int)) = true := decide_eq_true (by omega)
        go_wp2_with fail
        refine (HK _).mono ?_
        rintro e wk ⟨rfl, hc⟩
        replace hB := hB.trans (hc.mono hB.size)
        clear hc
        go_wp2
        go_ret
        exact ⟨rfl, hB⟩
theorem searchNone_any (HK : Knows15) (HF : FewestGood) (HF1 : FewestBare) (HF0 : FewestBad) (HB1 : BoundGood) (HB0 : BoundBad) (HS : SolvesV) (n : Int) (L u : Value) (ls : List (List Int)) (cols : List Int) (w : World) (hL : MatAt w w.heap.size L ls) (hcap : CapM w L) (hu : IntsAt w w.heap.size u cols) :
    Calls Try.prog 5 #[mtv n L, u] w fun e w' => e = .returned (.bool true) ∧ Below w.heap.size w w' := by
  cases hg : gr14 n ls
  · by_cases hn : 12 < n
    · exact none15_wide HK n L u ls cols w hL hu hg hn
    · by_cases hm : 100 < cols.length
      · exact none15_long HK n L u ls cols w hL hu hg hn hm
      · cases hr : rightM n ls
        · exact none15_bad HK HF0 HB0 n L u ls cols w hL hu hcap hg hn hm hr
        · obtain ⟨k, rfl⟩ : ∃ k : Nat, n = k := ⟨n.toNat, by have := (right_iff.1 hr).1; omega⟩
          cases hbr : bareB ls
          · exact none15_good HK HF HB1 HS k L u ls cols w hL hu hcap hg (by omega) hm hr hbr
          · exact none15_bare HK HF1 HB1 k L u ls cols w hL hu hcap hg (by omega) hm hr hbr
  · exact none15_great HK n L u ls cols w hL hu hg
end Go.Proofs.Ytcbhcclickjpnaa
