/- slices.BinarySearchFunc at a slice of cubes that rises. -/
import Derived.Test.YtehpccanjlaokaaGreatGQ39
import Derived.Test.YtehpccanjlaokaaGreatGQ08
namespace Go.Proofs.YtehpccanjlaokaaGreat
open Go.RowKit Go.Joins

theorem rise_len {N : Nat} : ∀ {ks : List Nat} {lo : Nat}, ks.Pairwise (· < ·) → (∀ x ∈ ks, lo ≤ x ∧ x < N) → ks.length ≤ N - lo
  | [], _, _, _ => by simp
  | a :: ks, lo, hp, h => by
    rw [List.pairwise_cons] at hp
    have ha := h a List.mem_cons_self
    have ih := rise_len (lo := a + 1) hp.2 fun x hx => ⟨hp.1 x hx, (h x (List.mem_cons_of_mem _ hx)).2⟩
    rw [List.length_cons]
    omega
theorem cmpI_lt (a b : Nat) : decide (cmpI a b < 0) = decide (a < b) := by
  unfold cmpI
  split
  · simp [*]
  · split <;> simp [*]
/-- What stands in a row of keys ahead of a place, and from it on. -/
def LoK (ks : List Nat) (i x : Nat) : Prop := ∀ j y, j < i → ks[j]? = some y → y < x
def HiK (ks : List Nat) (i x : Nat) : Prop := ∀ j y, i ≤ j → ks[j]? = some y → x ≤ y
theorem lo_next {ks : List Nat} {h x y : Nat} (hp : ks.Pairwise (· < ·)) (hh : ks[h]? = some y) (hy : y < x) : LoK ks (h + 1) x := fun j z hj hz => by
  rcases Nat.lt_or_ge j h with k | k
  · have := (List.pairwise_iff_getElem.1 hp) j h (List.getElem?_eq_some_iff.1 hz).1 (List.getElem?_eq_some_iff.1 hh).1 k
    rw [(List.getElem?_eq_some_iff.1 hz).2, (List.getElem?_eq_some_iff.1 hh).2] at this
    omega
  · obtain rfl : j = h := by omega
    rw [hz] at hh
    injection hh with e
    omega
theorem hi_next {ks : List Nat} {h x y : Nat} (hp : ks.Pairwise (· < ·)) (hh : ks[h]? = some y) (hy : ¬ y < x) : HiK ks h x := fun j z hj hz => by
  rcases Nat.lt_or_ge h j with k | k
  · have := (List.pairwise_iff_getElem.1 hp) h j (List.getElem?_eq_some_iff.1 hh).1 (List.getElem?_eq_some_iff.1 hz).1 k
    rw [(List.getElem?_eq_some_iff.1 hz).2, (List.getElem?_eq_some_iff.1 hh).2] at this
    omega
  · obtain rfl : j = h := by omega
    rw [hz] at hh
    injection hh with e
    omega
set_option maxHeartbeats 2000000 in
set_option maxRecDepth 100000 in
theorem bsearch_any (m v : BitVec 8) (ks : List Nat) (hp : ks.Pairwise (· < ·)) (hk : ∀ x ∈ ks, x < 65536) (V : Value) (w : World) (hC : CbsAt w w.heap.size V (ks.map cbK)) :
    Calls Tryz.prog 58 #[V, cv m v, .func (.func 59) #[] #[]] w fun e w' =>
      ∃ (i : Nat) (b : Value), e = .returned (.tuple #[.int .i64 i, b]) ∧ i ≤ ks.length ∧ LoK ks i (keyC m v) ∧ HiK ks i (keyC m v) ∧ Below w.heap.size w w' := by
  have hlen : ks.length ≤ 65536 := rise_len (lo := 0) hp fun x hx => ⟨Nat.zero_le _, hk x hx⟩
  obtain ⟨A, c, rfl, -, hc⟩ := hC
  rw [List.length_map] at *
  have HC := fun m1 v1 w => pcompare_any m1 v1 m v w
  have hcell : Hid (∀ (j y : Nat), ks[j]? = some y → ∃ b off, A = some ⟨b, off, none⟩ ∧ b < w.heap.size ∧ y < 65536 ∧ w.cell? ⟨b, off + j * 2, none⟩ = some (bvv (kM y)) ∧ w.cell? ⟨b, off + j * 2 + 1, none⟩ = some (bvv (kV y))) := Lib.hid fun j y hj => by
    have hjl := (List.getElem?_eq_some_iff.1 hj).1
    obtain ⟨b, off, e, hb, h⟩ := hc (by omega)
    obtain ⟨x0, x1⟩ := h j (cbK y) (by rw [List.getElem?_map, hj]; rfl)
    exact ⟨b, off, e, hb, hk y (List.mem_of_getElem? hj), x0, x1⟩
  have hP := Lib.hid hp
  have hz := heap_alloc_new w (cb m v)
  have hb0 := below_alloc1 w (cb m v)
  clear hc hk hp
  generalize hX : keyC m v = X at *
  clear hX
  unfold cv cb bvv at *
  go_enter Tryz.func58, Tryz.ntmps58
  go_upto_region 1 with (fail)
  generalize w.alloc _ = W at *
  go_wp2
  go_loopw [9, 10] (fun t u wr => ∃ i j : Nat, t = .int .i64 i ∧ u = .int .i64 j ∧ i ≤ j ∧ j ≤ ks.length ∧ Hid (LoK ks i X) ∧ Hid (HiK ks j X) ∧ wr.heap[w.heap.size]? = some (.cells #[.int .u8 m.toNat, .int .u8 v.toNat] 57 (0, 0)) ∧ Below w.heap.size w wr) (fun t u _ => (intOf u).toNat - (intOf t).toNat)
  case atStart => exact ⟨0, ks.length, rfl, rfl, Nat.zero_le _, Nat.le_refl _, Lib.hid fun j y hj => by omega, Lib.hid fun j y hj hy => by have := (List.getElem?_eq_some_iff.1 hy).1; omega, hz, hb0⟩
  case round =>
    clear hz hb0
    obtain ⟨i, j, rfl, rfl, hij, hjl, hlo, hhi, hz, hb0⟩ := hrel
    by_cases hlt : i < j
    · have d1 : decide ((i : Int) < (j : Int)) = true := decide_eq_true (by omega)
      go_upto_region 5 with (fail)
      obtain ⟨h, hh, hih, hhj⟩ : ∃ h : Nat, ((i : Int) + (j : Int)) / 2 = h ∧ i ≤ h ∧ h < j := ⟨(i + j) / 2, by omega, by omega, by omega⟩
      simp only [hh]
      clear hh
      obtain ⟨y, hy⟩ : ∃ y, ks[h]? = some y := ⟨_, List.getElem?_eq_getElem (by omega)⟩
      obtain ⟨b, off, rfl, hbw, hy6, hc0, hc1⟩ := hcell.out h y hy
      have e0 := fun x : After wr => After.cell x ((hb0.cell (p := ⟨b, off + h * 2, none⟩) hbw).trans hc0)
      have e1 := fun x : After wr => After.cell x ((hb0.cell (p := ⟨b, off + h * 2 + 1, none⟩) hbw).trans hc1)
      have HCy := fun w => HC (kM y) (kV y) w
      rw [key_kk hy6] at HCy
      have hd := cmpI_lt y X
      have hn0 : ¬ (h : Int) < 0 := by omega
      have hnl : (h : Int) < (ks.length : Int) := by omega
      have hyy := Lib.hid hy
      have k1 : Hid (y < X → LoK ks (h + 1) X) := Lib.hid fun hlt => lo_next hP.out hy hlt
      have k2 : Hid (¬ y < X → HiK ks h X) := Lib.hid fun hlt => hi_next hP.out hy hlt
      clear hc0 hc1 hy HC
      generalize cmpI y X = r at *
      obtain ⟨z0, z1, -⟩ := box2 hz rfl
      refine wp_region_after (by kernel_rfl) (by kernel_rfl) ?_
      repeat (first | go_big_quiet_step ((go_at_call 59; exact Calls.after_of (HCy _))))
      refine wpQuiet_nil ?_
      intro z
      have hz2 := z.same hz
      have hb2 := hb0.trans (z.2.mono hb0.size)
      clear e0 e1 HCy z0 z1 hz hb0
      generalize z.1 = w2 at *
      clear z
      by_cases hyX : y < X
      · have hr : decide (r < 0) = true := by rw [hd]; exact decide_eq_true hyX
        have k1' := k1.out hyX
        clear k1 k2 hd
        go_wp2
        go_roundw
        case rel => exact ⟨h + 1, j, by go_num, rfl, by omega, hjl, Lib.hid k1', hhi, hz2, hb2⟩
        case measure => simp [intOf]; omega
      · have hr : decide (r < 0) = false := by rw [hd]; exact decide_eq_false hyX
        have k2' := k2.out hyX
        clear k1 k2 hd
        go_wp2
        go_roundw
        case rel => exact ⟨i, h, rfl, rfl, hih, by omega, hlo, Lib.hid k2', hz2, hb2⟩
        case measure => simp [intOf]; omega
    · obtain rfl : i = j := by omega
      have d1 : decide ((i : Int) < (i : Int)) = false := decide_eq_false (by omega)
      by_cases hin : i < ks.length
      · have d2 : decide ((i : Int) < (ks.length : Int)) = true := decide_eq_true (by omega)
        obtain ⟨y, hy⟩ : ∃ y, ks[i]? = some y := ⟨_, List.getElem?_eq_getElem (by omega)⟩
        obtain ⟨b, off, rfl, hbw, hy6, hc0, hc1⟩ := hcell.out i y hy
        have e0 := fun x : After wr => After.cell x ((hb0.cell (p := ⟨b, off + i * 2, none⟩) hbw).trans hc0)
        have e1 := fun x : After wr => After.cell x ((hb0.cell (p := ⟨b, off + i * 2 + 1, none⟩) hbw).trans hc1)
        have HCy := fun w => HC (kM y) (kV y) w
        rw [key_kk hy6] at HCy
        have hn0 : ¬ (i : Int) < 0 := by omega
        have hnl : (i : Int) < (ks.length : Int) := by omega
        clear hc0 hc1 HC hy
        generalize cmpI y X = r at *
        obtain ⟨z0, z1, -⟩ := box2 hz rfl
        go_upto_region 8 with (fail)
        refine wp_region_after (by kernel_rfl) (by kernel_rfl) ?_
        repeat (first | go_big_quiet_step ((go_at_call 59; exact Calls.after_of (HCy _))))
        refine wpQuiet_nil ?_
        intro z
        go_wp2
        go_ret2
        first | exact ⟨i, _, rfl, hjl, hlo.out, hhi.out, hb0.trans (z.2.mono hb0.size)⟩ | exact ⟨i, ⟨_, rfl⟩, hjl, hlo.out, hhi.out, hb0.trans (z.2.mono hb0.size)⟩
      · have d2 : decide ((i : Int) < (ks.length : Int)) = false := decide_eq_false (by omega)
        clear HC
        obtain ⟨z0, z1, -⟩ := box2 hz rfl
        go_upto_region 8 with (fail)
        refine wp_region_after (by kernel_rfl) (by kernel_rfl) ?_
        repeat (first | go_big_quiet_step (fail))
        refine wpQuiet_nil ?_
        intro z
        go_wp2
        go_ret2
        first | exact ⟨i, _, rfl, hjl, hlo.out, hhi.out, hb0.trans (z.2.mono hb0.size)⟩ | exact ⟨i, ⟨_, rfl⟩, hjl, hlo.out, hhi.out, hb0.trans (z.2.mono hb0.size)⟩
end Go.Proofs.YtehpccanjlaokaaGreat
