/- The document's Move and Same of layer 7. -/
import Derived.Test.YtfamdckaljniiaaSft07
import Derived.Deep.CutRange
namespace Go.Proofs.Ytfamdckaljniiaa
open Go.RowKit Go.Joins

/-- A block that begins with the numbers l. -/
def RowB (w : World) (g : Nat) (l : List Nat) : Prop := ∃ cur, w.heap[g]? = some (.cells cur 3 (0, 0)) ∧ ∀ j y : Nat, l[j]? = some y → cur[j]? = some (.int .i64 y)
theorem RowB.cell {w : World} {g : Nat} {l : List Nat} (h : RowB w g l) {j y : Nat} (hj : l[j]? = some y) : w.cell? ⟨g, j, none⟩ = some (.int .i64 y) := by
  obtain ⟨cur, hg, hc⟩ := h
  rw [cell_of_block hg]
  exact hc j y hj
theorem RowB.frozen {w : World} {g : Nat} {l : List Nat} (h : RowB w g l) (j : Nat) : w.frozen? ⟨g, j, none⟩ = false := by
  obtain ⟨cur, hg, -⟩ := h
  exact unfrozen_of_block hg j
theorem RowB.set {w : World} {g : Nat} {l : List Nat} (h : RowB w g l) (j y : Nat) : RowB (w.setCell ⟨g, j, none⟩ (.int .i64 y)) g (l.set j y) := by
  obtain ⟨cur, hg, hc⟩ := h
  refine ⟨_, block_setCell hg _, fun i z hi => ?_⟩
  have hil := (List.getElem?_eq_some_iff.1 hi).1
  rw [List.length_set] at hil
  have hlc : i < cur.size := by
    obtain ⟨u, hu⟩ : ∃ u, l[i]? = some u := ⟨_, List.getElem?_eq_getElem hil⟩
    exact (Array.getElem?_eq_some_iff.1 (hc i u hu)).1
  rw [List.getElem?_set] at hi
  rw [Array.getElem?_setIfInBounds]
  by_cases e : j = i
  · subst e
    rw [if_pos rfl, if_pos hil] at hi
    injection hi with hi
    rw [if_pos rfl, if_pos hlc, hi]
  · rw [if_neg e] at hi ⊢
    exact hc i z hi
theorem RowB.lt {w : World} {g : Nat} {l : List Nat} (h : RowB w g l) : g < w.heap.size := by
  obtain ⟨cur, hg, -⟩ := h
  exact size_of_block hg
theorem RowB.ints {w : World} {g n cap : Nat} {l : List Nat} (h : RowB w g l) (hn : l.length = n) (h8 : n ≤ 8) : IntsAt w w.heap.size (.slice (some ⟨g, 0, none⟩) n cap) (ofN l) :=
  ints_of_cells hn h8 (fun _ => h.lt) fun _ _ hj => h.cell hj
theorem rowB_own {w : World} {B : Nat} {v : Value} {o : List Nat} (h : w.ownsRow B 3 1 v o.length (intsV o)) (h0 : 0 < o.length) : ∃ g cap, v = .slice (some ⟨g, 0, none⟩) o.length cap ∧ B ≤ g ∧ RowB w g o := by
  rcases h.2 with ⟨-, e⟩ | ⟨g, cap, cur, rfl, hg, hgg, hnc, hcm, hcs, htake⟩
  · omega
  · rw [Nat.mul_one] at htake
    refine ⟨g, cap, rfl, hg, cur, hgg, fun j y hj => ?_⟩
    have hjl := (List.getElem?_eq_some_iff.1 hj).1
    have h1 : (cur.toList.take o.length)[j]? = some (.int .i64 y) := by rw [htake]; unfold intsV; rw [List.getElem?_map, hj]; rfl
    rw [List.getElem?_take, if_pos hjl] at h1
    simpa using h1
set_option maxHeartbeats 2000000 in
set_option maxRecDepth 100000 in
theorem rmove_any (w : World) (v : Value) (o : List Nat) (x p : Nat) (ho : OrdOk o) (h8 : o.length ≤ 8) (hx : x ∈ o) (hp : p < o.length) (hz : IntsAt w w.heap.size v (ofN o)) :
    Calls Try.prog 16 #[v, .int .i64 x, .int .i64 p] w fun e w' => ∃ v', e = .returned v' ∧ IntsAt w' w'.heap.size v' (ofN (mvL o x p)) ∧ Below w.heap.size w w' := by
  obtain ⟨i, hi, hxe⟩ := List.mem_iff_getElem.1 hx
  have hix : o[i]? = some x := List.getElem?_eq_some_iff.2 ⟨hi, hxe⟩
  have hself := mv_self ho.nodup hix
  have hll := less_len ho.nodup hx
  have hfirst : Hid (∀ j y, j < i → o[j]? = some y → y ≠ x) := Lib.hid (fun j y hj hy e => by
    subst e
    have h1 := (List.getElem?_eq_some_iff.1 hy)
    exact (List.pairwise_iff_getElem.1 (List.nodup_iff_pairwise_ne.1 ho.nodup)) j i h1.1 hi hj (h1.2.trans hxe.symm))
  have hmlen : ∀ k, (mvL o x k).length = o.length := fun k => mv_len ho.nodup hx k
  have hright := fun k (hk : k < (lessL o x).length) y hy => mv_right o x hk (y := y) hy
  have hleft := fun k (hk : k + 1 ≤ (lessL o x).length) y hy => mv_left o x hk (y := y) hy
  obtain ⟨A, c, rfl, hzl, hc⟩ := hz
  obtain ⟨i0, hi0, hz0, hz1, hz2⟩ := info_parts Try.infoInt
  rw [ofN_len] at hzl hc ⊢
  obtain ⟨b, off, rfl, hbw, hcells⟩ := hc (by omega)
  have AH : Aside (∀ (j : Nat) (x : Int), (ofN o)[j]? = some x → w.cell? ⟨b, off + j, none⟩ = some (.int .i64 x)) := hcells
  clear hc hcells hxe
  go_enter Try.func16, Try.ntmps16
  go_wp2_with (at_builtin; refine wpList_append_own _ rfl _ _ 23 rfl w.heap.size 3 i0 (.int .i64 0) 1 8 Try.underlying23 hi0 hz0 hz1 hz2 rfl (by decide) _ _ _ rfl (World.ownsRow_made w #[] 0 (Nat.le_refl _) (Nat.zero_le _) rfl) ⟨b, off, none⟩ o.length c (intsV o) rfl ?qc1 ?qc2 ?qc3 ?qc4 ?qc5 ?qc6 ?_)
  case qc1 => unfold intsV; simp
  case qc2 =>
    intro j u hj
    rw [intsV_of, List.getElem?_map] at hj
    cases hxj : (ofN o)[j]? with
    | none => rw [hxj] at hj; cases hj
    | some y =>
      rw [hxj] at hj
      rw [Addr.add_lit]
      refine Lib.cell?_alloc_some _ ?_
      rw [AH.out j y hxj]
      simpa using hj
  case qc3 => intro u hu; rw [intsV_of] at hu; obtain ⟨x, _, rfl⟩ := List.mem_map.1 hu; rfl
  case qc4 => unfold maxLen; omega
  case qc5 => omega
  case qc6 => simp
  intro v' w1 hown hgrow hnil
  have hB1 : Below w.heap.size w w1 := ((Below.refl _ w).alloc (Nat.le_refl _) _).grown hgrow (by simp) (by intro k hk; simp [Value.ownBlock] at hk; omega)
  have hown' : w1.ownsRow w.heap.size 3 1 v' o.length (intsV o) := by simpa using hown
  obtain ⟨g, cap, rfl, hgB, hrow⟩ := rowB_own hown' (by omega)
  clear hown hgrow hnil hown' AH
  go_wp2
  go_loopw [8] (fun t wr => ∃ k : Nat, k ≤ i ∧ t = .int .i64 k ∧ RowB wr g o ∧ Below w.heap.size w wr) (fun t _ => i - (intOf t).toNat)
  case atStart => exact ⟨0, by omega, rfl, hrow, hB1⟩
  case round =>
    clear hrow hB1
    obtain ⟨k, hk, rfl, hrow, hb⟩ := hrel
    obtain ⟨y, hy⟩ : ∃ y, o[k]? = some y := ⟨_, List.getElem?_eq_getElem (by omega)⟩
    have q := hrow.cell hy
    by_cases hki : k < i
    · have hne : ((y : Int) != (x : Int)) = true := by rw [bne_iff_ne]; intro e; exact hfirst.out k y hki hy (by omega)
      clear hy
      go_wp2
      go_roundw
      case rel => exact ⟨k + 1, by omega, by go_num, hrow, hb⟩
      case measure => simp [intOf]; omega
    · obtain rfl : k = i := by omega
      obtain rfl : y = x := by rw [hix] at hy; injection hy with hy; exact hy.symm
      have hne : ((y : Int) != (y : Int)) = false := by simp
      have hrow' : RowB wr g (mvL o y k) := by rw [hself]; exact hrow
      clear hrow hself hfirst hy hix
      go_wp2
      clear q hne
      obtain ⟨wo, rfl⟩ : ∃ wo : World, wo = wr := ⟨_, rfl⟩
      go_loopw [8] (fun t wr => ∃ m : Nat, m < o.length ∧ t = .int .i64 m ∧ RowB wr g (mvL o y m) ∧ Below w.heap.size w wr) (fun t _ => o.length - (intOf t).toNat)
      case atStart => exact ⟨k, hi, rfl, hrow', hb⟩
      case round =>
        clear hrow' hb
        obtain ⟨m, hm, rfl, hrow, hb⟩ := hrel
        by_cases hmp : m < p
        · obtain ⟨z, hz⟩ : ∃ z, (mvL o y m)[m + 1]? = some z := ⟨_, List.getElem?_eq_getElem (by rw [hmlen]; omega)⟩
          have q0 := hrow.cell hz
          obtain ⟨z2, hz2⟩ : ∃ z, (mvL o y m)[m]? = some z := ⟨_, List.getElem?_eq_getElem (by rw [hmlen]; omega)⟩
          have q1 := hrow.cell hz2
          have q2 := hrow.frozen m
          have hr1 := hrow.set m z
          have hst := hright m (by omega) z hz
          have q3 := hr1.cell (j := m + 1) (y := z) (by rw [List.getElem?_set, if_neg (by omega)]; exact hz)
          have q4 := hr1.frozen (m + 1)
          have hr2 := hr1.set (m + 1) y
          rw [hst] at hr2
          have hb2 := (hb.setCell (p := ⟨g, m, none⟩) hgB (.int .i64 z)).setCell (p := ⟨g, m + 1, none⟩) hgB (.int .i64 y)
          clear hz hz2 hst hr1 hrow
          go_wp2
          go_roundw
          case rel => exact ⟨m + 1, by omega, by go_num, hr2, hb2⟩
          case measure => simp [intOf]; omega
        · go_wp2
          obtain ⟨wo, rfl⟩ : ∃ wo : World, wo = wr := ⟨_, rfl⟩
          go_loopw [8] (fun t wr => ∃ m : Nat, p ≤ m ∧ m < o.length ∧ t = .int .i64 m ∧ RowB wr g (mvL o y m) ∧ Below w.heap.size w wr) (fun t _ => (intOf t).toNat)
          case atStart => exact ⟨m, by omega, hm, rfl, hrow, hb⟩
          case round =>
            clear hrow hb hmp hm
            obtain ⟨n, hpn, hm, rfl, hrow, hb⟩ := hrel
            by_cases hmp : p < n
            · obtain ⟨m, rfl⟩ : ∃ m, n = m + 1 := ⟨n - 1, by omega⟩
              have e1 : (((m + 1 : Nat) : Int)) = (m : Int) + 1 := by omega
              obtain ⟨z, hz⟩ : ∃ z, (mvL o y (m + 1))[m]? = some z := ⟨_, List.getElem?_eq_getElem (by rw [hmlen]; omega)⟩
              have q0 := hrow.cell hz
              obtain ⟨z2, hz2⟩ : ∃ z, (mvL o y (m + 1))[m + 1]? = some z := ⟨_, List.getElem?_eq_getElem (by rw [hmlen]; omega)⟩
              have q1 := hrow.cell hz2
              have q2 := hrow.frozen (m + 1)
              have hr1 := hrow.set (m + 1) z
              have hst := hleft m (by omega) z hz
              have q3 := hr1.cell (j := m) (y := z) (by rw [List.getElem?_set, if_neg (by omega)]; exact hz)
              have q4 := hr1.frozen m
              have hr2 := hr1.set m y
              rw [hst] at hr2
              have hb2 := (hb.setCell (p := ⟨g, m + 1, none⟩) hgB (.int .i64 z)).setCell (p := ⟨g, m, none⟩) hgB (.int .i64 y)
              clear hz hz2 hst hr1 hrow
              go_wp2
              exact ⟨⟨m, by omega, by omega, rfl, hr2, hb2⟩, by show ((m : Nat) : Int).toNat < (((m + 1 : Nat)) : Int).toNat; omega⟩
            · obtain rfl : n = p := by omega
              have hI := hrow.ints (cap := cap) (hmlen n) h8
              clear hrow
              go_wp2
              go_ret
              exact ⟨_, rfl, hI, hb⟩
set_option maxHeartbeats 1000000 in
set_option maxRecDepth 100000 in
/-- Are two lists alike? -/
theorem rsame7_any (w : World) (v u : Value) (xs ys : List Int) (hx : IntsAt w w.heap.size v xs) (hy : IntsAt w w.heap.size u ys) :
    Calls Try.prog 15 #[v, u] w fun e w' => e = .returned (.bool (decide (xs = ys))) ∧ Below w.heap.size w w' := by
  obtain ⟨A, c, rfl, hlx, hcx⟩ := hx
  obtain ⟨A2, c2, rfl, hly, hcy⟩ := hy
  by_cases hl : xs.length = ys.length
  · have hd : (((xs.length : Nat) : Int) != ((ys.length : Nat) : Int)) = false := by rw [hl]; simp
    have hlH := Lib.hid hl
    clear hl
    go_enter Try.func15, Try.ntmps15
    go_wp2
    clear hd
    go_loopw [5] (fun t wr => ∃ k : Nat, k ≤ xs.length ∧ t = .int .i64 k ∧ Hid (xs.take k = ys.take k) ∧ Below w.heap.size w wr) (fun t _ => xs.length - (intOf t).toNat)
    case atStart => exact ⟨0, by omega, rfl, Lib.hid (by simp), Below.refl _ _⟩
    case round =>
      obtain ⟨k, hk, rfl, hH, hb⟩ := hrel
      by_cases hlt : k < xs.length
      · have hlt' : k < ys.length := by have := hlH.out; omega
        obtain ⟨b, off, rfl, hB, hc⟩ := hcx (by omega)
        obtain ⟨b', off', rfl, hB', hc'⟩ := hcy (by omega)
        obtain ⟨x, hx⟩ : ∃ x, xs[k]? = some x := ⟨_, List.getElem?_eq_getElem hlt⟩
        obtain ⟨y, hy⟩ : ∃ y, ys[k]? = some y := ⟨_, List.getElem?_eq_getElem hlt'⟩
        have q0 := fun X : After wr => After.cell X ((hb.cell (p := ⟨b, off + k, none⟩) hB).trans (hc k x hx))
        have q1 := fun X : After wr => After.cell X ((hb.cell (p := ⟨b', off' + k, none⟩) hB').trans (hc' k y hy))
        have b1 : (0 : Int) ≤ (k : Int) := by omega
        have b2 : (k : Int) < (xs.length : Int) := by omega
        have b3 : (k : Int) < (ys.length : Int) := by omega
        have hxH := Lib.hid hx
        have hyH := Lib.hid hy
        clear hc hc' hcx hcy hx hy
        by_cases hxy : x = y
        · have hne : (x != y) = false := by rw [hxy]; simp
          have hst : Hid (xs.take (k + 1) = ys.take (k + 1)) := Lib.hid (by rw [List.take_add_one, List.take_add_one, hH.out, hxH.out, hyH.out, hxy])
          clear hxy hH
          go_wp2_with fail
          refine wp_region_after (by kernel_rfl) (by kernel_rfl) ?_
          repeat (first | go_big_quiet_step (fail))
          refine wpQuiet_nil ?_
          intro z
          have hbz := hb.trans (z.2.mono hb.size)
          clear q0 q1
          go_wp2
          go_roundw
          case rel => exact ⟨k + 1, by omega, by go_num, hst, hbz⟩
          case measure => simp [intOf]; omega
        · have hne : (x != y) = true := by rw [bne_iff_ne]; exact hxy
          have hR : Hid (decide (xs = ys) = false) := Lib.hid (decide_eq_false fun e => hxy (by
            have h1 := hxH.out
            rw [e, hyH.out] at h1
            injection h1 with h1
            exact h1.symm))
          clear hxy hH
          go_wp2_with fail
          refine wp_region_after (by kernel_rfl) (by kernel_rfl) ?_
          repeat (first | go_big_quiet_step (fail))
          refine wpQuiet_nil ?_
          intro z
          have hbz := hb.trans (z.2.mono hb.size)
          clear q0 q1
          go_wp2
          go_ret
          exact ⟨by rw [hR.out]; rfl, hbz⟩
      · have hR : Hid (decide (xs = ys) = true) := Lib.hid (decide_eq_true (by
          have h1 := hH.out
          rw [List.take_of_length_le (by omega), List.take_of_length_le (by have := hlH.out; omega)] at h1
          exact h1))
        clear hH
        go_wp2
        go_ret
        exact ⟨by rw [hR.out]; rfl, hb⟩
  · have hd : (((xs.length : Nat) : Int) != ((ys.length : Nat) : Int)) = true := by rw [bne_iff_ne]; omega
    have hR : Hid (decide (xs = ys) = false) := Lib.hid (decide_eq_false fun e => hl (by rw [e]))
    clear hl
    go_enter Try.func15, Try.ntmps15
    go_wp2
    go_ret
    exact ⟨by rw [hR.out]; rfl, Below.refl _ _⟩
end Go.Proofs.Ytfamdckaljniiaa
