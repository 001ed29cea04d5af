/- The document's Part and Least of layer 8. -/
import Derived.Test.YtkkdfpmjmommcaaRefz08
namespace Go.Proofs.Ytkkdfpmjmommcaa
open Go.RowKit Go.Joins

/-- What Part tells of one member. -/
def partF (i : Nat) (b : Bool) (x : Nat) : List Nat := if x.testBit i && b then [x - 2 ^ i] else if !x.testBit i && !b then [x] else []
theorem part_step {l : List Nat} {k x : Nat} (h : l[k]? = some x) (i : Nat) (b : Bool) : (l.take (k + 1)).flatMap (partF i b) = (l.take k).flatMap (partF i b) ++ partF i b x := by
  rw [List.take_add_one, h, List.flatMap_append]
  simp
theorem part_len (l : List Nat) (i : Nat) (b : Bool) : (l.flatMap (partF i b)).length ≤ l.length := by
  induction l with
  | nil => simp
  | cons x r ih =>
    rw [List.flatMap_cons, List.length_append, List.length_cons]
    have : (partF i b x).length ≤ 1 := by
      unfold partF
      split
      · simp
      · split <;> simp
    omega
theorem bit_le {x i : Nat} (h : x.testBit i = true) : 2 ^ i ≤ x := Nat.ge_two_pow_of_testBit h
set_option maxHeartbeats 4000000 in
set_option maxRecDepth 100000 in
theorem rpart8_any (v : Value) (l : List Nat) (i : Nat) (b : Bool) (hfl : l.length ≤ 1000) (hm : ∀ x ∈ l, x < 16777216) (hi : i < 24) (w : World) (hz : IntsAt w w.heap.size v (nI l)) :
    Calls Try.prog 27 #[v, .int .i64 i, .bool b] w fun e w' => ∃ v', e = .returned v' ∧ IntsAt w' w'.heap.size v' (nI (l.flatMap (partF i b))) ∧ Below w.heap.size w w' := by
  obtain ⟨i0, hi0, hz0, hz1, hz2⟩ := info_parts Try.infoInt
  have HB := fun x (hx : x < 16777216) w1 => rbit8_any x i hx (by omega) w1
  have hp : ∀ k, Hid (2 ^ (k + 1) = 2 ^ k * 2) := fun k => Lib.hid (Nat.pow_succ 2 k)
  have hpl : 2 ^ i ≤ 16777216 := two24 (by omega)
  obtain ⟨A, c, rfl, hl, hc⟩ := hz
  simp only [nI_len] at *
  go_enter Try.func27, Try.ntmps27
  go_wp2
  go_loopw [7, 8] (fun p t wr => ∃ k : Nat, k ≤ i ∧ t = .int .i64 k ∧ p = .int .i64 ((2 ^ k : Nat) : Int) ∧ w = wr) (fun _ t _ => i - (intOf t).toNat)
  case atStart => exact ⟨0, by omega, rfl, rfl, rfl⟩
  case round =>
    obtain ⟨k, hk, rfl, rfl, rfl⟩ := hrel
    by_cases hki : k < i
    · have hp := hp k
      have h24 := two24 (show k + 1 ≤ 24 by omega)
      generalize hq : 2 ^ (k + 1) = q at *
      generalize 2 ^ k = p at *
      have hpq := hp.out
      have hqH := Lib.hid hq
      clear hq
      go_wp2
      go_roundw
      case rel => exact ⟨k + 1, by omega, by go_num, by rw [hqH.out, hp.out]; go_num, trivial⟩
      case measure => simp [intOf]; omega
    · obtain rfl : k = i := by omega
      generalize hpk : 2 ^ k = p at *
      have hpH := Lib.hid hpk
      clear hpk hp
      go_wp2
      go_loopw [9, 10] (fun s t wr => ∃ (j : Nat) (r : List Nat), j ≤ l.length ∧ t = .int .i64 j ∧ Hid (r = (l.take j).flatMap (partF k b)) ∧ wr.ownsRow w.heap.size 3 1 s r.length (intsV r) ∧ Below w.heap.size w wr) (fun _ t _ => l.length - (intOf t).toNat)
      case atStart => exact ⟨0, [], by omega, rfl, Lib.hid (by simp), World.ownsRow_nil _ _ _ _, Below.refl _ _⟩
      case round =>
        obtain ⟨j, r, hj, rfl, hr, hown, hb⟩ := hrel
        by_cases hlt : j < l.length
        · obtain ⟨bl, off, rfl, hBl, hcell⟩ := hc (by omega)
          obtain ⟨x, hx⟩ : ∃ x, l[j]? = some x := ⟨_, List.getElem?_eq_getElem hlt⟩
          have hxm := hm x (List.mem_of_getElem? hx)
          have q := (hb.cell (p := ⟨bl, off + j, none⟩) hBl).trans (hcell j _ (nI_get hx))
          have hst := Lib.hid (part_step hx k b)
          have HB := HB x hxm
          have hrl : r.length ≤ j := by rw [hr.out]; exact Nat.le_trans (part_len _ _ _) (by rw [List.length_take]; omega)
          have hge := fun h => bit_le (x := x) (i := k) h
          rw [hpH.out] at hge
          have hF : Hid (partF k b x = if x.testBit k && b then [x - p] else if !x.testBit k && !b then [x] else []) := Lib.hid (by unfold partF; rw [hpH.out])
          have hbz := hb.size
          clear hcell hc hx hm
          generalize x.testBit k = d at *
          cases d
          · cases b
            · have hs2 : Hid (r ++ [x] = (l.take (j + 1)).flatMap (partF k false)) := Lib.hid (by rw [hst.out, hr.out, hF.out]; simp)
              clear hr hge
              go_wp2_with fail
              refine (HB _).mono ?_
              rintro e w1 ⟨rfl, rfl⟩
              go_wp2_with fail
              refine (HB _).mono ?_
              rintro e w2 ⟨rfl, rfl⟩
              have hq2 : ∀ o, (wr.alloc o).cell? ⟨bl, off + j, none⟩ = some (.int .i64 x) := fun o => (World.cell?_alloc_lt _ _ _ (block_lt_of_cell q)).trans q
              go_wp2_with (at_builtin; refine wpList_append_own_at _ rfl _ _ 22 rfl w.heap.size 3 i0 (.int .i64 0) 1 8 Try.underlying22 hi0 hz0 hz1 hz2 rfl (by decide) _ _ _ rfl (hown.alloc _) ⟨wr.heap.size, 0, none⟩ 1 1 [.int .i64 (x : Int)] rfl rfl one_news one_cell ?c3 ?c4 ?c5 ?_)
              case c3 => unfold maxLen; omega
              case c4 => omega
              case c5 => simp; omega
              intro v' w8 ho8 hg8 _ hloc
              have hB8 := grown_below (hown.alloc (.cells #[.int .i64 (x : Int)] 3)) hg8 (hb.alloc hb.size _) (Nat.le_refl _) (by simp; omega)
              have ho8' : w8.ownsRow w.heap.size 3 1 v' (r ++ [x]).length (intsV (r ++ [x])) := by
                rw [intsV_app, List.length_append]
                exact ho8
              have hb9 : Below wr.heap.size wr wr := Below.refl _ _
              clear hg8 hown ho8 hloc q hq2 HB
              go_wp2
              go_roundw
              case rel => exact ⟨j + 1, r ++ [x], by omega, by go_num, hs2, ho8', hB8⟩
              case measure => simp [intOf]; omega
            · have hs2 : Hid (r = (l.take (j + 1)).flatMap (partF k true)) := Lib.hid (by rw [hst.out, hr.out, hF.out]; simp)
              clear hr hge
              go_wp2_with fail
              refine (HB _).mono ?_
              rintro e w1 ⟨rfl, rfl⟩
              go_wp2_with fail
              refine (HB _).mono ?_
              rintro e w2 ⟨rfl, rfl⟩
              clear q HB
              go_wp2
              go_roundw
              case rel => exact ⟨j + 1, r, by omega, by go_num, hs2, hown, hb⟩
              case measure => simp [intOf]; omega
          · cases b
            · have hs2 : Hid (r = (l.take (j + 1)).flatMap (partF k false)) := Lib.hid (by rw [hst.out, hr.out, hF.out]; simp)
              clear hr hge
              go_wp2_with fail
              refine (HB _).mono ?_
              rintro e w1 ⟨rfl, rfl⟩
              go_wp2_with fail
              refine (HB _).mono ?_
              rintro e w2 ⟨rfl, rfl⟩
              clear q HB
              go_wp2
              go_roundw
              case rel => exact ⟨j + 1, r, by omega, by go_num, hs2, hown, hb⟩
              case measure => simp [intOf]; omega
            · have hs2 : Hid (r ++ [x - p] = (l.take (j + 1)).flatMap (partF k true)) := Lib.hid (by rw [hst.out, hr.out, hF.out]; simp)
              have hpx : p ≤ x := hge rfl
              have hcast : ((x - p : Nat) : Int) = (x : Int) - (p : Int) := by omega
              clear hr hge
              go_wp2_with fail
              refine (HB _).mono ?_
              rintro e w1 ⟨rfl, rfl⟩
              have hq2 : ∀ o, (wr.alloc o).cell? ⟨bl, off + j, none⟩ = some (.int .i64 x) := fun o => (World.cell?_alloc_lt _ _ _ (block_lt_of_cell q)).trans q
              go_wp2_with (at_builtin; refine wpList_append_own_at _ rfl _ _ 22 rfl w.heap.size 3 i0 (.int .i64 0) 1 8 Try.underlying22 hi0 hz0 hz1 hz2 rfl (by decide) _ _ _ rfl (hown.alloc _) ⟨wr.heap.size, 0, none⟩ 1 1 [.int .i64 ((x : Int) - (p : Int))] rfl rfl one_news one_cell ?c3 ?c4 ?c5 ?_)
              case c3 => unfold maxLen; omega
              case c4 => omega
              case c5 => simp; omega
              intro v' w8 ho8 hg8 _ hloc
              have hB8 := grown_below (hown.alloc (.cells #[.int .i64 ((x : Int) - (p : Int))] 3)) hg8 (hb.alloc hb.size _) (Nat.le_refl _) (by simp; omega)
              have ho8' : w8.ownsRow w.heap.size 3 1 v' (r ++ [x - p]).length (intsV (r ++ [x - p])) := by
                rw [intsV_app, List.length_append, hcast]
                exact ho8
              have q8 : w8.cell? ⟨bl, off + j, none⟩ = some (.int .i64 x) := by
                have hne : bl < w.heap.size := hBl
                exact (hB8.cell (p := ⟨bl, off + j, none⟩) hne).trans ((hb.cell (p := ⟨bl, off + j, none⟩) hne).symm.trans q)
              clear hg8 hown ho8 hloc q hq2 hcast
              go_wp2_with fail
              refine (HB _).mono ?_
              rintro e w9 ⟨rfl, rfl⟩
              clear HB q8
              go_wp2
              go_roundw
              case rel => exact ⟨j + 1, r ++ [x - p], by omega, by go_num, hs2, ho8', hB8⟩
              case measure => simp [intOf]; omega
        · have hR : Hid (r = l.flatMap (partF k b)) := Lib.hid (by rw [hr.out, List.take_of_length_le (by omega)])
          have hI := own_nI hown
          clear hr hown
          go_wp2
          go_ret
          exact ⟨_, rfl, by rw [← hR.out]; exact hI, hb⟩
end Go.Proofs.Ytkkdfpmjmommcaa
