/- The document's Least of layer 8. -/
import Derived.Test.YtkkdfpmjmommcaaRefy08
namespace Go.Proofs.Ytkkdfpmjmommcaa
open Go.RowKit Go.Joins

/-- x holds no other one of the list. -/
def noneB (x y : Nat) : Bool := decide (y = x) || !decide (x ||| y = x)
def leastB (l : List Nat) (x : Nat) : Bool := l.all (noneB x)
theorem all_step {l : List Nat} {k y : Nat} (h : l[k]? = some y) (p : Nat → Bool) : (l.take (k + 1)).all p = ((l.take k).all p && p y) := by
  rw [List.take_add_one, h, List.all_append]
  simp
theorem nodup_at {l : List Nat} (hd : l.Nodup) {i k x y : Nat} (hx : l[i]? = some x) (hy : l[k]? = some y) : y = x ↔ k = i := by
  constructor
  · intro e
    subst e
    obtain ⟨hi, ei⟩ := List.getElem?_eq_some_iff.1 hx
    obtain ⟨hk, ek⟩ := List.getElem?_eq_some_iff.1 hy
    have hp := List.pairwise_iff_getElem.1 (List.nodup_iff_pairwise_ne.1 hd)
    rcases Nat.lt_trichotomy k i with h | h | h
    · exact absurd (ek.trans ei.symm) (hp k i hk hi h)
    · exact h
    · exact absurd (ei.trans ek.symm) (hp i k hi hk h)
  · intro e
    subst e
    rw [hx] at hy
    injection hy with hy
    exact hy.symm
set_option maxHeartbeats 4000000 in
set_option maxRecDepth 100000 in
theorem rleast8_any (v : Value) (l : List Nat) (hfl : l.length ≤ 1000) (hm : ∀ x ∈ l, x < 16777216) (hd : l.Nodup) (w : World) (hz : IntsAt w w.heap.size v (nI l)) :
    Calls Try.prog 31 #[v] w fun e w' => ∃ v', e = .returned v' ∧ IntsAt w' w'.heap.size v' (nI (l.filter (leastB l))) ∧ Below w.heap.size w w' := by
  obtain ⟨i0, hi0, hz0, hz1, hz2⟩ := info_parts Try.infoInt
  obtain ⟨A, c, rfl, hl, hc⟩ := hz
  simp only [nI_len] at *
  go_enter Try.func31, Try.ntmps31
  go_wp2
  go_loopw [3, 4] (fun s t wr => ∃ (i : Nat) (r : List Nat), i ≤ l.length ∧ t = .int .i64 i ∧ Hid (r = (l.take i).filter (leastB l)) ∧ wr.ownsRow w.heap.size 3 1 s r.length (intsV r) ∧ Below w.heap.size w wr) (fun _ t _ => l.length - (intOf t).toNat)
  case atStart => exact ⟨0, [], by omega, rfl, Lib.hid (by simp), World.ownsRow_nil _ _ _ _, Below.refl _ _⟩
  case round =>
    obtain ⟨i, r, hi, rfl, hr, hown, hb⟩ := hrel
    have hrl : r.length ≤ i := by rw [hr.out]; exact Nat.le_trans (List.length_filter_le _ _) (by rw [List.length_take]; omega)
    by_cases hlt : i < l.length
    · obtain ⟨bl, off, rfl, hBl, hcell⟩ := hc (by omega)
      obtain ⟨x, hx⟩ : ∃ x, l[i]? = some x := ⟨_, List.getElem?_eq_getElem hlt⟩
      have hxm := hm x (List.mem_of_getElem? hx)
      have hst := Lib.hid (filter_step hx (leastB l))
      have hxH := Lib.hid hx
      have hbz := hb.size
      have hLb : Hid (leastB l x = l.all (noneB x)) := Lib.hid rfl
      have hqi := hcell i _ (nI_get hx)
      have hI : Hid (∀ k y, l[k]? = some y → w.cell? ⟨bl, off + k, none⟩ = some (.int .i64 (y : Nat))) := Lib.hid (fun k y hy => hcell k _ (nI_get hy))
      clear hcell hc hx
      go_wp2
      obtain ⟨wo, hwo⟩ : ∃ wo : World, wo = wr := ⟨_, rfl⟩
      go_loopw [5, 6] (fun s t wj => ∃ (k : Nat) (d : Bool), k ≤ l.length ∧ t = .int .i64 k ∧ s = .bool d ∧ Hid (d = (l.take k).all (noneB x)) ∧ Below wo.heap.size wo wj) (fun _ t _ => l.length - (intOf t).toNat)
      case atStart => exact ⟨0, true, by omega, rfl, rfl, Lib.hid (by simp), by rw [hwo]; exact Below.refl _ _⟩
      case round =>
        rw [← hwo] at hb hown hbz
        clear hwo
        obtain ⟨k, d, hk, rfl, rfl, hdH, hbj⟩ := hrel
        have hbw := hb.trans (hbj.mono hbz)
        by_cases hkl : k < l.length
        · obtain ⟨y, hy⟩ : ∃ y, l[k]? = some y := ⟨_, List.getElem?_eq_getElem hkl⟩
          have hym := hm y (List.mem_of_getElem? hy)
          have hall := Lib.hid (all_step hy (noneB x))
          have heq := Lib.hid (nodup_at hd hxH.out hy)
          have hqk := hI.out k y hy
          have hbjz := hbj.size
          have q0 := fun X : After wr => After.cell X ((hbw.cell (p := ⟨bl, off + i, none⟩) hBl).trans hqi)
          have q1 := fun X : After wr => After.cell X ((hbw.cell (p := ⟨bl, off + k, none⟩) hBl).trans hqk)
          have b0 : (0 : Int) ≤ (i : Int) := by omega
          have b1 : (i : Int) < (l.length : Int) := by omega
          have b2 : (0 : Int) ≤ (k : Int) := by omega
          have b3 : (k : Int) < (l.length : Int) := by omega
          have HB := fun w1 => (rboth8_any x y hxm hym w1).mono fun e w2 (h : e = .returned (.int .i64 ((x ||| y : Nat) : Int)) ∧ w1 = w2) => (⟨h.1, by rw [h.2]; exact Below.refl _ _⟩ : e = .returned (.int .i64 ((x ||| y : Nat) : Int)) ∧ Below w1.heap.size w1 w2)
          clear hqi hqk hy hm hI
          by_cases hki : k = i
          · have hne : (((k : Nat) : Int) != ((i : Nat) : Int)) = false := by rw [hki]; simp
            have hs2 : Hid (d = (l.take (k + 1)).all (noneB x)) := Lib.hid (by
              rw [hall.out, hdH.out]
              have : noneB x y = true := by unfold noneB; rw [decide_eq_true (heq.out.2 hki)]; rfl
              rw [this, Bool.and_true])
            clear hki hdH HB
            go_wp2_with fail
            refine wp_region_after (by kernel_rfl) (by kernel_rfl) ?_
            repeat (first | go_big_quiet_step (fail))
            refine wpQuiet_nil ?_
            intro z
            have hbz2 := hbj.trans (z.2.mono hbj.size)
            clear q0 q1
            go_wp2
            go_roundw
            case rel => exact ⟨k + 1, d, by omega, by go_num, rfl, hs2, hbz2⟩
            case measure => simp [intOf]; omega
          · have hne : (((k : Nat) : Int) != ((i : Nat) : Int)) = true := by rw [bne_iff_ne]; intro e; exact hki (by omega)
            have hyx : decide (y = x) = false := decide_eq_false fun e => hki (heq.out.1 e)
            by_cases hxy : x ||| y = x
            · have heb : ((((x ||| y : Nat) : Int)) == ((x : Nat) : Int)) = true := by rw [hxy]; simp
              have hs2 : Hid (false = (l.take (k + 1)).all (noneB x)) := Lib.hid (by
                rw [hall.out]
                have : noneB x y = false := by unfold noneB; rw [hyx, decide_eq_true hxy]; rfl
                rw [this, Bool.and_false])
              generalize x ||| y = xy at *
              clear hki hdH hxy hyx
              go_wp2_with fail
              refine wp_region_after (by kernel_rfl) (by kernel_rfl) ?_
              repeat (first | go_big_quiet_step (first | (go_at_call 29; exact Calls.after_of (HB _))))
              refine wpQuiet_nil ?_
              intro z
              have hbz2 := hbj.trans (z.2.mono hbj.size)
              clear q0 q1
              go_wp2
              go_roundw
              case rel => exact ⟨k + 1, false, by omega, by go_num, rfl, hs2, hbz2⟩
              case measure => simp [intOf]; omega
            · have heb : ((((x ||| y : Nat) : Int)) == ((x : Nat) : Int)) = false := by rw [beq_eq_false_iff_ne]; intro e; exact hxy (by omega)
              have hs2 : Hid (d = (l.take (k + 1)).all (noneB x)) := Lib.hid (by
                rw [hall.out, hdH.out]
                have : noneB x y = true := by unfold noneB; rw [hyx, decide_eq_false hxy]; rfl
                rw [this, Bool.and_true])
              generalize x ||| y = xy at *
              clear hki hdH hxy hyx
              go_wp2_with fail
              refine wp_region_after (by kernel_rfl) (by kernel_rfl) ?_
              repeat (first | go_big_quiet_step (first | (go_at_call 29; exact Calls.after_of (HB _))))
              refine wpQuiet_nil ?_
              intro z
              have hbz2 := hbj.trans (z.2.mono hbj.size)
              clear q0 q1
              go_wp2
              go_roundw
              case rel => exact ⟨k + 1, d, by omega, by go_num, rfl, hs2, hbz2⟩
              case measure => simp [intOf]; omega
        · have hdR : Hid (leastB l x = d) := Lib.hid (by rw [hLb.out, hdH.out, List.take_of_length_le (by omega)])
          have hownj := owns_below hown hbj
          have hbjz := hbj.size
          have q := (hbw.cell (p := ⟨bl, off + i, none⟩) hBl).trans hqi
          clear hqi hI hdH hown
          cases d
          · have hs2 : Hid (r = (l.take (i + 1)).filter (leastB l)) := Lib.hid (by rw [hst.out, hr.out, hdR.out]; simp)
            clear hr
            go_wp2
            go_roundw
            case rel => exact ⟨i + 1, r, by omega, by go_num, hs2, hownj, hbw⟩
            case measure => simp [intOf]; omega
          · have hs2 : Hid (r ++ [x] = (l.take (i + 1)).filter (leastB l)) := Lib.hid (by rw [hst.out, hr.out, hdR.out]; simp)
            have hq2 : ∀ o, (wr.alloc o).cell? ⟨bl, off + i, none⟩ = some (.int .i64 x) := fun o => (World.cell?_alloc_lt _ _ _ (block_lt_of_cell q)).trans q
            clear hr
            have hbwz := hbw.size
            go_wp2_with (at_builtin; refine wpList_append_own_at _ rfl _ _ 22 rfl w.heap.size 3 i0 (.int .i64 0) 1 8 Try.underlying22 hi0 hz0 hz1 hz2 rfl (by decide) _ _ _ rfl (hownj.alloc _) ⟨wr.heap.size, 0, none⟩ 1 1 [.int .i64 (x : Int)] rfl rfl one_news one_cell ?c3 ?c4 ?c5 ?_)
            case c3 => unfold maxLen; omega
            case c4 => omega
            case c5 => simp; omega
            intro v' w8 ho8 hg8 _ hloc
            have hB8 := grown_below (hownj.alloc (.cells #[.int .i64 (x : Int)] 3)) hg8 (hbw.alloc hbw.size _) (Nat.le_refl _) (by simp; omega)
            have ho8' : w8.ownsRow w.heap.size 3 1 v' (r ++ [x]).length (intsV (r ++ [x])) := by
              rw [intsV_app, List.length_append]
              exact ho8
            clear hg8 hownj ho8 hloc q hq2
            go_wp2
            go_roundw
            case rel => exact ⟨i + 1, r ++ [x], by omega, by go_num, hs2, ho8', hB8⟩
            case measure => simp [intOf]; omega
    · have hR : Hid (r = l.filter (leastB l)) := Lib.hid (by rw [hr.out, List.take_of_length_le (by omega)])
      have hI := own_nI hown
      clear hr hown
      go_wp2
      go_ret
      exact ⟨_, rfl, by rw [← hR.out]; exact hI, hb⟩
end Go.Proofs.Ytkkdfpmjmommcaa
