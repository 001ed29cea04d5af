/- The document's Order and Of. -/
import Derived.Test.YtfamdckaljniiaaNew06
import Derived.Test.YtfamdckaljniiaaLaw01d
import Derived.Deep.RegionHeld3
namespace Go.Proofs.Ytfamdckaljniiaa
open Go.RowKit Go.Joins

theorem count_take {zs : List Int} {k : Nat} {x a : Int} (h : zs[k]? = some x) : (zs.take (k + 1)).count a = (zs.take k).count a + if x = a then 1 else 0 := by
  rw [List.take_add_one, h, List.count_append]
  simp only [Option.toList_some, List.count_singleton, beq_iff_eq]
/-- Each number below the length is met once: an order. -/
theorem ordI_count {zs : List Int} (h8 : zs.length ≤ 8) : OrdI zs ↔ ∀ i : Nat, i < zs.length → zs.count (i : Int) = 1 := by
  constructor
  · intro h i hi
    obtain ⟨o, rfl, ho, _⟩ := ordI_nat h
    rw [ofN_len] at hi
    have hm := ho.mem hi
    have h1 := List.nodup_iff_count.1 h.2.1 (i : Int)
    have h2 : 0 < (ofN o).count (i : Int) := List.count_pos_iff.2 (by unfold ofN; exact List.mem_map.2 ⟨i, hm, rfl⟩)
    omega
  · intro h
    have hmem : ∀ i : Nat, i < zs.length → (i : Int) ∈ zs := fun i hi => List.count_pos_iff.1 (by rw [h i hi]; decide)
    have hin : ∀ x ∈ zs, 0 ≤ x ∧ x < zs.length := fun x hx => by
      refine Classical.byContradiction fun hb => ?_
      have hle := nodup_le ((List.range zs.length).map fun i : Nat => (i : Int)) (zs.erase x) (by
        rw [List.nodup_iff_pairwise_ne, List.pairwise_map]
        exact List.Pairwise.imp (fun hab he => hab (by omega)) (List.nodup_iff_pairwise_ne.1 List.nodup_range)) (fun y hy => by
        obtain ⟨i, hi, rfl⟩ := List.mem_map.1 hy
        have hi' := List.mem_range.1 hi
        exact (List.mem_erase_of_ne (fun e => hb (by omega))).2 (hmem i hi'))
      rw [List.length_erase_of_mem hx] at hle
      have := List.length_pos_of_mem hx
      simp at hle
      omega
    refine ⟨h8, ?_, hin⟩
    rw [List.nodup_iff_count]
    intro a
    by_cases ha : a ∈ zs
    · obtain ⟨h0, h1⟩ := hin a ha
      have := h a.toNat (by omega)
      rw [show ((a.toNat : Nat) : Int) = a by omega] at this
      omega
    · rw [List.count_eq_zero_of_not_mem ha]; omega
set_option maxHeartbeats 1000000 in
theorem rorder_any (w : World) (v : Value) (zs : List Int) (hz : IntsAt w w.heap.size v zs) :
    Calls Try.prog 14 #[v] w fun e w' => e = .returned (.bool (decide (OrdI zs))) ∧ Below w.heap.size w w' := by
  obtain ⟨A, c, rfl, hzl, hc⟩ := hz
  by_cases h8 : zs.length ≤ 8
  · have hcnt := Lib.hid (ordI_count h8)
    go_enter Try.func14, Try.ntmps14
    go_wp2
    go_loopw [3, 4, 5] (fun t _ _ wr => ∃ i : Nat, i ≤ zs.length ∧ t = .int .i64 i ∧ Hid (∀ j : Nat, j < i → zs.count (j : Int) = 1) ∧ Below w.heap.size w wr) (fun t _ _ _ => zs.length - (intOf t).toNat)
    case atStart => exact ⟨0, by omega, rfl, Lib.hid (fun j hj => by omega), Below.refl _ _⟩
    case round =>
      obtain ⟨i, hi, rfl, hall, hb⟩ := hrel
      by_cases hlt : i < zs.length
      · obtain ⟨g, off, rfl, hgl, hcells⟩ := hc (by omega)
        have hdi : decide ((i : Int) < (zs.length : Int)) = true := by simp; omega
        go_wp2
        obtain ⟨wo, rfl⟩ : ∃ wo : World, wo = wr := ⟨_, rfl⟩
        go_loopw [4, 5] (fun s t wr => ∃ k : Nat, k ≤ zs.length ∧ t = .int .i64 k ∧ s = .int .i64 ((zs.take k).count (i : Int)) ∧ Below w.heap.size w wr) (fun _ t _ => zs.length - (intOf t).toNat)
        case atStart => exact ⟨0, by omega, rfl, by simp, hb⟩
        case round =>
          clear hb
          obtain ⟨k, hk, rfl, rfl, hb⟩ := hrel
          by_cases hkt : k < zs.length
          · obtain ⟨x, hx⟩ : ∃ x, zs[k]? = some x := ⟨_, List.getElem?_eq_getElem hkt⟩
            have q := (hb.cell (p := ⟨g, off + k, none⟩) hgl).trans (hcells k x hx)
            have hst := Lib.hid (count_take (a := (i : Int)) hx)
            have hle : (zs.take k).count (i : Int) ≤ k := Nat.le_trans List.count_le_length (by simp; omega)
            generalize (zs.take k).count (i : Int) = n at *
            by_cases hxi : x = (i : Int)
            · have hb1 : (x == (i : Int)) = true := by simp [hxi]
              have hst' := Lib.hid (hst.out.trans (by rw [if_pos hxi]))
              clear hx hxi hst
              go_wp2
              go_roundw
              case rel => exact ⟨k + 1, by omega, by go_num, by rw [hst'.out]; go_num, hb⟩
              case measure => simp [intOf]; omega
            · have hb1 : (x == (i : Int)) = false := by simpa using hxi
              have hst' := Lib.hid (hst.out.trans (by rw [if_neg hxi]))
              clear hx hxi hst
              go_wp2
              go_roundw
              case rel => exact ⟨k + 1, by omega, by go_num, by rw [hst'.out]; rfl, hb⟩
              case measure => simp [intOf]; omega
          · have hkk : k = zs.length := by omega
            have hn : Hid ((zs.take k).count (i : Int) = zs.count (i : Int)) := Lib.hid (by rw [hkk, List.take_length])
            clear hkk hcells
            generalize (zs.take k).count (i : Int) = n at *
            by_cases h1 : n = 1
            · have hb1 : ((n : Int) != 1) = false := by simp [h1]
              have hall' : Hid (∀ j : Nat, j < i + 1 → zs.count (j : Int) = 1) := Lib.hid (fun j hj => by
                by_cases e : j = i
                · subst e; rw [← hn.out]; exact h1
                · exact hall.out j (by omega))
              clear h1
              go_wp2
              go_roundw
              case rel => exact ⟨i + 1, by omega, by go_num, hall', hb⟩
              case measure => simp [intOf]; omega
            · have hb1 : ((n : Int) != 1) = true := by simp; omega
              have hR := Lib.hid (decide_eq_false (fun h : OrdI zs => h1 (hn.out.trans (hcnt.out.1 h i hlt))))
              clear h1
              go_wp2
              go_ret
              exact ⟨by rw [hR.out]; rfl, hb⟩
      · have hR := Lib.hid (decide_eq_true (hcnt.out.2 fun j hj => hall.out j (by omega)))
        go_wp2
        go_ret
        exact ⟨by rw [hR.out]; rfl, hb⟩
  · have hR := Lib.hid (decide_eq_false (fun h : OrdI zs => h8 h.1))
    go_enter Try.func14, Try.ntmps14
    go_wp2
    go_ret
    exact ⟨by rw [hR.out]; rfl, Below.refl _ _⟩
set_option maxHeartbeats 1000000 in
theorem rof6_any (X : BitVec 256) (n : Nat) (hn : n ≤ 8) (w : World) :
    Calls Try.prog 22 #[sv X, .int .i64 n] w fun e w' => e = .returned (.bool (decide (X &&& ~~~(allB n) = 0))) ∧ Below w.heap.size w w' := by
  have HA := fun w => refall_any n hn w
  have HS := fun (w : World) (b : Nat) (hb : b < w.heap.size) (hc : ∀ p, p < 256 → w.cell? ⟨b, p, none⟩ = some (.bool (decide (p < 2 ^ n)))) => refset_any (fun p => decide (p < 2 ^ n)) b 256 w hb hc
  rw [show (bvOf fun p => decide (p < 2 ^ n)) = allB n from rfl] at HS
  have HW := fun w => refwithin_any X (allB n) w
  have hB := below_alloc1 w (.cells (sa X) 42)
  have hbx := heap_alloc_new w (.cells (sa X) 42)
  obtain ⟨s0, s1, s2, s3, -⟩ := now4 hbx rfl
  unfold sv wv at *
  unfold sa wv at hB s0 s1 s2 s3
  go_enter Try.func22, Try.ntmps22
  go_upto_region 1 with (fail)
  generalize (w.alloc (.cells #[.int .u64 (wd X 0).toNat, .int .u64 (wd X 1).toNat, .int .u64 (wd X 2).toNat, .int .u64 (wd X 3).toNat] 42)) = W at *
  have hBs := Below.refl W.heap.size W
  go_region_held3 (fun w' => w'.cell? ⟨w.heap.size, 0, none⟩ = some (.int .u64 (wd X 0).toNat) ∧ w'.cell? ⟨w.heap.size, 1, none⟩ = some (.int .u64 (wd X 1).toNat) ∧ w'.cell? ⟨w.heap.size, 2, none⟩ = some (.int .u64 (wd X 2).toNat) ∧ w'.cell? ⟨w.heap.size, 3, none⟩ = some (.int .u64 (wd X 3).toNat)) (first | go_keep | (refine ⟨?_, ?_, ?_, ?_⟩ <;> (with_reducible assumption)))
    (first | (go_at_call 36; refine (HA _).mono ?_; rintro e w1 ⟨b, rfl, hb0, hb1, hbc, hbb⟩; have hB1 : Below W.heap.size W w1 := hBs.drew.trans hbb; obtain ⟨a0, a1, a2, a3⟩ := carry4 hB1 s0 s1 s2 s3) | (go_at_call 35; refine (HS _ _ hb1 hbc).mono ?_; rintro e w2 ⟨rfl, hbb2⟩; have hB2 := hB1.trans (hbb2.mono hB1.size); obtain ⟨a0, a1, a2, a3⟩ := carry4 hB2 s0 s1 s2 s3) | (go_at_call 34; refine (HW _).mono ?_; rintro e w3 ⟨rfl, hbb3⟩; have hB3 := hB2.trans (hbb3.mono hB2.size); obtain ⟨a0, a1, a2, a3⟩ := carry4 hB3 s0 s1 s2 s3))
  all_goals
    go_wp2
    go_ret
    exact ⟨rfl, hB.trans (hB3.mono hB.size)⟩
end Go.Proofs.Ytfamdckaljniiaa
