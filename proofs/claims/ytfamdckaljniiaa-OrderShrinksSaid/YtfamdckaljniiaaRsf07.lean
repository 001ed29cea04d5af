/- The document's Sift. -/
import Derived.Test.YtfamdckaljniiaaRmv07
namespace Go.Proofs.Ytfamdckaljniiaa
open Go.RowKit Go.Joins

theorem run_append_none7 (a : Addr) (c : Nat) (ty : TypeId) (w : World) : (Builtin.append_ #[23, 23] ty #[.slice (some a) 0 0, .slice none 0 c]).run Try.prog w = .ok (.slice (some a) 0 0) w := by
  obtain ⟨i0, hi0, hz0, hz1, hz2⟩ := info_parts Try.infoInt
  simp [Builtin.append_, run_underlying Try.underlying23, sizeOf, typeInfo, hi0, Builtin.lenOf, Builtin.firstCells, storeCells]
set_option maxHeartbeats 1000000 in
set_option maxRecDepth 100000 in
/-- Of a nil order there is nothing to sift. -/
theorem rsift_none (w : World) (V : Value) (Ss : List (BitVec 256)) (R c : Nat) (hR4 : R ≤ 4) (hS : SetsAt w w.heap.size V Ss) :
    Calls Try.prog 18 #[V, .slice none 0 c, .int .i64 R] w fun e w' => ∃ v', e = .returned v' ∧ IntsAt w' w'.heap.size v' [] ∧ Below w.heap.size w w' := by
  obtain ⟨A2, c2, rfl⟩ := hS.form
  clear hS
  have hrun := fun a ty w => run_append_none7 a c ty w
  have hB0 := below_alloc1 w (.cells #[] 3 (0, 0))
  have hI0 : ∀ wr : World, Below w.heap.size w wr → IntsAt wr wr.heap.size (.slice (some ⟨w.heap.size, 0, none⟩) 0 0) [] := fun wr _ => ⟨_, _, rfl, by decide, fun h => absurd h (by decide)⟩
  go_enter Try.func18, Try.ntmps18
  go_wp2
  clear hrun
  go_loopw [7, 8] (fun s t wr => ∃ k : Nat, k ≤ R ∧ t = .int .i64 k ∧ IntsAt wr wr.heap.size s [] ∧ Below w.heap.size w wr) (fun _ t _ => R - (intOf t).toNat)
  case atStart => exact ⟨0, by omega, rfl, hI0 _ hB0, hB0⟩
  case round =>
    clear hB0
    obtain ⟨k, hk, rfl, hI, hb⟩ := hrel
    by_cases hlt : k < R
    · go_wp2
      obtain ⟨wo, rfl⟩ : ∃ wo : World, wo = wr := ⟨_, rfl⟩
      go_loopw [7, 9] (fun s t wr => t = .int .i64 0 ∧ IntsAt wr wr.heap.size s [] ∧ Below w.heap.size w wr) (fun _ t _ => 0)
      case atStart => exact ⟨rfl, hI, hb⟩
      case round =>
        clear hI hb
        obtain ⟨rfl, hI, hb⟩ := hrel
        go_wp2
        go_roundw
        case rel => exact ⟨k + 1, by omega, by go_num, hI, hb⟩
        case measure => simp [intOf]; omega
    · go_wp2
      go_ret
      exact ⟨_, rfl, hI, hb⟩
set_option maxHeartbeats 4000000 in
set_option maxRecDepth 100000 in
theorem rsift_any (w : World) (V v : Value) (Ss : List (BitVec 256)) (o : List Nat) (R : Nat) (hR4 : R ≤ 4) (hS : SetsAt w w.heap.size V Ss) (hz : IntsAt w w.heap.size v (ofN o)) (ho : OrdOk o) (h8 : o.length ≤ 8) (h4 : Ss.length ≤ 4) :
    Calls Try.prog 18 #[V, v, .int .i64 R] w fun e w' => ∃ v', e = .returned v' ∧ IntsAt w' w'.heap.size v' (ofN (siftN Ss o R)) ∧ Below w.heap.size w w' := by
  have hSw := hS
  obtain ⟨A, c, rfl, hzl, hc⟩ := hz
  obtain ⟨A2, c2, rfl⟩ := hS.form
  cases A with
  | none =>
    have h0 : o = [] := by
      cases o with
      | nil => rfl
      | cons x r => obtain ⟨b, off, e, _⟩ := hc (by rw [ofN_len]; simp); cases e
    subst h0
    have hsn : ∀ r, siftN Ss [] r = [] := fun r => by
      have := (sift_ok Ss ho h8 h4 r).2.1
      exact List.eq_nil_of_length_eq_zero this
    rw [hsn]
    exact rsift_none w _ Ss R c hR4 hSw
  | some a =>
    obtain ⟨i0, hi0, hz0, hz1, hz2⟩ := info_parts Try.infoInt
    rw [ofN_len] at hzl hc ⊢
    have AH : Aside (0 < o.length → ∃ b off, some a = some (⟨b, off, none⟩ : Addr) ∧ b < w.heap.size ∧ ∀ (j : Nat) (x : Int), (ofN o)[j]? = some x → w.cell? ⟨b, off + j, none⟩ = some (.int .i64 x)) := hc
    clear hc hS
    go_enter Try.func18, Try.ntmps18
    go_wp2_with (at_builtin; refine wpList_append_own _ rfl _ _ 23 rfl w.heap.size 3 i0 (.int .i64 0) 1 8 Try.underlying23 hi0 hz0 hz1 hz2 rfl (by decide) _ _ _ rfl (World.ownsRow_made w #[] 0 (Nat.le_refl _) (Nat.zero_le _) rfl) a o.length c (intsV o) rfl ?qc1 ?qc2 ?qc3 ?qc4 ?qc5 ?qc6 ?_)
    case qc1 => unfold intsV; simp
    case qc2 =>
      intro j u hj
      rw [intsV_of, List.getElem?_map] at hj
      cases hxj : (ofN o)[j]? with
      | none => rw [hxj] at hj; cases hj
      | some y =>
        rw [hxj] at hj
        have hjl := (List.getElem?_eq_some_iff.1 hxj).1
        rw [ofN_len] at hjl
        obtain ⟨b, off, e, hb, hcell⟩ := AH.out (by omega)
        injection e with e
        subst e
        rw [Addr.add_lit]
        refine Lib.cell?_alloc_some _ ?_
        rw [hcell j y hxj]
        simpa using hj
    case qc3 => intro u hu; rw [intsV_of] at hu; obtain ⟨x, _, rfl⟩ := List.mem_map.1 hu; rfl
    case qc4 => unfold maxLen; omega
    case qc5 => omega
    case qc6 => simp
    intro v' w1 hown hgrow hnil
    have hB1 : Below w.heap.size w w1 := ((Below.refl _ w).alloc (Nat.le_refl _) _).grown hgrow (by simp) (by intro k hk; simp [Value.ownBlock] at hk; omega)
    have hI1 := own_ints7 (o := o) (by simpa using hown) h8
    clear hown hgrow hnil AH
    go_wp2
    go_loopw [7, 8] (fun s t wr => ∃ k : Nat, k ≤ R ∧ t = .int .i64 k ∧ IntsAt wr wr.heap.size s (ofN (siftN Ss o k)) ∧ Below w.heap.size w wr) (fun _ t _ => R - (intOf t).toNat)
    case atStart => exact ⟨0, by omega, rfl, hI1, hB1⟩
    case round =>
      clear hI1 hB1
      obtain ⟨k, hk, rfl, hI, hb⟩ := hrel
      by_cases hlt : k < R
      · obtain ⟨hko, hkl, -⟩ := sift_ok Ss ho h8 h4 k
        have hst : Hid (siftN Ss o (k + 1) = stepsN Ss (siftN Ss o k) o.length) := Lib.hid rfl
        generalize siftN Ss o k = b at *
        go_wp2
        obtain ⟨wo, rfl⟩ : ∃ wo : World, wo = wr := ⟨_, rfl⟩
        go_loopw [7, 9] (fun s t wr => ∃ j : Nat, j ≤ o.length ∧ t = .int .i64 j ∧ IntsAt wr wr.heap.size s (ofN (stepsN Ss b j)) ∧ Below w.heap.size w wr) (fun _ t _ => o.length - (intOf t).toNat)
        case atStart => exact ⟨0, by omega, rfl, hI, hb⟩
        case round =>
          clear hI hb
          obtain ⟨j, hj, rfl, hI, hb⟩ := hrel
          by_cases hlj : j < o.length
          · obtain ⟨hjo, hjl, -⟩ := steps_ok Ss hko (by omega) h4 j (by omega)
            have hsj : Hid (stepsN Ss b (j + 1) = settleN Ss (stepsN Ss b j) j) := Lib.hid rfl
            generalize stepsN Ss b j = m at *
            have hml : m.length = o.length := hjl.trans hkl
            have hjm : j ∈ m := hjo.mem (by omega)
            have HM := fun (p : Nat) (hp : p < m.length) (w1 : World) (hb1 : Below wr.heap.size wr w1) => rmove_any w1 _ m j p hjo (by omega) hjm hp ((hI.below hb1).more hb1.size)
            have hfst := congrArg Prod.fst (bestK_first Ss hjo (by omega) h4 hjm)
            have hsett : Hid (settleN Ss m j = (bestK Ss m j o.length).1) := Lib.hid (by unfold settleN; rw [hml])
            have HM0 := HM 0 (by omega) wr (Below.refl _ _)
            have hlow := hb.size
            obtain ⟨As, cs, rfl, -, -⟩ := hI
            clear hjl
            go_wp2_with fail
            refine HM0.mono ?_
            rintro e w3 ⟨v3, rfl, hI3, hb3⟩
            clear HM0
            rw [← hfst] at hI3
            go_wp2
            obtain ⟨wm, hwm⟩ : ∃ wm : World, wm = wr := ⟨_, rfl⟩
            rw [← hwm] at HM hb hlow hb3
            clear hwm
            go_loopw [10, 11] (fun s t wj => ∃ p : Nat, 1 ≤ p ∧ p ≤ o.length ∧ t = .int .i64 p ∧ IntsAt wj wj.heap.size s (ofN (bestK Ss m j p).1) ∧ Below wm.heap.size wm wj) (fun _ t _ => o.length - (intOf t).toNat)
            case atStart => exact ⟨1, by omega, by omega, rfl, hI3, hb3⟩
            case round =>
              clear hI3 hb3 hfst
              obtain ⟨p, hp1, hpo, rfl, hI, hb3⟩ := hrel
              have hbw := hb.trans (hb3.mono hlow)
              by_cases hlp : p < o.length
              · have HMp := HM p (by omega) _ hb3
                have hml2 := mv_len hjo.nodup hjm p
                have hmo2 := mv_ord hjo hjm p
                obtain ⟨hbo, hbl⟩ := bestK_ord Ss hjo hjm p
                have hsz : (bestK Ss m j p).2 = (szs Ss (bestK Ss m j p).1 : Int) := by
                  obtain ⟨q, rfl⟩ : ∃ q, p = q + 1 := ⟨p - 1, by omega⟩
                  exact bestK_size Ss hjo (by omega) h4 hjm q
                have hstep : Hid (bestK Ss m j (p + 1) = if (szs Ss (mvL m j p) : Int) < (bestK Ss m j p).2 then (mvL m j p, (szs Ss (mvL m j p) : Int)) else bestK Ss m j p) := Lib.hid rfl
                rw [hsz] at hstep
                have hz1 := szs_take_le Ss Ss.length (o := mvL m j p) (by omega) h4
                have hz2 := szs_take_le Ss Ss.length (o := (bestK Ss m j p).1) (by omega) h4
                rw [List.take_length] at hz1 hz2
                have hS2 := fun (w5 : World) (hb5 : Below w.heap.size w w5) (u : Value) (hu : IntsAt w5 w5.heap.size u (ofN (mvL m j p))) => rsize7_any _ u Ss (mvL m j p) w5 ((hSw.below hb5).more hb5.size) hu hmo2 (by omega) h4
                have hS3 := fun (w5 : World) (hb5 : Below w.heap.size w w5) (u : Value) (hu : IntsAt w5 w5.heap.size u (ofN (bestK Ss m j p).1)) => rsize7_any _ u Ss (bestK Ss m j p).1 w5 ((hSw.below hb5).more hb5.size) hu hbo (by omega) h4
                generalize bestK Ss m j p = bk at *
                generalize mvL m j p = mm at *
                generalize szs Ss mm = n1 at *
                generalize szs Ss bk.1 = n2 at *
                clear hsz
                go_wp2_with fail
                refine HMp.mono ?_
                rintro e w4 ⟨v4, rfl, hI4, hb4⟩
                have hb4' := hbw.trans (hb4.mono (by have := hbw.size; omega))
                have HA := hS2 _ hb4' _ hI4
                have hI' := (hI.below hb4).more hb4.size
                clear HMp
                have hI4k := hI4
                have hI'k := hI'
                obtain ⟨A5, c5, rfl, -, -⟩ := hI4
                obtain ⟨A6, c6, rfl, -, -⟩ := hI'
                go_wp2_with fail
                refine HA.mono ?_
                rintro e w5 ⟨rfl, hb5⟩
                have hb5' := hb4'.trans (hb5.mono (by have := hb4'.size; omega))
                have HB := hS3 _ hb5' _ ((hI'k.below hb5).more hb5.size)
                clear HA
                go_wp2_with fail
                refine HB.mono ?_
                rintro e w6 ⟨rfl, hb6⟩
                have hb6' := hb5.trans (hb6.mono hb5.size)
                have hI4f := (hI4k.below hb6').more hb6'.size
                have hIf := (hI'k.below hb6').more hb6'.size
                have hb3f := (hb3.trans (hb4.mono hb3.size)).trans (hb6'.mono (by have := hb3.size; have := hb4.size; omega))
                clear HB hI4k hI'k hS2 hS3 HM hI hb4' hb5'
                by_cases hlt2 : (n1 : Int) < (n2 : Int)
                · have hst2 := Lib.hid (hstep.out.trans (by rw [if_pos hlt2]))
                  clear hstep
                  go_wp2
                  go_roundw
                  case rel => exact ⟨p + 1, by omega, by omega, by go_num, by rw [hst2.out]; exact hI4f, hb3f⟩
                  case measure => simp [intOf]; omega
                · have hst2 := Lib.hid (hstep.out.trans (by rw [if_neg hlt2]))
                  clear hstep
                  go_wp2
                  go_roundw
                  case rel => exact ⟨p + 1, by omega, by omega, by go_num, by rw [hst2.out]; exact hIf, hb3f⟩
                  case measure => simp [intOf]; omega
              · obtain rfl : p = o.length := by omega
                go_wp2
                go_roundw
                case rel => exact ⟨j + 1, by omega, by go_num, by rw [hsj.out, hsett.out]; exact hI, hbw⟩
                case measure => simp [intOf]; omega
          · obtain rfl : j = o.length := by omega
            go_wp2
            go_roundw
            case rel => exact ⟨k + 1, by omega, by go_num, by rw [hst.out]; exact hI, hb⟩
            case measure => simp [intOf]; omega
      · have hkk : Hid (k = R) := Lib.hid (by omega)
        go_wp2
        go_ret
        exact ⟨_, rfl, by rw [← hkk.out]; exact hI, hb⟩
end Go.Proofs.Ytfamdckaljniiaa
