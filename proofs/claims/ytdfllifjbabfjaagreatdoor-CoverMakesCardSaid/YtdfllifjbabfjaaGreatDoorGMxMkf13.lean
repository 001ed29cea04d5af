/- Make of the package cover, where a covering may be made. -/
import Derived.Test.YtdfllifjbabfjaaGreatDoorGM30
import Derived.StringKeys
namespace Go.Proofs.YtdfllifjbabfjaaGreatDoor
open Go.RowKit Go.Joins
open Go.Maps (has string_keyed)

theorem ptsE_len (rs : List Rw) (n o : Nat) : (ptsE rs n o).length = rs.length := by unfold ptsE; rw [List.length_map]
theorem hv_cols {rs : List Rw} {n o p : Nat} (hn : n ≤ 8) (hp : p < 2 ^ n) : hvN (ptsE rs n o) p (ptsE rs n o).length = colsN rs o p rs.length := by
  unfold hvN colsN
  rw [ptsE_len]
  refine List.filter_congr fun c hc => ?_
  rw [List.mem_range] at hc
  have e : (ptsE rs n o).getD c 0 = ptsR [rs[c]] n o := by
    unfold ptsE
    simp [List.getD, hc]
  rw [e]
  unfold ptsR
  rw [lowB_bit _ _ _ hn]
  unfold hitC covB
  rw [List.getElem?_eq_getElem hc]
  simp [hp]
theorem on_low {n : Nat} {on may : List (BitVec 256)} (hs : spB ⟨n, on, may⟩ = true) (hn : n ≤ 8) (hlen : on.length = may.length) {o : Nat} {X : BitVec 256} (hX : on[o]? = some X) {p : Nat} (hp : p ∈ pts X) : p < 2 ^ n := by
  have hlt := (List.getElem?_eq_some_iff.1 hX).1
  obtain ⟨h1, h2⟩ := sides_of hs hX (List.getElem?_eq_getElem (l := may) (i := o) (by omega))
  have hb : X.getLsbD p = true := by
    unfold pts at hp
    rw [List.mem_filter] at hp
    exact hp.2
  have hb2 : (may[o]'(by omega)).getLsbD p = true := by
    have := congrArg (fun Z : BitVec 256 => Z.getLsbD p) h1
    have hp8 : p < 256 := by unfold pts at hp; rw [List.mem_filter, List.mem_range] at hp; exact hp.1
    simp [hb, hp8] at this
    exact this
  have hb3 : (allB n).getLsbD p = true := by
    have := congrArg (fun Z : BitVec 256 => Z.getLsbD p) h2
    have hp8 : p < 256 := by unfold pts at hp; rw [List.mem_filter, List.mem_range] at hp; exact hp.1
    simp [hb2, hp8] at this
    exact this
  rw [allB_lowc n p hn] at hb3
  exact of_decide_eq_true hb3
theorem got_more {on : List (BitVec 256)} {rs : List Rw} {o i p : Nat} {X : BitVec 256} (hX : on[o]? = some X) (hp : (pts X)[i]? = some p) (x : List Int) : (x ∈ gotL on rs o i ∨ x = colsR rs o p) ↔ x ∈ gotL on rs o (i + 1) := by
  rw [got_point hX hp, List.mem_append, List.mem_singleton]
theorem SetsAt.apart {w w' : World} {B B' b : Nat} {v : Value} {Ss : List (BitVec 256)} (h : SetsAt w B v Ss) (hk : ∀ k, k < w.heap.size → k ≠ b → w'.heap[k]? = w.heap[k]?) (hb : ∀ o, w.cell? ⟨b, o, none⟩ = none) (hB : B ≤ B') : SetsAt w' B' v Ss := by
  obtain ⟨A, c, e, hl, h⟩ := h
  refine ⟨A, c, e, hl, fun h0 => ?_⟩
  obtain ⟨g, off, eA, hg, hc⟩ := h h0
  refine ⟨g, off, eA, Nat.lt_of_lt_of_le hg hB, fun j x hx => ?_⟩
  obtain ⟨h0, h1, h2, h3⟩ := hc j x hx
  have hne : g ≠ b := fun e => by rw [e, hb] at h0; cases h0
  have hsame := hk g (block_lt_of_cell h0) hne
  refine ⟨?_, ?_, ?_, ?_⟩
  · rw [World.cell?_of_block (w := w) (a := ⟨g, off + j * 4, none⟩) hsame]; exact h0
  · rw [World.cell?_of_block (w := w) (a := ⟨g, off + j * 4 + 1, none⟩) hsame]; exact h1
  · rw [World.cell?_of_block (w := w) (a := ⟨g, off + j * 4 + 2, none⟩) hsame]; exact h2
  · rw [World.cell?_of_block (w := w) (a := ⟨g, off + j * 4 + 3, none⟩) hsame]; exact h3
theorem own_intsG {w w0 : World} {n lo : Nat} {v : Value} {o : List Nat} (h : w.ownsRow w0.heap.size 3 1 v n (intsV o)) (hlo : lo ≤ w0.heap.size) : IntsN w (fun g => lo ≤ g ∧ g < w.heap.size) v (o.map fun c : Nat => (c : Int)) := by
  refine (own_int13 h).intsN fun b off m c e h0 hb => ⟨?_, hb⟩
  rcases h.2 with ⟨rfl, -⟩ | ⟨g, cap, cur, rfl, hg, -⟩
  · cases e
  · injection e with e
    injection e with e
    injection e with e
    omega
theorem cols_nat {rs : List Rw} {o p : Nat} (hl : rs.length ≤ 4000) : ∀ c, c ∈ colsR rs o p → 0 ≤ c ∧ c < 4000 := by
  intro c hc
  unfold colsR colsN at hc
  obtain ⟨k, hk, rfl⟩ := List.mem_map.1 hc
  rw [List.mem_filter, List.mem_range] at hk
  omega
theorem cols_len13 (rs : List Rw) (o p : Nat) : (colsR rs o p).length ≤ rs.length := by
  unfold colsR
  rw [List.length_map]
  exact colsN_len rs o p rs.length
set_option maxHeartbeats 8000000 in
set_option maxRecDepth 100000 in
theorem make13_good (n : Nat) (A C L : Value) (on may : List (BitVec 256)) (rs : List Rw) (w : World) (hT : TabW w) (hA : SetsAt w w.heap.size A on) (hC : SetsAt w w.heap.size C may) (hL : RwsAt w w.heap.size L rs) (hS : spB ⟨n, on, may⟩ = true) (hn : n ≤ 8) (h4 : on.length ≤ 4)
    (hlen : on.length = may.length) (hr : (rs.all fun x => rightB x.m x.v n) = true) (hl : rs.length ≤ 4000) :
    Calls Tryz.prog 7 #[spv n A C, L] w fun e w' => ∃ v K, e = .returned (.tuple #[.agg #[.int .i64 rs.length, v], .int .i64 0]) ∧ MatAt w' w'.heap.size v K ∧ K.Pairwise (fun a b => aheadL a b = true) ∧ (∀ x, x ∈ K ↔ x ∈ gotL on rs on.length 0) ∧ Below w.heap.size w w' := by
  have hB0 := below_alloc2 w (spb n A C) mtZ
  have hs0 := heap_alloc2_old w (spb n A C) mtZ
  have hm0 := heap_alloc2_new w (spb n A C) mtZ
  have hmf : ∀ (fn : Fn) (first cap : Array Value) (w : World), (Instr.makeFunc fn first cap).run Tryz.prog w = .ok (.func fn first cap) w := fun _ _ _ _ => rfl
  have hmm := @run_makeMap Tryz.prog
  have HR := sright_any n A C on may _ ((hA.below hB0).more hB0.size) ((hC.below hB0).more hB0.size)
  rw [hS] at HR
  have HC := fun w1 (hb : Below w.heap.size w w1) (hs : w1.heap[w.heap.size]? = some (spb n A C)) => crows13_any L rs w.heap.size n A C w1 ((hL.below hb).more hb.size) hs
  rw [hr] at HC
  have HE := fun o (ho : o < 4) w1 (hb : Below w.heap.size w w1) => each13_any w1 L rs n o ((hL.below hb).more hb.size) hn ho hr (by omega)
  have HL := fun X w1 => list_any X w1
  have HH := fun o p (hp : p < 2 ^ n) w1 u (hu : SetsAt w1 w1.heap.size u (ptsE rs n o)) => having13_any w1 u (ptsE rs n o) p (Nat.lt_of_lt_of_le hp (Nat.le_trans (Nat.pow_le_pow_right (by decide) hn) (by decide : (2 : Nat) ^ 8 ≤ 256))) hu (by rw [ptsE_len]; omega)
  have hcols := Lib.hid (fun o p (hp : p < 2 ^ n) => hv_cols (rs := rs) (o := o) hn hp)
  have hlow := Lib.hid (fun o X (hX : on[o]? = some X) p (hp : p ∈ pts X) => on_low hS hn hlen hX hp)
  have hgot := Lib.hid (fun o i p X (hX : on[o]? = some X) (hp : (pts X)[i]? = some p) => got_more (rs := rs) hX hp)
  have hnext := Lib.hid (fun o X (hX : on[o]? = some X) => got_next (rs := rs) hX)
  have hg0 : Hid (∀ x, False ↔ x ∈ gotL on rs 0 0) := Lib.hid (fun x => by simp [gotL])
  have hd : decide ((4000 : Int) < (rs.length : Int)) = false := decide_eq_false (by omega)
  have hnat := Lib.hid (fun o p => cols_nat (rs := rs) (o := o) (p := p) hl)
  have hclen := Lib.hid (fun o p => cols_len13 rs o p)
  have hAA := hA
  obtain ⟨A1, c1, rfl, hlA, hcA⟩ := hA
  obtain ⟨A2, c2, rfl, -, -⟩ := hC
  obtain ⟨A3, c3, rfl, -, -⟩ := hL
  clear hS hr hlen
  unfold spv spb mtZ at *
  go_enter Tryz.func7, Tryz.ntmps7
  go_wp2_with fail
  refine HR.mono ?_
  rintro e w1 ⟨rfl, hb1⟩
  have hB1 := hB0.trans (hb1.mono hB0.size)
  have hs1 := keep_blk hb1 hs0
  have hm1 := keep_blk hb1 hm0
  have hC1 := HC w1 hB1 hs1
  clear HR hb1 hs0 hm0 hB0 HC
  go_wp2_with fail
  refine hC1.mono ?_
  rintro e w2 ⟨rfl, hb2⟩
  have hB2 := hB1.trans (hb2.mono hB1.size)
  have hs2 := keep_blk hb2 hs1
  have hm2 := keep_blk hb2 hm1
  have hmb := size_of_block hm2
  clear hC1 hb2 hs1 hm1 hB1
  have hM3 : MapW (w2.alloc (.map #[] 0)) (w.heap.size + 2) w2.heap.size 0 (fun x => x ∈ gotL on rs 0 0) := (MapW.made w2 _).of hg0.out
  have hB3 := hB2.alloc hB2.size (.map #[] 0)
  have hs3 := keep_alloc (x := .map #[] 0) hs2
  have hm3 := keep_alloc (x := .map #[] 0) hm2
  obtain ⟨s0, s1, s2, -⟩ := now3 hs3 rfl
  clear hs2 hm2 hB2
  go_wp2
  go_loopw [7, 8, 9, 10, 12, 13, 31] (fun _ _ _ _ _ _ t wr => ∃ o nn : Nat, o ≤ on.length ∧ t = .int .i64 o ∧ nn ≤ o * 256 ∧ MapW wr (w.heap.size + 2) w2.heap.size nn (fun x => x ∈ gotL on rs o 0) ∧
    wr.heap[w.heap.size]? = some (.cells #[.int .i64 n, .slice A1 on.length c1, .slice A2 may.length c2] 24 (0, 0)) ∧ wr.heap[w.heap.size + 1]? = some (.cells #[.int .i64 0, .slice none 0 0] 30 (0, 0)) ∧ Below w.heap.size w wr) (fun _ _ _ _ _ _ t _ => on.length - (intOf t).toNat)
  case atStart => exact ⟨0, 0, by omega, rfl, by omega, hM3, hs3, hm3, hB3⟩
  case round =>
    clear hM3 hs3 hm3 hB3 s0 s1 s2
    obtain ⟨o, nn, ho, rfl, hnn, hM, hs, hm, hb⟩ := hrel
    by_cases hlt : o < on.length
    · have hAA1 := (hAA.below hb).more hb.size
      obtain ⟨A9, c9, e9, -, hc9⟩ := hAA
      injection e9 with e9 eN e9c
      clear eN
      subst e9
      subst e9c
      obtain ⟨b, off, rfl, hB, hc⟩ := hc9 (by omega)
      obtain ⟨X, hX⟩ : ∃ X, on[o]? = some X := ⟨_, List.getElem?_eq_getElem hlt⟩
      obtain ⟨x0, x1, x2, x3⟩ := hc o X hX
      have d0 := (hb.cell (p := ⟨b, off + o * 4, none⟩) hB).trans x0
      have d1 := (hb.cell (p := ⟨b, off + o * 4 + 1, none⟩) hB).trans x1
      have d2 := (hb.cell (p := ⟨b, off + o * 4 + 2, none⟩) hB).trans x2
      have d3 := (hb.cell (p := ⟨b, off + o * 4 + 3, none⟩) hB).trans x3
      have hXH := Lib.hid hX
      have hbp := hb.alloc hb.size (.cells #[wv (wd X 0), wv (wd X 1), wv (wd X 2), wv (wd X 3)] 50 (0, 0))
      have hba := below_alloc1 wr (.cells #[wv (wd X 0), wv (wd X 1), wv (wd X 2), wv (wd X 3)] 50 (0, 0))
      have hx4 := heap_alloc_new wr (.cells #[wv (wd X 0), wv (wd X 1), wv (wd X 2), wv (wd X 3)] 50 (0, 0))
      have hs4 := keep_blk hba hs
      have hm4 := keep_blk hba hm
      have hM4 := hM.below hba
      have HE1 := HE o (by omega) _ hbp
      obtain ⟨s0, s1, s2, -⟩ := now3 hs4 rfl
      clear hc hc9 hcA hX x0 x1 x2 x3 HE hM hs hm hb hba hAA1
      unfold wv at *
      go_wp2_with fail
      refine HE1.mono ?_
      rintro e w5 ⟨u, rfl, hu5, hb5⟩
      have hB5 := hbp.trans (hb5.mono hbp.size)
      have hx5 := keep_blk hb5 hx4
      have hs5 := keep_blk hb5 hs4
      have hm5 := keep_blk hb5 hm4
      have hM5 := hM4.below hb5
      obtain ⟨y0, y1, y2, y3, -⟩ := now4 hx5 rfl
      have HL1 := HL X w5
      obtain ⟨Au, cu, rfl, -, -⟩ := id hu5
      unfold sv wv at HL1
      clear hx4 hs4 hm4 hM4 HE1 hbp s0 s1 s2 d0 d1 d2 d3 hb5
      go_wp2_with fail
      refine HL1.mono ?_
      rintro e w6 ⟨v, rfl, hown, hb6⟩
      have hB6 := hB5.trans (hb6.mono hB5.size)
      have hs6 := keep_blk hb6 hs5
      have hm6 := keep_blk hb6 hm5
      have hM6 := hM5.below hb6
      have hu6 := (hu5.below hb6).more hb6.size
      have hI6 := own_int13 hown
      obtain ⟨Av, cv, rfl⟩ := own_form hown
      have hpl := pts_len13 X
      clear hx5 hs5 hm5 hM5 hu5 HL1 hB5 y0 y1 y2 y3 hb6 hown
      go_wp2
      go_loopw [12, 13, 51] (fun _ _ t wj => ∃ j mm : Nat, j ≤ (pts X).length ∧ t = .int .i64 j ∧ mm ≤ o * 256 + j ∧ MapW wj (w.heap.size + 2) w2.heap.size mm (fun x => x ∈ gotL on rs o j) ∧
        SetsAt wj wj.heap.size (.slice Au (ptsE rs n o).length cu) (ptsE rs n o) ∧ IntsAt wj wj.heap.size (.slice Av (pts X).length cv) ((pts X).map fun c : Nat => (c : Int)) ∧
        wj.heap[w.heap.size]? = some (.cells #[.int .i64 n, .slice (some ⟨b, off, none⟩) on.length c1, .slice A2 may.length c2] 24 (0, 0)) ∧ wj.heap[w.heap.size + 1]? = some (.cells #[.int .i64 0, .slice none 0 0] 30 (0, 0)) ∧ Below w.heap.size w wj) (fun _ _ t _ => (pts X).length - (intOf t).toNat)
      case atStart => exact ⟨0, nn, by omega, rfl, by omega, hM6, hu6, hI6, hs6, hm6, hB6⟩
      case round =>
        clear hM6 hu6 hI6 hs6 hm6 hB6
        obtain ⟨j, mm, hj, rfl, hmm', hM, hu, hI, hs, hm, hb⟩ := hrel
        by_cases hjl : j < (pts X).length
        · obtain ⟨p, hp⟩ : ∃ p, (pts X)[j]? = some p := ⟨_, List.getElem?_eq_getElem hjl⟩
          obtain ⟨A8, c8, e8, -, hc8⟩ := id hI
          injection e8 with e8 eN e8c
          clear eN
          subst e8
          subst e8c
          obtain ⟨bp, offp, rfl, hBp, hcp⟩ := hc8 (by rw [List.length_map]; omega)
          have dp := hcp j p (by rw [List.getElem?_map, hp]; rfl)
          have hp2 := hlow.out o X hXH.out p (List.mem_of_getElem? hp)
          have H1 := HH o p hp2 wr _ hu
          have hgt := Lib.hid (hgot.out o j p X hXH.out hp)
          have hcl := Lib.hid (hcols.out o p hp2)
          have hnt := Lib.hid (hnat.out o p)
          have hcn := hclen.out o p
          have hmb2 := size_of_block hm
          have j0 : (0 : Int) ≤ (j : Int) := by omega
          have j1 : (j : Int) < ((pts X).length : Int) := by omega
          have j2 : decide (j < (pts X).length) = true := decide_eq_true hjl
          clear hcp hc8 hp
          go_wp2_with fail
          refine H1.mono ?_
          rintro e w8 ⟨u8, rfl, hown8, hb8⟩
          rw [hcl.out] at hown8
          have hB8 := hb.trans (hb8.mono hb.size)
          have hIr : IntsN w8 (fun g => w.heap.size + 2 ≤ g ∧ g < w8.heap.size) u8 (colsR rs o p) := own_intsG hown8 (by omega)
          have H2 := text13_any w8 (hT.below hB8) u8 (colsR rs o p) (hIr.ints (fun g h => h.2)) (by omega) (fun x hx => by have := hnt.out x hx; omega)
          have htl := textW_len (colsR rs o p) (fun x hx => by have := hnt.out x hx; omega)
          have hM8 := hM.below hb8
          have hu8 := (hu.below hb8).more hb8.size
          have hI8 := (hI.below hb8).more hb8.size
          have hs8 := keep_blk hb8 hs
          have hm8 := keep_blk hb8 hm
          obtain ⟨Ar, cr, rfl, -, -⟩ := id hIr
          clear H1 hown8 hcl hM hu hI hs hm hb dp
          go_wp2_with fail
          refine H2.mono ?_
          rintro e w9 ⟨rfl, hb9⟩
          have hB9 := hB8.trans (hb9.mono hB8.size)
          have hM9 := hM8.below hb9
          have hu9 := (hu8.below hb9).more hb9.size
          have hI9 := (hI8.below hb9).more hb9.size
          have hs9 := keep_blk hb9 hs8
          have hm9 := keep_blk hb9 hm8
          have hIr9 : IntsN w9 (fun g => w.heap.size + 2 ≤ g ∧ g < w9.heap.size) (encW ⟨Ar, (colsR rs o p).length, cr⟩) (colsR rs o p) := hIr.keep (fun g h => hb9.block g h.2) (fun g h => ⟨h.1, Nat.lt_of_lt_of_le h.2 hb9.size⟩)
          clear H2 hM8 hu8 hI8 hs8 hm8 hIr hB8 hb8 hb9
          obtain ⟨D, ho9, hk9, hv9⟩ := hM9
          have hkey : keyOf Tryz.prog 9 (.string ⟨(textW (colsR rs o p)).toArray⟩) = some (.string (textW (colsR rs o p))) := Go.WideMaps.keyOf_string_mk (s := ⟨(textW (colsR rs o p)).toArray⟩) Tryz.underlying9 (by show (textW (colsR rs o p)).toArray.size ≤ maxLen; rw [List.size_toArray]; unfold maxLen; omega)
          generalize hTX : textW (colsR rs o p) = TX at *
          go_wp2_with (at_mapUpdate; refine wpList_mapUpdate_own _ rfl _ _ _ 54 rfl 9 45 (string_keyed Tryz.underlying9) Tryz.underlying54 slW w2.heap.size _ D rfl ho9 (by unfold maxLen; omega) _ _ _ rfl rfl hkey (.held (encW ⟨Ar, (colsR rs o p).length, cr⟩)) [] rfl ?_)
          intro w10 hown10 hg10
          rw [← hTX] at hown10
          have hM10 := (MapW.put ho9 hk9 hv9 (fun c hc => (hnt.out c hc).1) hIr9 hown10 hg10).of hgt.out
          have hne : ∀ q, w9.cell? ⟨w2.heap.size, q, none⟩ = none := fun q => by
            obtain ⟨es, clock, h1, -⟩ := ho9
            simp [World.cell?, h1]
          have hkk : ∀ k, k < w9.heap.size → k ≠ w2.heap.size → w10.heap[k]? = w9.heap[k]? := fun k hk hn => hg10.block k hk (fun e => hn (by injection e))
          have hu10 := hu9.apart hkk hne hg10.size
          have hI10 := hI9.apart hkk hne hg10.size
          have hs10 := (hkk w.heap.size (size_of_block hs9) (by omega)).trans hs9
          have hm10 := (hkk (w.heap.size + 1) (size_of_block hm9) (by omega)).trans hm9
          have hB10 := hB9.grown hg10 hB9.size (fun k e => by injection e with e; omega)
          clear ho9 hk9 hv9 hIr9 hown10 hg10 hne hkk hu9 hI9 hs9 hm9 hB9 hTX hkey htl hgt hnt
          go_wp2
          go_roundw
          case rel => exact ⟨j + 1, mm + 1, by omega, by go_num, by omega, hM10, hu10, hI10, hs10, hm10, hB10⟩
          case measure => simp [intOf]; omega
        · have e : j = (pts X).length := by omega
          subst e
          rw [hnext.out o X hXH.out] at hM
          clear hu hI hcols hlow hgot HH HL
          go_wp2
          go_roundw
          case rel => exact ⟨o + 1, mm, by omega, by go_num, by omega, hM, hs, hm, hb⟩
          case measure => simp [intOf]; omega
    · have e : o = on.length := by omega
      subst e
      have hO := ordered13_any wr (w.heap.size + 2) w2.heap.size nn _ (by have := size_of_block hm; omega) hM (by omega)
      clear HE HL HH hcols hlow hgot hnext hg0 hnat hclen hAA hcA hM
      go_wp2_with fail
      refine hO.mono ?_
      rintro e w3 ⟨v, K, rfl, hMK, hpw, hmem, hb3⟩
      have hB4 := hb.trans (hb3.mono hb.size)
      have hm4 := keep_blk hb3 hm
      obtain ⟨m0, m1, mf⟩ := now2 hm4 rfl
      obtain ⟨AK, cK, rfl, -, -⟩ := id hMK
      clear hO hb3 hs hm
      go_wp2
      have hm5 := put2 (x0 := .int .i64 rs.length) (x1 := .slice AK K.length cK) hm4
      obtain ⟨m0, m1, mf⟩ := now2 hm5 rfl
      have hk5 : ∀ b, w.heap.size + 2 ≤ b → ((w3.setCell ⟨w.heap.size + 1, 0, none⟩ (.int .i64 rs.length)).setCell ⟨w.heap.size + 1, 1, none⟩ (.slice AK K.length cK)).heap[b]? = w3.heap[b]? := fun b hb => by
        rw [Below.heap_setCell _ _ _ _ (by show b ≠ w.heap.size + 1; omega), Below.heap_setCell _ _ _ _ (by show b ≠ w.heap.size + 1; omega)]
      exact bodyPost_ret (v := .tuple #[.agg #[.int .i64 rs.length, .slice AK K.length cK], .int .i64 0]) (by simp [results, Tryz.results7, go_sem, m0, m1]) rfl
        ⟨_, K, rfl, (hMK.keep (fun b h1 _ => hk5 b h1) (by simp)).mat, hpw, hmem, below2 (by omega) hB4⟩
theorem cmakegood13 : MakeGood := by
  intro i A C L on may rs w hA hC hL hn hT
  unfold mayE at hn
  split at hn
  · rename_i h
    rw [Bool.and_eq_true] at h
    have hh := h.1
    unfold spB at hh
    rw [Bool.and_eq_true] at hh
    have h3 := (headS_iff _).1 hh.1
    simp only at h3
    split at hn
    · omega
    · obtain ⟨n, rfl⟩ : ∃ n : Nat, i = n := ⟨i.toNat, by omega⟩
      exact make13_good n A C L on may rs w hT hA hC hL h.1 (by omega) (by omega) h3.2.2 h.2 (by omega)
  · omega
end Go.Proofs.YtdfllifjbabfjaaGreatDoor
