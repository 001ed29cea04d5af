/- Ite, Not, And, Or and Some, as they are called. -/
import Derived.Test.YtbffcnnfkfjpgaaSome06
namespace Go.Proofs.Ytbffcnnfkfjpgaa
open Go.RowKit Go.Joins

theorem Kep.drop {w w' : World} {bm mm : Nat} (h : Kep (MM bm mm) w w') (hm : w.heap.size ≤ mm) : Kep (· = bm) w w' :=
  ⟨h.os, h.tape, h.output, h.size, h.cells, fun k es cl hk hn => h.maps k es cl hk fun hM => hM.elim hn fun e => by have := size_of_block hk; omega⟩
theorem start_any {w : World} (bb : Nat) (S : St) :
    Calls Try.prog 39 #[.pointer (some ⟨bb, 0, none⟩)] w fun e w' => ∃ me mm : Nat, e = .returned (.pointer (some ⟨me, 0, none⟩)) ∧ MeAt w' me bb mm ∧ RemIs w' mm S 0 ∧ w.heap.size ≤ mm ∧ Below w.heap.size w w' := by
  have hmm := @run_makeMap Try.prog
  have hm := RemIs.made w S
  have hB := below_alloc2 w (.map #[] 0) (.cells #[.pointer (some ⟨bb, 0, none⟩), .map (some w.heap.size)] 91 (0, 0))
  have hm2 := hm.keep (w' := (w.alloc (.map #[] 0)).alloc (.cells #[.pointer (some ⟨bb, 0, none⟩), .map (some w.heap.size)] 91 (0, 0))) (Below.heap_alloc _ _ _ hm.lt)
  have hh := heap_alloc2_new w (.map #[] 0) (.cells #[.pointer (some ⟨bb, 0, none⟩), .map (some w.heap.size)] 91 (0, 0))
  have hA := Lib.hid hm2
  have hH := Lib.hid hh
  clear hm hm2 hh
  go_enter Try.func39, Try.ntmps39
  go_wp2
  go_ret
  exact ⟨_, _, rfl, hH.out, hA.out, Nat.le_refl _, hB⟩
set_option maxHeartbeats 1000000 in
theorem bite_any {w : World} {B bb ab bm : Nat} {ov v : Value} {room full : Nat} {S : St} {o : List Nat} (h : BdAt w B bb ab bm ov v room full S o) (f g k : Int) (hf : 0 ≤ lvl S f) (hg : 0 ≤ lvl S g) (hk : 0 ≤ lvl S k) :
    Calls Try.prog 14 #[.pointer (some ⟨bb, 0, none⟩), .int .i64 f, .int .i64 g, .int .i64 k] w
      (Made (· = bm) w B bb ab bm ov room o fun _ T id er => Out o.length o.length 0 room S (iteF S f g k) T id er) := by
  have hn := two_eight h.eight
  have hlow : B ≤ w.heap.size := by have := h.ar.lt; omega
  have hB0 := below_alloc1 w (.cells #[.int .i64 f, .int .i64 g, .int .i64 k] 3 (0, 0))
  have hU := uses_any (h.below hB0) w.heap.size 3 [f, g, k] (by simp) (fun j x hj => by
    match j, hj with
    | 0, hj => simp at hj; subst hj; rw [cell_of_block (heap_alloc_new _ _)]; rfl
    | 1, hj => simp at hj; subst hj; rw [cell_of_block (heap_alloc_new _ _)]; rfl
    | 2, hj => simp at hj; subst hj; rw [cell_of_block (heap_alloc_new _ _)]; rfl)
  have uf : usedB S f = true := decide_eq_true hf
  have ug : usedB S g = true := decide_eq_true hg
  have uk : usedB S k = true := decide_eq_true hk
  simp only [List.length_cons, List.length_nil, List.all_cons, List.all_nil, uf, ug, uk, Bool.and_true, Nat.zero_add] at hU
  have HS := fun w => start_any (w := w) bb S
  have hd0 := h.below hB0
  clear uf ug uk
  go_enter Try.func14, Try.ntmps14
  go_wp2_with fail
  refine hU.mono ?_
  rintro e w1 ⟨rfl, hb1⟩
  have hB1 := hB0.trans (hb1.mono hB0.size)
  have hd1 := hd0.below hb1
  clear hU hd0
  go_wp2_with fail
  refine (HS _).mono ?_
  rintro e w2 ⟨me, mm, rfl, hme, hr, hmm, hb2⟩
  have hB2 := hB1.trans (hb2.mono hB1.size)
  have hd2 := hd1.below hb2
  have hz1 := hB1.size
  have hbm := hd1.ar.lt
  have HI := ite_any o.length hd2 hme hr (by omega) (by omega) (by omega) 0 f g k (by omega) (by omega) (by omega) (by omega)
  clear HS
  go_wp2_with fail
  refine HI.mono ?_
  rintro e w3 ⟨v3, full3, T, id, er, rfl, hd3, hb3, hk3, hO3, hr3⟩
  clear HI
  go_wp2
  go_ret2
  exact ⟨v3, full3, T, id, er, rfl, hd3, (hB2.mono hlow).trans hb3, ((Kep.of_below hB2).trans hk3).drop (by omega), hO3⟩
theorem bnot_any {w : World} {B bb ab bm : Nat} {ov v : Value} {room full : Nat} {S : St} {o : List Nat} (h : BdAt w B bb ab bm ov v room full S o) (f : Int) (hf : 0 ≤ lvl S f) :
    Calls Try.prog 15 #[.pointer (some ⟨bb, 0, none⟩), .int .i64 f] w
      (Made (· = bm) w B bb ab bm ov room o fun _ T id er => Out o.length o.length 0 room S (iteF S f 0 1) T id er) := by
  have HI := bite_any h f 0 1 hf (by rw [lvl_end (.inl rfl)]; decide) (by rw [lvl_end (.inr rfl)]; decide)
  go_enter Try.func15, Try.ntmps15
  go_wp2_with fail
  refine HI.mono ?_
  rintro e w3 ⟨v3, full3, T, id, er, rfl, hd3, hb3, hk3, hO3⟩
  clear HI
  go_wp2
  go_ret2
  exact ⟨v3, full3, T, id, er, rfl, hd3, hb3, hk3, hO3⟩
theorem band_any {w : World} {B bb ab bm : Nat} {ov v : Value} {room full : Nat} {S : St} {o : List Nat} (h : BdAt w B bb ab bm ov v room full S o) (f g : Int) (hf : 0 ≤ lvl S f) (hg : 0 ≤ lvl S g) :
    Calls Try.prog 16 #[.pointer (some ⟨bb, 0, none⟩), .int .i64 f, .int .i64 g] w
      (Made (· = bm) w B bb ab bm ov room o fun _ T id er => Out o.length o.length 0 room S (iteF S f g 0) T id er) := by
  have HI := bite_any h f g 0 hf hg (by rw [lvl_end (.inl rfl)]; decide)
  go_enter Try.func16, Try.ntmps16
  go_wp2_with fail
  refine HI.mono ?_
  rintro e w3 ⟨v3, full3, T, id, er, rfl, hd3, hb3, hk3, hO3⟩
  clear HI
  go_wp2
  go_ret2
  exact ⟨v3, full3, T, id, er, rfl, hd3, hb3, hk3, hO3⟩
theorem bor_any {w : World} {B bb ab bm : Nat} {ov v : Value} {room full : Nat} {S : St} {o : List Nat} (h : BdAt w B bb ab bm ov v room full S o) (f g : Int) (hf : 0 ≤ lvl S f) (hg : 0 ≤ lvl S g) :
    Calls Try.prog 17 #[.pointer (some ⟨bb, 0, none⟩), .int .i64 f, .int .i64 g] w
      (Made (· = bm) w B bb ab bm ov room o fun _ T id er => Out o.length o.length 0 room S (iteF S f 1 g) T id er) := by
  have HI := bite_any h f 1 g hf (by rw [lvl_end (.inr rfl)]; decide) hg
  go_enter Try.func17, Try.ntmps17
  go_wp2_with fail
  refine HI.mono ?_
  rintro e w3 ⟨v3, full3, T, id, er, rfl, hd3, hb3, hk3, hO3⟩
  clear HI
  go_wp2
  go_ret2
  exact ⟨v3, full3, T, id, er, rfl, hd3, hb3, hk3, hO3⟩
/-- Where an input stands; none: -1. -/
def idxB (o : List Nat) (x : Int) : Int := match o.findIdx? (fun i : Nat => decide ((i : Int) = x)) with
  | some j => (j : Int)
  | none => -1
theorem idxB_some {o : List Nat} (ho : OrdOk o) {L i : Nat} (h : o[L]? = some i) : idxB o i = L := by
  have hl := (List.getElem?_eq_some_iff.1 h)
  unfold idxB
  cases hx : o.findIdx? (fun j => decide (((j : Nat) : Int) = (i : Int))) with
  | none =>
    rw [List.findIdx?_eq_none_iff] at hx
    have := hx i (List.mem_of_getElem? h)
    simp at this
  | some j =>
    obtain ⟨h1, h2, _⟩ := List.findIdx?_eq_some_iff_getElem.1 hx
    have e : o[j] = i := by have := of_decide_eq_true h2; omega
    rcases Nat.lt_trichotomy j L with hlt | he | hgt
    · exact absurd (e.trans hl.2.symm) ((List.pairwise_iff_getElem.1 (List.nodup_iff_pairwise_ne.1 ho.nodup)) j L h1 hl.1 hlt)
    · show ((j : Nat) : Int) = (L : Int); omega
    · exact absurd (hl.2.trans e.symm) ((List.pairwise_iff_getElem.1 (List.nodup_iff_pairwise_ne.1 ho.nodup)) L j hl.1 h1 hgt)
theorem idxB_none {o : List Nat} {x : Int} (h : ∀ i ∈ o, (i : Int) ≠ x) : idxB o x = -1 := by
  unfold idxB
  cases hx : o.findIdx? (fun j => decide (((j : Nat) : Int) = x)) with
  | none => rfl
  | some j =>
    obtain ⟨h1, h2, _⟩ := List.findIdx?_eq_some_iff_getElem.1 hx
    exact absurd (of_decide_eq_true h2) (h _ (List.getElem_mem h1))
theorem index_any {w : World} {B : Nat} {ov : Value} {o : List Nat} (hr : w.ownsRow B 3 1 ov o.length (intsV o)) (h8 : o.length ≤ 8) (x : Int) :
    Calls Try.prog 41 #[ov, .int .i64 x] w fun e w' => e = .returned (.int .i64 (idxB o x)) ∧ Below w.heap.size w w' := by
  obtain ⟨A, c, rfl⟩ := own_form hr
  go_enter Try.func41, Try.ntmps41
  go_wp2
  go_loopw [5, 8] (fun _ t wr => ∃ k : Nat, k ≤ o.length ∧ t = .int .i64 k ∧ Hid (∀ j i, j < k → o[j]? = some i → (i : Int) ≠ x) ∧ Below w.heap.size w wr) (fun _ t _ => o.length - (intOf t).toNat)
  case atStart => exact ⟨0, by omega, rfl, Lib.hid (fun j i hj => by omega), Below.refl _ _⟩
  case round =>
    obtain ⟨k, hk, rfl, hno, hb⟩ := hrel
    by_cases hlt : k < o.length
    · obtain ⟨i, hi⟩ : ∃ i, o[k]? = some i := ⟨_, List.getElem?_eq_getElem hlt⟩
      obtain ⟨g, c', e, q⟩ := row_at (owns_below hr hb) hi
      obtain rfl : A = some ⟨g, 0, none⟩ := by injection e
      by_cases hx : x = (i : Int)
      · have hR : Hid (idxB o x = k) := Lib.hid (by
          unfold idxB
          have : o.findIdx? (fun j => decide (((j : Nat) : Int) = x)) = some k := List.findIdx?_eq_some_iff_getElem.2 ⟨hlt, by
            have := (List.getElem?_eq_some_iff.1 hi).2
            exact decide_eq_true (by rw [this]; exact hx.symm), fun j hj => by
            have := hno.out j _ hj (List.getElem?_eq_getElem (by omega))
            simpa using this⟩
          rw [this])
        have hb1 : (x == (i : Int)) = true := by simp [hx]
        clear hx hi e
        go_wp2
        go_ret
        exact ⟨by rw [hR.out]; rfl, hb⟩
      · have hb1 : (x == (i : Int)) = false := by simpa using hx
        have hno' : Hid (∀ j i, j < k + 1 → o[j]? = some i → (i : Int) ≠ x) := Lib.hid (fun j i' hj hji => by
          by_cases e : j = k
          · subst e; rw [hi] at hji; injection hji with hji; omega
          · exact hno.out j i' (by omega) hji)
        clear hx hi e
        go_wp2
        go_roundw
        case rel => exact ⟨k + 1, by omega, by go_num, hno', hb⟩
        case measure => simp [intOf]; omega
    · have hR : Hid (idxB o x = -1) := Lib.hid (idxB_none fun i hi => by
        obtain ⟨j, hj, e⟩ := List.mem_iff_getElem.1 hi
        exact hno.out j i (by omega) (by rw [List.getElem?_eq_getElem hj, e]))
      go_wp2
      go_ret
      exact ⟨by rw [hR.out]; rfl, hb⟩
theorem bsome_no {w : World} {B bb ab bm : Nat} {ov v : Value} {room full : Nat} {S : St} {o : List Nat} (h : BdAt w B bb ab bm ov v room full S o) (f x : Int) (hf : 0 ≤ lvl S f) (hx : x < 0 ∨ (o.length : Int) ≤ x) :
    Calls Try.prog 18 #[.pointer (some ⟨bb, 0, none⟩), .int .i64 f, .int .i64 x] w fun e w' => e = .returned (.tuple #[.int .i64 0, .int .i64 1]) ∧ Below w.heap.size w w' := by
  have hB0 := below_alloc1 w (.cells #[.int .i64 f] 3 (0, 0))
  have hU := uses_any (h.below hB0) w.heap.size 1 [f] (by simp) (fun j x hj => by
    match j, hj with
    | 0, hj => simp at hj; subst hj; rw [cell_of_block (heap_alloc_new _ _)]; rfl)
  have uf : usedB S f = true := decide_eq_true hf
  simp only [List.length_cons, List.length_nil, List.all_cons, List.all_nil, uf, Bool.and_true, Nat.zero_add] at hU
  have hd0 := h.below hB0
  have hi : idxB o x = -1 := idxB_none fun i hi => by have := h.ord.lt i hi; omega
  clear uf hx
  go_enter Try.func18, Try.ntmps18
  go_wp2_with fail
  refine hU.mono ?_
  rintro e w1 ⟨rfl, hb1⟩
  have hB1 := hB0.trans (hb1.mono hB0.size)
  have hd1 := hd0.below hb1
  have HX := index_any hd1.row hd1.eight x
  rw [hi] at HX
  obtain ⟨c0, c1, -⟩ := now2 hd1.head rfl
  clear hU hd0 hi
  go_wp2_with fail
  refine HX.mono ?_
  rintro e w2 ⟨rfl, hb2⟩
  clear HX
  go_wp2
  go_ret2
  exact ⟨rfl, hB1.trans (hb2.mono hB1.size)⟩
set_option maxHeartbeats 1000000 in
theorem bsome_yes {w : World} {B bb ab bm : Nat} {ov v : Value} {room full : Nat} {S : St} {o : List Nat} (h : BdAt w B bb ab bm ov v room full S o) (f : Int) (hf : 0 ≤ lvl S f) {L i : Nat} (hL : o[L]? = some i) :
    Calls Try.prog 18 #[.pointer (some ⟨bb, 0, none⟩), .int .i64 f, .int .i64 i] w
      (Made (· = bm) w B bb ab bm ov room o fun _ T id er => Out o.length o.length 0 room S (someF S L f) T id er) := by
  have hn := two_eight h.eight
  have hLl := (List.getElem?_eq_some_iff.1 hL).1
  have hlow : B ≤ w.heap.size := by have := h.ar.lt; omega
  have hB0 := below_alloc1 w (.cells #[.int .i64 f] 3 (0, 0))
  have hU := uses_any (h.below hB0) w.heap.size 1 [f] (by simp) (fun j x hj => by
    match j, hj with
    | 0, hj => simp at hj; subst hj; rw [cell_of_block (heap_alloc_new _ _)]; rfl)
  have uf : usedB S f = true := decide_eq_true hf
  simp only [List.length_cons, List.length_nil, List.all_cons, List.all_nil, uf, Bool.and_true, Nat.zero_add] at hU
  have hd0 := h.below hB0
  have hi : idxB o i = L := idxB_some h.ord hL
  have HS := fun w => start_any (w := w) bb S
  have hLb : ¬ ((L : Int) < 0) := by omega
  clear uf hL
  go_enter Try.func18, Try.ntmps18
  go_wp2_with fail
  refine hU.mono ?_
  rintro e w1 ⟨rfl, hb1⟩
  have hB1 := hB0.trans (hb1.mono hB0.size)
  have hd1 := hd0.below hb1
  have HX := index_any hd1.row hd1.eight i
  rw [hi] at HX
  obtain ⟨c0, c1, -⟩ := now2 hd1.head rfl
  clear hU hd0 hi
  go_wp2_with fail
  refine HX.mono ?_
  rintro e w2 ⟨rfl, hb2⟩
  have hB2 := hB1.trans (hb2.mono hB1.size)
  have hd2 := hd1.below hb2
  clear HX c0 c1
  go_wp2_with fail
  refine (HS _).mono ?_
  rintro e w3 ⟨me, mm, rfl, hme, hr, hmm, hb3⟩
  have hB3 := hB2.trans (hb3.mono hB2.size)
  have hd3 := hd2.below hb3
  have hz2 := hB2.size
  have hbm := hd2.ar.lt
  have HI := some_any o.length hd3 hme hr (by omega) (by omega) (by omega) 0 L f hLl (by omega) (by omega)
  clear HS
  go_wp2_with fail
  refine HI.mono ?_
  rintro e w4 ⟨v4, full4, T, id, er, rfl, hd4, hb4, hk4, hO4, hr4⟩
  clear HI
  go_wp2
  go_ret2
  exact ⟨v4, full4, T, id, er, rfl, hd4, (hB3.mono hlow).trans hb4, ((Kep.of_below hB3).trans hk4).drop (by omega), hO4⟩
end Go.Proofs.Ytbffcnnfkfjpgaa
