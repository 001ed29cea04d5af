/- A list with an input moved: isOrder, moved and Move of package order, over the library's Clone, DeleteFunc, Insert and Contains. -/
import Derived.Test.YtfamdckaljniiaaMvl07
import Derived.Test.YtfamdckaljniiaaKnw06
import Derived.Test.YtfamdckaljniiaaShelf
namespace Go.Proofs.Ytfamdckaljniiaa
open Go.RowKit Go.Joins

theorem below_putRow {B blk : Nat} (hb : B ≤ blk) (w : World) (n off : Nat) (d : Array Int) : Below B w (Go.Sort.putRow (Value.int .i64) (Go.Sort.ahead w n) blk off d) :=
  ⟨rfl, rfl, rfl, by rw [Go.Sort.size_putRow]; exact Nat.le_refl _, fun k hk => by
    show (w.heap.modify blk (Go.Sort.onCells _))[k]? = w.heap[k]?
    rw [Array.getElem?_modify, if_neg (by omega)]⟩
theorem below_cells {B b : Nat} {a : World} (hb : B ≤ b) : ∀ (vs : List Value) (o : Nat) (w : World), Below B a w → Below B a (w.setCells b o vs)
  | [], _, _, h => h
  | v :: r, o, w, h => by
    rw [World.setCells]
    exact below_cells hb r (o + 1) _ (h.setCell hb _)
theorem movedf_any (x y : Int) (bx : Nat) (W : World) (hc : W.cell? ⟨bx, 0, none⟩ = some (.int .i64 x)) :
    FnGives Try.prog 42 #[.pointer (some ⟨bx, 0, none⟩)] #[.int .i64 y] (.bool (y == x)) W := by
  show Calls Try.prog 42 #[.int .i64 y, .pointer (some ⟨bx, 0, none⟩)] W _
  go_enter Try.func42, Try.ntmps42
  go_wp2
  go_ret
  exact ⟨rfl, 0, rfl⟩
theorem ofN_get {o : List Nat} {j : Nat} {y : Int} (h : (ofN o)[j]? = some y) : ∃ i : Nat, y = i ∧ o[j]? = some i := by
  unfold ofN at h
  rw [List.getElem?_map] at h
  obtain ⟨i, hi, rfl⟩ := Option.map_eq_some_iff.1 h
  exact ⟨i, rfl, hi⟩
/-- DeleteFunc of what the call owns: x is struck. -/
theorem delf_any (o : List Nat) (x g cap bx : Nat) (cur : Array Value) (w : World) (hbx : w.cell? ⟨bx, 0, none⟩ = some (.int .i64 x)) (hne : bx ≠ g) (hg : w.heap[g]? = some (.cells cur 3 (0, 0))) (hn : o.length ≤ cap) (hcap : cap ≤ 9223372036854775807)
    (hcur : cur.toList.take o.length = intsV o) :
    Calls Try.prog 41 #[.slice (some ⟨g, 0, none⟩) o.length cap, .func (.func 42) #[] #[.pointer (some ⟨bx, 0, none⟩)]] w fun e w' =>
      e = .returned (.slice (some ⟨g, 0, none⟩) (lessL o x).length cap) ∧ (∀ j y : Nat, (lessL o x)[j]? = some y → w'.cell? ⟨g, j, none⟩ = some (.int .i64 y)) ∧
      (∀ j, j < o.length → (w'.cell? ⟨g, j, none⟩).isSome = true ∧ w'.frozen? ⟨g, j, none⟩ = false) ∧ (∀ B, B ≤ g → Below B w w') ∧ w'.cell? ⟨bx, 0, none⟩ = some (.int .i64 x) := by
  have hgl := size_of_block hg
  have hcell : ∀ j (y : Int), (ofN o)[j]? = some y → w.cell? ⟨g, j, none⟩ = some (.int .i64 y) := fun j y hj => by
    rw [cell_of_block hg]
    have hjl := (List.getElem?_eq_some_iff.1 hj).1
    rw [ofN_len] at hjl
    have h1 : (cur.toList.take o.length)[j]? = some (.int .i64 y) := by rw [hcur, intsV_of, List.getElem?_map, hj]; rfl
    rw [List.getElem?_take, if_pos hjl] at h1
    simpa using h1
  have hsz : (ofN o).toArray.size = o.length := by rw [List.size_toArray, ofN_len]
  have hH : Go.Sort.Holds (Value.int .i64) w g 0 (ofN o).toArray := fun j hj => by
    refine ⟨?_, unfrozen_of_block hg _⟩
    rw [Nat.zero_add]
    refine hcell j _ ?_
    rw [getElem!_pos _ j hj]
    simp
  have eg : ∀ args w, (callFunc 42 args).run Try.prog w = .ok (.enter 42 args) w := enters_of Try.func42 (by kernel_rfl) rfl
  have hbl := block_lt_of_cell hbx
  have h := Try.slices_DeleteFunc (Value.int .i64) (fun _ => rfl) (fun y => y == (x : Int)) 42 #[.pointer (some ⟨bx, 0, none⟩)] eg 0 Try.zeroValue3 g 0 cap (ofN o).toArray w
    (fun W y hb => movedf_any x y bx W ((hb.cell (p := ⟨bx, 0, none⟩) hbl).trans hbx))
    (fun n os dk y _ => movedf_any x y bx _ (by
      unfold sortWorld
      rw [Go.Sort.cell?_grow _ _ _ (by show bx < (Go.Sort.putRow _ _ _ _ _).heap.size; rw [Go.Sort.size_putRow]; exact hbl), Go.Sort.cell?_putRow_other _ _ g 0 _ _ (Or.inl hne)]
      exact hbx)) hH (by omega) (by omega)
  rw [hsz, show ((ofN o).toArray.toList.filter fun y => !(y == (x : Int))) = ofN (lessL o x) from by rw [ofN_less]; rfl, ofN_len] at h
  have hle : (lessL o x).length ≤ o.length := List.length_filter_le _ _
  refine h.mono ?_
  rintro e w' ⟨rfl, q, rfl⟩
  have hDs : (ofN (lessL o x) ++ List.replicate (o.length - (lessL o x).length) (0 : Int)).toArray.size = (ofN o).toArray.size := by
    rw [hsz, List.size_toArray, List.length_append, ofN_len, List.length_replicate]; omega
  have hK := Go.Sort.holds_putRow (Value.int .i64) (Go.Sort.ahead w q) g 0 _ _ hH hDs
  refine ⟨rfl, fun j y hj => ?_, fun j hj => ?_, fun B hB => below_putRow hB _ _ _ _, ?_⟩
  · have hjl := (List.getElem?_eq_some_iff.1 hj).1
    have h1 := (hK j (by rw [hDs, hsz]; omega)).1
    rw [Nat.zero_add] at h1
    rw [h1, getElem!_pos _ j (by rw [hDs, hsz]; omega)]
    congr 2
    rw [List.getElem_toArray, List.getElem_append_left (by rw [ofN_len]; exact hjl)]
    unfold ofN
    rw [List.getElem_map, (List.getElem?_eq_some_iff.1 hj).2]
  · obtain ⟨h1, h2⟩ := hK j (by rw [hDs, hsz]; exact hj)
    rw [Nat.zero_add] at h1 h2
    exact ⟨by rw [h1]; rfl, h2⟩
  · rw [Go.Sort.cell?_putRow_other _ _ g 0 _ _ (Or.inl hne)]
    exact hbx
/-- Insert into what the call owns, where there is room for one more. -/
theorem insf_any (r : List Nat) (x k g cap vb : Nat) (w : World) (hk : k ≤ r.length) (hcap : r.length + 1 ≤ cap) (hc63 : cap ≤ 9223372036854775807) (hvb : vb ≠ g) (hv : w.heap[vb]? = some (.cells #[.int .i64 x] 3 (0, 0)))
    (hcs : ∀ j y : Nat, r[j]? = some y → w.cell? ⟨g, j, none⟩ = some (.int .i64 y)) (hsp : ∀ j, j < r.length + 1 → (w.cell? ⟨g, j, none⟩).isSome = true ∧ w.frozen? ⟨g, j, none⟩ = false) :
    Calls Try.prog 43 #[.slice (some ⟨g, 0, none⟩) r.length cap, .int .i64 k, .slice (some ⟨vb, 0, none⟩) 1 1] w fun e w' =>
      e = .returned (.slice (some ⟨g, 0, none⟩) (r.length + 1) cap) ∧ (∀ j y : Nat, (r.take k ++ x :: r.drop k)[j]? = some y → w'.cell? ⟨g, j, none⟩ = some (.int .i64 y)) ∧ (∀ B, B ≤ g → Below B w w') := by
  have hvs : ∀ j v, [Value.int .i64 x][j]? = some v → w.cell? ⟨vb, 0 + j, none⟩ = some v := fun j v hj => by
    rw [Nat.zero_add, cell_of_block hv]
    match j, hj with
    | 0, hj => exact hj
  have h1v : ∀ v ∈ [Value.int .i64 (x : Int)], v.oneCell' = true := fun v hm => by
    rw [List.mem_singleton.1 hm]; rfl
  have hlen : (intsV r).length = r.length := by unfold intsV; simp
  have hiv : ∀ j, (intsV r)[j]? = (r[j]?).map fun y : Nat => Value.int .i64 y := fun j => by unfold intsV; rw [List.getElem?_map]
  by_cases hlt : k < r.length
  · obtain ⟨tB, kB, hsB, hkB, -⟩ := World.shape?_of_cell? (Option.isSome_iff_exists.1 (hsp 0 (by omega)).1).choose_spec
    have hsa : w.shape? vb = some (3, 1) := by unfold World.shape?; rw [hv]; rfl
    have h : Calls Try.prog 43 #[.slice (some ⟨g, 0, none⟩) r.length cap, .int .i64 k, .slice (some ⟨vb, 0, none⟩) 1 1] w _ := Any2.slices_Insert_int_shift Try.laysNm221 g 0 r.length cap k vb 0 1 1 (intsV r) [.int .i64 x] w hlt (by decide) (by omega) hc63 hvb hlen rfl
      (fun j v hj => by
        rw [hiv] at hj
        obtain ⟨y, hy, rfl⟩ := Option.map_eq_some_iff.1 hj
        rw [Nat.zero_add]; exact hcs j y hy)
      (fun j hj => by rw [Nat.zero_add]; exact (hsp j hj).1) (fun j hj => by rw [Nat.zero_add]; exact (hsp j hj).2) hvs
      (fun v hm => by unfold intsV at hm; obtain ⟨y, _, rfl⟩ := List.mem_map.1 hm; rfl) h1v 3 tB 1 kB hsa hsB (by omega) (unfrozen_of_block hv 0) (unfrozen_of_block hv 1)
    refine h.mono ?_
    rintro e w' ⟨rfl, rfl⟩
    have hdl : ((intsV r).drop k).length = r.length - k := by rw [List.length_drop, hlen]
    have hin0 : ∀ j, j < ((intsV r).drop k).length → (w.drew.cell? ⟨g, 0 + (k + 1) + j, none⟩).isSome = true := fun j hj => by
      rw [hdl] at hj
      exact (hsp (0 + (k + 1) + j) (by omega)).1
    refine ⟨rfl, fun j y hj => ?_, fun B hB => below_cells hB _ _ _ (below_cells hB _ _ _ (Below.refl B w).drew)⟩
    rw [ins_get r x hk] at hj
    by_cases h1 : j < k
    · rw [if_pos h1] at hj
      rw [World.cell?_setCells_out g _ _ _ ⟨g, j, none⟩ (fun _ _ => .inl (by show j < 0 + k; omega)), World.cell?_setCells_out g _ _ _ ⟨g, j, none⟩ (fun _ _ => .inl (by show j < 0 + (k + 1); omega))]
      exact hcs j y hj
    · rw [if_neg h1] at hj
      by_cases h2 : j = k
      · rw [if_pos h2] at hj
        injection hj with hj
        subst hj
        have := World.cell?_setCells_in g [Value.int .i64 (x : Int)] (0 + k) (w.drew.setCells g (0 + (k + 1)) ((intsV r).drop k)) (fun i hi => by
          obtain rfl : i = 0 := by simpa using hi
          exact Go.Proofs.isSome_setCells g _ _ _ hin0 _ (hsp (0 + k + 0) (by omega)).1) 0 (Nat.zero_lt_succ 0)
        rw [show (⟨g, j, none⟩ : Addr) = ⟨g, 0 + k + 0, none⟩ from by rw [h2]; simp]
        exact this
      · rw [if_neg h2] at hj
        rw [World.cell?_setCells_out g _ _ _ ⟨g, j, none⟩ (fun _ _ => .inr (by show 0 + k + 1 ≤ j; omega))]
        have hjl := (List.getElem?_eq_some_iff.1 hj).1
        have := World.cell?_setCells_in g ((intsV r).drop k) (0 + (k + 1)) w.drew hin0 (j - (k + 1)) (by rw [hdl]; omega)
        rw [show (⟨g, j, none⟩ : Addr) = ⟨g, 0 + (k + 1) + (j - (k + 1)), none⟩ from by congr 1; omega, this, ← List.getElem?_eq_getElem, List.getElem?_drop, hiv, show k + (j - (k + 1)) = j - 1 by omega, hj]
        rfl
  · obtain rfl : k = r.length := by omega
    have h : Calls Try.prog 43 #[.slice (some ⟨g, 0, none⟩) r.length cap, .int .i64 r.length, .slice (some ⟨vb, 0, none⟩) 1 1] w _ := Any2.slices_Insert_int_end_room Try.laysNm221 g 0 r.length cap vb 0 1 1 [.int .i64 x] w (by decide) hcap hc63 rfl
      (fun j hj => (hsp (0 + r.length + j) (by omega)).1) (fun j hj => (hsp (0 + r.length + j) (by omega)).2) hvs h1v
    refine h.mono ?_
    rintro e w' ⟨rfl, rfl⟩
    refine ⟨rfl, fun j y hj => ?_, fun B hB => below_cells hB _ _ _ (Below.refl B w)⟩
    rw [ins_get r x hk] at hj
    by_cases h1 : j < r.length
    · rw [if_pos h1] at hj
      rw [World.cell?_setCells_out g _ _ _ ⟨g, j, none⟩ (fun _ _ => .inl (by show j < 0 + r.length; omega))]
      exact hcs j y hj
    · rw [if_neg h1] at hj
      by_cases h2 : j = r.length
      · rw [if_pos h2] at hj
        injection hj with hj
        subst hj
        have := World.cell?_setCells_in g [Value.int .i64 (x : Int)] (0 + r.length) w (fun i hi => by
          obtain rfl : i = 0 := by simpa using hi
          exact (hsp (0 + r.length + 0) (by omega)).1) 0 (Nat.zero_lt_succ 0)
        rw [show (⟨g, j, none⟩ : Addr) = ⟨g, 0 + r.length + 0, none⟩ from by rw [h2]; simp]
        exact this
      · rw [if_neg h2] at hj
        have := (List.getElem?_eq_some_iff.1 hj).1
        omega

/-- What the cells of a block say, as a slice that reads so. -/
theorem ints_of_cells {w : World} {g cap n : Nat} {r : List Nat} (hn : r.length = n) (h8 : n ≤ 8) (hg : 0 < n → g < w.heap.size) (h : ∀ j y : Nat, r[j]? = some y → w.cell? ⟨g, j, none⟩ = some (.int .i64 y)) : IntsAt w w.heap.size (.slice (some ⟨g, 0, none⟩) n cap) (ofN r) := by
  refine ⟨some ⟨g, 0, none⟩, cap, by rw [ofN_len, hn], by rw [ofN_len]; omega, fun h0 => ⟨g, 0, rfl, hg (by rw [ofN_len] at h0; omega), fun j x hj => ?_⟩⟩
  obtain ⟨i, rfl, hi⟩ := ofN_get hj
  rw [Nat.zero_add]
  exact h j i hi
set_option maxHeartbeats 1000000 in
set_option maxRecDepth 100000 in
theorem moved_any (w : World) (v : Value) (o : List Nat) (x k : Nat) (ho : OrdOk o) (h8 : o.length ≤ 8) (hx : x ∈ o) (hk : k < o.length) (hz : IntsAt w w.heap.size v (ofN o)) :
    Calls Try.prog 26 #[v, .int .i64 x, .int .i64 k] w fun e w' => ∃ g cap, e = .returned (.slice (some ⟨g, 0, none⟩) o.length cap) ∧ w.heap.size < g ∧ IntsAt w' w'.heap.size (.slice (some ⟨g, 0, none⟩) o.length cap) (ofN (mvL o x k)) ∧ Below w.heap.size w w' := by
  have hB0 := below_alloc1 w (.cells #[.int .i64 x] 3 (0, 0))
  have hbx := heap_alloc_new w (.cells #[.int .i64 x] 3 (0, 0))
  have HC := clone_any (w.alloc (.cells #[.int .i64 x] 3 (0, 0))) v o h8 ((hz.below hB0).more hB0.size)
  have hll := less_len ho.nodup hx
  have hml := mv_len ho.nodup hx k
  obtain ⟨A, c, rfl, -, -⟩ := hz
  rw [ofN_len] at HC ⊢
  go_enter Try.func26, Try.ntmps26
  go_wp2_with fail
  refine HC.mono ?_
  rintro e w1 ⟨v1, rfl, hown, hb1⟩
  clear HC
  have hB1 := hB0.trans (hb1.mono hB0.size)
  have hbx1 := keep_blk hb1 hbx
  rcases hown.2 with ⟨-, h0⟩ | ⟨g, cap, cur, rfl, hg, hgg, hnc, hcm, hcs, htake⟩
  · omega
  rw [Nat.mul_one] at htake
  have hgb : w.heap.size < g := by have : (w.alloc (.cells #[.int .i64 x] 3 (0, 0))).heap.size = w.heap.size + 1 := by simp
                                   omega
  have HD := delf_any o x g cap w.heap.size cur w1 (by rw [cell_of_block hbx1]; rfl) (by omega) hgg hnc hcm htake
  clear hown hcs htake
  go_wp2_with fail
  refine HD.mono ?_
  rintro e w2 ⟨rfl, hc2, hs2, hb2, hbx2⟩
  clear HD
  have hgl := size_of_block hgg
  have hB2 := hB1.trans (hb2 w.heap.size (by omega))
  have hz2 := (hb2 0 (by omega)).size
  have hgl2 := (hb2 0 (by omega)).size
  have hB3 := hB2.alloc hB2.size (.cells #[.int .i64 x] 3 (0, 0))
  have HI := insf_any (lessL o x) x k g cap w2.heap.size (w2.alloc (.cells #[.int .i64 x] 3 (0, 0))) (by omega) (by omega) hcm (by omega) (heap_alloc_new _ _)
    (fun j y hj => (World.cell?_alloc_lt w2 _ _ (by show g < _; omega)).trans (hc2 j y hj))
    (fun j hj => ⟨by rw [World.cell?_alloc_lt w2 _ _ (by show g < _; omega)]; exact (hs2 j (by omega)).1, by rw [World.frozen?_alloc_old _ _ _ (by show g ≠ w2.heap.size; omega)]; exact (hs2 j (by omega)).2⟩)
  have hz3 : (w2.alloc (.cells #[.int .i64 x] 3 (0, 0))).heap.size = w2.heap.size + 1 := by simp
  clear hc2 hs2
  go_wp2_with fail
  refine HI.mono ?_
  rintro e w3 ⟨rfl, hc3, hb3⟩
  clear HI
  have hz4 := (hb3 0 (by omega)).size
  have hI := ints_of_cells (cap := cap) (w := w3) (g := g) hml h8 (fun _ => by omega) hc3
  have hB4 := hB3.trans (hb3 w.heap.size (by omega))
  clear hc3 hb3
  go_wp2
  go_ret
  exact ⟨g, cap, rfl, hgb, hI, hB4⟩
/-- Whether a number stands in a list. -/
theorem contains_any (w : World) (v : Value) (zs : List Int) (x : Int) (hz : IntsAt w w.heap.size v zs) :
    Calls Try.prog 25 #[v, .int .i64 x] w fun e w' => e = .returned (.bool (decide (x ∈ zs))) ∧ w' = w := by
  obtain ⟨A, c, rfl, hl, hc⟩ := hz
  have hdc : decide (x ∈ zs) = zs.contains x := by rw [Bool.eq_iff_iff, decide_eq_true_iff, List.contains_iff_mem]
  rw [hdc]
  by_cases h0 : zs.length = 0
  · have hn : zs = [] := List.eq_nil_of_length_eq_zero h0
    subst hn
    exact Try.slices_Contains_int_empty A c x w
  · obtain ⟨b, off, rfl, hb, hcell⟩ := hc (by omega)
    have h := Try.slices_Contains_int b off zs.length c zs x w (Nat.le_refl _) hl (fun j hj => hcell j _ (by
      rw [List.getD_eq_getElem?_getD, List.getElem?_eq_getElem hj]; rfl))
    rwa [List.take_length] at h
theorem oisOrder_any (w : World) (v : Value) (zs : List Int) (hz : IntsAt w w.heap.size v zs) :
    Calls Try.prog 24 #[v] w fun e w' => e = .returned (.bool (decide (OrdI zs))) ∧ Below w.heap.size w w' := by
  by_cases ho : OrdI zs
  · rw [decide_eq_true ho]
    obtain ⟨o, rfl, hoo, h8⟩ := ordI_nat ho
    have HN := bnew_yes w v o 0 hz hoo h8 (by decide)
    obtain ⟨A, c, rfl, -, -⟩ := hz
    go_enter Try.func24, Try.ntmps24
    go_wp2_with fail
    refine HN.mono ?_
    rintro e w1 ⟨bb, ab, bm, ov, rfl, h1, hb1⟩
    clear HN
    go_wp2
    go_ret
    exact ⟨rfl, hb1⟩
  · rw [decide_eq_false ho]
    have HN := bnew_no w v zs 0 hz ho
    obtain ⟨A, c, rfl, -, -⟩ := hz
    go_enter Try.func24, Try.ntmps24
    go_wp2_with fail
    refine HN.mono ?_
    rintro e w1 ⟨rfl, hb1⟩
    clear HN
    go_wp2
    go_ret
    exact ⟨rfl, hb1⟩
set_option maxHeartbeats 1000000 in
set_option maxRecDepth 100000 in
/-- What may not be moved. -/
theorem omove_no (w : World) (v : Value) (zs : List Int) (x k : Int) (hz : IntsAt w w.heap.size v zs) (h : ¬ (OrdI zs ∧ x ∈ zs ∧ 0 ≤ k ∧ k < zs.length)) :
    Calls Try.prog 13 #[v, .int .i64 x, .int .i64 k] w fun e w' => e = .returned (.tuple #[.slice none 0 0, .int .i64 1]) ∧ Below w.heap.size w w' := by
  have HO := oisOrder_any w v zs hz
  have HC := fun w1 (hb : Below w.heap.size w w1) => contains_any w1 v zs x ((hz.below hb).more hb.size)
  obtain ⟨A, c, rfl, -, -⟩ := hz
  by_cases ho : OrdI zs
  · rw [decide_eq_true ho] at HO
    by_cases hx : x ∈ zs
    · rw [decide_eq_true hx] at HC
      have h' : ¬ (0 ≤ k ∧ k < zs.length) := fun hk => h ⟨ho, hx, hk⟩
      clear h
      by_cases h0 : k < 0
      · go_enter Try.func13, Try.ntmps13
        go_wp2_with fail
        refine HO.mono ?_
        rintro e w1 ⟨rfl, hb1⟩
        have HC := HC w1 hb1
        clear HO
        go_wp2_with fail
        refine HC.mono ?_
        rintro e w2 ⟨rfl, rfl⟩
        clear HC
        go_wp2
        go_ret2
        exact ⟨rfl, hb1⟩
      · have h1 : (zs.length : Int) ≤ k := by omega
        clear h'
        go_enter Try.func13, Try.ntmps13
        go_wp2_with fail
        refine HO.mono ?_
        rintro e w1 ⟨rfl, hb1⟩
        have HC := HC w1 hb1
        clear HO
        go_wp2_with fail
        refine HC.mono ?_
        rintro e w2 ⟨rfl, rfl⟩
        clear HC
        go_wp2
        go_ret2
        exact ⟨rfl, hb1⟩
    · rw [decide_eq_false hx] at HC
      go_enter Try.func13, Try.ntmps13
      go_wp2_with fail
      refine HO.mono ?_
      rintro e w1 ⟨rfl, hb1⟩
      have HC := HC w1 hb1
      clear HO
      go_wp2_with fail
      refine HC.mono ?_
      rintro e w2 ⟨rfl, rfl⟩
      clear HC
      go_wp2
      go_ret2
      exact ⟨rfl, hb1⟩
  · rw [decide_eq_false ho] at HO
    clear HC
    go_enter Try.func13, Try.ntmps13
    go_wp2_with fail
    refine HO.mono ?_
    rintro e w1 ⟨rfl, hb1⟩
    clear HO
    go_wp2
    go_ret2
    exact ⟨rfl, hb1⟩
set_option maxHeartbeats 1000000 in
set_option maxRecDepth 100000 in
theorem omove_yes (w : World) (v : Value) (o : List Nat) (x k : Nat) (ho : OrdOk o) (h8 : o.length ≤ 8) (hx : x ∈ o) (hk : k < o.length) (hz : IntsAt w w.heap.size v (ofN o)) :
    Calls Try.prog 13 #[v, .int .i64 x, .int .i64 k] w fun e w' => ∃ v', e = .returned (.tuple #[v', .int .i64 0]) ∧ IntsAt w' w'.heap.size v' (ofN (mvL o x k)) ∧ Below w.heap.size w w' := by
  have HO := oisOrder_any w v (ofN o) hz
  have HC := fun w1 (hb : Below w.heap.size w w1) => contains_any w1 v (ofN o) x ((hz.below hb).more hb.size)
  have HM := fun w1 (hb : Below w.heap.size w w1) => moved_any w1 v o x k ho h8 hx hk ((hz.below hb).more hb.size)
  rw [decide_eq_true (nat_ordI ho h8)] at HO
  rw [decide_eq_true (show ((x : Nat) : Int) ∈ ofN o from by unfold ofN; exact List.mem_map.2 ⟨x, hx, rfl⟩)] at HC
  obtain ⟨A, c, rfl, -, -⟩ := hz
  rw [ofN_len] at *
  clear hx
  go_enter Try.func13, Try.ntmps13
  go_wp2_with fail
  refine HO.mono ?_
  rintro e w1 ⟨rfl, hb1⟩
  have HC := HC w1 hb1
  have HM := HM w1 hb1
  clear HO
  go_wp2_with fail
  refine HC.mono ?_
  rintro e w2 ⟨rfl, rfl⟩
  clear HC
  go_wp2_with fail
  refine HM.mono ?_
  rintro e w3 ⟨g, cap, rfl, -, hI, hb3⟩
  clear HM
  go_wp2
  go_ret2
  exact ⟨_, rfl, hI, hb1.trans (hb3.mono hb1.size)⟩
end Go.Proofs.Ytfamdckaljniiaa
