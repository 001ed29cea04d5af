/- What an arena is asked: find, isEnd, below, permits, Len, Node, for every arena and every number. -/
import Derived.Test.YtkkdfpmjmommcaaArn05
namespace Go.Proofs.Ytkkdfpmjmommcaa
open Go.RowKit Go.Joins

theorem below_drews {B : Nat} {a w : World} (h : Below B a w) (n : Nat) : Below B a (w.drewN n) := h.trans ⟨rfl, rfl, rfl, Nat.le_refl _, fun _ _ => rfl⟩
theorem isEnd_any (id : Int) (w : World) : Calls Try.prog 118 #[.int .i64 id] w fun e w' => e = .returned (.bool (decide (0 ≤ id ∧ id < 2))) ∧ w = w' := by
  by_cases h0 : 0 ≤ id
  · go_enter Try.func118, Try.ntmps118
    go_wp2
    go_ret
    exact ⟨ret_bool (by rw [Bool.eq_iff_iff]; simp; omega), rfl⟩
  · go_enter Try.func118, Try.ntmps118
    go_wp2
    go_ret
    exact ⟨ret_bool (by rw [Bool.eq_iff_iff]; simp; omega), rfl⟩
theorem len_any {w : World} {B ab bm : Nat} {v : Value} {room full : Nat} {S : St} (h : ArAt w B ab bm v room full S) :
    Calls Try.prog 73 #[.pointer (some ⟨ab, 0, none⟩)] w fun e w' => e = .returned (.int .i64 (cnt S)) ∧ w = w' := by
  obtain ⟨c0, c1, c2, c3, cf⟩ := h.cells
  have hl := h.ids.len
  go_enter Try.func73, Try.ntmps73
  go_wp2
  go_ret
  exact ⟨rfl, rfl⟩
theorem len_nil (w : World) :
    Calls Try.prog 73 #[.pointer none] w fun e w' => e = .returned (.int .i64 0) ∧ w = w' := by
  go_enter Try.func73, Try.ntmps73
  go_wp2
  go_ret
  exact ⟨rfl, rfl⟩
/-- What find hands back. -/
def fndV : Option Nd → Value
  | none => .tuple #[.agg #[.int .i64 0, .int .i64 0, .int .i64 0], .bool false]
  | some n => .tuple #[.agg #[.int .i64 n.1, .int .i64 n.2.1, .int .i64 n.2.2], .bool true]
theorem find_any {w : World} {B ab bm : Nat} {v : Value} {room full : Nat} {S : St} (h : ArAt w B ab bm v room full S) (hl : S.length ≤ 20000) (id : Int) :
    Calls Try.prog 87 #[.pointer (some ⟨ab, 0, none⟩), .int .i64 id] w fun e w' => e = .returned (fndV (ndAt S id)) ∧ Below w.heap.size w w' := by
  obtain ⟨A, c, rfl⟩ := own_form h.rows
  obtain ⟨-, -, -, -, -⟩ := h.cells
  have h2 := h.below (below_alloc1 w (.cells #[.int .i64 0, .int .i64 0, .int .i64 0] 98 (0, 0)))
  obtain ⟨c0, c1, c2, c3, cf⟩ := h2.cells
  by_cases hlo : id < 2
  · have e := Lib.hid (ndAt_not (S := S) (id := id) (.inl hlo))
    go_enter Try.func87, Try.ntmps87
    go_wp2
    exact bodyPost_ret (v := .tuple #[.agg #[.int .i64 0, .int .i64 0, .int .i64 0], .bool false]) (by simp [results, Try.results87, go_sem]) rfl ⟨by rw [e.out]; rfl, (Below.refl _ _).alloc (Nat.le_refl _) _⟩
  · by_cases hhi : (S.length : Int) + 2 ≤ id
    · have e := Lib.hid (ndAt_not (S := S) (id := id) (.inr hhi))
      have hhi' : (2 : Int) + S.length ≤ id := by omega
      go_enter Try.func87, Try.ntmps87
      go_wp2
      exact bodyPost_ret (v := .tuple #[.agg #[.int .i64 0, .int .i64 0, .int .i64 0], .bool false]) (by simp [results, Try.results87, go_sem]) rfl ⟨by rw [e.out]; rfl, by repeat (first | (with_reducible exact below_alloc1 w _) | (with_reducible refine Below.setCell ?_ (by simp) _))⟩
    · obtain ⟨i, rfl⟩ : ∃ i : Nat, id = (i : Int) + 2 := ⟨(id - 2).toNat, by omega⟩
      have hi : i < S.length := by omega
      obtain ⟨o, ho⟩ : ∃ o, S[i]? = some o := ⟨_, List.getElem?_eq_getElem hi⟩
      have e := Lib.hid (ndAt_out ho)
      have hA : ∃ g, A = some ⟨g, 0, none⟩ := by
        rcases h.rows.2 with ⟨hv, h0⟩ | ⟨g, cap, cur, hv, _⟩
        · omega
        · exact ⟨g, by injection hv⟩
      obtain ⟨g, rfl⟩ := hA
      obtain ⟨d0, d1, d2, d3⟩ := slots_at h2.rows ho
      obtain ⟨x, y, z, u, hf, hs⟩ : ∃ (x y z : Int) (u : Bool), fndV o = .tuple #[.agg #[.int .i64 x, .int .i64 y, .int .i64 z], .bool u] ∧ slotL o = [.int .i64 x, .int .i64 y, .int .i64 z, .bool u] := by
        cases o with
        | none => exact ⟨0, 0, 0, false, rfl, rfl⟩
        | some n => exact ⟨n.1, n.2.1, n.2.2, true, rfl, rfl⟩
      rw [hs] at d0 d1 d2 d3
      have hR := Lib.hid (show fndV (ndAt S ((i : Int) + 2)) = _ from (congrArg fndV e.out).trans hf)
      have hhi' : (i : Int) + 2 < (2 : Int) + S.length := by omega
      have hlt : (i : Int) < S.length := by omega
      simp only [List.getElem?_cons_zero, List.getElem?_cons_succ] at d0 d1 d2 d3
      clear hs hf e ho h h2 hhi
      go_enter Try.func87, Try.ntmps87
      go_wp2
      have hb0 := heap_alloc2_old w (.cells #[.int .i64 0, .int .i64 0, .int .i64 0] 98 (0, 0)) (.cells #[.int .i64 x, .int .i64 y, .int .i64 z, .bool u] 113 (0, 0))
      have hb1 := heap_alloc2_new w (.cells #[.int .i64 0, .int .i64 0, .int .i64 0] 98 (0, 0)) (.cells #[.int .i64 x, .int .i64 y, .int .i64 z, .bool u] 113 (0, 0))
      have hB := below_alloc2 w (.cells #[.int .i64 0, .int .i64 0, .int .i64 0] 98 (0, 0)) (.cells #[.int .i64 x, .int .i64 y, .int .i64 z, .bool u] 113 (0, 0))
      clear c0 c1 c2 c3 cf d0 d1 d2 d3
      generalize hW : (w.alloc (.cells #[.int .i64 0, .int .i64 0, .int .i64 0] 98 (0, 0))).alloc (.cells #[.int .i64 x, .int .i64 y, .int .i64 z, .bool u] 113 (0, 0)) = W at *
      clear hW
      obtain ⟨n0, n1, n2, nf⟩ := now3 hb0 rfl
      obtain ⟨s0, s1, s2, s3, -⟩ := now4 hb1 rfl
      go_region
      all_goals
        go_wp2
        exact bodyPost_ret (v := .tuple #[.agg #[.int .i64 x, .int .i64 y, .int .i64 z], .bool u]) (by simp [results, Try.results87, go_sem, n0, n1, n2]) rfl ⟨by rw [hR.out], by repeat (first | (with_reducible exact hB) | (with_reducible exact hB.drew) | (with_reducible refine Below.drew ?_) | (with_reducible refine Below.setCell ?_ (by simp) _))⟩
theorem below_any {w : World} {B ab bm : Nat} {v : Value} {room full : Nat} {S : St} (h : ArAt w B ab bm v room full S) (hl : S.length ≤ 20000) (l id : Int) (h0 : 0 ≤ l) (h1 : l < 24) :
    Calls Try.prog 117 #[.pointer (some ⟨ab, 0, none⟩), .int .i64 l, .int .i64 id] w fun e w' => e = .returned (.bool (decide (l < lvl S id))) ∧ Below w.heap.size w w' := by
  have HE := fun w => isEnd_any id w
  have HF := find_any h hl id
  by_cases he : id = 0 ∨ id = 1
  · have hd : decide (0 ≤ id ∧ id < 2) = true := decide_eq_true (by omega)
    rw [hd] at HE
    have hR := Lib.hid (show decide (l < lvl S id) = true from decide_eq_true (by rw [lvl_end he]; exact h1))
    clear he hd HF
    go_enter Try.func117, Try.ntmps117
    go_wp2_with (refine (HE _).mono ?_; rintro e w' ⟨rfl, rfl⟩)
    go_ret
    exact ⟨by rw [hR.out]; rfl, Below.refl _ _⟩
  · have hd : decide (0 ≤ id ∧ id < 2) = false := decide_eq_false (by omega)
    rw [hd] at HE
    cases hn : ndAt S id with
    | none =>
      rw [hn] at HF
      unfold fndV at HF
      have hR := Lib.hid (show decide (l < lvl S id) = false from decide_eq_false (by rw [lvl_not he hn]; omega))
      clear he hd hn
      go_enter Try.func117, Try.ntmps117
      go_wp2_with (refine (HE _).mono ?_; rintro e w' ⟨rfl, rfl⟩)
      refine HF.mono ?_
      rintro e w1 ⟨rfl, hb1⟩
      clear HE HF
      go_wp2
      go_ret
      exact ⟨by rw [hR.out]; rfl, hb1.alloc hb1.size _⟩
    | some n =>
      rw [hn] at HF
      unfold fndV at HF
      have hR := Lib.hid (show lvl S id = n.1 from lvl_node hn)
      clear he hd hn
      go_enter Try.func117, Try.ntmps117
      go_wp2_with (refine (HE _).mono ?_; rintro e w' ⟨rfl, rfl⟩)
      refine HF.mono ?_
      rintro e w1 ⟨rfl, hb1⟩
      clear HE HF
      go_wp2
      go_ret
      exact ⟨by rw [hR.out]; rfl, hb1.alloc hb1.size _⟩
theorem permits_any {w : World} {B ab bm : Nat} {v : Value} {room full : Nat} {S : St} (h : ArAt w B ab bm v room full S) (hl : S.length ≤ 20000) (l lo hi : Int) :
    Calls Try.prog 114 #[.pointer (some ⟨ab, 0, none⟩), .agg #[.int .i64 l, .int .i64 lo, .int .i64 hi]] w fun e w' => e = .returned (.bool (okN S (l, lo, hi))) ∧ Below w.heap.size w w' := by
  have hB := below_alloc1 w (.cells #[.int .i64 l, .int .i64 lo, .int .i64 hi] 98 (0, 0))
  have h2 := h.below hB
  have HL := fun (h0 : 0 ≤ l) (h1 : l < 24) => below_any h2 hl l lo h0 h1
  have HH := fun (w1 : World) (hb : Below (w.alloc (.cells #[.int .i64 l, .int .i64 lo, .int .i64 hi] 98 (0, 0))).heap.size (w.alloc (.cells #[.int .i64 l, .int .i64 lo, .int .i64 hi] 98 (0, 0))) w1) (h0 : 0 ≤ l) (h1 : l < 24) => below_any (h2.below hb) hl l hi h0 h1
  have hn0 := heap_alloc_new w (.cells #[.int .i64 l, .int .i64 lo, .int .i64 hi] 98 (0, 0))
  have hR : Hid (okN S (l, lo, hi) = (decide (0 ≤ l) && decide (l < 24) && decide (l < lvl S lo) && decide (l < lvl S hi))) := Lib.hid rfl
  generalize okN S (l, lo, hi) = R at *
  clear h h2
  by_cases h0 : 0 ≤ l
  · by_cases h1 : l < 24
    · have HL := HL h0 h1
      have HH := fun w1 hb => HH w1 hb h0 h1
      cases e1 : decide (l < lvl S lo)
      · rw [e1] at HL
        have hR := Lib.hid (show R = false by rw [hR.out, e1]; simp)
        clear e1 HH
        go_enter Try.func114, Try.ntmps114
        go_wp2_with fail
        refine HL.mono ?_
        rintro e w1 ⟨rfl, hb1⟩
        clear HL
        go_wp2
        go_ret
        exact ⟨by rw [hR.out]; rfl, hB.trans (hb1.mono hB.size)⟩
      · rw [e1] at HL
        have hR := Lib.hid (show R = decide (l < lvl S hi) by rw [hR.out, e1, decide_eq_true h0, decide_eq_true h1]; simp)
        clear e1
        go_enter Try.func114, Try.ntmps114
        go_wp2_with fail
        refine HL.mono ?_
        rintro e w1 ⟨rfl, hb1⟩
        have HH := HH w1 hb1
        have hn1 := keep_blk hb1 hn0
        obtain ⟨n0, n1, n2, nf⟩ := now3 hn1 rfl
        clear HL
        go_wp2_with fail
        refine HH.mono ?_
        rintro e w2 ⟨rfl, hb2⟩
        clear HH
        go_wp2
        go_ret
        exact ⟨by rw [hR.out]; rfl, (hB.trans (hb1.mono hB.size)).trans (hb2.mono (hB.trans (hb1.mono hB.size)).size)⟩
    · have hR := Lib.hid (show R = false by rw [hR.out, decide_eq_false h1]; simp)
      have h1' : 24 ≤ l := by omega
      clear HL HH
      go_enter Try.func114, Try.ntmps114
      go_wp2
      go_ret
      exact ⟨by rw [hR.out]; rfl, hB⟩
  · have hR := Lib.hid (show R = false by rw [hR.out, decide_eq_false h0]; simp)
    clear HL HH
    go_enter Try.func114, Try.ntmps114
    go_wp2
    go_ret
    exact ⟨by rw [hR.out]; rfl, hB⟩
/-- What Node hands back. -/
def ndT : Option Nd → Value
  | none => .tuple #[.int .i64 0, .int .i64 0, .int .i64 0, .bool false]
  | some n => .tuple #[.int .i64 n.1, .int .i64 n.2.1, .int .i64 n.2.2, .bool true]
theorem node_any {w : World} {B ab bm : Nat} {v : Value} {room full : Nat} {S : St} (h : ArAt w B ab bm v room full S) (hl : S.length ≤ 20000) (id : Int) :
    Calls Try.prog 62 #[.pointer (some ⟨ab, 0, none⟩), .int .i64 id] w fun e w' => e = .returned (ndT (ndAt S id)) ∧ Below w.heap.size w w' := by
  have HF := find_any h hl id
  generalize ndAt S id = o at *
  obtain ⟨x, y, z, u, hf, hs⟩ : ∃ (x y z : Int) (u : Bool), fndV o = .tuple #[.agg #[.int .i64 x, .int .i64 y, .int .i64 z], .bool u] ∧ ndT o = .tuple #[.int .i64 x, .int .i64 y, .int .i64 z, .bool u] := by
    cases o with
    | none => exact ⟨0, 0, 0, false, rfl, rfl⟩
    | some n => exact ⟨n.1, n.2.1, n.2.2, true, rfl, rfl⟩
  rw [hf] at HF
  have hR := Lib.hid hs
  clear hf hs
  go_enter Try.func62, Try.ntmps62
  go_wp2_with fail
  refine HF.mono ?_
  rintro e w1 ⟨rfl, hb1⟩
  clear HF
  go_wp2
  have hb0 := heap_alloc_new w1 (.cells #[.int .i64 x, .int .i64 y, .int .i64 z] 98 (0, 0))
  have hB := hb1.alloc hb1.size (.cells #[.int .i64 x, .int .i64 y, .int .i64 z] 98 (0, 0))
  generalize w1.alloc (.cells #[.int .i64 x, .int .i64 y, .int .i64 z] 98 (0, 0)) = W at *
  obtain ⟨n0, n1, n2, nf⟩ := now3 hb0 rfl
  go_quiet (fail)
  go_wp2
  exact bodyPost_ret (v := .tuple #[.int .i64 x, .int .i64 y, .int .i64 z, .bool u]) (by simp [results, Try.results62, go_sem]) rfl ⟨by rw [hR.out], below_drews hB _⟩
theorem node_nil (id : Int) (w : World) :
    Calls Try.prog 62 #[.pointer none, .int .i64 id] w fun e w' => e = .returned (.tuple #[.int .i64 0, .int .i64 0, .int .i64 0, .bool false]) ∧ w = w' := by
  go_enter Try.func62, Try.ntmps62
  go_wp2
  exact bodyPost_ret (v := .tuple #[.int .i64 0, .int .i64 0, .int .i64 0, .bool false]) (by simp [results, Try.results62, go_sem]) rfl ⟨rfl, rfl⟩
end Go.Proofs.Ytkkdfpmjmommcaa
