/- settle and Sift of package order. -/
import Derived.Test.YtfamdckaljniiaaSzo07
import Derived.Test.YtfamdckaljniiaaMov07
namespace Go.Proofs.Ytfamdckaljniiaa
open Go.RowKit Go.Joins

/-- The slice v reads as the numbers o, and lies in no block from lo on and below hi. -/
def IntsOff (w : World) (lo hi : Nat) (v : Value) (o : List Int) : Prop :=
  ∃ A c, v = .slice A o.length c ∧ o.length ≤ 9223372036854775807 ∧
    (0 < o.length → ∃ b off, A = some ⟨b, off, none⟩ ∧ (b < lo ∨ hi ≤ b) ∧ b < w.heap.size ∧ ∀ j x, o[j]? = some x → w.cell? ⟨b, off + j, none⟩ = some (.int .i64 x))
theorem IntsOff.now {w : World} {lo hi : Nat} {v : Value} {o : List Int} (h : IntsOff w lo hi v o) : IntsAt w w.heap.size v o := by
  obtain ⟨A, c, e, hl, h⟩ := h
  refine ⟨A, c, e, hl, fun h0 => ?_⟩
  obtain ⟨b, off, eA, -, hb, hc⟩ := h h0
  exact ⟨b, off, eA, hb, hc⟩
theorem IntsOff.below {w w' : World} {lo hi : Nat} {v : Value} {o : List Int} (h : IntsOff w lo hi v o) (hb : Below w.heap.size w w') : IntsOff w' lo hi v o := by
  obtain ⟨A, c, e, hl, h⟩ := h
  refine ⟨A, c, e, hl, fun h0 => ?_⟩
  obtain ⟨b, off, eA, hlo, hlt, hc⟩ := h h0
  exact ⟨b, off, eA, hlo, by have := hb.size; omega, fun j x hx => (hb.cell (p := ⟨b, off + j, none⟩) hlt).trans (hc j x hx)⟩
theorem IntsOff.set {w : World} {lo hi b : Nat} {v : Value} {o : List Int} (h : IntsOff w lo hi v o) (h1 : lo ≤ b) (h2 : b < hi) (u : Value) : IntsOff (w.setCell ⟨b, 0, none⟩ u) lo hi v o := by
  obtain ⟨A, c, e, hl, h⟩ := h
  refine ⟨A, c, e, hl, fun h0 => ?_⟩
  obtain ⟨g, off, eA, hlo, hlt, hc⟩ := h h0
  refine ⟨g, off, eA, hlo, by simpa using hlt, fun j x hx => ?_⟩
  have hk : (w.setCell ⟨b, 0, none⟩ u).heap[g]? = w.heap[g]? := Below.heap_setCell _ _ _ _ (by show g ≠ b; omega)
  have hr := hc j x hx
  unfold World.cell? at hr ⊢
  rw [hk]
  exact hr
theorem IntsAt.off {w : World} {B hi : Nat} {v : Value} {o : List Int} (h : IntsAt w B v o) (hB : B ≤ w.heap.size) : IntsOff w B hi v o := by
  obtain ⟨A, c, e, hl, h⟩ := h
  refine ⟨A, c, e, hl, fun h0 => ?_⟩
  obtain ⟨b, off, eA, hb, hc⟩ := h h0
  exact ⟨b, off, eA, .inl hb, by omega, hc⟩
theorem IntsAt.offNew {w : World} {g n c lo hi : Nat} {o : List Int} (h : IntsAt w w.heap.size (.slice (some ⟨g, 0, none⟩) n c) o) (hg : hi ≤ g) : IntsOff w lo hi (.slice (some ⟨g, 0, none⟩) n c) o := by
  obtain ⟨A, c', e, hl, h⟩ := h
  simp only [Value.slice.injEq] at e
  obtain ⟨rfl, rfl, rfl⟩ := e
  refine ⟨_, _, rfl, hl, fun h0 => ?_⟩
  obtain ⟨b, off, eA, hb, hc⟩ := h h0
  refine ⟨b, off, eA, .inr ?_, hb, hc⟩
  simp only [Option.some.injEq, Addr.mk.injEq] at eA
  omega
theorem put1o {w : World} {b : Nat} {T : TypeId} {y : Value} (h : w.heap[b]? = some (.cells #[y] T (0, 0))) (u : Value) : (w.setCell ⟨b, 0, none⟩ u).heap[b]? = some (.cells #[u] T (0, 0)) := by
  rw [block_setCell h]
  rfl
/-- What the closure leaves: the best order and its size. -/
def TryDone (W : World) (bl bb : Nat) (v : Value) (n l : Int) (e : Ending) (w' : World) : Prop :=
  e = .returned (.tuple #[]) ∧ ∃ w1, Below W.heap.size W w1 ∧ ((n < l ∧ w' = (w1.setCell ⟨bb, 0, none⟩ v).setCell ⟨bl, 0, none⟩ (.int .i64 n)) ∨ (¬ n < l ∧ w' = w1))
set_option maxHeartbeats 1000000 in
set_option maxRecDepth 100000 in
theorem try_any (W : World) (bs bl bb : Nat) (V v : Value) (A3 : Option Addr) (n3 c3 : Nat) (Ss : List (BitVec 256)) (o : List Nat) (l : Int) (hs : W.heap[bs]? = some (.cells #[V] 22 (0, 0))) (hl : W.heap[bl]? = some (.cells #[.int .i64 l] 3 (0, 0)))
    (hb : W.heap[bb]? = some (.cells #[.slice A3 n3 c3] 23 (0, 0))) (hne : bl ≠ bb)
    (hS : SetsAt W W.heap.size V Ss) (hz : IntsAt W W.heap.size v (ofN o)) (ho : OrdOk o) (h8 : o.length ≤ 8) (h4 : Ss.length ≤ 4) (hf : fitS Ss o.length = true) :
    Calls Try.prog 44 #[v, .pointer (some ⟨bs, 0, none⟩), .pointer (some ⟨bl, 0, none⟩), .pointer (some ⟨bb, 0, none⟩)] W (TryDone W bl bb v (szs Ss o : Nat) l) := by
  have HZ := osize_good W V v Ss o hS hz ho h8 h4
  unfold szE at HZ
  rw [if_pos hf] at HZ
  obtain ⟨A, c, rfl, -, -⟩ := hz
  obtain ⟨A2, c2, rfl⟩ := hS.form
  have s0 : W.cell? ⟨bs, 0, none⟩ = some (.slice A2 Ss.length c2) := by rw [cell_of_block hs]; rfl
  generalize szs Ss o = n at *
  clear hS hs ho hf
  go_enter Try.func44, Try.ntmps44
  go_wp2_with fail
  refine HZ.mono ?_
  rintro e w1 ⟨rfl, hb1⟩
  clear HZ s0
  have hl1 := keep_blk hb1 hl
  have hb1' := keep_blk hb1 hb
  have l0 : w1.cell? ⟨bl, 0, none⟩ = some (.int .i64 l) := by rw [cell_of_block hl1]; rfl
  by_cases hlt : (n : Int) < l
  · have m0 : w1.cell? ⟨bb, 0, none⟩ = some (.slice A3 n3 c3) := by rw [cell_of_block hb1']; rfl
    have m1 : w1.frozen? ⟨bb, 0, none⟩ = false := unfrozen_of_block hb1' 0
    have l2 : ∀ u, (w1.setCell ⟨bb, 0, none⟩ u).cell? ⟨bl, 0, none⟩ = some (.int .i64 l) := fun u => by rw [cell_of_block (keep_set hne hl1)]; rfl
    have l3 : ∀ u, (w1.setCell ⟨bb, 0, none⟩ u).frozen? ⟨bl, 0, none⟩ = false := fun u => unfrozen_of_block (keep_set hne hl1) 0
    clear hl hb hl1 hb1'
    go_wp2
    go_end0
    exact ⟨rfl, w1, hb1, .inl ⟨hlt, rfl⟩⟩
  · have hltH := Lib.hid hlt
    clear hl hb hl1 hb1'
    go_wp2
    go_end0
    exact ⟨rfl, w1, hb1, .inr ⟨by have := hltH.out; omega, rfl⟩⟩
set_option maxHeartbeats 2000000 in
set_option maxRecDepth 100000 in
theorem settle_any (w : World) (V v : Value) (Ss : List (BitVec 256)) (o : List Nat) (x : Nat) (hS : SetsAt w w.heap.size V Ss) (hz : IntsAt w w.heap.size v (ofN o)) (ho : OrdOk o) (h8 : o.length ≤ 8) (h4 : Ss.length ≤ 4) (hf : fitS Ss o.length = true) (hx : x ∈ o) :
    Calls Try.prog 28 #[V, v, .int .i64 x] w fun e w' => ∃ v', e = .returned v' ∧ IntsAt w' w'.heap.size v' (ofN (settleN Ss o x)) ∧ Below w.heap.size w w' := by
  have hSw := hS
  have hzw := hz
  have hord := fun k => bestK_ord Ss ho hx k
  obtain ⟨A, c, rfl, -, -⟩ := hz
  obtain ⟨A2, c2, rfl⟩ := hS.form
  rw [ofN_len] at hzw ⊢
  have a0 := heap_alloc3_a w (.cells #[.slice A2 Ss.length c2] 22 (0, 0)) (.cells #[.slice A o.length c] 23 (0, 0)) (.cells #[.int .i64 9223372036854775807] 3 (0, 0))
  have a1 := heap_alloc3_b w (.cells #[.slice A2 Ss.length c2] 22 (0, 0)) (.cells #[.slice A o.length c] 23 (0, 0)) (.cells #[.int .i64 9223372036854775807] 3 (0, 0))
  have a2 := heap_alloc3_c w (.cells #[.slice A2 Ss.length c2] 22 (0, 0)) (.cells #[.slice A o.length c] 23 (0, 0)) (.cells #[.int .i64 9223372036854775807] 3 (0, 0))
  have hB0 := ((below_alloc1 w (.cells #[.slice A2 Ss.length c2] 22 (0, 0))).alloc (below_alloc1 w _).size (.cells #[.slice A o.length c] 23 (0, 0))).alloc ((below_alloc1 w (.cells #[.slice A2 Ss.length c2] 22 (0, 0))).alloc (below_alloc1 w _).size (.cells #[.slice A o.length c] 23 (0, 0))).size (.cells #[.int .i64 9223372036854775807] 3 (0, 0))
  have hI0 := (hzw.below hB0).off (hi := w.heap.size + 3) hB0.size
  clear hS
  generalize hbs : w.heap.size = bs at *
  go_enter Try.func28, Try.ntmps28
  go_wp2
  go_loopw [15] (fun t wr => ∃ k : Nat, k ≤ o.length ∧ t = .int .i64 k ∧ wr.heap[bs]? = some (.cells #[.slice A2 Ss.length c2] 22 (0, 0)) ∧ wr.heap[bs + 1 + 1]? = some (.cells #[.int .i64 (bestK Ss o x k).2] 3 (0, 0)) ∧
    (∃ A3 c3, wr.heap[bs + 1]? = some (.cells #[.slice A3 o.length c3] 23 (0, 0)) ∧ IntsOff wr bs (bs + 3) (.slice A3 o.length c3) (ofN (bestK Ss o x k).1)) ∧ Below bs w wr) (fun t _ => o.length - (intOf t).toNat)
  case atStart => exact ⟨0, by omega, rfl, a0, a2, ⟨A, c, a1, hI0⟩, hB0⟩
  case round =>
    clear a0 a1 a2 hB0 hI0
    obtain ⟨k, hk, rfl, hs, hl, ⟨A3, c3, hbb, hI⟩, hb⟩ := hrel
    by_cases hlt : k < o.length
    · have hbz : bs ≤ wr.heap.size := by have := hb.size; omega
      have hwb := size_of_block hl
      have HM := moved_any wr (.slice A o.length c) o x k ho h8 hx hlt ((hzw.below hb).more hbz)
      have hml := mv_len ho.nodup hx k
      have hst : Hid (bestK Ss o x (k + 1) = if (szs Ss (mvL o x k) : Int) < (bestK Ss o x k).2 then (mvL o x k, (szs Ss (mvL o x k) : Int)) else bestK Ss o x k) := Lib.hid rfl
      have HT := fun g cap (w1 : World) (hb1 : Below wr.heap.size wr w1) (hI1 : IntsAt w1 w1.heap.size (.slice (some ⟨g, 0, none⟩) o.length cap) (ofN (mvL o x k))) =>
        try_any w1 bs (bs + 1 + 1) (bs + 1) (.slice A2 Ss.length c2) (.slice (some ⟨g, 0, none⟩) o.length cap) A3 o.length c3 Ss (mvL o x k) _ (keep_blk hb1 hs) (keep_blk hb1 hl) (keep_blk hb1 hbb) (by omega)
          (((hSw.below hb).below (hb1.mono hbz)).more (by have := hb1.size; omega)) hI1 (mv_ord ho hx k) (by rw [hml]; exact h8) h4 (by rw [hml]; exact hf)
      generalize hmv : mvL o x k = m at *
      generalize szs Ss m = n at *
      generalize hbk : bestK Ss o x k = bk at *
      clear hmv hml
      go_wp2_with fail
      refine HM.mono ?_
      rintro e w1 ⟨g, cap, rfl, hgl, hI1, hb1⟩
      have HT := HT g cap w1 hb1 hI1
      have hb1' := hb.trans (hb1.mono hbz)
      have hI' := hI.below hb1
      have hI1' := hI1.offNew (lo := bs) (hi := bs + 3) (by omega)
      have hs1 := keep_blk hb1 hs
      have hl1 := keep_blk hb1 hl
      have hbb1 := keep_blk hb1 hbb
      clear HM hI hI1 hb hs hl hbb
      go_wp2_with fail
      refine HT.mono ?_
      rintro e w2 ⟨rfl, w3, hb3, ⟨hlt2, rfl⟩ | ⟨hlt2, rfl⟩⟩
      · clear HT
        have hs3 := keep_set (a := ⟨bs + 1 + 1, 0, none⟩) (u := .int .i64 n) (by show bs ≠ bs + 1 + 1; omega) (keep_set (a := ⟨bs + 1, 0, none⟩) (u := .slice (some ⟨g, 0, none⟩) o.length cap) (by show bs ≠ bs + 1; omega) (keep_blk hb3 hs1))
        have hl3 := put1o (keep_set (a := ⟨bs + 1, 0, none⟩) (u := .slice (some ⟨g, 0, none⟩) o.length cap) (by show bs + 1 + 1 ≠ bs + 1; omega) (keep_blk hb3 hl1)) (.int .i64 n)
        have hbb3 := keep_set (a := ⟨bs + 1 + 1, 0, none⟩) (u := .int .i64 n) (by show bs + 1 ≠ bs + 1 + 1; omega) (put1o (keep_blk hb3 hbb1) (.slice (some ⟨g, 0, none⟩) o.length cap))
        have hI3 := ((hI1'.below hb3).set (b := bs + 1) (by omega) (by omega) (.slice (some ⟨g, 0, none⟩) o.length cap)).set (b := bs + 1 + 1) (by omega) (by omega) (.int .i64 n)
        have hB3 := ((hb1'.trans (hb3.mono (by have := hb1'.size; omega))).setCell (p := ⟨bs + 1, 0, none⟩) (by show bs ≤ bs + 1; omega) (.slice (some ⟨g, 0, none⟩) o.length cap)).setCell (p := ⟨bs + 1 + 1, 0, none⟩) (by show bs ≤ bs + 1 + 1; omega) (.int .i64 n)
        have hst2 := Lib.hid (hst.out.trans (by rw [if_pos hlt2]))
        clear hst hs1 hl1 hbb1 hI1' hI'
        go_wp2
        go_roundw
        case rel => exact ⟨k + 1, by omega, by go_num, hs3, by rw [hst2.out]; exact hl3, ⟨_, cap, hbb3, by rw [hst2.out]; exact hI3⟩, hB3⟩
        case measure => simp [intOf]; omega
      · clear HT
        have hs3 := keep_blk hb3 hs1
        have hl3 := keep_blk hb3 hl1
        have hbb3 := keep_blk hb3 hbb1
        have hI3 := hI'.below hb3
        have hB3 := hb1'.trans (hb3.mono (by have := hb1'.size; omega))
        have hst2 := Lib.hid (hst.out.trans (by rw [if_neg hlt2]))
        clear hst hs1 hl1 hbb1 hI1' hI' hlt2
        go_wp2
        go_roundw
        case rel => exact ⟨k + 1, by omega, by go_num, hs3, by rw [hst2.out]; exact hl3, ⟨A3, c3, hbb3, by rw [hst2.out]; exact hI3⟩, hB3⟩
        case measure => simp [intOf]; omega
    · obtain rfl : k = o.length := by omega
      have hR : Hid (settleN Ss o x = (bestK Ss o x o.length).1) := Lib.hid rfl
      have b0 : wr.cell? ⟨bs + 1, 0, none⟩ = some (.slice A3 o.length c3) := by rw [cell_of_block hbb]; rfl
      have hI3 := hI.now
      clear hs hl hbb hI
      go_wp2
      go_ret
      exact ⟨_, rfl, by rw [hR.out]; exact hI3, hb⟩
set_option maxHeartbeats 1000000 in
set_option maxRecDepth 100000 in
/-- What may not be asked for. -/
theorem osift_no (w : World) (V v : Value) (Ss : List (BitVec 256)) (zs : List Int) (r : Int) (hS : SetsAt w w.heap.size V Ss) (hz : IntsAt w w.heap.size v zs) (h : mayO Ss zs = false) :
    Calls Try.prog 17 #[V, v, .int .i64 r] w fun e w' => e = .returned (.tuple #[.slice none 0 0, .int .i64 1]) ∧ Below w.heap.size w w' := by
  have HZ := osize_no w V v Ss zs hS hz h
  obtain ⟨A, c, rfl, -, -⟩ := hz
  obtain ⟨A2, c2, rfl⟩ := hS.form
  clear hS
  go_enter Try.func17, Try.ntmps17
  go_wp2_with fail
  refine HZ.mono ?_
  rintro e w1 ⟨rfl, hb1⟩
  clear HZ
  go_wp2
  go_ret2
  exact ⟨rfl, hb1⟩
/-- A row of numbers that the call owns, as a slice that reads so. -/
theorem own_ints7 {w : World} {B : Nat} {v : Value} {o : List Nat} (h : w.ownsRow B 3 1 v o.length (intsV o)) (h8 : o.length ≤ 8) : IntsAt w w.heap.size v (ofN o) := by
  rcases h.2 with ⟨rfl, h0⟩ | ⟨g, cap, cur, rfl, hg, hgg, hnc, hcm, hcs, htake⟩
  · have : o = [] := List.eq_nil_of_length_eq_zero h0
    subst this
    exact ⟨none, 0, rfl, by decide, fun h => absurd h (by decide)⟩
  · rw [Nat.mul_one] at htake
    refine ints_of_cells rfl h8 (fun _ => size_of_block hgg) fun j y hj => ?_
    have hjl := (List.getElem?_eq_some_iff.1 hj).1
    rw [cell_of_block hgg]
    have h1 : (cur.toList.take o.length)[j]? = some (.int .i64 y) := by rw [htake]; unfold intsV; rw [List.getElem?_map, hj]; rfl
    rw [List.getElem?_take, if_pos hjl] at h1
    simpa using h1
/-- How many rounds count. -/
def rnd (r : Int) : Nat := (max 0 (min r 4)).toNat
set_option maxHeartbeats 2000000 in
set_option maxRecDepth 100000 in
theorem osift_yes (w : World) (V v : Value) (Ss : List (BitVec 256)) (o : List Nat) (r : Int) (hS : SetsAt w w.heap.size V Ss) (hz : IntsAt w w.heap.size v (ofN o)) (ho : OrdOk o) (h8 : o.length ≤ 8) (h4 : Ss.length ≤ 4) (hf : fitS Ss o.length = true) :
    Calls Try.prog 17 #[V, v, .int .i64 r] w fun e w' => ∃ v', e = .returned (.tuple #[v', .int .i64 0]) ∧ IntsAt w' w'.heap.size v' (ofN (siftN Ss o (rnd r))) ∧ Below w.heap.size w w' := by
  have HZ := osize_good w V v Ss o hS hz ho h8 h4
  unfold szE at HZ
  rw [if_pos hf] at HZ
  have HC := fun w1 (hb : Below w.heap.size w w1) => clone_any w1 v o h8 ((hz.below hb).more hb.size)
  obtain ⟨A, c, rfl, -, -⟩ := hz
  have hSw := hS
  obtain ⟨A2, c2, rfl⟩ := hS.form
  rw [ofN_len] at *
  clear hS
  go_enter Try.func17, Try.ntmps17
  go_wp2_with fail
  refine HZ.mono ?_
  rintro e w1 ⟨rfl, hb1⟩
  have HC := HC w1 hb1
  clear HZ
  go_wp2_with fail
  refine HC.mono ?_
  rintro e w2 ⟨v2, rfl, hown, hb2⟩
  clear HC
  have hI2 := own_ints7 hown h8
  have hb2' := hb1.trans (hb2.mono hb1.size)
  have hrr : max 0 (min r 4) = ((rnd r : Nat) : Int) := by unfold rnd; omega
  have hr4 : rnd r ≤ 4 := by unfold rnd; omega
  clear hown hb1 hb2
  go_wp2
  go_loopw [10, 26] (fun s t wr => ∃ k : Nat, k ≤ rnd r ∧ t = .int .i64 k ∧ IntsAt wr wr.heap.size s (ofN (siftN Ss o k)) ∧ Below w.heap.size w wr) (fun _ t _ => rnd r - (intOf t).toNat)
  case atStart => exact ⟨0, by omega, rfl, hI2, hb2'⟩
  case round =>
    clear hI2 hb2' hrr
    obtain ⟨k, hk, rfl, hI, hb⟩ := hrel
    by_cases hlt : k < rnd r
    · obtain ⟨hko, hkl, -⟩ := sift_ok Ss ho h8 h4 k
      have hst : Hid (siftN Ss o (k + 1) = stepsN Ss (siftN Ss o k) o.length) := Lib.hid rfl
      generalize siftN Ss o k = b at *
      go_wp2
      obtain ⟨wo, rfl⟩ : ∃ wo : World, wo = wr := ⟨_, rfl⟩
      go_loopw [10, 30] (fun s t wr => ∃ j : Nat, j ≤ o.length ∧ t = .int .i64 j ∧ IntsAt wr wr.heap.size s (ofN (stepsN Ss b j)) ∧ Below w.heap.size w wr) (fun _ t _ => o.length - (intOf t).toNat)
      case atStart => exact ⟨0, by omega, rfl, hI, hb⟩
      case round =>
        clear hI hb
        obtain ⟨j, hj, rfl, hI, hb⟩ := hrel
        by_cases hlj : j < o.length
        · obtain ⟨hjo, hjl, -⟩ := steps_ok Ss hko (by omega) h4 j (by omega)
          have hsj : Hid (stepsN Ss b (j + 1) = settleN Ss (stepsN Ss b j) j) := Lib.hid rfl
          generalize stepsN Ss b j = m at *
          have HS := settle_any _ (.slice A2 Ss.length c2) _ Ss m j ((hSw.below hb).more hb.size) hI hjo (by omega) h4 (by rw [hjl, hkl]; exact hf) (hjo.mem (by omega))
          obtain ⟨As, cs, rfl, -, -⟩ := hI
          clear hjl
          go_wp2_with fail
          refine HS.mono ?_
          rintro e w3 ⟨v3, rfl, hI3, hb3⟩
          clear HS
          go_wp2
          go_roundw
          case rel => exact ⟨j + 1, by omega, by go_num, by rw [hsj.out]; exact hI3, hb.trans (hb3.mono hb.size)⟩
          case measure => simp [intOf]; omega
        · obtain rfl : j = o.length := by omega
          go_wp2
          go_roundw
          case rel => exact ⟨k + 1, by omega, by go_num, by rw [hst.out]; exact hI, hb⟩
          case measure => simp [intOf]; omega
    · have hkk : Hid (k = rnd r) := Lib.hid (by omega)
      go_wp2
      go_ret2
      exact ⟨_, rfl, by rw [← hkk.out]; exact hI, hb⟩
end Go.Proofs.Ytfamdckaljniiaa
