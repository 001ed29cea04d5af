/- Plain and Size of package order; great, may; the document's Size. -/
import Derived.Test.YtfamdckaljniiaaMvl07
import Derived.Test.YtfamdckaljniiaaStsAt
import Derived.Test.YtfamdckaljniiaaKnw06
namespace Go.Proofs.Ytfamdckaljniiaa
open Go.RowKit Go.Joins

/-- The slice of a set in a list: its four words, in every later world. -/
theorem sts_get {w : World} {v : Value} {Ss : List (BitVec 256)} (h : SetsAt w w.heap.size v Ss) {k : Nat} {X : BitVec 256} (hk : Ss[k]? = some X) :
    ∃ b off c, v = .slice (some ⟨b, off, none⟩) Ss.length c ∧ b < w.heap.size ∧ ∀ wr, Below w.heap.size w wr → wr.cell? ⟨b, off + k * 4, none⟩ = some (.int .u64 (wd X 0).toNat) ∧ wr.cell? ⟨b, off + k * 4 + 1, none⟩ = some (.int .u64 (wd X 1).toNat) ∧
      wr.cell? ⟨b, off + k * 4 + 2, none⟩ = some (.int .u64 (wd X 2).toNat) ∧ wr.cell? ⟨b, off + k * 4 + 3, none⟩ = some (.int .u64 (wd X 3).toNat) := by
  obtain ⟨A, c, e, hl, h⟩ := h
  obtain ⟨b, off, eA, hB, hc⟩ := h (by have := (List.getElem?_eq_some_iff.1 hk).1; omega)
  obtain ⟨a0, a1, a2, a3⟩ := hc k X hk
  exact ⟨b, off, c, by rw [e, eA], hB, fun wr hb => ⟨(hb.cell (p := ⟨b, off + k * 4, none⟩) hB).trans a0, (hb.cell (p := ⟨b, off + k * 4 + 1, none⟩) hB).trans a1, (hb.cell (p := ⟨b, off + k * 4 + 2, none⟩) hB).trans a2, (hb.cell (p := ⟨b, off + k * 4 + 3, none⟩) hB).trans a3⟩⟩
set_option maxHeartbeats 1000000 in
set_option maxRecDepth 100000 in
theorem osize_many (w : World) (V v : Value) (Ss : List (BitVec 256)) (o : List Nat) (hS : SetsAt w w.heap.size V Ss) (hz : IntsAt w w.heap.size v (ofN o)) (ho : OrdOk o) (h8 : o.length ≤ 8) (h4 : ¬ Ss.length ≤ 4) :
    Calls Try.prog 10 #[V, v] w fun e w' => e = .returned (.tuple #[.int .i64 0, .int .i64 1]) ∧ Below w.heap.size w w' := by
  have HN := bnew_yes w v o 20000 hz ho h8 (by decide)
  obtain ⟨A, c, rfl⟩ := hS.form
  obtain ⟨A2, c2, rfl, -, -⟩ := hz
  clear hS
  rw [ofN_len] at HN ⊢
  go_enter Try.func10, Try.ntmps10
  go_wp2_with fail
  refine HN.mono ?_
  rintro e w1 ⟨bb, ab, bm, ov, rfl, h1, hb1⟩
  clear HN
  go_wp2
  go_ret2
  exact ⟨rfl, hb1⟩
set_option maxHeartbeats 1000000 in
set_option maxRecDepth 100000 in
theorem osize_bad (w : World) (V v : Value) (Ss : List (BitVec 256)) (zs : List Int) (hS : SetsAt w w.heap.size V Ss) (hz : IntsAt w w.heap.size v zs) (ho : ¬ OrdI zs) :
    Calls Try.prog 10 #[V, v] w fun e w' => e = .returned (.tuple #[.int .i64 0, .int .i64 1]) ∧ Below w.heap.size w w' := by
  have HN := bnew_no w v zs 20000 hz ho
  obtain ⟨A, c, rfl⟩ := hS.form
  obtain ⟨A2, c2, rfl, -, -⟩ := hz
  clear hS
  go_enter Try.func10, Try.ntmps10
  go_wp2_with fail
  refine HN.mono ?_
  rintro e w1 ⟨rfl, hb1⟩
  clear HN
  go_wp2
  go_ret2
  exact ⟨rfl, hb1⟩
/-- What Size answers: the sum, or the error of a set that has other points. -/
def szE (Ss : List (BitVec 256)) (o : List Nat) : Value := if fitS Ss o.length then .tuple #[.int .i64 (szs Ss o : Nat), .int .i64 0] else .tuple #[.int .i64 0, .int .i64 1]
set_option maxHeartbeats 2000000 in
set_option maxRecDepth 100000 in
theorem osize_good (w : World) (V v : Value) (Ss : List (BitVec 256)) (o : List Nat) (hS : SetsAt w w.heap.size V Ss) (hz : IntsAt w w.heap.size v (ofN o)) (ho : OrdOk o) (h8 : o.length ≤ 8) (h4 : Ss.length ≤ 4) :
    Calls Try.prog 10 #[V, v] w fun e w' => e = .returned (szE Ss o) ∧ Below w.heap.size w w' := by
  have HN := bnew_yes w v o 20000 hz ho h8 (by decide)
  have hGet := fun k X (hk : Ss[k]? = some X) => sts_get hS hk
  obtain ⟨A, c, rfl⟩ := hS.form
  obtain ⟨A2, c2, rfl, -, -⟩ := hz
  rw [ofN_len] at HN ⊢
  clear hS
  go_enter Try.func10, Try.ntmps10
  go_wp2_with fail
  refine HN.mono ?_
  rintro e w1 ⟨bb, ab, bm, ov, rfl, h1, hb1⟩
  clear HN
  go_wp2
  go_loopw [8, 26] (fun s t wr => ∃ k : Nat, k ≤ Ss.length ∧ t = .int .i64 k ∧ s = .int .i64 (szs (Ss.take k) o : Nat) ∧ Hid (∀ j X, j < k → Ss[j]? = some X → X &&& ~~~(allB o.length) = 0) ∧
    (∃ v full S, BdAt wr w.heap.size bb ab bm ov v 20000 full S o ∧ cnt S ≤ k * 255) ∧ Below w.heap.size w wr) (fun _ t _ => Ss.length - (intOf t).toNat)
  case atStart => exact ⟨0, by omega, rfl, rfl, Lib.hid (fun j X hj _ => by omega), ⟨_, _, _, h1, by show 0 ≤ 0; omega⟩, hb1⟩
  case round =>
    clear h1 hb1
    obtain ⟨k, hk, rfl, rfl, hF, ⟨v0, full0, S, hd, hcnt⟩, hb⟩ := hrel
    by_cases hlt : k < Ss.length
    · obtain ⟨X, hX⟩ : ∃ X, Ss[k]? = some X := ⟨_, List.getElem?_eq_getElem hlt⟩
      obtain ⟨b, off, c', e, hBb, hc⟩ := hGet k X hX
      simp only [Value.slice.injEq] at e
      obtain ⟨rfl, -, rfl⟩ := e
      obtain ⟨x0, x1, x2, x3⟩ := hc wr hb
      have hst := szs_step hX o
      have hle := szs_take_le Ss k h8 h4
      have hle2 := szs_take_le Ss (k + 1) h8 h4
      have hbx := heap_alloc_new wr (.cells #[.int .u64 (wd X 0).toNat, .int .u64 (wd X 1).toNat, .int .u64 (wd X 2).toNat, .int .u64 (wd X 3).toNat] 42 (0, 0))
      have hd2 := hd.below (below_alloc1 wr (.cells #[.int .u64 (wd X 0).toNat, .int .u64 (wd X 1).toNat, .int .u64 (wd X 2).toNat, .int .u64 (wd X 3).toNat] 42 (0, 0)))
      have hB2 := hb.alloc hb.size (.cells #[.int .u64 (wd X 0).toNat, .int .u64 (wd X 1).toNat, .int .u64 (wd X 2).toNat, .int .u64 (wd X 3).toNat] 42 (0, 0))
      clear hc hGet
      by_cases hX0 : X &&& ~~~(allB o.length) = 0
      · have HO := bof_yes hd2 X hX0
        unfold sv wv at HO
        have hFx : Hid (∀ j Y, j < k + 1 → Ss[j]? = some Y → Y &&& ~~~(allB o.length) = 0) := Lib.hid (fun j Y hj hY => by
          by_cases e : j = k
          · subst e; rw [hX] at hY; injection hY with hY; rw [← hY]; exact hX0
          · exact hF.out j Y (by omega) hY)
        have hXH := Lib.hid hX
        have hlow := hb.size
        generalize hszk : szs (Ss.take k) o = z at *
        have hstH := Lib.hid hst
        clear hX hX0 hF hst hd hszk
        go_wp2_with fail
        refine HO.mono ?_
        rintro e w3 ⟨v3, full3, T, f, er, rfl, h3, hb3, hk3, hO⟩
        obtain ⟨rfl, f0, fs⟩ := hO.1.enough (by have := two_eight h8; omega)
        have hfew := hO.1.few
        have h28 := two_eight h8
        have hB3 := hB2.trans hb3
        have HZ := bsize_any h3 f f0
        rw [show (fun c => says T c f) = setF o X from funext fs] at HZ
        have hszl := sizeB_le (setF o X) o.length o.length
        have hsum := hstH.out
        generalize sizeB (setF o X) o.length o.length = y at *
        clear HO hO hbx hd2 hb3 fs f0 hstH
        go_wp2_with fail
        refine HZ.mono ?_
        rintro e w4 ⟨rfl, hb4⟩
        clear HZ
        have hsumH := Lib.hid hsum
        clear hsum
        go_wp2
        go_roundw
        case rel => exact ⟨k + 1, by omega, by go_num, by rw [hsumH.out]; go_num, hFx, ⟨_, _, _, h3.below hb4, by omega⟩, hB3.trans (hb4.mono hB3.size)⟩
        case measure => simp [intOf]; omega
      · have HO := bof_no hd2 X hX0
        have hR : Hid (szE Ss o = .tuple #[.int .i64 0, .int .i64 1]) := Lib.hid (by unfold szE; rw [fitS_no hX hX0]; rfl)
        unfold sv wv at HO
        generalize szs (Ss.take k) o = z at *
        clear hX hX0 hF hst hd hle2
        go_wp2_with fail
        refine HO.mono ?_
        rintro e w3 ⟨rfl, hb3⟩
        clear HO
        go_wp2
        go_ret2
        exact ⟨by rw [hR.out]; rfl, hB2.trans (hb3.mono hB2.size)⟩
    · have hkk : k = Ss.length := by omega
      have hR : Hid (szE Ss o = .tuple #[.int .i64 (szs (Ss.take k) o : Nat), .int .i64 0]) := Lib.hid (by
        unfold szE
        have hf : fitS Ss o.length = true := by
          unfold fitS
          rw [List.all_eq_true]
          intro X hX
          obtain ⟨j, hj⟩ := List.mem_iff_getElem?.1 hX
          exact decide_eq_true (hF.out j X (by have := (List.getElem?_eq_some_iff.1 hj).1; omega) hj)
        rw [if_pos hf, hkk, List.take_length])
      clear hkk hF
      generalize szs (Ss.take k) o = z at *
      go_wp2
      go_ret2
      exact ⟨by rw [hR.out]; rfl, hb⟩

set_option maxHeartbeats 1000000 in
/-- Plain: nothing, or the numbers in their order. -/
theorem plain_no (n : Int) (h : n < 0 ∨ 8 < n) (w : World) :
    Calls Try.prog 9 #[.int .i64 n] w fun e w' => e = .returned (.slice none 0 0) ∧ Below w.heap.size w w' := by
  by_cases h0 : n < 0
  · go_enter Try.func9, Try.ntmps9
    go_wp2
    go_ret
    exact ⟨rfl, Below.refl _ _⟩
  · have h8 : 8 < n := by omega
    go_enter Try.func9, Try.ntmps9
    go_wp2
    go_ret
    exact ⟨rfl, Below.refl _ _⟩
/-- The first k are told; the others are 0 still. -/
def plainV (n k : Nat) : Array Value := ((List.range n).map fun j => Value.int .i64 (if j < k then (j : Int) else 0)).toArray
theorem plainV_get {n k j : Nat} (h : j < n) : (plainV n k)[j]? = some (.int .i64 (if j < k then (j : Int) else 0)) := by
  unfold plainV
  simp [h]
theorem plainV_size (n k : Nat) : (plainV n k).size = n := by unfold plainV; simp
theorem plainV_set (n k : Nat) : (plainV n k).setIfInBounds k (.int .i64 k) = plainV n (k + 1) := by
  refine Array.ext_getElem? fun j => ?_
  rw [Array.getElem?_setIfInBounds, plainV_size]
  by_cases hj : j < n
  · rw [plainV_get hj, plainV_get hj]
    by_cases e : k = j
    · subst e; rw [if_pos rfl, if_pos hj, if_pos (by omega)]
    · rw [if_neg e]
      by_cases h1 : j < k
      · rw [if_pos h1, if_pos (by omega)]
      · rw [if_neg h1, if_neg (by omega)]
  · have h1 : (plainV n k)[j]? = none := Array.getElem?_eq_none (by rw [plainV_size]; omega)
    have h2 : (plainV n (k + 1))[j]? = none := Array.getElem?_eq_none (by rw [plainV_size]; omega)
    rw [h1, h2]
    by_cases e : k = j
    · rw [if_pos e, if_neg (by omega)]
    · rw [if_neg e]
theorem plainV_made (n : Nat) : plainV n 0 = madeCells #[Value.int .i64 0] n := by
  apply Array.toList_inj.1
  rw [toList_madeCells_one]
  apply List.ext_getElem?
  intro j
  unfold plainV
  by_cases hj : j < n <;> simp [hj]
def plainO (n k : Nat) : Obj := .cells (plainV n k) 3 (0, 0)
theorem make_plain (n : Nat) (hn : n ≤ 8) (w : World) : (Instr.makeSlice 23 (.int .i64 n) (.int .i64 n)).run Try.prog w = .ok (.slice (some ⟨w.heap.size, 0, none⟩) n n) (w.alloc (plainO n 0)) := by
  obtain ⟨i0, hi, hz0, hz1, hz2⟩ := info_parts Try.infoInt
  have h := run_makeSlice (P := Try.prog) w 23 3 i0 (.int .i64 0) Try.underlying23 hi hz0 .i64 .i64 n n (by omega) (by omega) (by rw [hz1]; simp; omega) (by rw [hz2]; omega) (by omega)
  rw [h, hz1]
  unfold plainO
  rw [plainV_made]
  simp [Value.cells]
set_option maxHeartbeats 1000000 in
set_option maxRecDepth 100000 in
theorem plain_yes (n : Nat) (h : n ≤ 8) (w : World) :
    Calls Try.prog 9 #[.int .i64 n] w fun e w' => ∃ v, e = .returned v ∧ IntsAt w' w'.heap.size v (ofN (List.range n)) ∧ Below w.heap.size w w' := by
  have hmk := make_plain n h
  have hB0 := below_alloc1 w (plainO n 0)
  have hs0 := heap_alloc_new w (plainO n 0)
  go_enter Try.func9, Try.ntmps9
  go_wp2
  go_loopw [14] (fun t wr => ∃ k : Nat, k ≤ n ∧ t = .int .i64 k ∧ wr.heap[w.heap.size]? = some (plainO n k) ∧ Below w.heap.size w wr) (fun t _ => n - (intOf t).toNat)
  case atStart => exact ⟨0, by omega, rfl, hs0, hB0⟩
  case round =>
    clear hs0 hB0 hmk
    obtain ⟨k, hk, rfl, hs, hb⟩ := hrel
    unfold plainO at hs
    by_cases hlt : k < n
    · have m0 : wr.cell? ⟨w.heap.size, k, none⟩ = some (.int .i64 (if k < k then (k : Int) else 0)) := by rw [cell_of_block hs]; exact plainV_get hlt
      rw [if_neg (Nat.lt_irrefl k)] at m0
      have m1 : wr.frozen? ⟨w.heap.size, k, none⟩ = false := unfrozen_of_block hs k
      have hs' : (wr.setCell ⟨w.heap.size, k, none⟩ (.int .i64 k)).heap[w.heap.size]? = some (plainO n (k + 1)) := by
        unfold plainO
        rw [block_setCell hs, plainV_set]
      clear hs
      go_wp2
      go_roundw
      case rel => exact ⟨k + 1, by omega, by go_num, hs', hb.setCell (by simp) _⟩
      case measure => simp [intOf]; omega
    · obtain rfl : k = n := by omega
      have hI : IntsAt wr wr.heap.size (.slice (some ⟨w.heap.size, 0, none⟩) k k) (ofN (List.range k)) := by
        refine ⟨some ⟨w.heap.size, 0, none⟩, k, by rw [ofN_len, List.length_range], by rw [ofN_len, List.length_range]; omega, fun _ => ⟨w.heap.size, 0, rfl, size_of_block hs, fun j x hj => ?_⟩⟩
        have hjl := (List.getElem?_eq_some_iff.1 hj).1
        rw [ofN_len, List.length_range] at hjl
        have hx : x = (j : Int) := by
          unfold ofN at hj
          rw [List.getElem?_map, List.getElem?_range hjl] at hj
          simpa using hj.symm
        rw [Nat.zero_add, cell_of_block hs, plainV_get hjl, if_pos hjl, hx]
      clear hs
      go_wp2
      go_ret
      exact ⟨_, rfl, hI, hb⟩
set_option maxHeartbeats 1000000 in
/-- More than is looked at. -/
theorem great7_any (V v : Value) (Ss : List (BitVec 256)) (zs : List Int) (w : World) (hS : SetsAt w w.heap.size V Ss) (hz : IntsAt w w.heap.size v zs) :
    Calls Try.prog 7 #[V, v] w fun e w' => e = .returned (.bool (decide (20 < Ss.length) || decide (20 < zs.length))) ∧ w = w' := by
  obtain ⟨A, c, rfl⟩ := hS.form
  obtain ⟨A2, c2, rfl, -, -⟩ := hz
  clear hS
  have e : Hid ((decide ((20 : Int) < Ss.length) || decide ((20 : Int) < zs.length)) = (decide (20 < Ss.length) || decide (20 < zs.length))) := Lib.hid (by
    rw [Bool.eq_iff_iff, Bool.or_eq_true, Bool.or_eq_true, decide_eq_true_iff, decide_eq_true_iff, decide_eq_true_iff, decide_eq_true_iff]
    omega)
  by_cases h1 : 20 < Ss.length
  · go_enter Try.func7, Try.ntmps7
    go_wp2
    go_ret
    exact ⟨by simp, rfl⟩
  · go_enter Try.func7, Try.ntmps7
    go_wp2
    go_ret
    exact ⟨by rw [← e.out]; rfl, rfl⟩
/-- What may be asked for. -/
def mayO (Ss : List (BitVec 256)) (zs : List Int) : Bool := decide (Ss.length ≤ 4) && (decide (OrdI zs) && fitS Ss zs.length)
set_option maxHeartbeats 2000000 in
set_option maxRecDepth 100000 in
theorem may7_any (V v : Value) (Ss : List (BitVec 256)) (zs : List Int) (w : World) (hS : SetsAt w w.heap.size V Ss) (hz : IntsAt w w.heap.size v zs) :
    Calls Try.prog 11 #[V, v] w fun e w' => e = .returned (.bool (mayO Ss zs)) ∧ Below w.heap.size w w' := by
  have HO := fun w1 (hb : Below w.heap.size w w1) => rorder_any w1 v zs ((hz.below hb).more hb.size)
  have hGet := fun k X (hk : Ss[k]? = some X) => sts_get hS hk
  obtain ⟨A, c, rfl⟩ := hS.form
  obtain ⟨A2, c2, rfl, -, -⟩ := hz
  clear hS
  by_cases h4 : Ss.length ≤ 4
  · by_cases ho : OrdI zs
    · rw [decide_eq_true ho] at HO
      have HO := HO w (Below.refl _ _)
      have h8 : zs.length ≤ 8 := ho.1
      have hM : Hid (mayO Ss zs = fitS Ss zs.length) := Lib.hid (by unfold mayO; rw [decide_eq_true h4, decide_eq_true ho]; rfl)
      have HF := fun X w => rof6_any X zs.length h8 w
      unfold sv wv at HF
      go_enter Try.func11, Try.ntmps11
      go_wp2_with fail
      refine HO.mono ?_
      rintro e w1 ⟨rfl, hb1⟩
      clear HO
      go_wp2
      go_loopw [5] (fun t wr => ∃ k : Nat, k ≤ Ss.length ∧ t = .int .i64 k ∧ Hid (∀ j X, j < k → Ss[j]? = some X → X &&& ~~~(allB zs.length) = 0) ∧ Below w.heap.size w wr) (fun t _ => Ss.length - (intOf t).toNat)
      case atStart => exact ⟨0, by omega, rfl, Lib.hid (fun j X hj _ => by omega), hb1⟩
      case round =>
        clear hb1
        obtain ⟨k, hk, rfl, hF, hb⟩ := hrel
        by_cases hlt : k < Ss.length
        · obtain ⟨X, hX⟩ : ∃ X, Ss[k]? = some X := ⟨_, List.getElem?_eq_getElem hlt⟩
          obtain ⟨b, off, c', e, hBb, hc⟩ := hGet k X hX
          simp only [Value.slice.injEq] at e
          obtain ⟨rfl, -, rfl⟩ := e
          obtain ⟨x0, x1, x2, x3⟩ := hc wr hb
          have HF := HF X wr
          clear hc hGet
          by_cases hX0 : X &&& ~~~(allB zs.length) = 0
          · have hFx : Hid (∀ j Y, j < k + 1 → Ss[j]? = some Y → Y &&& ~~~(allB zs.length) = 0) := Lib.hid (fun j Y hj hY => by
              by_cases e : j = k
              · subst e; rw [hX] at hY; injection hY with hY; rw [← hY]; exact hX0
              · exact hF.out j Y (by omega) hY)
            rw [decide_eq_true hX0] at HF
            clear hX hX0 hF
            go_wp2_with fail
            refine HF.mono ?_
            rintro e w3 ⟨rfl, hb3⟩
            clear HF
            go_wp2
            go_roundw
            case rel => exact ⟨k + 1, by omega, by go_num, hFx, hb.trans (hb3.mono hb.size)⟩
            case measure => simp [intOf]; omega
          · have hR : Hid (fitS Ss zs.length = false) := Lib.hid (fitS_no hX hX0)
            rw [decide_eq_false hX0] at HF
            clear hX hX0 hF
            go_wp2_with fail
            refine HF.mono ?_
            rintro e w3 ⟨rfl, hb3⟩
            clear HF
            go_wp2
            go_ret
            exact ⟨by rw [hM.out, hR.out]; rfl, hb.trans (hb3.mono hb.size)⟩
        · have hR : Hid (fitS Ss zs.length = true) := Lib.hid (by
            unfold fitS
            rw [List.all_eq_true]
            intro X hX
            obtain ⟨j, hj⟩ := List.mem_iff_getElem?.1 hX
            exact decide_eq_true (hF.out j X (by have := (List.getElem?_eq_some_iff.1 hj).1; omega) hj))
          clear hF
          go_wp2
          go_ret
          exact ⟨by rw [hM.out, hR.out]; rfl, hb⟩
    · rw [decide_eq_false ho] at HO
      have HO := HO w (Below.refl _ _)
      have hM : Hid (mayO Ss zs = false) := Lib.hid (by unfold mayO; rw [decide_eq_true h4, decide_eq_false ho]; rfl)
      go_enter Try.func11, Try.ntmps11
      go_wp2_with fail
      refine HO.mono ?_
      rintro e w1 ⟨rfl, hb1⟩
      clear HO
      go_wp2
      go_ret
      exact ⟨by rw [hM.out]; rfl, hb1⟩
  · have hM : Hid (mayO Ss zs = false) := Lib.hid (by unfold mayO; rw [decide_eq_false h4]; rfl)
    go_enter Try.func11, Try.ntmps11
    go_wp2
    go_ret
    exact ⟨by rw [hM.out]; rfl, Below.refl _ _⟩
set_option maxHeartbeats 1000000 in
set_option maxRecDepth 100000 in
/-- The document's Size. -/
theorem rsize7_any (V v : Value) (Ss : List (BitVec 256)) (o : List Nat) (w : World) (hS : SetsAt w w.heap.size V Ss) (hz : IntsAt w w.heap.size v (ofN o)) (ho : OrdOk o) (h8 : o.length ≤ 8) (h4 : Ss.length ≤ 4) :
    Calls Try.prog 12 #[V, v] w fun e w' => e = .returned (.int .i64 (szs Ss o : Nat)) ∧ Below w.heap.size w w' := by
  have HZ := fun X w1 (hb : Below w.heap.size w w1) => rsize6_any X ho h8 v w1 ((hz.below hb).more hb.size)
  have hGet := fun k X (hk : Ss[k]? = some X) => sts_get hS hk
  obtain ⟨A, c, rfl⟩ := hS.form
  obtain ⟨A2, c2, rfl, -, -⟩ := hz
  clear hS
  unfold sv wv at HZ
  go_enter Try.func12, Try.ntmps12
  go_wp2
  go_loopw [5, 6] (fun s t wr => ∃ k : Nat, k ≤ Ss.length ∧ t = .int .i64 k ∧ s = .int .i64 (szs (Ss.take k) o : Nat) ∧ Below w.heap.size w wr) (fun _ t _ => Ss.length - (intOf t).toNat)
  case atStart => exact ⟨0, by omega, rfl, rfl, Below.refl _ _⟩
  case round =>
    obtain ⟨k, hk, rfl, rfl, hb⟩ := hrel
    by_cases hlt : k < Ss.length
    · obtain ⟨X, hX⟩ : ∃ X, Ss[k]? = some X := ⟨_, List.getElem?_eq_getElem hlt⟩
      obtain ⟨b, off, c', e, hBb, hc⟩ := hGet k X hX
      simp only [Value.slice.injEq] at e
      obtain ⟨rfl, -, rfl⟩ := e
      obtain ⟨x0, x1, x2, x3⟩ := hc wr hb
      have hst := szs_step hX o
      have hle := szs_take_le Ss k h8 h4
      have hle2 := szs_take_le Ss (k + 1) h8 h4
      have HZ := HZ X wr hb
      have hszl := sizeB_le (setF o X) o.length o.length
      generalize szs (Ss.take k) o = z at *
      generalize sizeB (setF o X) o.length o.length = y at *
      have hstH := Lib.hid hst
      have hyl : y ≤ 1020 := by have := two_eight h8; omega
      clear hc hGet hX hst hle2
      go_wp2_with fail
      refine HZ.mono ?_
      rintro e w3 ⟨rfl, hb3⟩
      clear HZ
      go_wp2
      go_roundw
      case rel => exact ⟨k + 1, by omega, by go_num, by rw [hstH.out]; go_num, hb.trans (hb3.mono hb.size)⟩
      case measure => simp [intOf]; omega
    · have hkk : Hid (szs (Ss.take k) o = szs Ss o) := Lib.hid (by rw [show k = Ss.length by omega, List.take_length])
      generalize szs (Ss.take k) o = z at *
      clear hGet HZ
      go_wp2
      go_ret
      exact ⟨by rw [← hkk.out]; rfl, hb⟩
/-- Whatever may not be asked for. -/
theorem osize_no (w : World) (V v : Value) (Ss : List (BitVec 256)) (zs : List Int) (hS : SetsAt w w.heap.size V Ss) (hz : IntsAt w w.heap.size v zs) (h : mayO Ss zs = false) :
    Calls Try.prog 10 #[V, v] w fun e w' => e = .returned (.tuple #[.int .i64 0, .int .i64 1]) ∧ Below w.heap.size w w' := by
  by_cases ho : OrdI zs
  · obtain ⟨o, rfl, hoo, h8⟩ := ordI_nat ho
    by_cases h4 : Ss.length ≤ 4
    · have hf : fitS Ss o.length = false := by
        unfold mayO at h
        rw [decide_eq_true h4, decide_eq_true ho, ofN_len] at h
        simpa using h
      have := osize_good w V v Ss o hS hz hoo h8 h4
      unfold szE at this
      rw [if_neg (by rw [hf]; decide)] at this
      exact this
    · exact osize_many w V v Ss o hS hz hoo h8 h4
  · exact osize_bad w V v Ss zs hS hz ho
end Go.Proofs.Ytfamdckaljniiaa
