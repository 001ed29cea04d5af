/- The document's own answers of layer 4: Bit, Covered, Marked, size, Same. The document's own Of, for every table. Same of the document's own answers of layer 4, for every two specs. -/
import Derived.Test.YtckmjampgeojbaaGreatDoorJ06
import Derived.Test.YtckmjampgeojbaaGreatDoorJ04
import Derived.Test.YtckmjampgeojbaaGreatDoorJ05
import Derived.Test.YtckmjampgeojbaaGreatDoorJ13
namespace Go.Proofs.YtckmjampgeojbaaGreatDoor
open Go.RowKit Go.Joins

theorem bit8_any (x : BitVec 8) (i : Nat) (hi : i < 8) (w : World) :
    Calls Tryz.prog 42 #[bvv x, .int .i64 i] w fun e w' => e = .returned (.bool (x.getLsbD i)) ∧ w = w' := by
  have HB := fun w => bit_any x.toNat i (by omega) hi w
  have hm := bit_mod x i
  have hw : wrap64 (x.toNat : Int) = x.toNat := by unfold wrap64; omega
  unfold bvv
  cases hb : x.getLsbD i
  · rw [hm, hb] at HB
    clear hm
    go_enter Tryz.func42, Tryz.ntmps42
    go_wp2_with (go_at_call 72; refine (HB _).mono ?_; rintro e w' ⟨rfl, rfl⟩)
    go_ret
    exact ⟨rfl, rfl⟩
  · rw [hm, hb] at HB
    clear hm
    go_enter Tryz.func42, Tryz.ntmps42
    go_wp2_with (go_at_call 72; refine (HB _).mono ?_; rintro e w' ⟨rfl, rfl⟩)
    go_ret
    exact ⟨rfl, rfl⟩
theorem covB_step {rs : List Rw} {k : Nat} {x : Rw} (h : rs[k]? = some x) (p out : Nat) (hn : covB (rs.take k) p out = false) (hx : (x.o.getLsbD out && fits x.m x.v 8 p) = false) : covB (rs.take (k + 1)) p out = false := by
  unfold covB at *
  rw [any_append_one _ rs k x h, hn, hx]; rfl
theorem covB_yes {rs : List Rw} {k : Nat} {x : Rw} (h : rs[k]? = some x) (p out : Nat) (hx : (x.o.getLsbD out && fits x.m x.v 8 p) = true) : covB rs p out = true := by
  unfold covB
  rw [List.any_eq_true]
  exact ⟨x, List.mem_of_getElem? h, hx⟩
set_option maxHeartbeats 2000000 in
set_option maxRecDepth 100000 in
theorem covered_any (L : Value) (rs : List Rw) (p out : Nat) (hp : p < 256) (ho : out < 8) (w : World) (hL : RwsAt w w.heap.size L rs) :
    Calls Tryz.prog 25 #[L, .int .i64 p, .int .i64 out] w fun e w' => e = .returned (.bool (covB rs p out)) ∧ Below w.heap.size w w' := by
  have hst := Lib.hid (fun (j : Nat) (x : Rw) (h : rs[j]? = some x) => covB_step h p out)
  have hye := Lib.hid (fun (j : Nat) (x : Rw) (h : rs[j]? = some x) => covB_yes h p out)
  have hen : Hid (covB (rs.take rs.length) p out = covB rs p out) := Lib.hid (by rw [List.take_length])
  have hz : covB (rs.take 0) p out = false := by simp [covB]
  generalize covB rs p out = R at *
  obtain ⟨A, c, rfl, hlen, hA⟩ := hL
  go_enter Tryz.func25, Tryz.ntmps25
  go_wp2
  go_loopw [7] (fun t wr => ∃ j : Nat, j ≤ rs.length ∧ t = .int .i64 j ∧ Hid (covB (rs.take j) p out = false) ∧ Below w.heap.size w wr) (fun t _ => rs.length - (intOf t).toNat)
  case atStart => exact ⟨0, by omega, rfl, Lib.hid hz, Below.refl _ _⟩
  case round =>
    obtain ⟨j, hj, rfl, hH, hb⟩ := hrel
    by_cases hlt : j < rs.length
    · obtain ⟨b, off, rfl, hBb, hc⟩ := hA (by omega)
      obtain ⟨x, hx⟩ : ∃ x, rs[j]? = some x := ⟨_, List.getElem?_eq_getElem hlt⟩
      obtain ⟨c0, c1, c2⟩ := hc j x hx
      have d0 := (hb.cell (p := ⟨b, off + j * 3, none⟩) hBb).trans c0
      have d1 := (hb.cell (p := ⟨b, off + j * 3 + 1, none⟩) hBb).trans c1
      have d2 := (hb.cell (p := ⟨b, off + j * 3 + 2, none⟩) hBb).trans c2
      have HB := fun w => bit8_any x.o out ho w
      have HH := fun w => rhas_any x.m x.v p hp w
      have h1 := Lib.hid (hst.out j x hx hH.out)
      have h2 := Lib.hid (hye.out j x hx)
      unfold cv bvv at *
      clear hc c0 c1 c2 hA hx hst hye hen hz
      cases hbit : x.o.getLsbD out
      · rw [hbit] at HB h1
        clear hbit
        go_wp2_with (go_at_call 42; refine (HB _).mono ?_; rintro e w' ⟨rfl, rfl⟩)
        go_roundw
        case rel => exact ⟨j + 1, by omega, by go_num, Lib.hid (h1.out rfl), hb⟩
        case measure => simp [intOf]; omega
      · rw [hbit] at HB h1 h2
        clear hbit
        cases hf : fits x.m x.v 8 p
        · rw [hf] at HH h1
          clear hf
          go_wp2_with (go_at_call 42; refine (HB _).mono ?_; rintro e w' ⟨rfl, rfl⟩)
          refine (HH _).mono ?_
          rintro e w1 ⟨rfl, hb1⟩
          have hB1 := hb.trans (hb1.mono hb.size)
          clear hb1 HH HB
          go_wp2
          go_roundw
          case rel => exact ⟨j + 1, by omega, by go_num, Lib.hid (h1.out rfl), hB1⟩
          case measure => simp [intOf]; omega
        · rw [hf] at HH h2
          clear hf
          have hR := Lib.hid (h2.out rfl)
          go_wp2_with (go_at_call 42; refine (HB _).mono ?_; rintro e w' ⟨rfl, rfl⟩)
          refine (HH _).mono ?_
          rintro e w1 ⟨rfl, hb1⟩
          have hB1 := hb.trans (hb1.mono hb.size)
          clear hb1 HH HB
          go_wp2
          go_ret
          exact ⟨by rw [hR.out]; rfl, hB1⟩
    · have e : j = rs.length := by omega
      have hR := Lib.hid (by rw [← hen.out, ← e]; exact hH.out : R = false)
      clear hA hst hye hen hz
      go_wp2
      go_ret
      exact ⟨by rw [hR.out]; rfl, hb⟩
theorem markB_step {ls : List Ln} {k : Nat} {l : Ln} (h : ls[k]? = some l) (p out : Nat) (x : Int) (hn : markB (ls.take k) p out x = false) (hx : (decide (l.o.getD out 9 = x) && fits l.m l.v 8 p) = false) : markB (ls.take (k + 1)) p out x = false := by
  unfold markB at *
  rw [any_append_one _ ls k l h, hn, hx]; rfl
theorem markB_yes {ls : List Ln} {k : Nat} {l : Ln} (h : ls[k]? = some l) (p out : Nat) (x : Int) (hx : (decide (l.o.getD out 9 = x) && fits l.m l.v 8 p) = true) : markB ls p out x = true := by
  unfold markB
  rw [List.any_eq_true]
  exact ⟨l, List.mem_of_getElem? h, hx⟩
theorem pts_low (n : Nat) (hn : n ≤ 8) : (pts (bvOf fun p => decide (p < 2 ^ n))).length = 2 ^ n := by
  have h : ∀ k, k ≤ 8 → (pts (bvOf fun p => decide (p < 2 ^ k))).length = 2 ^ k := by decide +kernel
  exact h n hn
set_option maxHeartbeats 1000000 in
set_option maxRecDepth 100000 in
theorem size_any4 (n : Nat) (hn : n ≤ 8) (w : World) :
    Calls Tryz.prog 24 #[.int .i64 n] w fun e w' => e = .returned (.int .i64 (2 ^ n : Nat)) ∧ Below w.heap.size w w' := by
  have HA := fun w => refall_any n hn w
  have hl := Lib.hid (pts_low n hn)
  go_enter Tryz.func24, Tryz.ntmps24
  go_wp2_with fail
  refine (HA _).mono ?_
  rintro e w1 ⟨b, rfl, hb0, hb1, hc, hB1⟩
  have HS := refset_any (fun p => decide (p < 2 ^ n)) b 256 w1 hb1 hc
  generalize (bvOf fun p => decide (p < 2 ^ n)) = S at *
  clear HA hc
  have HL := fun w => reflist_any S w
  unfold sv wv at *
  go_wp2_with fail
  refine HS.mono ?_
  rintro e w2 ⟨rfl, hB2⟩
  clear HS
  go_wp2_with fail
  refine (HL _).mono ?_
  rintro e w3 ⟨v, rfl, hown, hB3⟩
  have hf : ∃ A c, v = .slice A (pts S).length c := by
    rcases hown.2 with ⟨hv, h0⟩ | ⟨g, cap, cur, hv, _⟩
    · exact ⟨none, 0, by rw [hv, h0]⟩
    · exact ⟨_, _, hv⟩
  obtain ⟨A, c, rfl⟩ := hf
  clear HL hown
  rw [hl.out]
  go_wp2
  go_ret
  exact ⟨rfl, (hB1.trans (hB2.mono hB1.size)).trans (hB3.mono (hB1.trans (hB2.mono hB1.size)).size)⟩
end Go.Proofs.YtckmjampgeojbaaGreatDoor
namespace Go.Proofs.YtckmjampgeojbaaGreatDoor
open Go.RowKit Go.Joins

def mayP (k : Int) (ls : List Ln) (o q : Nat) : Bool := markB ls q o 1 || (decide (k = 1) && markB ls q o 2) || (decide (2 ≤ k) && !markB ls q o 0)
def clP (k : Int) (ls : List Ln) (o q : Nat) : Bool := decide (2 ≤ k) && (markB ls q o 1 && markB ls q o 0)
theorem allB_low (n p : Nat) (hn : n ≤ 8) : (allB n).getLsbD p = decide (p < 2 ^ n) := by
  unfold allB
  rw [bvOf_bit]
  by_cases h : p < 2 ^ n
  · simp [h, two_pow_8 hn h]
  · simp [h]
theorem may_flags {k : Int} {i n : Nat} {ls : List Ln} {o : Nat} (hi : i ≤ 8) (h0 : 0 ≤ k) (h : ∀ q, q < 2 ^ i → clP k ls o q = false) :
    (bvOf fun q => decide (q < 2 ^ i) && mayP k ls o q) = mayK ⟨k, i, n, ls⟩ o := by
  refine bvOf_eq _ _ fun q hq => ?_
  unfold mayK mayP
  simp only [Int.toNat_natCast]
  by_cases hk0 : k = 0
  · rw [if_pos hk0, ptsM_bit _ _ _ _ _ hi, decide_eq_false (show ¬ k = 1 by omega), decide_eq_false (show ¬ 2 ≤ k by omega)]; simp
  · rw [if_neg hk0]
    by_cases hk1 : k = 1
    · rw [if_pos hk1, BitVec.getLsbD_or, ptsM_bit _ _ _ _ _ hi, ptsM_bit _ _ _ _ _ hi, decide_eq_true hk1, decide_eq_false (show ¬ 2 ≤ k by omega)]
      cases decide (q < 2 ^ i) <;> simp
    · rw [if_neg hk1, BitVec.getLsbD_and, BitVec.getLsbD_not, ptsM_bit _ _ _ _ _ hi, allB_low _ _ hi, decide_eq_false hk1, decide_eq_true (show 2 ≤ k by omega)]
      by_cases hqi : q < 2 ^ i
      · have hc := h q hqi
        unfold clP at hc
        rw [decide_eq_true (show 2 ≤ k by omega), Bool.true_and] at hc
        simp only [hqi, hq, decide_true, Bool.true_and, Bool.false_and, Bool.or_false]
        cases h1 : markB ls q o 1 <;> cases h2 : markB ls q o 0 <;> simp_all
      · simp [hqi]
theorem both_no {k : Int} {i n : Nat} {ls : List Ln} {o : Nat} (hi : i ≤ 8) (h : ∀ q, q < 2 ^ i → clP k ls o q = false) : bothK ⟨k, i, n, ls⟩ o = false := by
  unfold bothK
  simp only [Int.toNat_natCast]
  by_cases hk : 2 ≤ k
  · rw [decide_eq_true hk, Bool.true_and, decide_eq_false]
    intro hne
    apply hne
    apply BitVec.eq_of_getLsbD_eq
    intro q hq
    rw [BitVec.getLsbD_and, ptsM_bit _ _ _ _ _ hi, ptsM_bit _ _ _ _ _ hi]
    by_cases hqi : q < 2 ^ i
    · have hc := h q hqi
      unfold clP at hc
      rw [decide_eq_true hk, Bool.true_and] at hc
      simp only [hqi, decide_true, Bool.true_and, hc]
      exact BitVec.getLsbD_zero.symm
    · simp [hqi]
  · rw [decide_eq_false hk, Bool.false_and]
theorem both_yes {k : Int} {i n : Nat} {ls : List Ln} {o q : Nat} (hi : i ≤ 8) (hq : q < 2 ^ i) (h : clP k ls o q = true) : bothK ⟨k, i, n, ls⟩ o = true := by
  unfold clP at h
  obtain ⟨hk, h1, h0⟩ : 2 ≤ k ∧ markB ls q o 1 = true ∧ markB ls q o 0 = true := by simpa using h
  unfold bothK
  simp only [Int.toNat_natCast]
  rw [decide_eq_true hk, Bool.true_and, decide_eq_true_eq]
  intro e
  have := congrArg (fun x => x.getLsbD q) e
  simp only [BitVec.getLsbD_and, ptsM_bit _ _ _ _ _ hi, hq, h1, h0, decide_true, Bool.and_true] at this
  simp at this
theorem flags_step {w : World} {bo bm p : Nat} {f g : Nat → Bool} {u v : Bool} (hne : bo ≠ bm) (hf : w.heap[bo]? = some (.cells (flagsA (fun q => decide (q < p) && f q)) 4 (0, 0))) (hg : w.heap[bm]? = some (.cells (flagsA (fun q => decide (q < p) && g q)) 4 (0, 0))) (hu : f p = u) (hv : g p = v) :
    ((w.setCell ⟨bo, p, none⟩ (.bool u)).setCell ⟨bm, p, none⟩ (.bool v)).heap[bo]? = some (.cells (flagsA (fun q => decide (q < p + 1) && f q)) 4 (0, 0)) ∧
    ((w.setCell ⟨bo, p, none⟩ (.bool u)).setCell ⟨bm, p, none⟩ (.bool v)).heap[bm]? = some (.cells (flagsA (fun q => decide (q < p + 1) && g q)) 4 (0, 0)) ∧
    ∀ b, b ≠ bo → b ≠ bm → ((w.setCell ⟨bo, p, none⟩ (.bool u)).setCell ⟨bm, p, none⟩ (.bool v)).heap[b]? = w.heap[b]? := by
  subst hu; subst hv
  refine ⟨?_, ?_, fun b h1 h2 => ?_⟩
  · rw [Below.heap_setCell _ _ _ _ hne, block_setCell hf, step_flags]
  · rw [block_setCell ((Below.heap_setCell _ _ _ _ (Ne.symm hne)).trans hg), step_flags]
  · rw [Below.heap_setCell _ _ _ _ h2, Below.heap_setCell _ _ _ _ h1]
theorem Tryz.neSB : 45 ≠ 4 := by decide
end Go.Proofs.YtckmjampgeojbaaGreatDoor
namespace Go.Proofs.YtckmjampgeojbaaGreatDoor
open Go.RowKit Go.Joins

def sameSp (a b : Sp) : Bool := decide (a.i = b.i) && decide (a.on = b.on) && decide (a.may = b.may)
theorem list_eq {α : Type} {l l' : List α} (hl : l.length = l'.length) (h : ∀ q, q < l.length → l[q]? = l'[q]?) : l = l' := by
  apply List.ext_getElem?
  intro q
  by_cases hq : q < l.length
  · exact h q hq
  · rw [List.getElem?_eq_none (by omega), List.getElem?_eq_none (by omega)]
theorem sameSp_yes {i : Int} {on may on2 may2 : List (BitVec 256)} (h1 : on = on2) (h2 : may = may2) : sameSp ⟨i, on, may⟩ ⟨i, on2, may2⟩ = true := by
  unfold sameSp; subst h1; subst h2; simp
theorem sameSp_no {a b : Sp} (h : a.i ≠ b.i ∨ a.on ≠ b.on ∨ a.may ≠ b.may) : sameSp a b = false := by
  unfold sameSp
  rcases h with h | h | h <;> simp [h]
theorem ne_at4 {α : Type} {l l' : List α} {j : Nat} {X Y : α} (hX : l[j]? = some X) (hY : l'[j]? = some Y) (h : X ≠ Y) : l ≠ l' := by
  intro e; subst e; rw [hX] at hY; exact h (Option.some.inj hY)
set_option maxHeartbeats 2000000 in
set_option maxRecDepth 100000 in
theorem rsame4_no (i i2 : Int) (A C A2 C2 : Value) (on may on2 may2 : List (BitVec 256)) (w : World) (hA : SetsAt w w.heap.size A on) (hC : SetsAt w w.heap.size C may) (hA2 : SetsAt w w.heap.size A2 on2) (hC2 : SetsAt w w.heap.size C2 may2)
    (h : i ≠ i2 ∨ (i = i2 ∧ on.length ≠ on2.length) ∨ (i = i2 ∧ on.length = on2.length ∧ may.length ≠ may2.length)) :
    Calls Tryz.prog 9 #[spv i A C, spv i2 A2 C2] w fun e w' => e = .returned (.bool false) ∧ Below w.heap.size w w' := by
  obtain ⟨A, ac, rfl, la, -⟩ := hA
  obtain ⟨C, cc, rfl, lc, -⟩ := hC
  obtain ⟨A2, ac2, rfl, la2, -⟩ := hA2
  obtain ⟨C2, cc2, rfl, lc2, -⟩ := hC2
  have h' : ((i != i2) = true) ∨ ((i != i2) = false ∧ (((on.length : Nat) : Int) != ((on2.length : Nat) : Int)) = true) ∨ ((i != i2) = false ∧ (((on.length : Nat) : Int) != ((on2.length : Nat) : Int)) = false ∧ (((may.length : Nat) : Int) != ((may2.length : Nat) : Int)) = true) := by
    simp only [bne_iff_ne, bne_eq_false_iff_eq]; omega
  clear h
  have hB0 := below_alloc2 w (.cells #[Value.int .i64 i, .slice A on.length ac, .slice C may.length cc] 24 (0, 0)) (.cells #[Value.int .i64 i2, .slice A2 on2.length ac2, .slice C2 may2.length cc2] 24 (0, 0))
  unfold spv
  rcases h' with h | ⟨h1, h⟩ | ⟨h1, h2, h⟩
  all_goals
    go_enter Tryz.func9, Tryz.ntmps9
    go_wp2
    go_ret
    exact ⟨rfl, hB0⟩
set_option maxHeartbeats 8000000 in
set_option maxRecDepth 100000 in
theorem rsame4_yes (i : Int) (A C A2 C2 : Value) (on may on2 may2 : List (BitVec 256)) (w : World) (hA : SetsAt w w.heap.size A on) (hC : SetsAt w w.heap.size C may) (hA2 : SetsAt w w.heap.size A2 on2) (hC2 : SetsAt w w.heap.size C2 may2)
    (hlO : on.length = on2.length) (hlM : may.length = may2.length) :
    Calls Tryz.prog 9 #[spv i A C, spv i A2 C2] w fun e w' => e = .returned (.bool (sameSp ⟨i, on, may⟩ ⟨i, on2, may2⟩)) ∧ Below w.heap.size w w' := by
  have hyes : Hid ((∀ q, q < on.length → on[q]? = on2[q]?) → (∀ q, q < may.length → may[q]? = may2[q]?) → sameSp ⟨i, on, may⟩ ⟨i, on2, may2⟩ = true) := Lib.hid (fun h1 h2 => sameSp_yes (list_eq hlO h1) (list_eq hlM h2))
  have hnoO : Hid (∀ j X Y, on[j]? = some X → on2[j]? = some Y → X ≠ Y → sameSp ⟨i, on, may⟩ ⟨i, on2, may2⟩ = false) := Lib.hid (fun j X Y h1 h2 h => sameSp_no (Or.inr (Or.inl (ne_at4 h1 h2 h))))
  have hnoM : Hid (∀ j X Y, may[j]? = some X → may2[j]? = some Y → X ≠ Y → sameSp ⟨i, on, may⟩ ⟨i, on2, may2⟩ = false) := Lib.hid (fun j X Y h1 h2 h => sameSp_no (Or.inr (Or.inr (ne_at4 h1 h2 h))))
  generalize sameSp ⟨i, on, may⟩ ⟨i, on2, may2⟩ = R at *
  obtain ⟨A, ac, rfl, la, hA⟩ := hA
  obtain ⟨C, cc, rfl, lc, hC⟩ := hC
  obtain ⟨A2, ac2, rfl, la2, hA2⟩ := hA2
  obtain ⟨C2, cc2, rfl, lc2, hC2⟩ := hC2
  have e1 : ((i : Int) != i) = false := by simp
  have e2 : (((on.length : Nat) : Int) != ((on2.length : Nat) : Int)) = false := by rw [hlO]; simp
  have e3 : (((may.length : Nat) : Int) != ((may2.length : Nat) : Int)) = false := by rw [hlM]; simp
  replace hlO := Lib.hid hlO
  replace hlM := Lib.hid hlM
  have hB0 := below_alloc2 w (.cells #[Value.int .i64 i, .slice A on.length ac, .slice C may.length cc] 24 (0, 0)) (.cells #[Value.int .i64 i, .slice A2 on2.length ac2, .slice C2 may2.length cc2] 24 (0, 0))
  have ha0 := heap_alloc2_old w (.cells #[Value.int .i64 i, .slice A on.length ac, .slice C may.length cc] 24 (0, 0)) (.cells #[Value.int .i64 i, .slice A2 on2.length ac2, .slice C2 may2.length cc2] 24 (0, 0))
  have hb0 := heap_alloc2_new w (.cells #[Value.int .i64 i, .slice A on.length ac, .slice C may.length cc] 24 (0, 0)) (.cells #[Value.int .i64 i, .slice A2 on2.length ac2, .slice C2 may2.length cc2] 24 (0, 0))
  unfold spv
  go_enter Tryz.func9, Tryz.ntmps9
  go_wp2
  go_loopw [5] (fun t wr => ∃ j : Nat, j ≤ on.length ∧ t = .int .i64 j ∧ Hid (∀ q, q < j → on[q]? = on2[q]?) ∧ Below w.heap.size w wr ∧ wr.heap[w.heap.size]? = some (.cells #[Value.int .i64 i, .slice A on.length ac, .slice C may.length cc] 24 (0, 0)) ∧ wr.heap[w.heap.size + 1]? = some (.cells #[Value.int .i64 i, .slice A2 on2.length ac2, .slice C2 may2.length cc2] 24 (0, 0))) (fun t _ => on.length - (intOf t).toNat)
  case atStart => exact ⟨0, by omega, rfl, Lib.hid (fun q hq => by omega), hB0, ha0, hb0⟩
  case round =>
    obtain ⟨j, hj, rfl, hH, hb, hsa, hsb⟩ := hrel
    obtain ⟨p0, p1, p2, -⟩ := now3 hsa rfl
    obtain ⟨u0, u1, u2, -⟩ := now3 hsb rfl
    by_cases hlt : j < on.length
    · obtain ⟨b, off, rfl, hBb, hc⟩ := hA (by omega)
      obtain ⟨b2, off2, rfl, hBb2, hc2⟩ := hA2 (by have := hlO.out; omega)
      obtain ⟨X, hX⟩ : ∃ X, on[j]? = some X := ⟨_, List.getElem?_eq_getElem hlt⟩
      obtain ⟨Y, hY⟩ : ∃ Y, on2[j]? = some Y := ⟨_, List.getElem?_eq_getElem (by have := hlO.out; omega)⟩
      have hlt2 : (j : Int) < on2.length := by have := hlO.out; omega
      obtain ⟨x0, x1, x2, x3⟩ := hc j X hX
      obtain ⟨y0, y1, y2, y3⟩ := hc2 j Y hY
      have c0 := (hb.cell (p := ⟨b, off + j * 4, none⟩) hBb).trans x0
      have c1 := (hb.cell (p := ⟨b, off + j * 4 + 1, none⟩) hBb).trans x1
      have c2 := (hb.cell (p := ⟨b, off + j * 4 + 2, none⟩) hBb).trans x2
      have c3 := (hb.cell (p := ⟨b, off + j * 4 + 3, none⟩) hBb).trans x3
      have d0 := (hb.cell (p := ⟨b2, off2 + j * 4, none⟩) hBb2).trans y0
      have d1 := (hb.cell (p := ⟨b2, off2 + j * 4 + 1, none⟩) hBb2).trans y1
      have d2 := (hb.cell (p := ⟨b2, off2 + j * 4 + 2, none⟩) hBb2).trans y2
      have d3 := (hb.cell (p := ⟨b2, off2 + j * 4 + 3, none⟩) hBb2).trans y3
      have E := eq4_set X Y
      have hgX := Lib.hid hX
      have hgY := Lib.hid hY
      clear hc hc2 hX hY x0 x1 x2 x3 y0 y1 y2 y3
      unfold wv at *
      go_upto_region 6 with (fail)
      clear p0 p1 p2 u0 u1 u2
      obtain ⟨S0, S1, S2, -⟩ := box3 hsa rfl
      obtain ⟨T0, T1, T2, -⟩ := box3 hsb rfl
      have C0 := fun x : After wr => After.cell x c0
      have C1 := fun x : After wr => After.cell x c1
      have C2' := fun x : After wr => After.cell x c2
      have C3 := fun x : After wr => After.cell x c3
      have D0 := fun x : After wr => After.cell x d0
      have D1 := fun x : After wr => After.cell x d1
      have D2 := fun x : After wr => After.cell x d2
      have D3 := fun x : After wr => After.cell x d3
      by_cases hXY : X = Y
      · rw [decide_eq_true hXY] at E
        have hXY' := Lib.hid hXY
        clear hXY
        refine wp_region_after (by kernel_rfl) (by kernel_rfl) ?_
        repeat (first | go_big_quiet_step (fail))
        refine wpQuiet_nil ?_
        intro x
        clear C0 C1 C2' C3 D0 D1 D2 D3 S0 S1 S2 T0 T1 T2 c0 c1 c2 c3 d0 d1 d2 d3 E
        go_wp2
        go_roundw
        case rel => exact ⟨j + 1, by omega, by go_num, Lib.hid (fun q hq => by
          by_cases e : q = j
          · subst e; rw [hgX.out, hgY.out, hXY'.out]
          · exact hH.out q (by omega)), hb.trans (x.2.mono hb.size), x.same hsa, x.same hsb⟩
        case measure => simp [intOf]; omega
      · rw [decide_eq_false hXY] at E
        have hXY' := Lib.hid hXY
        have hR := Lib.hid (hnoO.out j X Y hgX.out hgY.out hXY)
        clear hXY
        refine wp_region_after (by kernel_rfl) (by kernel_rfl) ?_
        repeat (first | go_big_quiet_step (fail))
        refine wpQuiet_nil ?_
        intro x
        clear C0 C1 C2' C3 D0 D1 D2 D3 S0 S1 S2 T0 T1 T2 c0 c1 c2 c3 d0 d1 d2 d3 E
        go_wp2
        go_ret
        exact ⟨by rw [hR.out]; rfl, hb.trans (x.2.mono hb.size)⟩
    · have e : j = on.length := by omega
      have hon : Hid (∀ q, q < on.length → on[q]? = on2[q]?) := Lib.hid (fun q hq => hH.out q (by rw [e]; exact hq))
      clear hH hj e
      go_wp2
      clear p0 p1 p2 u0 u1 u2 hlt
      go_loopw [6] (fun t wr => ∃ j : Nat, j ≤ may.length ∧ t = .int .i64 j ∧ Hid (∀ q, q < j → may[q]? = may2[q]?) ∧ Below w.heap.size w wr ∧ wr.heap[w.heap.size]? = some (.cells #[Value.int .i64 i, .slice A on.length ac, .slice C may.length cc] 24 (0, 0)) ∧ wr.heap[w.heap.size + 1]? = some (.cells #[Value.int .i64 i, .slice A2 on2.length ac2, .slice C2 may2.length cc2] 24 (0, 0))) (fun t _ => may.length - (intOf t).toNat)
      case atStart => exact ⟨0, by omega, rfl, Lib.hid (fun q hq => by omega), hb, hsa, hsb⟩
      case round =>
        obtain ⟨j, hj, rfl, hH, hb, hsa, hsb⟩ := hrel
        obtain ⟨p0, p1, p2, -⟩ := now3 hsa rfl
        obtain ⟨u0, u1, u2, -⟩ := now3 hsb rfl
        by_cases hlt : j < may.length
        · obtain ⟨b, off, rfl, hBb, hc⟩ := hC (by omega)
          obtain ⟨b2, off2, rfl, hBb2, hc2⟩ := hC2 (by have := hlM.out; omega)
          obtain ⟨X, hX⟩ : ∃ X, may[j]? = some X := ⟨_, List.getElem?_eq_getElem hlt⟩
          obtain ⟨Y, hY⟩ : ∃ Y, may2[j]? = some Y := ⟨_, List.getElem?_eq_getElem (by have := hlM.out; omega)⟩
          have hlt2 : (j : Int) < may2.length := by have := hlM.out; omega
          obtain ⟨x0, x1, x2, x3⟩ := hc j X hX
          obtain ⟨y0, y1, y2, y3⟩ := hc2 j Y hY
          have c0 := (hb.cell (p := ⟨b, off + j * 4, none⟩) hBb).trans x0
          have c1 := (hb.cell (p := ⟨b, off + j * 4 + 1, none⟩) hBb).trans x1
          have c2 := (hb.cell (p := ⟨b, off + j * 4 + 2, none⟩) hBb).trans x2
          have c3 := (hb.cell (p := ⟨b, off + j * 4 + 3, none⟩) hBb).trans x3
          have d0 := (hb.cell (p := ⟨b2, off2 + j * 4, none⟩) hBb2).trans y0
          have d1 := (hb.cell (p := ⟨b2, off2 + j * 4 + 1, none⟩) hBb2).trans y1
          have d2 := (hb.cell (p := ⟨b2, off2 + j * 4 + 2, none⟩) hBb2).trans y2
          have d3 := (hb.cell (p := ⟨b2, off2 + j * 4 + 3, none⟩) hBb2).trans y3
          have E := eq4_set X Y
          have hgX := Lib.hid hX
          have hgY := Lib.hid hY
          clear hc hc2 hX hY x0 x1 x2 x3 y0 y1 y2 y3
          unfold wv at *
          go_upto_region 11 with (fail)
          clear p0 p1 p2 u0 u1 u2
          obtain ⟨S0, S1, S2, -⟩ := box3 hsa rfl
          obtain ⟨T0, T1, T2, -⟩ := box3 hsb rfl
          have C0 := fun x : After wr => After.cell x c0
          have C1 := fun x : After wr => After.cell x c1
          have C2' := fun x : After wr => After.cell x c2
          have C3 := fun x : After wr => After.cell x c3
          have D0 := fun x : After wr => After.cell x d0
          have D1 := fun x : After wr => After.cell x d1
          have D2 := fun x : After wr => After.cell x d2
          have D3 := fun x : After wr => After.cell x d3
          by_cases hXY : X = Y
          · rw [decide_eq_true hXY] at E
            have hXY' := Lib.hid hXY
            clear hXY
            refine wp_region_after (by kernel_rfl) (by kernel_rfl) ?_
            repeat (first | go_big_quiet_step (fail))
            refine wpQuiet_nil ?_
            intro x
            clear C0 C1 C2' C3 D0 D1 D2 D3 S0 S1 S2 T0 T1 T2 c0 c1 c2 c3 d0 d1 d2 d3 E
            go_wp2
            go_roundw
            case rel => exact ⟨j + 1, by omega, by go_num, Lib.hid (fun q hq => by
              by_cases e : q = j
              · subst e; rw [hgX.out, hgY.out, hXY'.out]
              · exact hH.out q (by omega)), hb.trans (x.2.mono hb.size), x.same hsa, x.same hsb⟩
            case measure => simp [intOf]; omega
          · rw [decide_eq_false hXY] at E
            have hXY' := Lib.hid hXY
            have hR := Lib.hid (hnoM.out j X Y hgX.out hgY.out hXY)
            clear hXY
            refine wp_region_after (by kernel_rfl) (by kernel_rfl) ?_
            repeat (first | go_big_quiet_step (fail))
            refine wpQuiet_nil ?_
            intro x
            clear C0 C1 C2' C3 D0 D1 D2 D3 S0 S1 S2 T0 T1 T2 c0 c1 c2 c3 d0 d1 d2 d3 E
            go_wp2
            go_ret
            exact ⟨by rw [hR.out]; rfl, hb.trans (x.2.mono hb.size)⟩
        · have e : j = may.length := by omega
          have hR := Lib.hid (hyes.out hon.out (fun q hq => hH.out q (by rw [e]; exact hq)))
          clear hyes hnoO hnoM
          go_wp2
          go_ret
          exact ⟨by rw [hR.out]; rfl, hb⟩
theorem rsame4_any (a b : Sp) (A C A2 C2 : Value) (w : World) (hA : SetsAt w w.heap.size A a.on) (hC : SetsAt w w.heap.size C a.may) (hA2 : SetsAt w w.heap.size A2 b.on) (hC2 : SetsAt w w.heap.size C2 b.may) :
    Calls Tryz.prog 9 #[spv a.i A C, spv b.i A2 C2] w fun e w' => e = .returned (.bool (sameSp a b)) ∧ Below w.heap.size w w' := by
  obtain ⟨i, on, may⟩ := a
  obtain ⟨i2, on2, may2⟩ := b
  by_cases h : i ≠ i2 ∨ (i = i2 ∧ on.length ≠ on2.length) ∨ (i = i2 ∧ on.length = on2.length ∧ may.length ≠ may2.length)
  · rw [sameSp_no (by
      rcases h with h | ⟨_, h⟩ | ⟨_, _, h⟩
      · exact Or.inl h
      · exact Or.inr (Or.inl fun e => h (congrArg List.length e))
      · exact Or.inr (Or.inr fun e => h (congrArg List.length e)))]
    exact rsame4_no i i2 A C A2 C2 on may on2 may2 w hA hC hA2 hC2 h
  · have hi : i = i2 := by omega
    subst hi
    exact rsame4_yes i A C A2 C2 on may on2 may2 w hA hC hA2 hC2 (by omega) (by omega)
end Go.Proofs.YtckmjampgeojbaaGreatDoor
