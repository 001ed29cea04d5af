/- The document's own answers of layer 4: Bit, Covered, Marked, size, Same. The document's own Of, for every table. Same of the document's own answers of layer 4, for every two specs. -/
import Derived.Test.YtckmjampgeojbaaDoorJ06
import Derived.Test.YtckmjampgeojbaaDoorJ04
import Derived.Test.YtckmjampgeojbaaDoorJ05
import Derived.Test.YtckmjampgeojbaaDoorJ13
namespace Go.Proofs.YtckmjampgeojbaaDoor
open Go.RowKit Go.Joins

theorem bit8_any (x : BitVec 8) (i : Nat) (hi : i < 8) (w : World) :
    Calls Tryd.prog 36 #[bvv x, .int .i64 i] w fun e w' => e = .returned (.bool (x.getLsbD i)) ∧ w = w' := by
  have HB := fun w => bit_any x.toNat i (by omega) hi w
  have hm := bit_mod x i
  have hw : wrap64 (x.toNat : Int) = x.toNat := by unfold wrap64; omega
  unfold bvv
  cases hb : x.getLsbD i
  · rw [hm, hb] at HB
    clear hm
    go_enter Tryd.func36, Tryd.ntmps36
    go_wp2_with (go_at_call 63; refine (HB _).mono ?_; rintro e w' ⟨rfl, rfl⟩)
    go_ret
    exact ⟨rfl, rfl⟩
  · rw [hm, hb] at HB
    clear hm
    go_enter Tryd.func36, Tryd.ntmps36
    go_wp2_with (go_at_call 63; refine (HB _).mono ?_; rintro e w' ⟨rfl, rfl⟩)
    go_ret
    exact ⟨rfl, rfl⟩
theorem covB_step {rs : List Rw} {k : Nat} {x : Rw} (h : rs[k]? = some x) (p out : Nat) (hn : covB (rs.take k) p out = false) (hx : (x.o.getLsbD out && fits x.m x.v 8 p) = false) : covB (rs.take (k + 1)) p out = false := by
  unfold covB at *
  rw [any_append_one _ rs k x h, hn, hx]; rfl
theorem covB_yes {rs : List Rw} {k : Nat} {x : Rw} (h : rs[k]? = some x) (p out : Nat) (hx : (x.o.getLsbD out && fits x.m x.v 8 p) = true) : covB rs p out = true := by
  unfold covB
  rw [List.any_eq_true]
  exact ⟨x, List.mem_of_getElem? h, hx⟩
set_option maxHeartbeats 2000000 in
set_option maxRecDepth 100000 in
theorem covered_any (L : Value) (rs : List Rw) (p out : Nat) (hp : p < 256) (ho : out < 8) (w : World) (hL : RwsAt w w.heap.size L rs) :
    Calls Tryd.prog 16 #[L, .int .i64 p, .int .i64 out] w fun e w' => e = .returned (.bool (covB rs p out)) ∧ Below w.heap.size w w' := by
  have hst := Lib.hid (fun (j : Nat) (x : Rw) (h : rs[j]? = some x) => covB_step h p out)
  have hye := Lib.hid (fun (j : Nat) (x : Rw) (h : rs[j]? = some x) => covB_yes h p out)
  have hen : Hid (covB (rs.take rs.length) p out = covB rs p out) := Lib.hid (by rw [List.take_length])
  have hz : covB (rs.take 0) p out = false := by simp [covB]
  generalize covB rs p out = R at *
  obtain ⟨A, c, rfl, hlen, hA⟩ := hL
  go_enter Tryd.func16, Tryd.ntmps16
  go_wp2
  go_loopw [7] (fun t wr => ∃ j : Nat, j ≤ rs.length ∧ t = .int .i64 j ∧ Hid (covB (rs.take j) p out = false) ∧ Below w.heap.size w wr) (fun t _ => rs.length - (intOf t).toNat)
  case atStart => exact ⟨0, by omega, rfl, Lib.hid hz, Below.refl _ _⟩
  case round =>
    obtain ⟨j, hj, rfl, hH, hb⟩ := hrel
    by_cases hlt : j < rs.length
    · obtain ⟨b, off, rfl, hBb, hc⟩ := hA (by omega)
      obtain ⟨x, hx⟩ : ∃ x, rs[j]? = some x := ⟨_, List.getElem?_eq_getElem hlt⟩
      obtain ⟨c0, c1, c2⟩ := hc j x hx
      have d0 := (hb.cell (p := ⟨b, off + j * 3, none⟩) hBb).trans c0
      have d1 := (hb.cell (p := ⟨b, off + j * 3 + 1, none⟩) hBb).trans c1
      have d2 := (hb.cell (p := ⟨b, off + j * 3 + 2, none⟩) hBb).trans c2
      have HB := fun w => bit8_any x.o out ho w
      have HH := fun w => rhas_any x.m x.v p hp w
      have h1 := Lib.hid (hst.out j x hx hH.out)
      have h2 := Lib.hid (hye.out j x hx)
      unfold cv bvv at *
      clear hc c0 c1 c2 hA hx hst hye hen hz
      cases hbit : x.o.getLsbD out
      · rw [hbit] at HB h1
        clear hbit
        go_wp2_with (go_at_call 36; refine (HB _).mono ?_; rintro e w' ⟨rfl, rfl⟩)
        go_roundw
        case rel => exact ⟨j + 1, by omega, by go_num, Lib.hid (h1.out rfl), hb⟩
        case measure => simp [intOf]; omega
      · rw [hbit] at HB h1 h2
        clear hbit
        cases hf : fits x.m x.v 8 p
        · rw [hf] at HH h1
          clear hf
          go_wp2_with (go_at_call 36; refine (HB _).mono ?_; rintro e w' ⟨rfl, rfl⟩)
          refine (HH _).mono ?_
          rintro e w1 ⟨rfl, hb1⟩
          have hB1 := hb.trans (hb1.mono hb.size)
          clear hb1 HH HB
          go_wp2
          go_roundw
          case rel => exact ⟨j + 1, by omega, by go_num, Lib.hid (h1.out rfl), hB1⟩
          case measure => simp [intOf]; omega
        · rw [hf] at HH h2
          clear hf
          have hR := Lib.hid (h2.out rfl)
          go_wp2_with (go_at_call 36; refine (HB _).mono ?_; rintro e w' ⟨rfl, rfl⟩)
          refine (HH _).mono ?_
          rintro e w1 ⟨rfl, hb1⟩
          have hB1 := hb.trans (hb1.mono hb.size)
          clear hb1 HH HB
          go_wp2
          go_ret
          exact ⟨by rw [hR.out]; rfl, hB1⟩
    · have e : j = rs.length := by omega
      have hR := Lib.hid (by rw [← hen.out, ← e]; exact hH.out : R = false)
      clear hA hst hye hen hz
      go_wp2
      go_ret
      exact ⟨by rw [hR.out]; rfl, hb⟩
theorem markB_step {ls : List Ln} {k : Nat} {l : Ln} (h : ls[k]? = some l) (p out : Nat) (x : Int) (hn : markB (ls.take k) p out x = false) (hx : (decide (l.o.getD out 9 = x) && fits l.m l.v 8 p) = false) : markB (ls.take (k + 1)) p out x = false := by
  unfold markB at *
  rw [any_append_one _ ls k l h, hn, hx]; rfl
theorem markB_yes {ls : List Ln} {k : Nat} {l : Ln} (h : ls[k]? = some l) (p out : Nat) (x : Int) (hx : (decide (l.o.getD out 9 = x) && fits l.m l.v 8 p) = true) : markB ls p out x = true := by
  unfold markB
  rw [List.any_eq_true]
  exact ⟨l, List.mem_of_getElem? h, hx⟩
set_option maxHeartbeats 2000000 in
set_option maxRecDepth 100000 in
theorem marked_any (k i n : Int) (L : Value) (ls : List Ln) (p out : Nat) (x : Int) (hp : p < 256) (ho : ∀ l ∈ ls, out < l.o.length) (w : World) (hL : LinesAt w w.heap.size L ls) :
    Calls Tryd.prog 24 #[tv k i n L, .int .i64 p, .int .i64 out, .int .i64 x] w fun e w' => e = .returned (.bool (markB ls p out x)) ∧ Below w.heap.size w w' := by
  have hst := Lib.hid (fun (j : Nat) (l : Ln) (h : ls[j]? = some l) => markB_step h p out x)
  have hye := Lib.hid (fun (j : Nat) (l : Ln) (h : ls[j]? = some l) => markB_yes h p out x)
  have hen : Hid (markB (ls.take ls.length) p out x = markB ls p out x) := Lib.hid (by rw [List.take_length])
  have hz : markB (ls.take 0) p out x = false := by simp [markB]
  have hlo := Lib.hid (fun (j : Nat) (l : Ln) (h : ls[j]? = some l) => ho l (List.mem_of_getElem? h))
  have hB0 := below_alloc1 w (tb k i n L)
  have ht0 := heap_alloc_new w (tb k i n L)
  generalize markB ls p out x = R at *
  obtain ⟨A, c, rfl, hlen, hA⟩ := hL
  unfold tv
  unfold tb at *
  clear ho
  go_enter Tryd.func24, Tryd.ntmps24
  go_wp2
  go_loopw [9] (fun t wr => ∃ j : Nat, j ≤ ls.length ∧ t = .int .i64 j ∧ Hid (markB (ls.take j) p out x = false) ∧ Below w.heap.size w wr ∧ wr.heap[w.heap.size]? = some (.cells #[Value.int .i64 k, .int .i64 i, .int .i64 n, .slice A ls.length c] 24 (0, 0))) (fun t _ => ls.length - (intOf t).toNat)
  case atStart => exact ⟨0, by omega, rfl, Lib.hid hz, hB0, ht0⟩
  case round =>
    clear hB0 ht0
    obtain ⟨j, hj, rfl, hH, hb, ht⟩ := hrel
    obtain ⟨-, -, -, q3, -⟩ := now4 ht rfl
    by_cases hlt : j < ls.length
    · obtain ⟨b, off, rfl, hBb, hc⟩ := hA (by omega)
      obtain ⟨l, hl⟩ : ∃ l, ls[j]? = some l := ⟨_, List.getElem?_eq_getElem hlt⟩
      obtain ⟨ov, c0, c1, c2, hO⟩ := hc j l hl
      obtain ⟨A2, cap2, rfl, hol, hO⟩ := hO
      have hoo := hlo.out j l hl
      obtain ⟨b3, off3, rfl, hB3b, hv⟩ := hO (by omega)
      obtain ⟨v, hvx⟩ : ∃ v, l.o[out]? = some v := ⟨_, List.getElem?_eq_getElem hoo⟩
      have hval := (hb.cell (p := ⟨b3, off3 + out, none⟩) hB3b).trans (hv out v hvx)
      have d0 := (hb.cell (p := ⟨b, off + j * 3, none⟩) hBb).trans c0
      have d1 := (hb.cell (p := ⟨b, off + j * 3 + 1, none⟩) hBb).trans c1
      have d2 := (hb.cell (p := ⟨b, off + j * 3 + 2, none⟩) hBb).trans c2
      have HH := fun w => rhas_any l.m l.v p hp w
      have h1 := Lib.hid (hst.out j l hl hH.out)
      have h2 := Lib.hid (hye.out j l hl)
      rw [getD_of hvx] at h1 h2
      unfold cv bvv at *
      clear hc c0 c1 c2 hA hl hst hye hen hz hv hvx hlo hO
      by_cases hvx : v = x
      · subst hvx
        rw [decide_eq_true rfl] at h1 h2
        cases hf : fits l.m l.v 8 p
        · rw [hf] at HH h1
          clear hf
          go_wp2_with fail
          refine (HH _).mono ?_
          rintro e w1 ⟨rfl, hb1⟩
          have hB1 := hb.trans (hb1.mono hb.size)
          have ht1 := keep_blk hb1 ht
          clear hb1 HH
          go_wp2
          go_roundw
          case rel => exact ⟨j + 1, by omega, by go_num, Lib.hid (h1.out rfl), hB1, ht1⟩
          case measure => simp [intOf]; omega
        · rw [hf] at HH h2
          clear hf
          have hR := Lib.hid (h2.out rfl)
          go_wp2_with fail
          refine (HH _).mono ?_
          rintro e w1 ⟨rfl, hb1⟩
          have hB1 := hb.trans (hb1.mono hb.size)
          clear hb1 HH
          go_wp2
          go_ret
          exact ⟨by rw [hR.out]; rfl, hB1⟩
      · have hd : ((v : Int) == x) = false := by rw [beq_eq_false_iff_ne]; exact hvx
        rw [decide_eq_false hvx] at h1
        clear hvx h2 HH
        go_wp2
        go_roundw
        case rel => exact ⟨j + 1, by omega, by go_num, Lib.hid (h1.out rfl), hb, ht⟩
        case measure => simp [intOf]; omega
    · have e : j = ls.length := by omega
      have hR := Lib.hid (by rw [← hen.out, ← e]; exact hH.out : R = false)
      clear hA hst hye hen hz
      go_wp2
      go_ret
      exact ⟨by rw [hR.out]; rfl, hb⟩
theorem pts_low (n : Nat) (hn : n ≤ 8) : (pts (bvOf fun p => decide (p < 2 ^ n))).length = 2 ^ n := by
  have h : ∀ k, k ≤ 8 → (pts (bvOf fun p => decide (p < 2 ^ k))).length = 2 ^ k := by decide +kernel
  exact h n hn
set_option maxHeartbeats 1000000 in
set_option maxRecDepth 100000 in
theorem size_any4 (n : Nat) (hn : n ≤ 8) (w : World) :
    Calls Tryd.prog 23 #[.int .i64 n] w fun e w' => e = .returned (.int .i64 (2 ^ n : Nat)) ∧ Below w.heap.size w w' := by
  have HA := fun w => refall_any n hn w
  have hl := Lib.hid (pts_low n hn)
  go_enter Tryd.func23, Tryd.ntmps23
  go_wp2_with fail
  refine (HA _).mono ?_
  rintro e w1 ⟨b, rfl, hb0, hb1, hc, hB1⟩
  have HS := refset_any (fun p => decide (p < 2 ^ n)) b 256 w1 hb1 hc
  generalize (bvOf fun p => decide (p < 2 ^ n)) = S at *
  clear HA hc
  have HL := fun w => reflist_any S w
  unfold sv wv at *
  go_wp2_with fail
  refine HS.mono ?_
  rintro e w2 ⟨rfl, hB2⟩
  clear HS
  go_wp2_with fail
  refine (HL _).mono ?_
  rintro e w3 ⟨v, rfl, hown, hB3⟩
  have hf : ∃ A c, v = .slice A (pts S).length c := by
    rcases hown.2 with ⟨hv, h0⟩ | ⟨g, cap, cur, hv, _⟩
    · exact ⟨none, 0, by rw [hv, h0]⟩
    · exact ⟨_, _, hv⟩
  obtain ⟨A, c, rfl⟩ := hf
  clear HL hown
  rw [hl.out]
  go_wp2
  go_ret
  exact ⟨rfl, (hB1.trans (hB2.mono hB1.size)).trans (hB3.mono (hB1.trans (hB2.mono hB1.size)).size)⟩
end Go.Proofs.YtckmjampgeojbaaDoor
namespace Go.Proofs.YtckmjampgeojbaaDoor
open Go.RowKit Go.Joins

def mayP (k : Int) (ls : List Ln) (o q : Nat) : Bool := markB ls q o 1 || (decide (k = 1) && markB ls q o 2) || (decide (2 ≤ k) && !markB ls q o 0)
def clP (k : Int) (ls : List Ln) (o q : Nat) : Bool := decide (2 ≤ k) && (markB ls q o 1 && markB ls q o 0)
theorem allB_low (n p : Nat) (hn : n ≤ 8) : (allB n).getLsbD p = decide (p < 2 ^ n) := by
  unfold allB
  rw [bvOf_bit]
  by_cases h : p < 2 ^ n
  · simp [h, two_pow_8 hn h]
  · simp [h]
theorem may_flags {k : Int} {i n : Nat} {ls : List Ln} {o : Nat} (hi : i ≤ 8) (h0 : 0 ≤ k) (h : ∀ q, q < 2 ^ i → clP k ls o q = false) :
    (bvOf fun q => decide (q < 2 ^ i) && mayP k ls o q) = mayK ⟨k, i, n, ls⟩ o := by
  refine bvOf_eq _ _ fun q hq => ?_
  unfold mayK mayP
  simp only [Int.toNat_natCast]
  by_cases hk0 : k = 0
  · rw [if_pos hk0, ptsM_bit _ _ _ _ _ hi, decide_eq_false (show ¬ k = 1 by omega), decide_eq_false (show ¬ 2 ≤ k by omega)]; simp
  · rw [if_neg hk0]
    by_cases hk1 : k = 1
    · rw [if_pos hk1, BitVec.getLsbD_or, ptsM_bit _ _ _ _ _ hi, ptsM_bit _ _ _ _ _ hi, decide_eq_true hk1, decide_eq_false (show ¬ 2 ≤ k by omega)]
      cases decide (q < 2 ^ i) <;> simp
    · rw [if_neg hk1, BitVec.getLsbD_and, BitVec.getLsbD_not, ptsM_bit _ _ _ _ _ hi, allB_low _ _ hi, decide_eq_false hk1, decide_eq_true (show 2 ≤ k by omega)]
      by_cases hqi : q < 2 ^ i
      · have hc := h q hqi
        unfold clP at hc
        rw [decide_eq_true (show 2 ≤ k by omega), Bool.true_and] at hc
        simp only [hqi, hq, decide_true, Bool.true_and, Bool.false_and, Bool.or_false]
        cases h1 : markB ls q o 1 <;> cases h2 : markB ls q o 0 <;> simp_all
      · simp [hqi]
theorem both_no {k : Int} {i n : Nat} {ls : List Ln} {o : Nat} (hi : i ≤ 8) (h : ∀ q, q < 2 ^ i → clP k ls o q = false) : bothK ⟨k, i, n, ls⟩ o = false := by
  unfold bothK
  simp only [Int.toNat_natCast]
  by_cases hk : 2 ≤ k
  · rw [decide_eq_true hk, Bool.true_and, decide_eq_false]
    intro hne
    apply hne
    apply BitVec.eq_of_getLsbD_eq
    intro q hq
    rw [BitVec.getLsbD_and, ptsM_bit _ _ _ _ _ hi, ptsM_bit _ _ _ _ _ hi]
    by_cases hqi : q < 2 ^ i
    · have hc := h q hqi
      unfold clP at hc
      rw [decide_eq_true hk, Bool.true_and] at hc
      simp only [hqi, decide_true, Bool.true_and, hc]
      exact BitVec.getLsbD_zero.symm
    · simp [hqi]
  · rw [decide_eq_false hk, Bool.false_and]
theorem both_yes {k : Int} {i n : Nat} {ls : List Ln} {o q : Nat} (hi : i ≤ 8) (hq : q < 2 ^ i) (h : clP k ls o q = true) : bothK ⟨k, i, n, ls⟩ o = true := by
  unfold clP at h
  obtain ⟨hk, h1, h0⟩ : 2 ≤ k ∧ markB ls q o 1 = true ∧ markB ls q o 0 = true := by simpa using h
  unfold bothK
  simp only [Int.toNat_natCast]
  rw [decide_eq_true hk, Bool.true_and, decide_eq_true_eq]
  intro e
  have := congrArg (fun x => x.getLsbD q) e
  simp only [BitVec.getLsbD_and, ptsM_bit _ _ _ _ _ hi, hq, h1, h0, decide_true, Bool.and_true] at this
  simp at this
theorem flags_step {w : World} {bo bm p : Nat} {f g : Nat → Bool} {u v : Bool} (hne : bo ≠ bm) (hf : w.heap[bo]? = some (.cells (flagsA (fun q => decide (q < p) && f q)) 4 (0, 0))) (hg : w.heap[bm]? = some (.cells (flagsA (fun q => decide (q < p) && g q)) 4 (0, 0))) (hu : f p = u) (hv : g p = v) :
    ((w.setCell ⟨bo, p, none⟩ (.bool u)).setCell ⟨bm, p, none⟩ (.bool v)).heap[bo]? = some (.cells (flagsA (fun q => decide (q < p + 1) && f q)) 4 (0, 0)) ∧
    ((w.setCell ⟨bo, p, none⟩ (.bool u)).setCell ⟨bm, p, none⟩ (.bool v)).heap[bm]? = some (.cells (flagsA (fun q => decide (q < p + 1) && g q)) 4 (0, 0)) ∧
    ∀ b, b ≠ bo → b ≠ bm → ((w.setCell ⟨bo, p, none⟩ (.bool u)).setCell ⟨bm, p, none⟩ (.bool v)).heap[b]? = w.heap[b]? := by
  subst hu; subst hv
  refine ⟨?_, ?_, fun b h1 h2 => ?_⟩
  · rw [Below.heap_setCell _ _ _ _ hne, block_setCell hf, step_flags]
  · rw [block_setCell ((Below.heap_setCell _ _ _ _ (Ne.symm hne)).trans hg), step_flags]
  · rw [Below.heap_setCell _ _ _ _ h2, Below.heap_setCell _ _ _ _ h1]
theorem Tryd.neSB : 40 ≠ 4 := by decide
set_option maxHeartbeats 2000000 in
set_option maxRecDepth 100000 in
theorem rof_wrong (t : Tb) (L : Value) (w : World) (hL : LinesAt w w.heap.size L t.ls) (hr : rightT t = false) :
    Calls Tryd.prog 9 #[tv t.k t.i t.n L] w (OfLeaves w t) := by
  have hE : ofE t = 1 := by unfold ofE; rw [hr]; rfl
  have hB0 := below_alloc2 w (tb t.k t.i t.n L) (spb 0 (.slice none 0 0) (.slice none 0 0))
  have hn0 := heap_alloc2_new w (tb t.k t.i t.n L) (spb 0 (.slice none 0 0) (.slice none 0 0))
  have HR := rright3_any t.k t.i t.n L t.ls _ ((hL.below hB0).more hB0.size)
  rw [show (⟨t.k, t.i, t.n, t.ls⟩ : Tb) = t from rfl, hr] at HR
  obtain ⟨A, c, rfl, hlen, -⟩ := hL
  unfold tv tb spb at *
  go_enter Tryd.func9, Tryd.ntmps9
  go_wp2_with fail
  refine HR.mono ?_
  rintro e w1 ⟨rfl, hb1⟩
  have hn1 := keep_blk hb1 hn0
  have hB1 := hB0.trans (hb1.mono hB0.size)
  obtain ⟨d0, d1, d2, df⟩ := now3 hn1 rfl
  clear HR hb1
  go_wp2
  exact bodyPost_ret (v := .tuple #[.agg #[.int .i64 0, .slice none 0 0, .slice none 0 0], .int .i64 1]) (by simp [results, Tryd.results9, go_sem, d0, d1, d2]) rfl
    ⟨by repeat (first | (with_reducible exact hB1) | (with_reducible refine Below.setCell ?_ (by simp) _)), Or.inl ⟨by rw [hE]; decide, by rw [hE]; rfl⟩⟩
set_option maxHeartbeats 8000000 in
set_option maxRecDepth 100000 in
theorem rof_right (k : Int) (i n : Nat) (ls : List Ln) (L : Value) (w : World) (hL : LinesAt w w.heap.size L ls) (hr : rightT ⟨k, i, n, ls⟩ = true) :
    Calls Tryd.prog 9 #[tv k i n L] w (OfLeaves w ⟨k, i, n, ls⟩) := by
  obtain ⟨⟨⟨hk0, hk3⟩, ⟨hi0, hi8⟩, hn1, hn4⟩, h64, hlines⟩ := (rightT_iff _).1 hr
  dsimp only at hk0 hk3 hi0 hi8 hn1 hn4 h64 hlines
  have hi8' : i ≤ 8 := by omega
  have hB0 := below_alloc2 w (tb k i n L) (spb 0 (.slice none 0 0) (.slice none 0 0))
  have ht0 := heap_alloc2_old w (tb k i n L) (spb 0 (.slice none 0 0) (.slice none 0 0))
  have hn0 := heap_alloc2_new w (tb k i n L) (spb 0 (.slice none 0 0) (.slice none 0 0))
  have HR := rright3_any k i n L ls _ ((hL.below hB0).more hB0.size)
  rw [hr] at HR
  have hE0 : Hid ((∀ q, q < n → bothK ⟨k, i, n, ls⟩ q = false) → ofE ⟨k, i, n, ls⟩ = 0) := Lib.hid (fun h => ofE_zero hr h)
  have hE4 : Hid (∀ o, o < n → ∀ q, q < 2 ^ i → clP k ls o q = true → ofE ⟨k, i, n, ls⟩ = 4) := Lib.hid (fun o ho q hq h => ofE_four hr ho (both_yes hi8' hq h))
  have hno : Hid (∀ o, (∀ q, q < 2 ^ i → clP k ls o q = false) → bothK ⟨k, i, n, ls⟩ o = false ∧ (bvOf fun q => decide (q < 2 ^ i) && mayP k ls o q) = mayK ⟨k, i, n, ls⟩ o) := Lib.hid (fun o h => ⟨both_no hi8' h, may_flags hi8' hk0 h⟩)
  have h2i : Hid (2 ^ i ≤ 256) := Lib.hid (Nat.le_trans (Nat.pow_le_pow_right (by decide) hi8') (by decide : (2 : Nat) ^ 8 ≤ 256))
  have hls : ∀ q, q < n → ∀ l ∈ ls, q < l.o.length := fun q hq l hl => by
    obtain ⟨a, b, d⟩ := (lineB_iff l i n).1 (hlines l hl)
    omega
  have HMk := fun (o p : Nat) (x : Int) (ho : o < n) (hp : p < 256) (W : World) (hW : Below w.heap.size w W) => marked_any k i n L ls p o x hp (hls o ho) W ((hL.below hW).more hW.size)
  have HSz := fun w => size_any4 i hi8' w
  have hon : Hid (∀ o, (bvOf fun q => decide (q < 2 ^ i) && markB ls q o 1) = ptsM ls i o 1) := Lib.hid (fun o => rfl)
  generalize hN : 2 ^ i = N at hE4 hno h2i HSz hon
  obtain ⟨A, c, hLe, hlen, -⟩ := id hL
  subst hLe
  unfold tv tb spb at *
  go_enter Tryd.func9, Tryd.ntmps9
  go_wp2_with fail
  refine HR.mono ?_
  rintro e w1 ⟨rfl, hb1⟩
  have ht1 := keep_blk hb1 ht0
  have hn1' := keep_blk hb1 hn0
  have hB1 := hB0.trans (hb1.mono hB0.size)
  obtain ⟨q0, q1, q2, q3, -⟩ := now4 ht1 rfl
  have ht2 := keep_alloc (x := .cells #[Value.int .i64 i, .slice none 0 0, .slice none 0 0] 29 (0, 0)) ht1
  have hn2 := keep_alloc (x := .cells #[Value.int .i64 i, .slice none 0 0, .slice none 0 0] 29 (0, 0)) hn1'
  have hs2 := heap_alloc_new w1 (.cells #[Value.int .i64 i, .slice none 0 0, .slice none 0 0] 29 (0, 0))
  have hB2 := hB1.alloc hB1.size (.cells #[Value.int .i64 i, .slice none 0 0, .slice none 0 0] 29 (0, 0))
  have hzN := size_of_block hn1'
  obtain ⟨i0, hi0', hz0, hz1', hz2'⟩ := info_parts Tryd.infoSet
  have hmk := make256
  have hfl := Lib.hid (flagsA_zero)
  generalize hfa : flagsA (fun _ => false) = FA at hmk
  have hfa2 := Lib.hid hfa
  clear HR hb1 ht0 hn0 hB0 ht1 hn1' hr hls hL hlines h64 hi0 hk0 hk3 hfa
  go_wp2
  generalize hbsz : w1.heap.size = bs at *
  generalize w1.alloc (.cells #[Value.int .i64 i, .slice none 0 0, .slice none 0 0] 29 (0, 0)) = w2 at *
  clear q0 q1 q2 q3 hB1
  go_loopw [5, 6, 7, 8, 9, 10, 11] (fun t _ _ _ _ _ _ wr => ∃ (j : Nat) (VA VC : Value), j ≤ n ∧ t = .int .i64 j ∧ Hid (∀ q, q < j → bothK ⟨k, i, n, ls⟩ q = false) ∧ Below w.heap.size w wr ∧ wr.heap[w.heap.size]? = some (.cells #[Value.int .i64 k, .int .i64 i, .int .i64 n, .slice A ls.length c] 24 (0, 0)) ∧ wr.heap[w.heap.size + 1]? = some (.cells #[Value.int .i64 0, .slice none 0 0, .slice none 0 0] 29 (0, 0)) ∧
    wr.heap[bs]? = some (.cells #[Value.int .i64 i, VA, VC] 29 (0, 0)) ∧ wr.ownsRow (bs + 1) 40 4 VA j (setsV ((List.range j).map fun q => ptsM ls i q 1)) ∧ wr.ownsRow (bs + 1) 40 4 VC j (setsV ((List.range j).map (mayK ⟨k, i, n, ls⟩))) ∧ (∀ g, VA.ownBlock = some g → VC.ownBlock ≠ some g)) (fun t _ _ _ _ _ _ _ => n - (intOf t).toNat)
  case atStart => exact ⟨0, .slice none 0 0, .slice none 0 0, by omega, rfl, Lib.hid (fun q hq => by omega), hB2, ht2, hn2, hs2, World.ownsRow_nil _ _ _ _, World.ownsRow_nil _ _ _ _, by simp [Value.ownBlock]⟩
  case round =>
    clear hB2 ht2 hn2 hs2
    obtain ⟨j, VA, VC, hj, rfl, hH, hb, ht, hn, hs, hoA, hoC, hsep⟩ := hrel
    obtain ⟨A1, c1, rfl⟩ := own_form hoA
    obtain ⟨A2, c2, rfl⟩ := own_form hoC
    obtain ⟨q0, q1, q2, q3, -⟩ := now4 ht rfl
    by_cases hlt : j < n
    · have HM1 := fun p hp W hW => HMk j p 1 hlt hp W hW
      have HM0 := fun p hp W hW => HMk j p 0 hlt hp W hW
      have HM2 := fun p hp W hW => HMk j p 2 hlt hp W hW
      have hzs := size_of_block hs
      go_upto_region 7 with (fail)
      clear q0 q1 q2 q3 HMk
      go_cut [6, 7] from 25 to 94 (fun s6 s7 wc => ∃ bo bm : Nat, s6 = .slice (some ⟨bo, 0, none⟩) 256 256 ∧ s7 = .slice (some ⟨bm, 0, none⟩) 256 256 ∧ bo ≠ bm ∧ wr.heap.size ≤ bo ∧ wr.heap.size ≤ bm ∧ wc.heap[bo]? = some (.cells FA 4 (0, 0)) ∧ wc.heap[bm]? = some (.cells FA 4 (0, 0)) ∧ Below wr.heap.size wr wc)
      case first =>
        go_region
        all_goals
          go_wp2_with fail
          go_meet
          first
            | exact ⟨_, _, rfl, rfl, by omega, by omega, by omega, heap_alloc2_old wr _ _, heap_alloc2_new wr _ _, (below_alloc2 wr _ _).drew⟩
            | exact ⟨_, _, rfl, rfl, by omega, by omega, by omega, heap_alloc2_new wr _ _, heap_alloc2_old wr _ _, (below_alloc2 wr _ _).drew⟩
      case rest =>
        obtain ⟨bo, bm, rfl, rfl, hne, hbo, hbm, hf6, hf7, hBc⟩ := hcut
        have htc := keep_blk hBc ht
        have hnc := keep_blk hBc hn
        have hsc := keep_blk hBc hs
        have hoAc := owns_below hoA hBc
        have hoCc := owns_below hoC hBc
        have hB3 := hb.trans (hBc.mono hb.size)
        have hf1 : wc.heap[bo]? = some (.cells (flagsA (fun q => decide (q < 0) && markB ls q j 1)) 4 (0, 0)) := by rw [hfl.out, hfa2.out]; exact hf6
        have hf2 : wc.heap[bm]? = some (.cells (flagsA (fun q => decide (q < 0) && mayP k ls j q)) 4 (0, 0)) := by rw [hfl.out, hfa2.out]; exact hf7
        have hszc := hBc.size
        have hzc := hB3.size
        have hNs := size_of_block hnc
        have hE4j := Lib.hid (hE4.out j hlt)
        have hnoj := Lib.hid (hno.out j)
        have hAo := Lib.hid (own_ne hoAc hf1 Tryd.neSB)
        have hAm := Lib.hid (own_ne hoAc hf2 Tryd.neSB)
        have hCo := Lib.hid (own_ne hoCc hf1 Tryd.neSB)
        have hCm := Lib.hid (own_ne hoCc hf2 Tryd.neSB)
        clear hBc ht hn hs hoA hoC hb hf6 hf7 hE4 hno hmk hfa2 hfl
        go_wp2
        go_loopw [8, 9, 10, 11] (fun t _ _ _ wx => ∃ p : Nat, p ≤ N ∧ t = .int .i64 p ∧ Hid (∀ q, q < p → clP k ls j q = false) ∧ Below w.heap.size w wx ∧ Hid (∀ b, b < wc.heap.size → b ≠ bo → b ≠ bm → wx.heap[b]? = wc.heap[b]?) ∧ wx.heap[bo]? = some (.cells (flagsA (fun q => decide (q < p) && markB ls q j 1)) 4 (0, 0)) ∧ wx.heap[bm]? = some (.cells (flagsA (fun q => decide (q < p) && mayP k ls j q)) 4 (0, 0))) (fun t _ _ _ _ => N - (intOf t).toNat)
        case atStart => exact ⟨0, by omega, rfl, Lib.hid (fun q hq => by omega), hB3, Lib.hid (fun _ _ _ _ => rfl), hf1, hf2⟩
        case round =>
          clear hB3 hf1 hf2
          obtain ⟨p, hp, rfl, hP, hbx, hK, hfo, hfm⟩ := hrel
          have htx := (hK.out w.heap.size (by omega) (by omega) (by omega)).trans htc
          obtain ⟨q0, q1, q2, q3, -⟩ := now4 htx rfl
          have h256 := h2i.out
          by_cases hpl : p < N
          · go_wp2_with fail
            refine (HSz _).mono ?_
            rintro e wy ⟨rfl, hby⟩
            have hBy := hbx.trans (hby.mono hbx.size)
            have hty := keep_blk hby htx
            have hfoy := keep_blk hby hfo
            have hfmy := keep_blk hby hfm
            have hKy : Hid (∀ b, b < wc.heap.size → b ≠ bo → b ≠ bm → wy.heap[b]? = wc.heap[b]?) := Lib.hid (fun b h1 h2 h3 => by
              rw [← hK.out b h1 h2 h3]
              rcases Nat.lt_or_ge b wr.heap.size with h | h
              · exact hby.block b h
              · exfalso
                have := hK.out b h1 h2 h3
                rw [Array.getElem?_eq_none h, Array.getElem?_eq_getElem h1] at this
                cases this)
            clear hby hbx hK hfo hfm htx q0 q1 q2 q3
            obtain ⟨Q0, Q1, Q2, Q3, -⟩ := box4 hty rfl
            have HX1 := fun x : After wy => HM1 p (by omega) x.1 (hBy.trans (x.2.mono hBy.size))
            have HX0 := fun x : After wy => HM0 p (by omega) x.1 (hBy.trans (x.2.mono hBy.size))
            have HX2 := fun x : After wy => HM2 p (by omega) x.1 (hBy.trans (x.2.mono hBy.size))
            have hmp : Hid (mayP k ls j p = (markB ls p j 1 || (decide (k = 1) && markB ls p j 2) || (decide (2 ≤ k) && !markB ls p j 0))) := Lib.hid rfl
            have hcp : Hid (clP k ls j p = (decide (2 ≤ k) && (markB ls p j 1 && markB ls p j 0))) := Lib.hid rfl
            obtain ⟨b1, e1⟩ : ∃ b, markB ls p j 1 = b := ⟨_, rfl⟩
            obtain ⟨b0, e0⟩ : ∃ b, markB ls p j 0 = b := ⟨_, rfl⟩
            obtain ⟨b2, e2⟩ : ∃ b, markB ls p j 2 = b := ⟨_, rfl⟩
            rw [e1] at HX1 hmp hcp
            rw [e0] at HX0 hmp hcp
            rw [e2] at HX2 hmp
            replace e1 := Lib.hid e1
            clear e0 e2
            go_upto_region 11 with (fail)
            refine wp_region_after (by kernel_rfl) (by kernel_rfl) ?_
            repeat (first | go_big_quiet_step ((first | (go_at_call_of 24 (Value.int IntKind.i64 1); exact Calls.after_of (HX1 _)) | (go_at_call_of 24 (Value.int IntKind.i64 0); exact Calls.after_of (HX0 _)) | (go_at_call_of 24 (Value.int IntKind.i64 2); exact Calls.after_of (HX2 _)))))
            refine wpQuiet_nil ?_
            intro x
            have htz := After.same x hty
            have hfoz := After.same x hfoy
            have hfmz := After.same x hfmy
            have hBz := hBy.trans (x.2.mono hBy.size)
            have hKz : Hid (∀ b, b < wc.heap.size → b ≠ bo → b ≠ bm → x.1.heap[b]? = wc.heap[b]?) := Lib.hid (fun b h1 h2 h3 => by
              have h4 := hKy.out b h1 h2 h3
              rw [Array.getElem?_eq_getElem h1] at h4
              rw [After.same x h4, Array.getElem?_eq_getElem h1])
            generalize x.1 = wz at *
            clear x
            obtain ⟨q0, q1, q2, q3, -⟩ := now4 htz rfl
            have ho := (cell_of_block hfoz p).trans (flagsA_get _ p (by omega))
            have fo := unfrozen_of_block hfoz p
            have hm := (cell_of_block hfmz p).trans (flagsA_get _ p (by omega))
            have fm := unfrozen_of_block hfmz p
            have hst := Lib.hid (fun (u v : Bool) (hu : markB ls p j 1 = u) (hv : mayP k ls j p = v) => flags_step (f := fun q => markB ls q j 1) (g := fun q => mayP k ls j q) hne hfoz hfmz hu hv)
            have hnr : Hid (clP k ls j p = false → ∀ q, q < p + 1 → clP k ls j q = false) := Lib.hid (fun h q hq => by
              by_cases e : q = p
              · subst e; exact h
              · exact hP.out q (by omega))
            have hE4p := Lib.hid (hE4j.out p hpl)
            have hnz : wz.heap[w.heap.size + 1]? = some (.cells #[Value.int .i64 0, .slice none 0 0, .slice none 0 0] 29 (0, 0)) := (hKz.out _ (by omega) (by omega) (by omega)).trans hnc
            have hne' : bm ≠ bo := Ne.symm hne
            have hzz1 := size_of_block htz
            have hp256 : p < 256 := by omega
            have hbo1 : w.heap.size ≤ bo := by omega
            have hbm1 : w.heap.size ≤ bm := by omega
            have hKw : Hid (∀ (u v : Bool), (∀ b, b ≠ bo → b ≠ bm → ((wz.setCell ⟨bo, p, none⟩ (.bool u)).setCell ⟨bm, p, none⟩ (.bool v)).heap[b]? = wz.heap[b]?) → ∀ b, b < wc.heap.size → b ≠ bo → b ≠ bm → ((wz.setCell ⟨bo, p, none⟩ (.bool u)).setCell ⟨bm, p, none⟩ (.bool v)).heap[b]? = wc.heap[b]?) := Lib.hid (fun u v h b h1 h2 h3 => (h b h2 h3).trans (hKz.out b h1 h2 h3))
            clear Q0 Q1 Q2 Q3 HX1 HX0 HX2 HM1 HM0 HM2 hty hfoy hfmy hBy hKy hP hfoz hfmz hKz htz hE4j hnoj hE0 hNs hszc hzc h256 hH
            by_cases hk2 : 2 ≤ k
            · have hd1 : ((k : Int) == 1) = false := by rw [beq_eq_false_iff_ne]; omega
              rw [decide_eq_true hk2, decide_eq_false (show ¬ k = 1 by omega)] at hmp
              rw [decide_eq_true hk2] at hcp
              cases b1
              · cases b0
                · skip
                  go_wp2
                  obtain ⟨s1, s2, s3⟩ := hst.out false true e1.out (by rw [hmp.out]; simp)
                  go_roundw
                  case rel => exact ⟨p + 1, by omega, by go_num, Lib.hid (hnr.out (by rw [hcp.out]; rfl)), (hBz.setCell (p := ⟨bo, p, none⟩) hbo1 _).setCell (p := ⟨bm, p, none⟩) hbm1 _, Lib.hid (hKw.out _ _ s3), s1, s2⟩
                  case measure => simp [intOf]; omega
                · skip
                  go_wp2
                  obtain ⟨s1, s2, s3⟩ := hst.out false false e1.out (by rw [hmp.out]; simp)
                  go_roundw
                  case rel => exact ⟨p + 1, by omega, by go_num, Lib.hid (hnr.out (by rw [hcp.out]; rfl)), (hBz.setCell (p := ⟨bo, p, none⟩) hbo1 _).setCell (p := ⟨bm, p, none⟩) hbm1 _, Lib.hid (hKw.out _ _ s3), s1, s2⟩
                  case measure => simp [intOf]; omega
              · cases b0
                · skip
                  go_wp2
                  obtain ⟨s1, s2, s3⟩ := hst.out true true e1.out (by rw [hmp.out]; simp)
                  go_roundw
                  case rel => exact ⟨p + 1, by omega, by go_num, Lib.hid (hnr.out (by rw [hcp.out]; rfl)), (hBz.setCell (p := ⟨bo, p, none⟩) hbo1 _).setCell (p := ⟨bm, p, none⟩) hbm1 _, Lib.hid (hKw.out _ _ s3), s1, s2⟩
                  case measure => simp [intOf]; omega
                · skip
                  have hb4 := Lib.hid (hE4p.out (by rw [hcp.out]; rfl))
                  obtain ⟨d0, d1, d2, df⟩ := now3 hnz rfl
                  clear ho fo hm fm hst hnr hE4p hcp hmp
                  go_wp2
                  exact bodyPost_ret (v := .tuple #[.agg #[.int .i64 0, .slice none 0 0, .slice none 0 0], .int .i64 4]) (by simp [results, Tryd.results9, go_sem, d0, d1, d2]) rfl
                    ⟨by repeat (first | (with_reducible exact hBz) | (with_reducible refine Below.setCell ?_ (by show w.heap.size ≤ w.heap.size + 1; omega) _)), Or.inl ⟨by rw [hb4.out]; decide, by rw [hb4.out]; rfl⟩⟩
            · rw [decide_eq_false hk2] at hmp hcp
              have hk2' : k < 2 := by omega
              by_cases hk1 : k = 1
              · have hd1 : ((k : Int) == 1) = true := by rw [beq_iff_eq]; exact hk1
                rw [decide_eq_true hk1] at hmp
                clear hk1
                cases b1
                · cases b2
                  · skip
                    go_wp2
                    obtain ⟨s1, s2, s3⟩ := hst.out false false e1.out (by rw [hmp.out]; simp)
                    go_roundw
                    case rel => exact ⟨p + 1, by omega, by go_num, Lib.hid (hnr.out (by rw [hcp.out]; rfl)), (hBz.setCell (p := ⟨bo, p, none⟩) hbo1 _).setCell (p := ⟨bm, p, none⟩) hbm1 _, Lib.hid (hKw.out _ _ s3), s1, s2⟩
                    case measure => simp [intOf]; omega
                  · skip
                    go_wp2
                    obtain ⟨s1, s2, s3⟩ := hst.out false true e1.out (by rw [hmp.out]; simp)
                    go_roundw
                    case rel => exact ⟨p + 1, by omega, by go_num, Lib.hid (hnr.out (by rw [hcp.out]; rfl)), (hBz.setCell (p := ⟨bo, p, none⟩) hbo1 _).setCell (p := ⟨bm, p, none⟩) hbm1 _, Lib.hid (hKw.out _ _ s3), s1, s2⟩
                    case measure => simp [intOf]; omega
                · skip
                  go_wp2
                  obtain ⟨s1, s2, s3⟩ := hst.out true true e1.out (by rw [hmp.out]; simp)
                  go_roundw
                  case rel => exact ⟨p + 1, by omega, by go_num, Lib.hid (hnr.out (by rw [hcp.out]; rfl)), (hBz.setCell (p := ⟨bo, p, none⟩) hbo1 _).setCell (p := ⟨bm, p, none⟩) hbm1 _, Lib.hid (hKw.out _ _ s3), s1, s2⟩
                  case measure => simp [intOf]; omega
              · have hd1 : ((k : Int) == 1) = false := by rw [beq_eq_false_iff_ne]; exact hk1
                rw [decide_eq_false hk1] at hmp
                clear hk1
                cases b1
                · skip
                  go_wp2
                  obtain ⟨s1, s2, s3⟩ := hst.out false false e1.out (by rw [hmp.out]; simp)
                  go_roundw
                  case rel => exact ⟨p + 1, by omega, by go_num, Lib.hid (hnr.out (by rw [hcp.out]; rfl)), (hBz.setCell (p := ⟨bo, p, none⟩) hbo1 _).setCell (p := ⟨bm, p, none⟩) hbm1 _, Lib.hid (hKw.out _ _ s3), s1, s2⟩
                  case measure => simp [intOf]; omega
                · skip
                  go_wp2
                  obtain ⟨s1, s2, s3⟩ := hst.out true true e1.out (by rw [hmp.out]; simp)
                  go_roundw
                  case rel => exact ⟨p + 1, by omega, by go_num, Lib.hid (hnr.out (by rw [hcp.out]; rfl)), (hBz.setCell (p := ⟨bo, p, none⟩) hbo1 _).setCell (p := ⟨bm, p, none⟩) hbm1 _, Lib.hid (hKw.out _ _ s3), s1, s2⟩
                  case measure => simp [intOf]; omega
          · have e : p = N := by omega
            have hoAx := own_keep (w' := wr) hoAc (fun g h1 h2 h3 => hK.out g h3 (fun e => hAo.out (by rw [h1, e])) (fun e => hAm.out (by rw [h1, e])))
            have hoCx := own_keep (w' := wr) hoCc (fun g h1 h2 h3 => hK.out g h3 (fun e => hCo.out (by rw [h1, e])) (fun e => hCm.out (by rw [h1, e])))
            have hsx := (hK.out bs (by have := size_of_block hsc; omega) (by omega) (by omega)).trans hsc
            have hnx := (hK.out (w.heap.size + 1) (by omega) (by omega) (by omega)).trans hnc
            have hPN := hnoj.out (fun q hq => hP.out q (by omega))
            rw [e] at hfo hfm
            have hbs1 : w.heap.size + 1 < bs := by omega
            go_wp2_with fail
            refine (HSz _).mono ?_
            rintro e' wy ⟨rfl, hby⟩
            have hB_wy := hbx.trans (hby.mono hbx.size)
            have ht_wy := keep_blk hby htx
            have hn_wy := keep_blk hby hnx
            have hs_wy := keep_blk hby hsx
            have ho_wy := keep_blk hby hfo
            have hm_wy := keep_blk hby hfm
            have hoA_wy := owns_below hoAx hby
            have hoC_wy := owns_below hoCx hby
            have hsnA : Hid (setsV ((List.range (j + 1)).map fun q => ptsM ls i q 1) = setsV ((List.range j).map fun q => ptsM ls i q 1) ++ [wv (wd (ptsM ls i j 1) 0), wv (wd (ptsM ls i j 1) 1), wv (wd (ptsM ls i j 1) 2), wv (wd (ptsM ls i j 1) 3)]) := Lib.hid (by
              rw [List.range_succ, List.map_append, List.map_singleton, setsV_snoc])
            have hsnC : Hid (setsV ((List.range (j + 1)).map (mayK ⟨k, i, n, ls⟩)) = setsV ((List.range j).map (mayK ⟨k, i, n, ls⟩)) ++ [wv (wd (mayK ⟨k, i, n, ls⟩ j) 0), wv (wd (mayK ⟨k, i, n, ls⟩ j) 1), wv (wd (mayK ⟨k, i, n, ls⟩ j) 2), wv (wd (mayK ⟨k, i, n, ls⟩ j) 3)]) := Lib.hid (by
              rw [List.range_succ, List.map_append, List.map_singleton, setsV_snoc])
            have hb0 := hPN.1
            have hSO : ∀ W, Below wy.heap.size wy W → Calls Tryd.prog 25 #[.slice (some ⟨bo, 0, none⟩) 256 256] W fun e w' => e = .returned (sv (ptsM ls i j 1)) ∧ Below W.heap.size W w' := fun W hW => by
              have hblk := keep_blk hW ho_wy
              have h1 := refset_any (fun q => decide (q < N) && markB ls q j 1) bo 256 W (size_of_block hblk) (fun p hp => by rw [cell_of_block hblk, flagsA_get _ p hp])
              rw [hon.out j] at h1
              exact h1
            have hbm256 : Hid (∀ (W : World), W.heap[bm]? = some (.cells (flagsA (fun q => decide (q < N) && mayP k ls j q)) 4 (0, 0)) → Calls Tryd.prog 25 #[.slice (some ⟨bm, 0, none⟩) 256 256] W fun e w' => e = .returned (sv (mayK ⟨k, i, n, ls⟩ j)) ∧ Below W.heap.size W w') := Lib.hid (fun W hblk => by
              have h1 := refset_any (fun q => decide (q < N) && mayP k ls j q) bm 256 W (size_of_block hblk) (fun p hp => by rw [cell_of_block hblk, flagsA_get _ p hp])
              rw [hPN.2] at h1
              exact h1)
            clear hby hoAx hoCx hsx hnx hfo hfm hbx hK htx q0 q1 q2 q3 HM1 HM0 HM2 hP hPN hE4j hnoj hon hAo hAm hCo hCm hoAc hoCc htc hnc hsc h256 e
            generalize hXA : setsV ((List.range j).map fun q => ptsM ls i q 1) = XA at *
            generalize hXC : setsV ((List.range j).map (mayK ⟨k, i, n, ls⟩)) = XC at *
            generalize hOd : ptsM ls i j 1 = O at *
            generalize hMd : mayK ⟨k, i, n, ls⟩ j = M at *
            clear hXA hXC hOd hMd
            unfold sv at hSO hbm256
            unfold wv at *
            go_upto_region 16 with (fail)
            refine wp_region_held_tail 6 (fun w' => w'.heap[bs]? = some (.cells #[Value.int .i64 i, Value.slice A1 j c1, Value.slice A2 j c2] 29 (0, 0))) (by kernel_rfl) (by kernel_rfl) hs_wy (fun hF hHeld => ?_)
            refine HeadH.take (i := 0) (v := ?_) hF rfl (by kernel_rfl) (by kernel_rfl) (by kernel_rfl) (fun _ _ _ h => h) (Or.inl ⟨by rfl, ?_⟩) (by assumption) ?_
            rotate_left 1
            · intro w_ hSw
              obtain ⟨_, _, _, -⟩ := now3 hSw rfl
              go_simp
              try with_reducible rfl
            try simp only [Act.put, List.setIfInBounds_toArray]
            refine HeadH.take (i := 1) (v := ?_) hF rfl (by kernel_rfl) (by kernel_rfl) (by kernel_rfl) (fun _ _ _ h => h) (Or.inl ⟨by rfl, ?_⟩) (by assumption) ?_
            rotate_left 1
            · intro w_ hSw
              obtain ⟨_, _, _, -⟩ := now3 hSw rfl
              go_simp
              try with_reducible rfl
            try simp only [Act.put]
            refine HeadH.take (i := 2) (v := ?_) hF rfl (by kernel_rfl) (by kernel_rfl) (by kernel_rfl) (fun _ _ _ h => h) (Or.inl ⟨by rfl, ?_⟩) (by assumption) ?_
            rotate_left 1
            · intro w_ hSw
              obtain ⟨_, _, _, -⟩ := now3 hSw rfl
              go_simp
              try with_reducible rfl
            try simp only [Act.put]
            refine HeadH.one (i := 3) (by kernel_rfl) (by kernel_rfl) rfl (fun _ hK => ?_)
            go_simp
            refine (hSO _ (Below.refl _ _).drew).mono ?_
            rintro e wm16 ⟨rfl, hbm16⟩
            have hmm : Below wy.heap.size wy wm16 := (Below.refl _ _).drew.trans hbm16
            have hs_m := keep_blk hmm hs_wy
            have ht_wy_m := keep_blk hmm ht_wy
            have hn_wy_m := keep_blk hmm hn_wy
            have hm_wy_m := keep_blk hmm hm_wy
            have hown_m := owns_below hoA_wy hmm
            have hoth_m := owns_below hoC_wy hmm
            have hB_m := hB_wy.trans (hmm.mono hB_wy.size)
            refine hK.out _ _ hs_m (fun hHeld => ?_)
            clear hbm16 hmm hSO
            clear hK
            try simp only [Act.put, List.setIfInBounds_toArray, List.set_cons_zero, List.set_cons_succ]
            refine HeadH.one (i := 4) (by kernel_rfl) (by kernel_rfl) rfl (fun _ hK => ?_)
            go_simp
            have hzsm := size_of_block hs_m
            refine hK.out _ _ (keep_alloc hs_m) (fun hHeld => ?_)
            clear hK
            try simp only [Act.put, List.setIfInBounds_toArray, List.set_cons_zero, List.set_cons_succ]
            refine HeadH.one (i := 5) (by kernel_rfl) (by kernel_rfl) rfl (fun _ hK => ?_)
            refine step_append_lies _ (by rfl) _ _ _ (by rfl) (bs + 1) 40 i0 _ 4 32 Tryd.underlying27 hi0' hz0 hz1' hz2' rfl (by omega) (Value.slice A1 j c1) j _ (by rfl) (owns_below hown_m (below_alloc1 _ _)) ⟨wm16.heap.size, 0, none⟩ 1 1 [.int .u64 (wd O 0).toNat, .int .u64 (wd O 1).toNat, .int .u64 (wd O 2).toNat, .int .u64 (wd O 3).toNat] (by rfl) (by rfl) (World.news_of_block (cs := #[.int .u64 (wd O 0).toNat, .int .u64 (wd O 1).toNat, .int .u64 (wd O 2).toNat, .int .u64 (wd O 3).toNat]) (t := 40) (fr := (0, 0)) (heap_alloc_new wm16 _)) (by simp [Value.oneCell']) (by omega) (by unfold maxLen; omega) (by omega) (by simp; omega) (wm16.heap.size + 1) (by simp) ?_
            intro gg16 cap16 wa hown_a hga hat hlt2
            have hoA' := owns_below hown_m (below_alloc1 wm16 (.cells #[.int .u64 (wd O 0).toNat, .int .u64 (wd O 1).toNat, .int .u64 (wd O 2).toNat, .int .u64 (wd O 3).toNat] 40))
            have hlo : ∀ b : Nat, b < bs + 1 → ∀ o, wm16.heap[b]? = some o → wa.heap[b]? = some o := fun b hb o h => (grown_low hoA' hga b hb (by simp; omega)).trans (keep_alloc h)
            have hs_a := hlo bs (by omega) _ hs_m
            have ht_wy_a := hlo _ (by omega) _ ht_wy_m
            have hn_wy_a := hlo _ (by omega) _ hn_wy_m
            have hm_wy_a := (hga.block bm (by simp; have := size_of_block hm_wy_m; omega) (fun e => own_ne hown_m hm_wy_m Tryd.neSB e.symm)).trans (keep_alloc hm_wy_m)
            have hoth_a := own_grown (owns_below hoth_m (below_alloc1 wm16 (.cells #[.int .u64 (wd O 0).toNat, .int .u64 (wd O 1).toNat, .int .u64 (wd O 2).toNat, .int .u64 (wd O 3).toNat] 40))) hga (fun g h1 h2 => hsep g h2 h1)
            have hsepa : ∀ g, (Value.slice (some ⟨gg16, 0, none⟩) (j + 1) cap16).ownBlock = some g → (Value.slice A2 j c2).ownBlock ≠ some g := fun g h1 h2 => by
              have hg2 : gg16 = g := by simpa [Value.ownBlock] using h1
              subst hg2
              rcases hat with e | e
              · exact (fun g h1 h2 => hsep g h2 h1) gg16 h2 e
              · have := (hoth_m.lt gg16 h2).2
                omega
            have hB_a : Below w.heap.size w wa := grown_below hoA' hga (hB_m.alloc hB_m.size _) (by omega) (by simp; have := hB_m.size; omega)
            refine hK.out _ _ hs_a (fun hHeld => ?_)
            clear hK
            try simp only [Act.put, List.setIfInBounds_toArray]
            refine ⟨by kernel_rfl, ?_⟩
            simp only [List.drop_succ_cons, List.drop_zero]
            obtain ⟨s0, s1, s2, sf⟩ := now3 hs_a rfl
            have hs_w9 := block_setCell (i := 1) hs_a (Value.slice (some ⟨gg16, 0, none⟩) (j + 1) cap16)
            have ht_w9 := keep_set (a := ⟨bs, 1, none⟩) (u := Value.slice (some ⟨gg16, 0, none⟩) (j + 1) cap16) (by show w.heap.size ≠ bs; omega) ht_wy_a
            have hn_w9 := keep_set (a := ⟨bs, 1, none⟩) (u := Value.slice (some ⟨gg16, 0, none⟩) (j + 1) cap16) (by show w.heap.size + 1 ≠ bs; omega) hn_wy_a
            have hbmne : bm ≠ bs := by omega
            have hm_w9 := keep_set (a := ⟨bs, 1, none⟩) (u := Value.slice (some ⟨gg16, 0, none⟩) (j + 1) cap16) (by show bm ≠ bs; omega) hm_wy_a
            have hoA_w9 := own_set hown_a (fun e => by have := (hown_a.lt bs e).1; omega) 1 (Value.slice (some ⟨gg16, 0, none⟩) (j + 1) cap16)
            have hoC_w9 := own_set hoth_a (fun e => by have := (hoth_a.lt bs e).1; omega) 1 (Value.slice (some ⟨gg16, 0, none⟩) (j + 1) cap16)
            have hB_w9 := hB_a.setCell (p := ⟨bs, 1, none⟩) (by show w.heap.size ≤ bs; omega) (Value.slice (some ⟨gg16, 0, none⟩) (j + 1) cap16)
            have hsep9 : ∀ g, (Value.slice A2 j c2).ownBlock = some g → (Value.slice (some ⟨gg16, 0, none⟩) (j + 1) cap16).ownBlock ≠ some g := fun g h1 h2 => hsepa g h2 h1
            clear hHeld hs_m ht_wy_m hn_wy_m hm_wy_m hown_m hoth_m hB_m hga hlo hat hoA' hsepa hs_wy ht_wy hn_wy hm_wy ho_wy hoA_wy hoC_wy hB_wy ht_wy_a hn_wy_a hm_wy_a hown_a hoth_a hB_a hsep
            go_upto_region 17 with (fail)
            generalize wa.setCell ⟨bs, 1, none⟩ (Value.slice (some ⟨gg16, 0, none⟩) (j + 1) cap16) = w9 at *
            clear s0 s1 s2 sf hs_a hzsm
            replace hs_w9 : w9.heap[bs]? = some (.cells #[Value.int .i64 i, Value.slice (some ⟨gg16, 0, none⟩) (j + 1) cap16, Value.slice A2 j c2] 29 (0, 0)) := hs_w9
            have hSM : ∀ W, Below w9.heap.size w9 W → Calls Tryd.prog 25 #[.slice (some ⟨bm, 0, none⟩) 256 256] W fun e w' => e = .returned (.agg #[.int .u64 (wd M 0).toNat, .int .u64 (wd M 1).toNat, .int .u64 (wd M 2).toNat, .int .u64 (wd M 3).toNat]) ∧ Below W.heap.size W w' := fun W hW => hbm256.out W (keep_blk hW hm_w9)
            clear hbm256
            refine wp_region_held_tail 6 (fun w' => w'.heap[bs]? = some (.cells #[Value.int .i64 i, Value.slice (some ⟨gg16, 0, none⟩) (j + 1) cap16, Value.slice A2 j c2] 29 (0, 0))) (by kernel_rfl) (by kernel_rfl) hs_w9 (fun hF hHeld => ?_)
            refine HeadH.take (i := 0) (v := ?_) hF rfl (by kernel_rfl) (by kernel_rfl) (by kernel_rfl) (fun _ _ _ h => h) (Or.inl ⟨by rfl, ?_⟩) (by assumption) ?_
            rotate_left 1
            · intro w_ hSw
              obtain ⟨_, _, _, -⟩ := now3 hSw rfl
              go_simp
              try with_reducible rfl
            try simp only [Act.put, List.setIfInBounds_toArray]
            refine HeadH.take (i := 1) (v := ?_) hF rfl (by kernel_rfl) (by kernel_rfl) (by kernel_rfl) (fun _ _ _ h => h) (Or.inl ⟨by rfl, ?_⟩) (by assumption) ?_
            rotate_left 1
            · intro w_ hSw
              obtain ⟨_, _, _, -⟩ := now3 hSw rfl
              go_simp
              try with_reducible rfl
            try simp only [Act.put]
            refine HeadH.take (i := 2) (v := ?_) hF rfl (by kernel_rfl) (by kernel_rfl) (by kernel_rfl) (fun _ _ _ h => h) (Or.inl ⟨by rfl, ?_⟩) (by assumption) ?_
            rotate_left 1
            · intro w_ hSw
              obtain ⟨_, _, _, -⟩ := now3 hSw rfl
              go_simp
              try with_reducible rfl
            try simp only [Act.put]
            refine HeadH.one (i := 3) (by kernel_rfl) (by kernel_rfl) rfl (fun _ hK => ?_)
            go_simp
            refine (hSM _ (Below.refl _ _).drew).mono ?_
            rintro e wm17 ⟨rfl, hbm17⟩
            have hmm : Below w9.heap.size w9 wm17 := (Below.refl _ _).drew.trans hbm17
            have hs_m := keep_blk hmm hs_w9
            have ht_w9_m := keep_blk hmm ht_w9
            have hn_w9_m := keep_blk hmm hn_w9
            have hown_m := owns_below hoC_w9 hmm
            have hoth_m := owns_below hoA_w9 hmm
            have hB_m := hB_w9.trans (hmm.mono hB_w9.size)
            refine hK.out _ _ hs_m (fun hHeld => ?_)
            clear hbm17 hmm hSM
            clear hK
            try simp only [Act.put, List.setIfInBounds_toArray, List.set_cons_zero, List.set_cons_succ]
            refine HeadH.one (i := 4) (by kernel_rfl) (by kernel_rfl) rfl (fun _ hK => ?_)
            go_simp
            have hzsm := size_of_block hs_m
            refine hK.out _ _ (keep_alloc hs_m) (fun hHeld => ?_)
            clear hK
            try simp only [Act.put, List.setIfInBounds_toArray, List.set_cons_zero, List.set_cons_succ]
            refine HeadH.one (i := 5) (by kernel_rfl) (by kernel_rfl) rfl (fun _ hK => ?_)
            refine step_append_lies _ (by rfl) _ _ _ (by rfl) (bs + 1) 40 i0 _ 4 32 Tryd.underlying27 hi0' hz0 hz1' hz2' rfl (by omega) (Value.slice A2 j c2) j _ (by rfl) (owns_below hown_m (below_alloc1 _ _)) ⟨wm17.heap.size, 0, none⟩ 1 1 [.int .u64 (wd M 0).toNat, .int .u64 (wd M 1).toNat, .int .u64 (wd M 2).toNat, .int .u64 (wd M 3).toNat] (by rfl) (by rfl) (World.news_of_block (cs := #[.int .u64 (wd M 0).toNat, .int .u64 (wd M 1).toNat, .int .u64 (wd M 2).toNat, .int .u64 (wd M 3).toNat]) (t := 40) (fr := (0, 0)) (heap_alloc_new wm17 _)) (by simp [Value.oneCell']) (by omega) (by unfold maxLen; omega) (by omega) (by simp; omega) (wm17.heap.size + 1) (by simp) ?_
            intro gg17 cap17 wa hown_a hga hat hlt2
            have hoA' := owns_below hown_m (below_alloc1 wm17 (.cells #[.int .u64 (wd M 0).toNat, .int .u64 (wd M 1).toNat, .int .u64 (wd M 2).toNat, .int .u64 (wd M 3).toNat] 40))
            have hlo : ∀ b : Nat, b < bs + 1 → ∀ o, wm17.heap[b]? = some o → wa.heap[b]? = some o := fun b hb o h => (grown_low hoA' hga b hb (by simp; omega)).trans (keep_alloc h)
            have hs_a := hlo bs (by omega) _ hs_m
            have ht_w9_a := hlo _ (by omega) _ ht_w9_m
            have hn_w9_a := hlo _ (by omega) _ hn_w9_m
            have hoth_a := own_grown (owns_below hoth_m (below_alloc1 wm17 (.cells #[.int .u64 (wd M 0).toNat, .int .u64 (wd M 1).toNat, .int .u64 (wd M 2).toNat, .int .u64 (wd M 3).toNat] 40))) hga (fun g h1 h2 => hsep9 g h2 h1)
            have hsepa : ∀ g, (Value.slice (some ⟨gg17, 0, none⟩) (j + 1) cap17).ownBlock = some g → (Value.slice (some ⟨gg16, 0, none⟩) (j + 1) cap16).ownBlock ≠ some g := fun g h1 h2 => by
              have hg2 : gg17 = g := by simpa [Value.ownBlock] using h1
              subst hg2
              rcases hat with e | e
              · exact (fun g h1 h2 => hsep9 g h2 h1) gg17 h2 e
              · have := (hoth_m.lt gg17 h2).2
                omega
            have hB_a : Below w.heap.size w wa := grown_below hoA' hga (hB_m.alloc hB_m.size _) (by omega) (by simp; have := hB_m.size; omega)
            refine hK.out _ _ hs_a (fun hHeld => ?_)
            clear hK
            try simp only [Act.put, List.setIfInBounds_toArray]
            refine ⟨by kernel_rfl, ?_⟩
            simp only [List.drop_succ_cons, List.drop_zero]
            obtain ⟨s0, s1, s2, sf⟩ := now3 hs_a rfl
            clear hHeld hs_m ht_w9_m hn_w9_m hown_m hoth_m hB_m hga hlo hat hoA' hs_w9 ht_w9 hn_w9 hm_w9 hoA_w9 hoC_w9 hB_w9
            go_wp2
            go_roundw
            case rel => exact ⟨j + 1, _, _, by omega, by go_num, Lib.hid (fun q hq => by
              by_cases e : q = j
              · subst e; exact hb0
              · exact hH.out q (by omega)), hB_a.setCell (p := ⟨bs, 2, none⟩) (by show w.heap.size ≤ bs; omega) _, keep_set (by show w.heap.size ≠ bs; omega) ht_w9_a, keep_set (by show w.heap.size + 1 ≠ bs; omega) hn_w9_a, block_setCell hs_a _,
              by rw [hsnA.out]; exact own_set hoth_a (fun e => by have := (hoth_a.lt bs e).1; omega) 2 _, by rw [hsnC.out]; exact own_set hown_a (fun e => by have := (hown_a.lt bs e).1; omega) 2 _, fun g h1 h2 => hsepa g h2 h1⟩
            case measure => simp [intOf]; omega
    · have e : j = n := by omega
      subst e
      have hE := Lib.hid (hE0.out hH.out)
      obtain ⟨s0, s1, s2, sf⟩ := now3 hs rfl
      obtain ⟨d0, d1, d2, df⟩ := now3 hn rfl
      have hlA : ((List.range j).map fun q => ptsM ls i q 1).length = j := by simp
      have hlC : ((List.range j).map (mayK ⟨k, i, j, ls⟩)).length = j := by simp
      have hbs1 : w.heap.size + 1 < bs := by omega
      have hown : ∀ (W : World) (V : Value) (Ss : List (BitVec 256)), Ss.length = j → W.heap[w.heap.size + 1]? = some (.cells #[Value.int .i64 0, .slice none 0 0, .slice none 0 0] 29 (0, 0)) → W.ownsRow (bs + 1) 40 4 V j (setsV Ss) → ∀ x0 x1 x2, SetsAt (((W.setCell ⟨w.heap.size + 1, 0, none⟩ x0).setCell ⟨w.heap.size + 1, 1, none⟩ x1).setCell ⟨w.heap.size + 1, 2, none⟩ x2) (((W.setCell ⟨w.heap.size + 1, 0, none⟩ x0).setCell ⟨w.heap.size + 1, 1, none⟩ x1).setCell ⟨w.heap.size + 1, 2, none⟩ x2).heap.size V Ss := by
        intro W V Ss hl hW ho x0 x1 x2
        refine own_sets (bd := bs + 1) ?_
        rw [hl]
        have hne : V.ownBlock ≠ some (w.heap.size + 1) := fun e => by have := (ho.lt _ e).1; omega
        exact own_set (own_set (own_set ho hne _ _) hne _ _) hne _ _
      have rA := Lib.hid (hown wr _ _ hlA hn hoA (.int .i64 i) (.slice A1 j c1) (.slice A2 j c2))
      have rC := Lib.hid (hown wr _ _ hlC hn hoC (.int .i64 i) (.slice A1 j c1) (.slice A2 j c2))
      clear hown hlA hlC hoA hoC ht hs hE0 hE4 hno HMk HSz hon
      go_wp2
      exact bodyPost_ret (v := .tuple #[.agg #[.int .i64 i, .slice A1 j c1, .slice A2 j c2], .int .i64 0]) (by simp [results, Tryd.results9, go_sem, d0, d1, d2]) rfl
        ⟨by repeat (first | (with_reducible exact hb) | (with_reducible refine Below.setCell ?_ (by show w.heap.size ≤ w.heap.size + 1; omega) _)), Or.inr ⟨hE.out, _, _, rfl, rA.out, rC.out⟩⟩
theorem rof_any (t : Tb) (L : Value) (w : World) (hL : LinesAt w w.heap.size L t.ls) : Calls Tryd.prog 9 #[tv t.k t.i t.n L] w (OfLeaves w t) := by
  cases hr : rightT t
  · exact rof_wrong t L w hL hr
  · obtain ⟨⟨-, ⟨hi0, -⟩, hn1, -⟩, -⟩ := (rightT_iff t).1 hr
    obtain ⟨k, i, n, ls⟩ := t
    dsimp only at hi0 hn1 hL
    obtain ⟨I, rfl⟩ := Int.eq_ofNat_of_zero_le hi0
    obtain ⟨N, rfl⟩ := Int.eq_ofNat_of_zero_le (show 0 ≤ n by omega)
    exact rof_right k I N ls L w hL hr
end Go.Proofs.YtckmjampgeojbaaDoor
namespace Go.Proofs.YtckmjampgeojbaaDoor
open Go.RowKit Go.Joins

def sameSp (a b : Sp) : Bool := decide (a.i = b.i) && decide (a.on = b.on) && decide (a.may = b.may)
theorem list_eq {α : Type} {l l' : List α} (hl : l.length = l'.length) (h : ∀ q, q < l.length → l[q]? = l'[q]?) : l = l' := by
  apply List.ext_getElem?
  intro q
  by_cases hq : q < l.length
  · exact h q hq
  · rw [List.getElem?_eq_none (by omega), List.getElem?_eq_none (by omega)]
theorem sameSp_yes {i : Int} {on may on2 may2 : List (BitVec 256)} (h1 : on = on2) (h2 : may = may2) : sameSp ⟨i, on, may⟩ ⟨i, on2, may2⟩ = true := by
  unfold sameSp; subst h1; subst h2; simp
theorem sameSp_no {a b : Sp} (h : a.i ≠ b.i ∨ a.on ≠ b.on ∨ a.may ≠ b.may) : sameSp a b = false := by
  unfold sameSp
  rcases h with h | h | h <;> simp [h]
theorem ne_at4 {α : Type} {l l' : List α} {j : Nat} {X Y : α} (hX : l[j]? = some X) (hY : l'[j]? = some Y) (h : X ≠ Y) : l ≠ l' := by
  intro e; subst e; rw [hX] at hY; exact h (Option.some.inj hY)
set_option maxHeartbeats 2000000 in
set_option maxRecDepth 100000 in
theorem rsame4_no (i i2 : Int) (A C A2 C2 : Value) (on may on2 may2 : List (BitVec 256)) (w : World) (hA : SetsAt w w.heap.size A on) (hC : SetsAt w w.heap.size C may) (hA2 : SetsAt w w.heap.size A2 on2) (hC2 : SetsAt w w.heap.size C2 may2)
    (h : i ≠ i2 ∨ (i = i2 ∧ on.length ≠ on2.length) ∨ (i = i2 ∧ on.length = on2.length ∧ may.length ≠ may2.length)) :
    Calls Tryd.prog 10 #[spv i A C, spv i2 A2 C2] w fun e w' => e = .returned (.bool false) ∧ Below w.heap.size w w' := by
  obtain ⟨A, ac, rfl, la, -⟩ := hA
  obtain ⟨C, cc, rfl, lc, -⟩ := hC
  obtain ⟨A2, ac2, rfl, la2, -⟩ := hA2
  obtain ⟨C2, cc2, rfl, lc2, -⟩ := hC2
  have h' : ((i != i2) = true) ∨ ((i != i2) = false ∧ (((on.length : Nat) : Int) != ((on2.length : Nat) : Int)) = true) ∨ ((i != i2) = false ∧ (((on.length : Nat) : Int) != ((on2.length : Nat) : Int)) = false ∧ (((may.length : Nat) : Int) != ((may2.length : Nat) : Int)) = true) := by
    simp only [bne_iff_ne, bne_eq_false_iff_eq]; omega
  clear h
  have hB0 := below_alloc2 w (.cells #[Value.int .i64 i, .slice A on.length ac, .slice C may.length cc] 29 (0, 0)) (.cells #[Value.int .i64 i2, .slice A2 on2.length ac2, .slice C2 may2.length cc2] 29 (0, 0))
  unfold spv
  rcases h' with h | ⟨h1, h⟩ | ⟨h1, h2, h⟩
  all_goals
    go_enter Tryd.func10, Tryd.ntmps10
    go_wp2
    go_ret
    exact ⟨rfl, hB0⟩
set_option maxHeartbeats 8000000 in
set_option maxRecDepth 100000 in
theorem rsame4_yes (i : Int) (A C A2 C2 : Value) (on may on2 may2 : List (BitVec 256)) (w : World) (hA : SetsAt w w.heap.size A on) (hC : SetsAt w w.heap.size C may) (hA2 : SetsAt w w.heap.size A2 on2) (hC2 : SetsAt w w.heap.size C2 may2)
    (hlO : on.length = on2.length) (hlM : may.length = may2.length) :
    Calls Tryd.prog 10 #[spv i A C, spv i A2 C2] w fun e w' => e = .returned (.bool (sameSp ⟨i, on, may⟩ ⟨i, on2, may2⟩)) ∧ Below w.heap.size w w' := by
  have hyes : Hid ((∀ q, q < on.length → on[q]? = on2[q]?) → (∀ q, q < may.length → may[q]? = may2[q]?) → sameSp ⟨i, on, may⟩ ⟨i, on2, may2⟩ = true) := Lib.hid (fun h1 h2 => sameSp_yes (list_eq hlO h1) (list_eq hlM h2))
  have hnoO : Hid (∀ j X Y, on[j]? = some X → on2[j]? = some Y → X ≠ Y → sameSp ⟨i, on, may⟩ ⟨i, on2, may2⟩ = false) := Lib.hid (fun j X Y h1 h2 h => sameSp_no (Or.inr (Or.inl (ne_at4 h1 h2 h))))
  have hnoM : Hid (∀ j X Y, may[j]? = some X → may2[j]? = some Y → X ≠ Y → sameSp ⟨i, on, may⟩ ⟨i, on2, may2⟩ = false) := Lib.hid (fun j X Y h1 h2 h => sameSp_no (Or.inr (Or.inr (ne_at4 h1 h2 h))))
  generalize sameSp ⟨i, on, may⟩ ⟨i, on2, may2⟩ = R at *
  obtain ⟨A, ac, rfl, la, hA⟩ := hA
  obtain ⟨C, cc, rfl, lc, hC⟩ := hC
  obtain ⟨A2, ac2, rfl, la2, hA2⟩ := hA2
  obtain ⟨C2, cc2, rfl, lc2, hC2⟩ := hC2
  have e1 : ((i : Int) != i) = false := by simp
  have e2 : (((on.length : Nat) : Int) != ((on2.length : Nat) : Int)) = false := by rw [hlO]; simp
  have e3 : (((may.length : Nat) : Int) != ((may2.length : Nat) : Int)) = false := by rw [hlM]; simp
  replace hlO := Lib.hid hlO
  replace hlM := Lib.hid hlM
  have hB0 := below_alloc2 w (.cells #[Value.int .i64 i, .slice A on.length ac, .slice C may.length cc] 29 (0, 0)) (.cells #[Value.int .i64 i, .slice A2 on2.length ac2, .slice C2 may2.length cc2] 29 (0, 0))
  have ha0 := heap_alloc2_old w (.cells #[Value.int .i64 i, .slice A on.length ac, .slice C may.length cc] 29 (0, 0)) (.cells #[Value.int .i64 i, .slice A2 on2.length ac2, .slice C2 may2.length cc2] 29 (0, 0))
  have hb0 := heap_alloc2_new w (.cells #[Value.int .i64 i, .slice A on.length ac, .slice C may.length cc] 29 (0, 0)) (.cells #[Value.int .i64 i, .slice A2 on2.length ac2, .slice C2 may2.length cc2] 29 (0, 0))
  unfold spv
  go_enter Tryd.func10, Tryd.ntmps10
  go_wp2
  go_loopw [5] (fun t wr => ∃ j : Nat, j ≤ on.length ∧ t = .int .i64 j ∧ Hid (∀ q, q < j → on[q]? = on2[q]?) ∧ Below w.heap.size w wr ∧ wr.heap[w.heap.size]? = some (.cells #[Value.int .i64 i, .slice A on.length ac, .slice C may.length cc] 29 (0, 0)) ∧ wr.heap[w.heap.size + 1]? = some (.cells #[Value.int .i64 i, .slice A2 on2.length ac2, .slice C2 may2.length cc2] 29 (0, 0))) (fun t _ => on.length - (intOf t).toNat)
  case atStart => exact ⟨0, by omega, rfl, Lib.hid (fun q hq => by omega), hB0, ha0, hb0⟩
  case round =>
    obtain ⟨j, hj, rfl, hH, hb, hsa, hsb⟩ := hrel
    obtain ⟨p0, p1, p2, -⟩ := now3 hsa rfl
    obtain ⟨u0, u1, u2, -⟩ := now3 hsb rfl
    by_cases hlt : j < on.length
    · obtain ⟨b, off, rfl, hBb, hc⟩ := hA (by omega)
      obtain ⟨b2, off2, rfl, hBb2, hc2⟩ := hA2 (by have := hlO.out; omega)
      obtain ⟨X, hX⟩ : ∃ X, on[j]? = some X := ⟨_, List.getElem?_eq_getElem hlt⟩
      obtain ⟨Y, hY⟩ : ∃ Y, on2[j]? = some Y := ⟨_, List.getElem?_eq_getElem (by have := hlO.out; omega)⟩
      have hlt2 : (j : Int) < on2.length := by have := hlO.out; omega
      obtain ⟨x0, x1, x2, x3⟩ := hc j X hX
      obtain ⟨y0, y1, y2, y3⟩ := hc2 j Y hY
      have c0 := (hb.cell (p := ⟨b, off + j * 4, none⟩) hBb).trans x0
      have c1 := (hb.cell (p := ⟨b, off + j * 4 + 1, none⟩) hBb).trans x1
      have c2 := (hb.cell (p := ⟨b, off + j * 4 + 2, none⟩) hBb).trans x2
      have c3 := (hb.cell (p := ⟨b, off + j * 4 + 3, none⟩) hBb).trans x3
      have d0 := (hb.cell (p := ⟨b2, off2 + j * 4, none⟩) hBb2).trans y0
      have d1 := (hb.cell (p := ⟨b2, off2 + j * 4 + 1, none⟩) hBb2).trans y1
      have d2 := (hb.cell (p := ⟨b2, off2 + j * 4 + 2, none⟩) hBb2).trans y2
      have d3 := (hb.cell (p := ⟨b2, off2 + j * 4 + 3, none⟩) hBb2).trans y3
      have E := eq4_set X Y
      have hgX := Lib.hid hX
      have hgY := Lib.hid hY
      clear hc hc2 hX hY x0 x1 x2 x3 y0 y1 y2 y3
      unfold wv at *
      go_upto_region 6 with (fail)
      clear p0 p1 p2 u0 u1 u2
      obtain ⟨S0, S1, S2, -⟩ := box3 hsa rfl
      obtain ⟨T0, T1, T2, -⟩ := box3 hsb rfl
      have C0 := fun x : After wr => After.cell x c0
      have C1 := fun x : After wr => After.cell x c1
      have C2' := fun x : After wr => After.cell x c2
      have C3 := fun x : After wr => After.cell x c3
      have D0 := fun x : After wr => After.cell x d0
      have D1 := fun x : After wr => After.cell x d1
      have D2 := fun x : After wr => After.cell x d2
      have D3 := fun x : After wr => After.cell x d3
      by_cases hXY : X = Y
      · rw [decide_eq_true hXY] at E
        have hXY' := Lib.hid hXY
        clear hXY
        refine wp_region_after (by kernel_rfl) (by kernel_rfl) ?_
        repeat (first | go_big_quiet_step (fail))
        refine wpQuiet_nil ?_
        intro x
        clear C0 C1 C2' C3 D0 D1 D2 D3 S0 S1 S2 T0 T1 T2 c0 c1 c2 c3 d0 d1 d2 d3 E
        go_wp2
        go_roundw
        case rel => exact ⟨j + 1, by omega, by go_num, Lib.hid (fun q hq => by
          by_cases e : q = j
          · subst e; rw [hgX.out, hgY.out, hXY'.out]
          · exact hH.out q (by omega)), hb.trans (x.2.mono hb.size), x.same hsa, x.same hsb⟩
        case measure => simp [intOf]; omega
      · rw [decide_eq_false hXY] at E
        have hXY' := Lib.hid hXY
        have hR := Lib.hid (hnoO.out j X Y hgX.out hgY.out hXY)
        clear hXY
        refine wp_region_after (by kernel_rfl) (by kernel_rfl) ?_
        repeat (first | go_big_quiet_step (fail))
        refine wpQuiet_nil ?_
        intro x
        clear C0 C1 C2' C3 D0 D1 D2 D3 S0 S1 S2 T0 T1 T2 c0 c1 c2 c3 d0 d1 d2 d3 E
        go_wp2
        go_ret
        exact ⟨by rw [hR.out]; rfl, hb.trans (x.2.mono hb.size)⟩
    · have e : j = on.length := by omega
      have hon : Hid (∀ q, q < on.length → on[q]? = on2[q]?) := Lib.hid (fun q hq => hH.out q (by rw [e]; exact hq))
      clear hH hj e
      go_wp2
      clear p0 p1 p2 u0 u1 u2 hlt
      go_loopw [6] (fun t wr => ∃ j : Nat, j ≤ may.length ∧ t = .int .i64 j ∧ Hid (∀ q, q < j → may[q]? = may2[q]?) ∧ Below w.heap.size w wr ∧ wr.heap[w.heap.size]? = some (.cells #[Value.int .i64 i, .slice A on.length ac, .slice C may.length cc] 29 (0, 0)) ∧ wr.heap[w.heap.size + 1]? = some (.cells #[Value.int .i64 i, .slice A2 on2.length ac2, .slice C2 may2.length cc2] 29 (0, 0))) (fun t _ => may.length - (intOf t).toNat)
      case atStart => exact ⟨0, by omega, rfl, Lib.hid (fun q hq => by omega), hb, hsa, hsb⟩
      case round =>
        obtain ⟨j, hj, rfl, hH, hb, hsa, hsb⟩ := hrel
        obtain ⟨p0, p1, p2, -⟩ := now3 hsa rfl
        obtain ⟨u0, u1, u2, -⟩ := now3 hsb rfl
        by_cases hlt : j < may.length
        · obtain ⟨b, off, rfl, hBb, hc⟩ := hC (by omega)
          obtain ⟨b2, off2, rfl, hBb2, hc2⟩ := hC2 (by have := hlM.out; omega)
          obtain ⟨X, hX⟩ : ∃ X, may[j]? = some X := ⟨_, List.getElem?_eq_getElem hlt⟩
          obtain ⟨Y, hY⟩ : ∃ Y, may2[j]? = some Y := ⟨_, List.getElem?_eq_getElem (by have := hlM.out; omega)⟩
          have hlt2 : (j : Int) < may2.length := by have := hlM.out; omega
          obtain ⟨x0, x1, x2, x3⟩ := hc j X hX
          obtain ⟨y0, y1, y2, y3⟩ := hc2 j Y hY
          have c0 := (hb.cell (p := ⟨b, off + j * 4, none⟩) hBb).trans x0
          have c1 := (hb.cell (p := ⟨b, off + j * 4 + 1, none⟩) hBb).trans x1
          have c2 := (hb.cell (p := ⟨b, off + j * 4 + 2, none⟩) hBb).trans x2
          have c3 := (hb.cell (p := ⟨b, off + j * 4 + 3, none⟩) hBb).trans x3
          have d0 := (hb.cell (p := ⟨b2, off2 + j * 4, none⟩) hBb2).trans y0
          have d1 := (hb.cell (p := ⟨b2, off2 + j * 4 + 1, none⟩) hBb2).trans y1
          have d2 := (hb.cell (p := ⟨b2, off2 + j * 4 + 2, none⟩) hBb2).trans y2
          have d3 := (hb.cell (p := ⟨b2, off2 + j * 4 + 3, none⟩) hBb2).trans y3
          have E := eq4_set X Y
          have hgX := Lib.hid hX
          have hgY := Lib.hid hY
          clear hc hc2 hX hY x0 x1 x2 x3 y0 y1 y2 y3
          unfold wv at *
          go_upto_region 11 with (fail)
          clear p0 p1 p2 u0 u1 u2
          obtain ⟨S0, S1, S2, -⟩ := box3 hsa rfl
          obtain ⟨T0, T1, T2, -⟩ := box3 hsb rfl
          have C0 := fun x : After wr => After.cell x c0
          have C1 := fun x : After wr => After.cell x c1
          have C2' := fun x : After wr => After.cell x c2
          have C3 := fun x : After wr => After.cell x c3
          have D0 := fun x : After wr => After.cell x d0
          have D1 := fun x : After wr => After.cell x d1
          have D2 := fun x : After wr => After.cell x d2
          have D3 := fun x : After wr => After.cell x d3
          by_cases hXY : X = Y
          · rw [decide_eq_true hXY] at E
            have hXY' := Lib.hid hXY
            clear hXY
            refine wp_region_after (by kernel_rfl) (by kernel_rfl) ?_
            repeat (first | go_big_quiet_step (fail))
            refine wpQuiet_nil ?_
            intro x
            clear C0 C1 C2' C3 D0 D1 D2 D3 S0 S1 S2 T0 T1 T2 c0 c1 c2 c3 d0 d1 d2 d3 E
            go_wp2
            go_roundw
            case rel => exact ⟨j + 1, by omega, by go_num, Lib.hid (fun q hq => by
              by_cases e : q = j
              · subst e; rw [hgX.out, hgY.out, hXY'.out]
              · exact hH.out q (by omega)), hb.trans (x.2.mono hb.size), x.same hsa, x.same hsb⟩
            case measure => simp [intOf]; omega
          · rw [decide_eq_false hXY] at E
            have hXY' := Lib.hid hXY
            have hR := Lib.hid (hnoM.out j X Y hgX.out hgY.out hXY)
            clear hXY
            refine wp_region_after (by kernel_rfl) (by kernel_rfl) ?_
            repeat (first | go_big_quiet_step (fail))
            refine wpQuiet_nil ?_
            intro x
            clear C0 C1 C2' C3 D0 D1 D2 D3 S0 S1 S2 T0 T1 T2 c0 c1 c2 c3 d0 d1 d2 d3 E
            go_wp2
            go_ret
            exact ⟨by rw [hR.out]; rfl, hb.trans (x.2.mono hb.size)⟩
        · have e : j = may.length := by omega
          have hR := Lib.hid (hyes.out hon.out (fun q hq => hH.out q (by rw [e]; exact hq)))
          clear hyes hnoO hnoM
          go_wp2
          go_ret
          exact ⟨by rw [hR.out]; rfl, hb⟩
theorem rsame4_any (a b : Sp) (A C A2 C2 : Value) (w : World) (hA : SetsAt w w.heap.size A a.on) (hC : SetsAt w w.heap.size C a.may) (hA2 : SetsAt w w.heap.size A2 b.on) (hC2 : SetsAt w w.heap.size C2 b.may) :
    Calls Tryd.prog 10 #[spv a.i A C, spv b.i A2 C2] w fun e w' => e = .returned (.bool (sameSp a b)) ∧ Below w.heap.size w w' := by
  obtain ⟨i, on, may⟩ := a
  obtain ⟨i2, on2, may2⟩ := b
  by_cases h : i ≠ i2 ∨ (i = i2 ∧ on.length ≠ on2.length) ∨ (i = i2 ∧ on.length = on2.length ∧ may.length ≠ may2.length)
  · rw [sameSp_no (by
      rcases h with h | ⟨_, h⟩ | ⟨_, _, h⟩
      · exact Or.inl h
      · exact Or.inr (Or.inl fun e => h (congrArg List.length e))
      · exact Or.inr (Or.inr fun e => h (congrArg List.length e)))]
    exact rsame4_no i i2 A C A2 C2 on may on2 may2 w hA hC hA2 hC2 h
  · have hi : i = i2 := by omega
    subst hi
    exact rsame4_yes i A C A2 C2 on may on2 may2 w hA hC hA2 hC2 (by omega) (by omega)
end Go.Proofs.YtckmjampgeojbaaDoor
