/- A slice of numbers that comes in. A matrix that comes in. A covering that comes in: its slice has room for what it holds. The document's own Best of layer 13. -/
import Derived.Test.YtcbhcclickjpnaaGK35
import Derived.Test.YtcbhcclickjpnaaGK01
import Derived.Test.YtcbhcclickjpnaaGK02
import Derived.Test.YtcbhcclickjpnaaGK04
import Derived.Test.YtcbhcclickjpnaaGK03
import Derived.Deep.Slices
import Derived.ChangeSlices
namespace Go.Proofs.Ytcbhcclickjpnaa
open Go.ChangeShapes Go.WideShapes Go.ChangeAt Go.RowKit Go.Joins

theorem Try.cellsInt : Try.prog.cellsOf 3 = 1 := by kernel_rfl
set_option maxRecDepth 100000 in
theorem num_of {H : Type} {enc : TypeId × Value → H} {w : World} {base m : Nat} {sp : Nat → Bool} {held : Bool} {c : Value} {y : DataW H × List MemPlace}
    (h : DataW.trod enc Try.prog w base sp held m 3 [c] = some y) : ∃ x : Int, c = .int .i64 x := by
  obtain ⟨a, e0, _, wa⟩ := DataW.trod_int Try.underlying3 h
  simp at e0
  exact ⟨a, e0⟩
theorem plain_addr {w : World} {a : Addr} {v : Value} (h : w.cell? (a.add 0) = some v) : a = ⟨a.block, a.off, none⟩ ∧ a.block < w.heap.size := by
  have h0 : w.cell? a = some v := by simpa [Addr.add] using h
  have hs := World.cell?_spot h0
  refine ⟨?_, World.block_lt_of_cell? w a h0⟩
  cases a with
  | mk b o s => simp at hs; subst hs; rfl
theorem add_plain (b off i : Nat) : (⟨b, off, none⟩ : Addr).add i = ⟨b, off + i, none⟩ := by
  unfold Addr.add
  split
  · rename_i h; subst h; rfl
  · rfl
set_option maxRecDepth 100000 in
theorem ints_of {H : Type} {enc : TypeId × Value → H} {w : World} {base m : Nat} {sp : Nat → Bool} {held : Bool} {c : Value} {y : DataW H × List MemPlace}
    (h : DataW.trod enc Try.prog w base sp held m 30 [c] = some y) : ∃ o, IntsAt w w.heap.size c o := by
  rcases open_ints Try.underlying30 Try.underlying3 Try.cellsInt h with ⟨e, _⟩ | ⟨a, len, cap, zs, e, hb, hl, hm, hz, hx, hc, hw⟩
  · simp at e
    subst e
    exact ⟨[], none, 0, rfl, by decide, fun h => absurd h (by simp)⟩
  · simp at e
    subst e
    have hle : len ≤ zs.length := by rw [hz]; split <;> omega
    have hlen : (zs.take len).length = len := by rw [List.length_take]; omega
    have hmx : maxLen = 9223372036854775807 := rfl
    refine ⟨zs.take len, some a, cap, by rw [hlen], by omega, fun h0 => ?_⟩
    obtain ⟨ea, hblk⟩ := plain_addr (hc 0 (by omega))
    refine ⟨a.block, a.off, congrArg some ea, hblk, fun j x hx => ?_⟩
    rw [List.getElem?_take] at hx
    split at hx
    · have := hc j (by omega)
      rw [ea, add_plain] at this
      rw [this, List.getD_eq_getElem?_getD, hx]
      rfl
    · cases hx
theorem slice_cells {P : Program} {W : World} {r : Reach} {b t e : Nat} {v : Value} (ht : P.underlying t = some (.slice e)) (h : Value.okWide P W r b t v) : v.cells = #[v] := by
  obtain ⟨a, len, cap, rfl⟩ := okWide_slice ht h
  rfl
theorem open_intl {H : Type} {enc : TypeId × Value → H} {w : World} {base : Nat} {sp : Nat → Bool} {held : Bool} {v : Value} {d : DataW H} {p : List MemPlace}
    (hc : v.cells = #[v]) (h : DataW.Trod enc Try.prog w base sp held 30 v d p) : ∃ ks, IntsAt w w.heap.size v ks := by
  obtain ⟨fuel, hf⟩ := h
  rw [hc] at hf
  exact ints_of hf
end Go.Proofs.Ytcbhcclickjpnaa
namespace Go.Proofs.Ytcbhcclickjpnaa
open Go.ChangeShapes Go.WideShapes Go.ChangeAt Go.RowKit Go.Joins

theorem Try.cellsMatrix : Try.prog.cellsOf 24 = 2 := by kernel_rfl
theorem Try.cellsRowM : Try.prog.cellsOf 30 = 1 := by kernel_rfl
theorem Try.cellsRowsM : Try.prog.cellsOf 22 = 1 := by kernel_rfl
set_option maxRecDepth 100000 in
theorem mat_of {H : Type} {enc : TypeId × Value → H} {w : World} {base m : Nat} {sp : Nat → Bool} {held : Bool} {c : Value} {y : DataW H × List MemPlace}
    (h : DataW.trod enc Try.prog w base sp held m 22 [c] = some y) : ∃ ls, MatAt w w.heap.size c ls := by
  rcases Go.Deep.open_slice Try.underlying22 h with ⟨e, _⟩ | ⟨a, len, cap, m, n, D, Pl, e, hb, hl, hm, hmm, hx, hel⟩
  · simp at e
    subst e
    exact ⟨[], none, 0, rfl, by decide, fun h => absurd h (by simp)⟩
  · simp at e
    subst e
    have hle : len ≤ m := by rw [hmm]; split <;> omega
    have hmx : maxLen = 9223372036854775807 := rfl
    have each : ∀ i, i < len → ∃ l : List Int, ∃ ov, w.cell? (a.add i) = some ov ∧ IntsAt w w.heap.size ov l := by
      intro i hi
      obtain ⟨cs, hcs, ht⟩ := hel i (by omega)
      rw [Try.cellsRowM] at hcs
      obtain ⟨_, hn, hat⟩ := World.cells?_some hcs
      match cs, hn with
      | [c0], _ =>
        have a0 := hat 0 (by decide)
        obtain ⟨o, ho⟩ := ints_of ht
        exact ⟨o, c0, by simpa [Addr.add] using a0, ho⟩
    obtain ⟨F, hF⟩ := Go.Deep.choose_lt each
    refine ⟨(List.range len).map F, some a, cap, by simp, by simp; omega, fun h0 => ?_⟩
    have hl0 : 0 < len := by simpa using h0
    obtain ⟨ov0, z0, -⟩ := hF 0 hl0
    obtain ⟨ea, hblk⟩ := plain_addr (by simpa using z0)
    refine ⟨a.block, a.off, congrArg some ea, hblk, fun j l hj => ?_⟩
    rw [List.getElem?_map] at hj
    obtain ⟨j', hj', rfl⟩ := Option.map_eq_some_iff.1 hj
    obtain ⟨hlt, e⟩ := List.getElem?_eq_some_iff.1 hj'
    have e' : j' = j := by simpa using e.symm
    subst e'
    obtain ⟨ov, q0, hi⟩ := hF j' (by simpa using hlt)
    rw [ea] at q0
    simp only [add_plain] at q0
    exact ⟨ov, q0, hi⟩
set_option maxRecDepth 100000 in
theorem open_matrix {H : Type} {enc : TypeId × Value → H} {w W : World} {r : Reach} {b0 base : Nat} {sp : Nat → Bool} {held : Bool} {v : Value} {d : DataW H} {p : List MemPlace}
    (hv : Value.okWide Try.prog W r b0 24 v) (h : DataW.Trod enc Try.prog w base sp held 24 v d p) : ∃ (n : Int) (L : Value) (ls : List (List Int)), v = mtv n L ∧ MatAt w w.heap.size L ls := by
  have hv' : ∃ cs, v = .agg cs ∧ cs.size = Try.prog.cellsOf 24 := by
    unfold Value.okWide at hv
    rw [Try.underlying24] at hv
    obtain ⟨cs, h1, h2, _⟩ := hv
    exact ⟨cs, h1, h2⟩
  obtain ⟨cs, rfl, hsz⟩ := hv'
  obtain ⟨c0, c1, rfl⟩ := array2 (hsz.trans Try.cellsMatrix)
  obtain ⟨fuel, hf⟩ := h
  obtain ⟨y0, y1, n, _, _, h0, h1⟩ := trod_struct2 Try.underlying24 hf
  simp only [Value.cells, List.drop_zero, Try.cellsInt, Try.cellsRowsM] at h0 h1
  obtain ⟨k, rfl⟩ := num_of h0
  obtain ⟨ls, hL⟩ := mat_of h1
  exact ⟨k, c1, ls, rfl, hL⟩
end Go.Proofs.Ytcbhcclickjpnaa
namespace Go.Proofs.Ytcbhcclickjpnaa
open Go.ChangeShapes Go.WideShapes Go.ChangeAt Go.RowKit Go.Joins

set_option maxRecDepth 100000 in
theorem capM_of14 {H : Type} {enc : TypeId × Value → H} {w : World} {base m : Nat} {sp : Nat → Bool} {held : Bool} {c : Value} {y : DataW H × List MemPlace}
    (h : DataW.trod enc Try.prog w base sp held m 22 [c] = some y) : CapM w c := by
  rcases Go.Deep.open_slice Try.underlying22 h with ⟨e, _⟩ | ⟨a, len, cap, m, n, D, Pl, e, hb, hl, hm, hmm, hx, hel⟩
  · simp at e
    subst e
    intro A n c e
    injection e with e1 e2 e3
    subst e2
    exact ⟨Nat.zero_le _, fun h => absurd h (Nat.lt_irrefl _)⟩
  · simp at e
    subst e
    have hle : len ≤ m := by rw [hmm]; split <;> omega
    intro A n c e
    injection e with e1 e2 e3
    subst e1
    subst e2
    subst e3
    have each : ∀ i, i < len → ∃ A' n' c', w.cell? (a.add i) = some (.slice A' n' c') ∧ n' ≤ c' := by
      intro i hi
      obtain ⟨cs, hcs, ht⟩ := hel i (by omega)
      rw [Try.cellsRowM] at hcs
      obtain ⟨_, hn, hat⟩ := World.cells?_some hcs
      match cs, hn with
      | [c0], _ =>
        have a0 := hat 0 (by decide)
        have a1 : w.cell? (a.add i) = some c0 := by simpa [Addr.add] using a0
        rcases Go.Deep.open_slice Try.underlying30 ht with ⟨e, _⟩ | ⟨a2, len2, cap2, m2, n2, D2, Pl2, e, _, hl2, _⟩
        · simp at e
          subst e
          exact ⟨_, _, _, a1, Nat.le_refl _⟩
        · simp at e
          subst e
          exact ⟨_, _, _, a1, hl2⟩
    refine ⟨hl, fun h0 => ?_⟩
    obtain ⟨A0, n0, c0, z0, -⟩ := each 0 h0
    obtain ⟨ea, hblk⟩ := plain_addr z0
    refine ⟨a.block, a.off, congrArg some ea, hblk, fun j hj => ?_⟩
    have h2 := each j hj
    rw [ea] at h2
    simp only [add_plain] at h2
    exact h2
set_option maxRecDepth 100000 in
theorem capM_matrix14 {H : Type} {enc : TypeId × Value → H} {w : World} {base : Nat} {sp : Nat → Bool} {held : Bool} {n : Int} {L : Value} {d : DataW H} {p : List MemPlace}
    (h : DataW.Trod enc Try.prog w base sp held 24 (mtv n L) d p) : CapM w L := by
  obtain ⟨fuel, hf⟩ := h
  obtain ⟨y0, y1, n, _, _, h0, h1⟩ := trod_struct2 Try.underlying24 hf
  unfold mtv at h1
  simp only [Value.cells, List.drop_zero, Try.cellsInt, Try.cellsRowsM] at h0 h1
  exact capM_of14 h1
end Go.Proofs.Ytcbhcclickjpnaa
namespace Go.Proofs.Ytcbhcclickjpnaa
open Go.RowKit Go.Joins

def chK (c k : Nat) : List Int := ((List.range k).filter fun q => c.testBit q).map fun q : Nat => (q : Int)
theorem chK_succ (c k : Nat) : chK c (k + 1) = if c.testBit k = true then chK c k ++ [(k : Int)] else chK c k := by
  unfold chK
  rw [List.range_succ, List.filter_append, List.filter_cons]
  by_cases h : c.testBit k = true
  · rw [if_pos h, if_pos h, List.filter_nil, List.map_append]; rfl
  · rw [if_neg h, if_neg h, List.filter_nil, List.append_nil]
theorem chK_len (c k : Nat) : (chK c k).length ≤ k := by
  unfold chK
  rw [List.length_map]
  have := List.length_filter_le (fun q => c.testBit q) (List.range k)
  simpa using this
theorem best_succ (n : Nat) (ls : List (List Int)) (k : Nat) : bestK n ls (k + 1) = if ((decide (bestK n ls k < 0) || decide (((chL n k).length : Int) < bestK n ls k)) && solvesM ls (chL n k)) = true then ((chL n k).length : Int) else bestK n ls k := rfl
set_option maxHeartbeats 8000000 in
set_option maxRecDepth 100000 in
theorem rbest14_any (v : Value) (ls : List (List Int)) (n : Nat) (hn : n ≤ 12) (w : World) (hz : MatAt w w.heap.size v ls) :
    Calls Try.prog 18 #[.int .i64 n, v] w fun e w' => e = .returned (.int .i64 (bestM n ls)) ∧ Below w.heap.size w w' := by
  have HS := fun (u : Value) (cols : List Int) W (h : Below w.heap.size w W) hu => rsolves13_any W v u ls cols ((hz.below h).more h.size) hu
  obtain ⟨A, cp, rfl, -, -⟩ := hz
  obtain ⟨i0, hi0, hz0, hz1, hz2⟩ := info_parts Try.infoInt
  have hp2 : ∀ k, Hid (2 ^ (k + 1) = 2 ^ k * 2) := fun k => Lib.hid (Nat.pow_succ 2 k)
  have hple : ∀ k, k ≤ n → Hid (2 ^ k ≤ 4096) := fun k hk => Lib.hid (Nat.le_trans (Nat.pow_le_pow_right (by decide) (by omega : k ≤ 12)) (by decide : (2 : Nat) ^ 12 ≤ 4096))
  have hbm : Hid (bestM n ls = bestK n ls (2 ^ n)) := Lib.hid rfl
  go_enter Try.func18, Try.ntmps18
  go_wp2
  go_loop [5, 6] (fun p t => ∃ k : Nat, k ≤ n ∧ t = .int .i64 k ∧ p = .int .i64 ((2 ^ k : Nat) : Int)) (fun _ t => n - (intOf t).toNat)
  case atStart => exact ⟨0, by omega, rfl, rfl⟩
  case round =>
    obtain ⟨k, hk, rfl, rfl⟩ := hrel
    by_cases hki : k < n
    · have hp := hp2 k
      have h24 := hple (k + 1) (by omega)
      have hkd : decide ((k : Int) < (n : Int)) = true := decide_eq_true (by omega)
      clear hp2 hple HS hbm
      generalize hq : 2 ^ (k + 1) = q at *
      generalize 2 ^ k = p at *
      have hpq := hp.out
      have hqH := Lib.hid hq
      have h24' := h24.out
      clear hq h24
      go_wp2
      go_round
      case rel => exact ⟨k + 1, by omega, by go_num, by rw [hqH.out, hp.out]; go_num⟩
      case measure => simp [intOf]; omega
    · obtain rfl : k = n := by omega
      have hkd : decide ((k : Int) < (k : Int)) = false := decide_eq_false (by omega)
      have hPl := (hple k (by omega)).out
      generalize hP : 2 ^ k = M at *
      have hPH := Lib.hid hP
      clear hP hp2 hple
      go_wp2
      go_loopw [7, 8, 9, 10, 11] (fun s t _ _ _ wr => ∃ c : Nat, c ≤ M ∧ t = .int .i64 c ∧ s = .int .i64 (bestK k ls c) ∧ Below w.heap.size w wr) (fun _ t _ _ _ _ => M - (intOf t).toNat)
      case atStart => exact ⟨0, by omega, rfl, rfl, Below.refl _ _⟩
      case round =>
        rename World => wi
        obtain ⟨c, hc, rfl, rfl, hb⟩ := hrel
        have hbs := hb.size
        by_cases hcl : c < M
        · have hcd : decide ((c : Int) < (M : Int)) = true := decide_eq_true (by omega)
          go_wp2
          go_loopw [9, 10, 11] (fun s x t wr => ∃ (q : Nat) (R : List Int), q ≤ k ∧ t = .int .i64 q ∧ x = .int .i64 ((c / 2 ^ q : Nat) : Int) ∧ Hid (R = chK c q) ∧ wr.ownsRow wi.heap.size 3 1 s R.length (intI R) ∧ Below wi.heap.size wi wr) (fun _ _ t _ => k - (intOf t).toNat)
          case atStart => exact ⟨0, [], by omega, rfl, by simp, Lib.hid rfl, World.ownsRow_nil _ _ _ _, Below.refl _ _⟩
          case round =>
            obtain ⟨q, R, hq, rfl, rfl, hR, ho, hbq⟩ := hrel
            obtain ⟨Ar, cr, rfl⟩ := own_form ho
            have hbqs := hbq.size
            by_cases hqk : q < k
            · have hqd : decide ((q : Int) < (k : Int)) = true := decide_eq_true (by omega)
              have hRl : R.length ≤ q := by rw [hR.out]; exact chK_len c q
              have hs := Lib.hid (chK_succ c q)
              have hdv : Hid (c / 2 ^ (q + 1) = c / 2 ^ q / 2) := Lib.hid (by rw [Nat.pow_succ, Nat.div_div_eq_div_mul])
              have htb : Hid (c.testBit q = decide (c / 2 ^ q % 2 = 1)) := Lib.hid Nat.testBit_eq_decide_div_mod_eq
              have hx1 : c / 2 ^ q ≤ 4096 := Nat.le_trans (Nat.div_le_self _ _) (by omega)
              generalize c / 2 ^ q = x at *
              have hrmH := Lib.hid (show (x : Int) % 2 = ((x % 2 : Nat) : Int) by omega)
              have hquH := Lib.hid (show (x : Int) / 2 = ((x / 2 : Nat) : Int) by omega)
              by_cases hm : x % 2 = 1
              · have hR2 : Hid (R ++ [(q : Int)] = chK c (q + 1)) := Lib.hid (by rw [hs.out, htb.out, hm, hR.out]; rfl)
                have hxd : ((x : Int) % 2 == 1) = true := by rw [hrmH.out, hm]; rfl
                clear hs hR htb hm
                have hna := ho.alloc (.cells #[.int .i64 q] 3 (0, 0))
                have hba := hbq.alloc hbqs (.cells #[.int .i64 q] 3 (0, 0))
                go_wp2_with (at_builtin; refine wpList_append_own_at _ rfl _ _ 30 rfl wi.heap.size 3 i0 (.int .i64 0) 1 8 Try.underlying30 hi0 hz0 hz1 hz2 rfl (by decide) _ _ _ rfl hna ⟨wr.heap.size, 0, none⟩ 1 1 [.int .i64 q] rfl rfl one_new13 (fun u hu => by rw [List.mem_singleton.1 hu]; rfl) ?c3 ?c4 ?c5 ?_)
                case c3 => unfold maxLen; omega
                case c4 => omega
                case c5 => first | omega | (simp; omega)
                intro V4 w9 hp9 hg9 _ _
                have hB9 := grown_below hna hg9 hba (Nat.le_refl _) (by simp; omega)
                have hn9 : w9.ownsRow wi.heap.size 3 1 V4 (R ++ [(q : Int)]).length (intI (R ++ [(q : Int)])) := by
                  have e : intI (R ++ [(q : Int)]) = intI R ++ [.int .i64 q] := by unfold intI; rw [List.map_append]; rfl
                  rw [e, List.length_append]
                  exact hp9
                clear hna hba hg9 hp9 ho hbq
                go_wp2
                go_roundw
                case rel => exact ⟨q + 1, R ++ [(q : Int)], by omega, by go_num, by rw [hdv.out, hquH.out], hR2, hn9, hB9⟩
                case measure => simp [intOf]; omega
              · have hR2 : Hid (R = chK c (q + 1)) := Lib.hid (by rw [hs.out, htb.out, decide_eq_false hm, hR.out]; rfl)
                have hxd : ((x : Int) % 2 == 1) = false := by rw [hrmH.out, show x % 2 = 0 by omega]; rfl
                clear hs hR htb hm
                go_wp2
                go_roundw
                case rel => exact ⟨q + 1, R, by omega, by go_num, by rw [hdv.out, hquH.out], hR2, ho, hbq⟩
                case measure => simp [intOf]; omega
            · have hqd : decide ((q : Int) < (k : Int)) = false := decide_eq_false (by omega)
              obtain rfl : q = k := by omega
              have hst := Lib.hid (best_succ q ls c)
              have hR3 : Hid (R = chL q c) := hR
              have hRl : R.length ≤ q := by rw [hR.out]; exact chK_len c q
              have hBr := hb.trans (hbq.mono hbs)
              have hu := own_intI ho
              have HS1 := HS _ R wr hBr hu
              clear HS hR hbm hu
              rw [← hR3.out] at hst
              generalize bestK q ls c = B at *
              have hB0 : B < 0 ∨ ¬ B < 0 := by omega
              rcases hB0 with hB0 | hB0
              · have hBd : decide (B < 0) = true := decide_eq_true hB0
                cases hs : solvesM ls R
                · rw [hs] at HS1
                  have hst2 : Hid (bestK q ls (c + 1) = B) := Lib.hid (by rw [hst.out, hs, Bool.and_false]; rfl)
                  clear hst hs hR3
                  go_wp2_with fail
                  refine HS1.mono ?_
                  rintro e w4 ⟨rfl, hb4⟩
                  have hB5 := hBr.trans (hb4.mono hBr.size)
                  clear HS1
                  go_wp2
                  go_roundw
                  case rel => exact ⟨c + 1, by omega, by go_num, by rw [hst2.out], hB5⟩
                  case measure => simp [intOf]; omega
                · rw [hs] at HS1
                  have hst2 : Hid (bestK q ls (c + 1) = (R.length : Int)) := Lib.hid (by rw [hst.out, hs, decide_eq_true hB0]; rfl)
                  clear hst hs hR3
                  go_wp2_with fail
                  refine HS1.mono ?_
                  rintro e w4 ⟨rfl, hb4⟩
                  have hB5 := hBr.trans (hb4.mono hBr.size)
                  clear HS1
                  go_wp2
                  go_roundw
                  case rel => exact ⟨c + 1, by omega, by go_num, by rw [hst2.out], hB5⟩
                  case measure => simp [intOf]; omega
              · have hBd : decide (B < 0) = false := decide_eq_false hB0
                have hRB : (R.length : Int) < B ∨ ¬ (R.length : Int) < B := by omega
                rcases hRB with hRB | hRB
                · have hRd : decide ((R.length : Int) < B) = true := decide_eq_true hRB
                  cases hs : solvesM ls R
                  · rw [hs] at HS1
                    have hst2 : Hid (bestK q ls (c + 1) = B) := Lib.hid (by rw [hst.out, hs, Bool.and_false]; rfl)
                    clear hst hs hR3
                    go_wp2_with fail
                    refine HS1.mono ?_
                    rintro e w4 ⟨rfl, hb4⟩
                    have hB5 := hBr.trans (hb4.mono hBr.size)
                    clear HS1
                    go_wp2
                    go_roundw
                    case rel => exact ⟨c + 1, by omega, by go_num, by rw [hst2.out], hB5⟩
                    case measure => simp [intOf]; omega
                  · rw [hs] at HS1
                    have hst2 : Hid (bestK q ls (c + 1) = (R.length : Int)) := Lib.hid (by rw [hst.out, hs, decide_eq_true hRB, Bool.or_true]; rfl)
                    clear hst hs hR3
                    go_wp2_with fail
                    refine HS1.mono ?_
                    rintro e w4 ⟨rfl, hb4⟩
                    have hB5 := hBr.trans (hb4.mono hBr.size)
                    clear HS1
                    go_wp2
                    go_roundw
                    case rel => exact ⟨c + 1, by omega, by go_num, by rw [hst2.out], hB5⟩
                    case measure => simp [intOf]; omega
                · have hRd : decide ((R.length : Int) < B) = false := decide_eq_false hRB
                  have hst2 : Hid (bestK q ls (c + 1) = B) := Lib.hid (by rw [hst.out, hBd, hRd]; rfl)
                  clear hst hR3 HS1
                  go_wp2
                  go_roundw
                  case rel => exact ⟨c + 1, by omega, by go_num, by rw [hst2.out], hBr⟩
                  case measure => simp [intOf]; omega
        · obtain rfl : c = M := by omega
          have hcd : decide ((c : Int) < (c : Int)) = false := decide_eq_false (by omega)
          clear HS
          go_wp2
          go_ret
          exact ⟨by rw [hbm.out]; rfl, hb⟩
end Go.Proofs.Ytcbhcclickjpnaa
