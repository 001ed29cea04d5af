/- The statements of layer 10, over what the package answers: MultiAll. A cube that comes in reads as two numbers of 8 bits. A slice of numbers that comes in. A table that comes in: its numbers, and its lines. A slice of sets that comes in. Rows and specs that come in. A row that comes in. -/
import Derived.Test.YtmgggennbnbjkaaGreatG29
import Derived.Test.YtmgggennbnbjkaaGreatG33
import Derived.Test.YtmgggennbnbjkaaGreatG08
import Derived.Test.YtmgggennbnbjkaaGreatG13
import Derived.Test.YtmgggennbnbjkaaGreatG14
import Derived.Deep.Slices
import Derived.ChangeSlices
import Derived.Deep.Strs
namespace Go.Proofs.YtmgggennbnbjkaaGreat
open Go.RowKit Go.Joins

theorem great10_any (i : Int) (A C : Value) (on may : List (BitVec 256)) (w : World) (hA : SetsAt w w.heap.size A on) (hC : SetsAt w w.heap.size C may) :
    Calls Tryz.prog 4 #[spv i A C] w fun e w' => e = .returned (.bool (decide (20 < on.length) || decide (20 < may.length))) ∧ Below w.heap.size w w' := by
  obtain ⟨A, ac, rfl, la, -⟩ := hA
  obtain ⟨C, cc, rfl, lc, -⟩ := hC
  have hB := below_alloc1 w (spb i (.slice A on.length ac) (.slice C may.length cc))
  have h2 : decide (20 < may.length) = decide ((20 : Int) < (may.length : Int)) := by rw [Bool.eq_iff_iff, decide_eq_true_iff, decide_eq_true_iff]; omega
  unfold spv spb at *
  by_cases h : 20 < on.length
  · have hd : (decide ((20 : Int) < (on.length : Int))) = true := decide_eq_true (by omega)
    rw [decide_eq_true h, Bool.true_or]
    go_enter Tryz.func4, Tryz.ntmps4
    go_wp2
    go_ret
    exact ⟨rfl, hB⟩
  · have hd : (decide ((20 : Int) < (on.length : Int))) = false := decide_eq_false (by omega)
    rw [decide_eq_false h, Bool.false_or, h2]
    go_enter Tryz.func4, Tryz.ntmps4
    go_wp2
    go_ret
    exact ⟨rfl, hB⟩
end Go.Proofs.YtmgggennbnbjkaaGreat
namespace Go.Proofs.YtmgggennbnbjkaaGreat
open Go.ChangeShapes Go.WideShapes Go.ChangeAt Go.RowKit Go.Joins

theorem Tryz.cellsCube : Tryz.prog.cellsOf 26 = 2 := by kernel_rfl
theorem Tryz.cellsByte : Tryz.prog.cellsOf 5 = 1 := by kernel_rfl
theorem byte_of {H : Type} {enc : TypeId × Value → H} {w : World} {base m : Nat} {sp : Nat → Bool} {held : Bool} {c : Value} {y : DataW H × List MemPlace}
    (h : DataW.trod enc Tryz.prog w base sp held m 5 [c] = some y) : ∃ x : BitVec 8, c = bvv x := by
  obtain ⟨a, e0, _, wa⟩ := DataW.trod_int Tryz.underlying5 h
  simp at e0
  subst e0
  have hb : 0 ≤ a ∧ a ≤ 255 := by
    simp [Lit.wf, IntKind.min, IntKind.max, IntKind.signed, IntKind.bits] at wa
    omega
  obtain ⟨n, rfl⟩ := Int.eq_ofNat_of_zero_le hb.1
  refine ⟨BitVec.ofNat 8 n, ?_⟩
  unfold bvv
  rw [BitVec.toNat_ofNat, Nat.mod_eq_of_lt (by omega)]
set_option maxRecDepth 100000 in
theorem open_cube {H : Type} {enc : TypeId × Value → H} {w W : World} {r : Reach} {b0 base : Nat} {sp : Nat → Bool} {held : Bool} {v : Value} {d : DataW H} {p : List MemPlace}
    (hv : Value.okWide Tryz.prog W r b0 26 v) (h : DataW.Trod enc Tryz.prog w base sp held 26 v d p) : ∃ m x : BitVec 8, v = cv m x := by
  have hv' : ∃ cs, v = .agg cs ∧ cs.size = Tryz.prog.cellsOf 26 := by
    unfold Value.okWide at hv
    rw [Tryz.underlying26] at hv
    obtain ⟨cs, h1, h2, _⟩ := hv
    exact ⟨cs, h1, h2⟩
  obtain ⟨cs, rfl, hsz⟩ := hv'
  obtain ⟨c0, c1, rfl⟩ : ∃ c0 c1, cs = #[c0, c1] := by
    have h2 := hsz.trans Tryz.cellsCube
    obtain ⟨l⟩ := cs
    match l, h2 with
    | [c0, c1], _ => exact ⟨c0, c1, rfl⟩
  obtain ⟨fuel, hf⟩ := h
  obtain ⟨y0, y1, n, _, _, h0, h1⟩ := trod_struct2 Tryz.underlying26 hf
  simp only [Value.cells, List.drop_zero, Tryz.cellsByte] at h0 h1
  obtain ⟨x0, e0⟩ := byte_of h0
  obtain ⟨x1, e1⟩ := byte_of h1
  exact ⟨x0, x1, by unfold cv; rw [e0, e1]⟩
end Go.Proofs.YtmgggennbnbjkaaGreat
namespace Go.Proofs.YtmgggennbnbjkaaGreat
open Go.ChangeShapes Go.WideShapes Go.ChangeAt Go.RowKit Go.Joins

theorem Tryz.cellsInt : Tryz.prog.cellsOf 3 = 1 := by kernel_rfl
set_option maxRecDepth 100000 in
theorem num_of {H : Type} {enc : TypeId × Value → H} {w : World} {base m : Nat} {sp : Nat → Bool} {held : Bool} {c : Value} {y : DataW H × List MemPlace}
    (h : DataW.trod enc Tryz.prog w base sp held m 3 [c] = some y) : ∃ x : Int, c = .int .i64 x := by
  obtain ⟨a, e0, _, wa⟩ := DataW.trod_int Tryz.underlying3 h
  simp at e0
  exact ⟨a, e0⟩
theorem plain_addr {w : World} {a : Addr} {v : Value} (h : w.cell? (a.add 0) = some v) : a = ⟨a.block, a.off, none⟩ ∧ a.block < w.heap.size := by
  have h0 : w.cell? a = some v := by simpa [Addr.add] using h
  have hs := World.cell?_spot h0
  refine ⟨?_, World.block_lt_of_cell? w a h0⟩
  cases a with
  | mk b o s => simp at hs; subst hs; rfl
theorem add_plain (b off i : Nat) : (⟨b, off, none⟩ : Addr).add i = ⟨b, off + i, none⟩ := by
  unfold Addr.add
  split
  · rename_i h; subst h; rfl
  · rfl
set_option maxRecDepth 100000 in
theorem ints_of {H : Type} {enc : TypeId × Value → H} {w : World} {base m : Nat} {sp : Nat → Bool} {held : Bool} {c : Value} {y : DataW H × List MemPlace}
    (h : DataW.trod enc Tryz.prog w base sp held m 83 [c] = some y) : ∃ o, IntsAt w w.heap.size c o := by
  rcases open_ints Tryz.underlying83 Tryz.underlying3 Tryz.cellsInt h with ⟨e, _⟩ | ⟨a, len, cap, zs, e, hb, hl, hm, hz, hx, hc, hw⟩
  · simp at e
    subst e
    exact ⟨[], none, 0, rfl, by decide, fun h => absurd h (by simp)⟩
  · simp at e
    subst e
    have hle : len ≤ zs.length := by rw [hz]; split <;> omega
    have hlen : (zs.take len).length = len := by rw [List.length_take]; omega
    have hmx : maxLen = 9223372036854775807 := rfl
    refine ⟨zs.take len, some a, cap, by rw [hlen], by omega, fun h0 => ?_⟩
    obtain ⟨ea, hblk⟩ := plain_addr (hc 0 (by omega))
    refine ⟨a.block, a.off, congrArg some ea, hblk, fun j x hx => ?_⟩
    rw [List.getElem?_take] at hx
    split at hx
    · have := hc j (by omega)
      rw [ea, add_plain] at this
      rw [this, List.getD_eq_getElem?_getD, hx]
      rfl
    · cases hx
theorem slice_cells {P : Program} {W : World} {r : Reach} {b t e : Nat} {v : Value} (ht : P.underlying t = some (.slice e)) (h : Value.okWide P W r b t v) : v.cells = #[v] := by
  obtain ⟨a, len, cap, rfl⟩ := okWide_slice ht h
  rfl
theorem open_intl {H : Type} {enc : TypeId × Value → H} {w : World} {base : Nat} {sp : Nat → Bool} {held : Bool} {v : Value} {d : DataW H} {p : List MemPlace}
    (hc : v.cells = #[v]) (h : DataW.Trod enc Tryz.prog w base sp held 83 v d p) : ∃ ks, IntsAt w w.heap.size v ks := by
  obtain ⟨fuel, hf⟩ := h
  rw [hc] at hf
  exact ints_of hf
end Go.Proofs.YtmgggennbnbjkaaGreat
namespace Go.Proofs.YtmgggennbnbjkaaGreat
open Go.ChangeShapes Go.WideShapes Go.ChangeAt Go.RowKit Go.Joins

theorem Tryz.cellsInts : Tryz.prog.cellsOf 83 = 1 := by kernel_rfl
set_option maxRecDepth 100000 in
theorem cube_of {H : Type} {enc : TypeId × Value → H} {w : World} {base n : Nat} {sp : Nat → Bool} {held : Bool} {c0 c1 : Value} {y : DataW H × List MemPlace}
    (h : DataW.trod enc Tryz.prog w base sp held n 26 [c0, c1] = some y) : ∃ m v : BitVec 8, c0 = bvv m ∧ c1 = bvv v := by
  obtain ⟨y0, y1, n, _, _, h0, h1⟩ := trod_struct2 Tryz.underlying26 h
  simp only [List.drop_zero, Tryz.cellsByte] at h0 h1
  obtain ⟨x0, e0⟩ := byte_of h0
  obtain ⟨x1, e1⟩ := byte_of h1
  exact ⟨x0, x1, e0, e1⟩
instance : Inhabited Ln := ⟨⟨0, 0, []⟩⟩
end Go.Proofs.YtmgggennbnbjkaaGreat
namespace Go.Proofs.YtmgggennbnbjkaaGreat
open Go.ChangeShapes Go.WideShapes Go.ChangeAt Go.RowKit Go.Joins

theorem Tryz.cellsSet4 : Tryz.prog.cellsOf 41 = 4 := by kernel_rfl
set_option maxRecDepth 100000 in
theorem set_of {H : Type} {enc : TypeId × Value → H} {w : World} {base n : Nat} {sp : Nat → Bool} {held : Bool} {c0 c1 c2 c3 : Value} {y : DataW H × List MemPlace}
    (h : DataW.trod enc Tryz.prog w base sp held n 41 [c0, c1, c2, c3] = some y) : ∃ S : BitVec 256, c0 = wv (wd S 0) ∧ c1 = wv (wd S 1) ∧ c2 = wv (wd S 2) ∧ c3 = wv (wd S 3) := by
  obtain ⟨xs, m, _, _, _, hx, he⟩ := DataW.trod_array Tryz.underlying41 h
  rw [Tryz.cellsWord] at he
  obtain ⟨y0, y1, y2, y3, rfl⟩ : ∃ y0 y1 y2 y3, xs = [y0, y1, y2, y3] := by
    match xs, hx with
    | [a, b, c, d], _ => exact ⟨a, b, c, d, rfl⟩
  obtain ⟨x0, e0⟩ := word_of (he 0 (by decide))
  obtain ⟨x1, e1⟩ := word_of (he 1 (by decide))
  obtain ⟨x2, e2⟩ := word_of (he 2 (by decide))
  obtain ⟨x3, e3⟩ := word_of (he 3 (by decide))
  obtain ⟨S, f0, f1, f2, f3⟩ := of_words x0 x1 x2 x3
  exact ⟨S, by rw [f0]; exact e0, by rw [f1]; exact e1, by rw [f2]; exact e2, by rw [f3]; exact e3⟩
set_option maxRecDepth 100000 in
theorem sets_of {H : Type} {enc : TypeId × Value → H} {w : World} {base m : Nat} {sp : Nat → Bool} {held : Bool} {c : Value} {y : DataW H × List MemPlace}
    (h : DataW.trod enc Tryz.prog w base sp held m 22 [c] = some y) : ∃ Ss, SetsAt w w.heap.size c Ss := by
  rcases Go.Deep.open_slice Tryz.underlying22 h with ⟨e, _⟩ | ⟨a, len, cap, m, n, D, Pl, e, hb, hl, hm, hmm, hx, hel⟩
  · simp at e
    subst e
    exact ⟨[], none, 0, rfl, by decide, fun h => absurd h (by simp)⟩
  · simp at e
    subst e
    have hle : len ≤ m := by rw [hmm]; split <;> omega
    have hmx : maxLen = 9223372036854775807 := rfl
    have each : ∀ i, i < len → ∃ S : BitVec 256, w.cell? (a.add (i * 4)) = some (wv (wd S 0)) ∧ w.cell? ((a.add (i * 4)).add 1) = some (wv (wd S 1)) ∧ w.cell? ((a.add (i * 4)).add 2) = some (wv (wd S 2)) ∧ w.cell? ((a.add (i * 4)).add 3) = some (wv (wd S 3)) := by
      intro i hi
      obtain ⟨cs, hcs, ht⟩ := hel i (by omega)
      rw [Tryz.cellsSet4] at hcs
      obtain ⟨_, hn, hat⟩ := World.cells?_some hcs
      match cs, hn with
      | [c0, c1, c2, c3], _ =>
        have a0 := hat 0 (by decide)
        have a1 := hat 1 (by decide)
        have a2 := hat 2 (by decide)
        have a3 := hat 3 (by decide)
        obtain ⟨S, rfl, rfl, rfl, rfl⟩ := set_of ht
        exact ⟨S, by simpa [Addr.add] using a0, by simpa using a1, by simpa using a2, by simpa using a3⟩
    obtain ⟨F, hF⟩ := Go.Deep.choose_lt each
    refine ⟨(List.range len).map F, some a, cap, by simp, by simp; omega, fun h0 => ?_⟩
    have hl0 : 0 < len := by simpa using h0
    obtain ⟨z0, -⟩ := hF 0 hl0
    obtain ⟨ea, hblk⟩ := plain_addr (by simpa using z0)
    refine ⟨a.block, a.off, congrArg some ea, hblk, fun j l hj => ?_⟩
    rw [List.getElem?_map] at hj
    obtain ⟨j', hj', rfl⟩ := Option.map_eq_some_iff.1 hj
    obtain ⟨hlt, e⟩ := List.getElem?_eq_some_iff.1 hj'
    have e' : j' = j := by simpa using e.symm
    subst e'
    obtain ⟨q0, q1, q2, q3⟩ := hF j' (by simpa using hlt)
    rw [ea] at q0 q1 q2 q3
    simp only [add_plain] at q0 q1 q2 q3
    exact ⟨q0, q1, q2, q3⟩
set_option maxRecDepth 100000 in
theorem open_sets {H : Type} {enc : TypeId × Value → H} {w : World} {base : Nat} {sp : Nat → Bool} {held : Bool} {v : Value} {d : DataW H} {p : List MemPlace}
    (hc : v.cells = #[v]) (h : DataW.Trod enc Tryz.prog w base sp held 22 v d p) : ∃ Ss, SetsAt w w.heap.size v Ss := by
  obtain ⟨fuel, hf⟩ := h
  rw [hc] at hf
  exact sets_of hf
end Go.Proofs.YtmgggennbnbjkaaGreat
namespace Go.Proofs.YtmgggennbnbjkaaGreat
open Go.ChangeShapes Go.WideShapes Go.ChangeAt Go.RowKit Go.Joins

theorem Tryz.cellsRow : Tryz.prog.cellsOf 28 = 3 := by kernel_rfl
instance : Inhabited Rw := ⟨⟨0, 0, 0⟩⟩
set_option maxRecDepth 100000 in
theorem rows_of {H : Type} {enc : TypeId × Value → H} {w : World} {base m : Nat} {sp : Nat → Bool} {held : Bool} {c : Value} {y : DataW H × List MemPlace}
    (h : DataW.trod enc Tryz.prog w base sp held m 31 [c] = some y) : ∃ rs, RwsAt w w.heap.size c rs := by
  rcases Go.Deep.open_slice Tryz.underlying31 h with ⟨e, _⟩ | ⟨a, len, cap, m, n, D, Pl, e, hb, hl, hm, hmm, hx, hel⟩
  · simp at e
    subst e
    exact ⟨[], none, 0, rfl, by decide, fun h => absurd h (by simp)⟩
  · simp at e
    subst e
    have hle : len ≤ m := by rw [hmm]; split <;> omega
    have hmx : maxLen = 9223372036854775807 := rfl
    have each : ∀ i, i < len → ∃ x : Rw, w.cell? (a.add (i * 3)) = some (bvv x.m) ∧ w.cell? ((a.add (i * 3)).add 1) = some (bvv x.v) ∧ w.cell? ((a.add (i * 3)).add 2) = some (bvv x.o) := by
      intro i hi
      obtain ⟨cs, hcs, ht⟩ := hel i (by omega)
      rw [Tryz.cellsRow] at hcs
      obtain ⟨_, hn, hat⟩ := World.cells?_some hcs
      match cs, hn with
      | [c0, c1, c2], _ =>
        have a0 := hat 0 (by decide)
        have a1 := hat 1 (by decide)
        have a2 := hat 2 (by decide)
        obtain ⟨y0, y1, n, _, _, h0, h1⟩ := trod_struct2 Tryz.underlying28 ht
        simp only [List.drop_zero, Tryz.cellsCube, Tryz.cellsByte] at h0 h1
        obtain ⟨mm, vv, rfl, rfl⟩ := cube_of h0
        obtain ⟨oo, rfl⟩ := byte_of h1
        exact ⟨⟨mm, vv, oo⟩, by simpa [Addr.add] using a0, by simpa using a1, by simpa using a2⟩
    obtain ⟨F, hF⟩ := Go.Deep.choose_lt each
    refine ⟨(List.range len).map F, some a, cap, by simp, by simp; omega, fun h0 => ?_⟩
    have hl0 : 0 < len := by simpa using h0
    obtain ⟨z0, -⟩ := hF 0 hl0
    obtain ⟨ea, hblk⟩ := plain_addr (by simpa using z0)
    refine ⟨a.block, a.off, congrArg some ea, hblk, fun j l hj => ?_⟩
    rw [List.getElem?_map] at hj
    obtain ⟨j', hj', rfl⟩ := Option.map_eq_some_iff.1 hj
    obtain ⟨hlt, e⟩ := List.getElem?_eq_some_iff.1 hj'
    have e' : j' = j := by simpa using e.symm
    subst e'
    obtain ⟨q0, q1, q2⟩ := hF j' (by simpa using hlt)
    rw [ea] at q0 q1 q2
    simp only [add_plain] at q0 q1 q2
    exact ⟨q0, q1, q2⟩
set_option maxRecDepth 100000 in
theorem open_rows {H : Type} {enc : TypeId × Value → H} {w : World} {base : Nat} {sp : Nat → Bool} {held : Bool} {v : Value} {d : DataW H} {p : List MemPlace}
    (hc : v.cells = #[v]) (h : DataW.Trod enc Tryz.prog w base sp held 31 v d p) : ∃ rs, RwsAt w w.heap.size v rs := by
  obtain ⟨fuel, hf⟩ := h
  rw [hc] at hf
  exact rows_of hf
theorem array3 {cs : Array Value} (h : cs.size = 3) : ∃ a b c, cs = #[a, b, c] := by
  match cs, h with
  | ⟨[a, b, c]⟩, _ => exact ⟨a, b, c, rfl⟩
set_option maxRecDepth 100000 in
theorem open_spec {H : Type} {enc : TypeId × Value → H} {w W : World} {r : Reach} {b0 base : Nat} {sp : Nat → Bool} {held : Bool} {v : Value} {d : DataW H} {p : List MemPlace}
    (hv : Value.okWide Tryz.prog W r b0 24 v) (h : DataW.Trod enc Tryz.prog w base sp held 24 v d p) : ∃ (s : Sp) (A C : Value), v = spv s.i A C ∧ SetsAt w w.heap.size A s.on ∧ SetsAt w w.heap.size C s.may := by
  have hv' : ∃ cs, v = .agg cs ∧ cs.size = Tryz.prog.cellsOf 24 := by
    unfold Value.okWide at hv
    rw [Tryz.underlying24] at hv
    obtain ⟨cs, h1, h2, _⟩ := hv
    exact ⟨cs, h1, h2⟩
  obtain ⟨cs, rfl, hsz⟩ := hv'
  obtain ⟨c0, c1, c2, rfl⟩ := array3 (hsz.trans (show Tryz.prog.cellsOf 24 = 3 by kernel_rfl))
  obtain ⟨fuel, hf⟩ := h
  obtain ⟨y0, y1, y2, n, _, _, h0, h1, h2⟩ := Go.Deep.trod_struct3 Tryz.underlying24 hf
  simp only [Value.cells, List.drop_zero, Tryz.cellsInt, show Tryz.prog.cellsOf 22 = 1 by kernel_rfl] at h0 h1 h2
  obtain ⟨k, rfl⟩ := num_of h0
  obtain ⟨on, hon⟩ := sets_of h1
  obtain ⟨may, hmay⟩ := sets_of h2
  exact ⟨⟨k, on, may⟩, c1, c2, rfl, hon, hmay⟩
end Go.Proofs.YtmgggennbnbjkaaGreat
namespace Go.Proofs.YtmgggennbnbjkaaGreat
open Go.ChangeShapes Go.WideShapes Go.ChangeAt Go.RowKit Go.Joins

set_option maxRecDepth 100000 in
theorem open_row {H : Type} {enc : TypeId × Value → H} {w W : World} {r : Reach} {b0 base : Nat} {sp : Nat → Bool} {held : Bool} {v : Value} {d : DataW H} {p : List MemPlace}
    (hv : Value.okWide Tryz.prog W r b0 28 v) (h : DataW.Trod enc Tryz.prog w base sp held 28 v d p) : ∃ x : Rw, v = rwv x := by
  have hv' : ∃ cs, v = .agg cs ∧ cs.size = Tryz.prog.cellsOf 28 := by
    unfold Value.okWide at hv
    rw [Tryz.underlying28] at hv
    obtain ⟨cs, h1, h2, _⟩ := hv
    exact ⟨cs, h1, h2⟩
  obtain ⟨cs, rfl, hsz⟩ := hv'
  obtain ⟨c0, c1, c2, rfl⟩ := array3 (hsz.trans (show Tryz.prog.cellsOf 28 = 3 by kernel_rfl))
  obtain ⟨fuel, hf⟩ := h
  obtain ⟨y0, y1, n, _, _, h0, h1⟩ := trod_struct2 Tryz.underlying28 hf
  simp only [Value.cells, List.drop_zero, Tryz.cellsCube, Tryz.cellsByte] at h0 h1
  obtain ⟨mm, vv, rfl, rfl⟩ := cube_of h0
  obtain ⟨oo, rfl⟩ := byte_of h1
  exact ⟨⟨mm, vv, oo⟩, rfl⟩
end Go.Proofs.YtmgggennbnbjkaaGreat
