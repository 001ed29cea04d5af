/- The kinds' words lie where the one laid variable says. A set that comes in reads as 256 bits. A cube that comes in reads as two numbers of 8 bits. A table that comes in: its numbers, and its lines. Rows and specs that come in. -/
import Derived.Test.YtckmjampgeojbaaGreatDoorJ09
import Derived.Test.YtckmjampgeojbaaGreatDoorRows
import Derived.Test.YtckmjampgeojbaaGreatDoorJ01
import Derived.Test.YtckmjampgeojbaaGreatDoorJ03
import Derived.Test.YtckmjampgeojbaaGreatDoorJ06
import Derived.ProofKit
import Derived.LaidMore
import Derived.OpenShut
import Derived.Lib.SmallJoins
import Derived.Deep.Slices
import Derived.ChangeSlices
import Derived.Deep.Strs
namespace Go.Proofs.YtckmjampgeojbaaGreatDoor
open Go.ChangeShapes Go.WideShapes Go.ChangeAt Go.RowKit Go.Joins

def laid1 : List (String × DataW Unit) := [("drawknife/pla.kindWords", Rows.laid_drawknife_pla_kindWords)]
theorem str_lit1 {s : ByteArray} {l : List UInt8} (h : s.data.toList = l) : s = str l := by
  apply ByteArray.ext
  apply Array.ext'
  rw [h]
  simp [str]
set_option maxRecDepth 100000 in
theorem kw_of_laid1 {W : World} (h : laidMetH Tryz.prog laid1 W) : KW W := by
  rw [MakeChecks.laidMetH_plain _ _ _ (by kernel_rfl)] at h
  obtain ⟨ps, ⟨g3, t3, cs3, f3, p3, q3, hg3, ht3, hv3, hd3, _, _⟩, _, _⟩ := h
  obtain rfl := Option.some.inj ((show Tryz.prog.globalNamed "drawknife/pla.kindWords" = some 0 by kernel_rfl).symm.trans hg3)
  obtain rfl := Option.some.inj ((show (Tryz.prog.globals[0]?).map (·.type) = some 106 by kernel_rfl).symm.trans ht3)
  obtain ⟨xs, m, _, ex, _, hl, hel⟩ := DataW.trod_array Tryz.underlying106 hd3
  have c1 : Tryz.prog.cellsOf 9 = 1 := by kernel_rfl
  have e3 : xs.map (·.1) = [.lit (.string [102]), .lit (.string [102, 100]), .lit (.string [102, 114]), .lit (.string [102, 100, 114])] := (DataW.agg.inj (Prod.mk.inj ex).1).symm
  have cell : ∀ (r : Nat) (l : List UInt8), r < 4 → (xs.map (·.1))[r]? = some (.lit (.string l)) → W.cell? ⟨0, r, none⟩ = some (.string (str l)) := by
    intro r l hr hx
    have hE := hel r hr
    rw [c1, Nat.mul_one, List.getElem?_eq_getElem (by omega)] at hE
    obtain ⟨s, e1, e2, _⟩ := DataW.trod_string Tryz.underlying9 hE
    rw [List.getElem?_map, List.getElem?_eq_getElem (by omega : r < xs.length), e2] at hx
    have hs : s.data.toList = l := by simpa using hx
    rw [World.var?_cell hg3 hv3 r, ← str_lit1 hs]
    have : cs3.toList[r]? = some (.string s) := by
      have h0 : ((cs3.toList.drop r).take 1)[0]? = some (.string s) := by rw [e1]; rfl
      simpa using h0
    simpa using this
  have k0 := cell 0 [102] (by decide) (by rw [e3]; rfl)
  have k1 := cell 1 [102, 100] (by decide) (by rw [e3]; rfl)
  have k2 := cell 2 [102, 114] (by decide) (by rw [e3]; rfl)
  have k3 := cell 3 [102, 100, 114] (by decide) (by rw [e3]; rfl)
  have hb : 0 < W.heap.size := World.block_lt_of_cell? W _ k0
  exact ⟨Nat.lt_of_le_of_lt (Nat.zero_le _) hb, hb, k0, k1, k2, k3⟩
end Go.Proofs.YtckmjampgeojbaaGreatDoor
namespace Go.Proofs.YtckmjampgeojbaaGreatDoor
open Go.ChangeShapes Go.WideShapes Go.ChangeAt Go.RowKit Go.Joins

theorem Tryz.own : ownKnob Tryz.prog.godebug = none := by kernel_rfl
theorem Tryz.laidOut : laidOutB Tryz.prog = true := by kernel_rfl
theorem Tryz.cellsSet : Tryz.prog.cellsOf 45 = 4 := by kernel_rfl
theorem Tryz.cellsWord : Tryz.prog.cellsOf 43 = 1 := by kernel_rfl

set_option maxRecDepth 100000 in
theorem word_of {H : Type} {enc : TypeId × Value → H} {w : World} {base m : Nat} {sp : Nat → Bool} {held : Bool} {c : Value} {y : DataW H × List MemPlace}
    (h : DataW.trod enc Tryz.prog w base sp held m 43 [c] = some y) : ∃ x : BitVec 64, c = wv x := by
  obtain ⟨a, e0, _, wa⟩ := DataW.trod_int Tryz.underlying43 h
  simp at e0
  subst e0
  have hb : 0 ≤ a ∧ a ≤ 18446744073709551615 := by
    simp [Lit.wf, IntKind.min, IntKind.max, IntKind.signed, IntKind.bits] at wa
    omega
  obtain ⟨n, rfl⟩ := Int.eq_ofNat_of_zero_le hb.1
  refine ⟨BitVec.ofNat 64 n, ?_⟩
  unfold wv
  rw [BitVec.toNat_ofNat, Nat.mod_eq_of_lt (by omega)]

set_option maxRecDepth 100000 in
theorem open_set {H : Type} {enc : TypeId × Value → H} {w W : World} {r : Reach} {b0 base : Nat} {sp : Nat → Bool} {held : Bool} {v : Value} {d : DataW H} {p : List MemPlace}
    (hv : Value.okWide Tryz.prog W r b0 45 v) (h : DataW.Trod enc Tryz.prog w base sp held 45 v d p) : ∃ S : BitVec 256, v = sv S := by
  have hv' : ∃ cs, v = .agg cs ∧ cs.size = Tryz.prog.cellsOf 45 := by
    unfold Value.okWide at hv
    rw [Tryz.underlying45] at hv
    obtain ⟨cs, h1, h2, _⟩ := hv
    exact ⟨cs, h1, h2⟩
  obtain ⟨cs, rfl, hsz⟩ := hv'
  obtain ⟨c0, c1, c2, c3, rfl⟩ := array4 (hsz.trans Tryz.cellsSet)
  obtain ⟨fuel, hf⟩ := h
  obtain ⟨xs, m, _, _, _, hx, he⟩ := DataW.trod_array Tryz.underlying45 hf
  rw [Tryz.cellsWord] at he
  obtain ⟨y0, y1, y2, y3, rfl⟩ : ∃ y0 y1 y2 y3, xs = [y0, y1, y2, y3] := by
    match xs, hx with
    | [y0, y1, y2, y3], _ => exact ⟨y0, y1, y2, y3, rfl⟩
  have h0 := he 0 (by omega)
  have h1 := he 1 (by omega)
  have h2 := he 2 (by omega)
  have h3 := he 3 (by omega)
  obtain ⟨x0, rfl⟩ := word_of h0
  obtain ⟨x1, rfl⟩ := word_of h1
  obtain ⟨x2, rfl⟩ := word_of h2
  obtain ⟨x3, rfl⟩ := word_of h3
  obtain ⟨S, e0, e1, e2, e3⟩ := of_words x0 x1 x2 x3
  exact ⟨S, by unfold sv; rw [e0, e1, e2, e3]⟩
end Go.Proofs.YtckmjampgeojbaaGreatDoor
namespace Go.Proofs.YtckmjampgeojbaaGreatDoor
open Go.ChangeShapes Go.WideShapes Go.ChangeAt Go.RowKit Go.Joins

theorem Tryz.cellsCube : Tryz.prog.cellsOf 40 = 2 := by kernel_rfl
theorem Tryz.cellsByte : Tryz.prog.cellsOf 5 = 1 := by kernel_rfl
theorem byte_of {H : Type} {enc : TypeId × Value → H} {w : World} {base m : Nat} {sp : Nat → Bool} {held : Bool} {c : Value} {y : DataW H × List MemPlace}
    (h : DataW.trod enc Tryz.prog w base sp held m 5 [c] = some y) : ∃ x : BitVec 8, c = bvv x := by
  obtain ⟨a, e0, _, wa⟩ := DataW.trod_int Tryz.underlying5 h
  simp at e0
  subst e0
  have hb : 0 ≤ a ∧ a ≤ 255 := by
    simp [Lit.wf, IntKind.min, IntKind.max, IntKind.signed, IntKind.bits] at wa
    omega
  obtain ⟨n, rfl⟩ := Int.eq_ofNat_of_zero_le hb.1
  refine ⟨BitVec.ofNat 8 n, ?_⟩
  unfold bvv
  rw [BitVec.toNat_ofNat, Nat.mod_eq_of_lt (by omega)]
set_option maxRecDepth 100000 in
theorem open_cube {H : Type} {enc : TypeId × Value → H} {w W : World} {r : Reach} {b0 base : Nat} {sp : Nat → Bool} {held : Bool} {v : Value} {d : DataW H} {p : List MemPlace}
    (hv : Value.okWide Tryz.prog W r b0 40 v) (h : DataW.Trod enc Tryz.prog w base sp held 40 v d p) : ∃ m x : BitVec 8, v = cv m x := by
  have hv' : ∃ cs, v = .agg cs ∧ cs.size = Tryz.prog.cellsOf 40 := by
    unfold Value.okWide at hv
    rw [Tryz.underlying40] at hv
    obtain ⟨cs, h1, h2, _⟩ := hv
    exact ⟨cs, h1, h2⟩
  obtain ⟨cs, rfl, hsz⟩ := hv'
  obtain ⟨c0, c1, rfl⟩ : ∃ c0 c1, cs = #[c0, c1] := by
    have h2 := hsz.trans Tryz.cellsCube
    obtain ⟨l⟩ := cs
    match l, h2 with
    | [c0, c1], _ => exact ⟨c0, c1, rfl⟩
  obtain ⟨fuel, hf⟩ := h
  obtain ⟨y0, y1, n, _, _, h0, h1⟩ := trod_struct2 Tryz.underlying40 hf
  simp only [Value.cells, List.drop_zero, Tryz.cellsByte] at h0 h1
  obtain ⟨x0, e0⟩ := byte_of h0
  obtain ⟨x1, e1⟩ := byte_of h1
  exact ⟨x0, x1, by unfold cv; rw [e0, e1]⟩
end Go.Proofs.YtckmjampgeojbaaGreatDoor
namespace Go.Proofs.YtckmjampgeojbaaGreatDoor
open Go.ChangeShapes Go.WideShapes Go.ChangeAt Go.RowKit Go.Joins

theorem Tryz.cellsTable : Tryz.prog.cellsOf 33 = 4 := by kernel_rfl
theorem Tryz.cellsLine : Tryz.prog.cellsOf 93 = 3 := by kernel_rfl
theorem Tryz.cellsInt : Tryz.prog.cellsOf 3 = 1 := by kernel_rfl
theorem Tryz.cellsInts : Tryz.prog.cellsOf 84 = 1 := by kernel_rfl
theorem Tryz.cellsLines : Tryz.prog.cellsOf 31 = 1 := by kernel_rfl
set_option maxRecDepth 100000 in
theorem num_of {H : Type} {enc : TypeId × Value → H} {w : World} {base m : Nat} {sp : Nat → Bool} {held : Bool} {c : Value} {y : DataW H × List MemPlace}
    (h : DataW.trod enc Tryz.prog w base sp held m 3 [c] = some y) : ∃ x : Int, c = .int .i64 x := by
  obtain ⟨a, e0, _, wa⟩ := DataW.trod_int Tryz.underlying3 h
  simp at e0
  exact ⟨a, e0⟩
theorem plain_addr {w : World} {a : Addr} {v : Value} (h : w.cell? (a.add 0) = some v) : a = ⟨a.block, a.off, none⟩ ∧ a.block < w.heap.size := by
  have h0 : w.cell? a = some v := by simpa [Addr.add] using h
  have hs := World.cell?_spot h0
  refine ⟨?_, World.block_lt_of_cell? w a h0⟩
  cases a with
  | mk b o s => simp at hs; subst hs; rfl
theorem add_plain (b off i : Nat) : (⟨b, off, none⟩ : Addr).add i = ⟨b, off + i, none⟩ := by
  unfold Addr.add
  split
  · rename_i h; subst h; rfl
  · rfl
set_option maxRecDepth 100000 in
theorem ints_of {H : Type} {enc : TypeId × Value → H} {w : World} {base m : Nat} {sp : Nat → Bool} {held : Bool} {c : Value} {y : DataW H × List MemPlace}
    (h : DataW.trod enc Tryz.prog w base sp held m 84 [c] = some y) : ∃ o, IntsAt w w.heap.size c o := by
  rcases open_ints Tryz.underlying84 Tryz.underlying3 Tryz.cellsInt h with ⟨e, _⟩ | ⟨a, len, cap, zs, e, hb, hl, hm, hz, hx, hc, hw⟩
  · simp at e
    subst e
    exact ⟨[], none, 0, rfl, by decide, fun h => absurd h (by simp)⟩
  · simp at e
    subst e
    have hle : len ≤ zs.length := by rw [hz]; split <;> omega
    have hlen : (zs.take len).length = len := by rw [List.length_take]; omega
    have hmx : maxLen = 9223372036854775807 := rfl
    refine ⟨zs.take len, some a, cap, by rw [hlen], by omega, fun h0 => ?_⟩
    obtain ⟨ea, hblk⟩ := plain_addr (hc 0 (by omega))
    refine ⟨a.block, a.off, congrArg some ea, hblk, fun j x hx => ?_⟩
    rw [List.getElem?_take] at hx
    split at hx
    · have := hc j (by omega)
      rw [ea, add_plain] at this
      rw [this, List.getD_eq_getElem?_getD, hx]
      rfl
    · cases hx
set_option maxRecDepth 100000 in
theorem cube_of {H : Type} {enc : TypeId × Value → H} {w : World} {base n : Nat} {sp : Nat → Bool} {held : Bool} {c0 c1 : Value} {y : DataW H × List MemPlace}
    (h : DataW.trod enc Tryz.prog w base sp held n 40 [c0, c1] = some y) : ∃ m v : BitVec 8, c0 = bvv m ∧ c1 = bvv v := by
  obtain ⟨y0, y1, n, _, _, h0, h1⟩ := trod_struct2 Tryz.underlying40 h
  simp only [List.drop_zero, Tryz.cellsByte] at h0 h1
  obtain ⟨x0, e0⟩ := byte_of h0
  obtain ⟨x1, e1⟩ := byte_of h1
  exact ⟨x0, x1, e0, e1⟩
instance : Inhabited Ln := ⟨⟨0, 0, []⟩⟩
set_option maxRecDepth 100000 in
theorem lines_of {H : Type} {enc : TypeId × Value → H} {w : World} {base m : Nat} {sp : Nat → Bool} {held : Bool} {c : Value} {y : DataW H × List MemPlace}
    (h : DataW.trod enc Tryz.prog w base sp held m 31 [c] = some y) : ∃ ls, LinesAt w w.heap.size c ls := by
  rcases Go.Deep.open_slice Tryz.underlying31 h with ⟨e, _⟩ | ⟨a, len, cap, m, n, D, Pl, e, hb, hl, hm, hmm, hx, hel⟩
  · simp at e
    subst e
    exact ⟨[], none, 0, rfl, by decide, fun h => absurd h (by simp)⟩
  · simp at e
    subst e
    have hle : len ≤ m := by rw [hmm]; split <;> omega
    have hmx : maxLen = 9223372036854775807 := rfl
    have each : ∀ i, i < len → ∃ l : Ln, ∃ ov, w.cell? (a.add (i * 3)) = some (bvv l.m) ∧ w.cell? ((a.add (i * 3)).add 1) = some (bvv l.v) ∧ w.cell? ((a.add (i * 3)).add 2) = some ov ∧ IntsAt w w.heap.size ov l.o := by
      intro i hi
      obtain ⟨cs, hcs, ht⟩ := hel i (by omega)
      rw [Tryz.cellsLine] at hcs
      obtain ⟨_, hn, hat⟩ := World.cells?_some hcs
      match cs, hn with
      | [c0, c1, c2], _ =>
        have a0 := hat 0 (by decide)
        have a1 := hat 1 (by decide)
        have a2 := hat 2 (by decide)
        obtain ⟨y0, y1, n, _, _, h0, h1⟩ := trod_struct2 Tryz.underlying93 ht
        simp only [List.drop_zero, Tryz.cellsCube, Tryz.cellsInts] at h0 h1
        obtain ⟨mm, vv, rfl, rfl⟩ := cube_of h0
        obtain ⟨o, ho⟩ := ints_of h1
        exact ⟨⟨mm, vv, o⟩, c2, by simpa [Addr.add] using a0, by simpa using a1, by simpa using a2, ho⟩
    obtain ⟨F, hF⟩ := Go.Deep.choose_lt each
    refine ⟨(List.range len).map F, some a, cap, by simp, by simp; omega, fun h0 => ?_⟩
    have hl0 : 0 < len := by simpa using h0
    obtain ⟨ov0, z0, -⟩ := hF 0 hl0
    obtain ⟨ea, hblk⟩ := plain_addr (by simpa using z0)
    refine ⟨a.block, a.off, congrArg some ea, hblk, fun j l hj => ?_⟩
    rw [List.getElem?_map] at hj
    obtain ⟨j', hj', rfl⟩ := Option.map_eq_some_iff.1 hj
    obtain ⟨hlt, e⟩ := List.getElem?_eq_some_iff.1 hj'
    have e' : j' = j := by simpa using e.symm
    subst e'
    obtain ⟨ov, q0, q1, q2, hi⟩ := hF j' (by simpa using hlt)
    rw [ea] at q0 q1 q2
    simp only [add_plain] at q0 q1 q2
    exact ⟨ov, q0, q1, q2, hi⟩
set_option maxRecDepth 100000 in
theorem open_table {H : Type} {enc : TypeId × Value → H} {w W : World} {r : Reach} {b0 base : Nat} {sp : Nat → Bool} {held : Bool} {v : Value} {d : DataW H} {p : List MemPlace}
    (hv : Value.okWide Tryz.prog W r b0 33 v) (h : DataW.Trod enc Tryz.prog w base sp held 33 v d p) : ∃ (k i n : Int) (L : Value) (ls : List Ln), v = tv k i n L ∧ LinesAt w w.heap.size L ls := by
  have hv' : ∃ cs, v = .agg cs ∧ cs.size = Tryz.prog.cellsOf 33 := by
    unfold Value.okWide at hv
    rw [Tryz.underlying33] at hv
    obtain ⟨cs, h1, h2, _⟩ := hv
    exact ⟨cs, h1, h2⟩
  obtain ⟨cs, rfl, hsz⟩ := hv'
  obtain ⟨c0, c1, c2, c3, rfl⟩ := array4 (hsz.trans Tryz.cellsTable)
  obtain ⟨fuel, hf⟩ := h
  obtain ⟨y0, y1, y2, y3, n, _, _, h0, h1, h2, h3⟩ := trod_struct4 Tryz.underlying33 hf
  simp only [Value.cells, List.drop_zero, Tryz.cellsInt, Tryz.cellsLines] at h0 h1 h2 h3
  obtain ⟨k, rfl⟩ := num_of h0
  obtain ⟨i, rfl⟩ := num_of h1
  obtain ⟨n, rfl⟩ := num_of h2
  obtain ⟨ls, hL⟩ := lines_of h3
  exact ⟨k, i, n, c3, ls, rfl, hL⟩
end Go.Proofs.YtckmjampgeojbaaGreatDoor
namespace Go.Proofs.YtckmjampgeojbaaGreatDoor
open Go.ChangeShapes Go.WideShapes Go.ChangeAt Go.RowKit Go.Joins

theorem Tryz.cellsRow : Tryz.prog.cellsOf 42 = 3 := by kernel_rfl
theorem Tryz.cellsSet4 : Tryz.prog.cellsOf 45 = 4 := by kernel_rfl
instance : Inhabited Rw := ⟨⟨0, 0, 0⟩⟩
set_option maxRecDepth 100000 in
theorem rows_of {H : Type} {enc : TypeId × Value → H} {w : World} {base m : Nat} {sp : Nat → Bool} {held : Bool} {c : Value} {y : DataW H × List MemPlace}
    (h : DataW.trod enc Tryz.prog w base sp held m 25 [c] = some y) : ∃ rs, RwsAt w w.heap.size c rs := by
  rcases Go.Deep.open_slice Tryz.underlying25 h with ⟨e, _⟩ | ⟨a, len, cap, m, n, D, Pl, e, hb, hl, hm, hmm, hx, hel⟩
  · simp at e
    subst e
    exact ⟨[], none, 0, rfl, by decide, fun h => absurd h (by simp)⟩
  · simp at e
    subst e
    have hle : len ≤ m := by rw [hmm]; split <;> omega
    have hmx : maxLen = 9223372036854775807 := rfl
    have each : ∀ i, i < len → ∃ x : Rw, w.cell? (a.add (i * 3)) = some (bvv x.m) ∧ w.cell? ((a.add (i * 3)).add 1) = some (bvv x.v) ∧ w.cell? ((a.add (i * 3)).add 2) = some (bvv x.o) := by
      intro i hi
      obtain ⟨cs, hcs, ht⟩ := hel i (by omega)
      rw [Tryz.cellsRow] at hcs
      obtain ⟨_, hn, hat⟩ := World.cells?_some hcs
      match cs, hn with
      | [c0, c1, c2], _ =>
        have a0 := hat 0 (by decide)
        have a1 := hat 1 (by decide)
        have a2 := hat 2 (by decide)
        obtain ⟨y0, y1, n, _, _, h0, h1⟩ := trod_struct2 Tryz.underlying42 ht
        simp only [List.drop_zero, Tryz.cellsCube, Tryz.cellsByte] at h0 h1
        obtain ⟨mm, vv, rfl, rfl⟩ := cube_of h0
        obtain ⟨oo, rfl⟩ := byte_of h1
        exact ⟨⟨mm, vv, oo⟩, by simpa [Addr.add] using a0, by simpa using a1, by simpa using a2⟩
    obtain ⟨F, hF⟩ := Go.Deep.choose_lt each
    refine ⟨(List.range len).map F, some a, cap, by simp, by simp; omega, fun h0 => ?_⟩
    have hl0 : 0 < len := by simpa using h0
    obtain ⟨z0, -⟩ := hF 0 hl0
    obtain ⟨ea, hblk⟩ := plain_addr (by simpa using z0)
    refine ⟨a.block, a.off, congrArg some ea, hblk, fun j l hj => ?_⟩
    rw [List.getElem?_map] at hj
    obtain ⟨j', hj', rfl⟩ := Option.map_eq_some_iff.1 hj
    obtain ⟨hlt, e⟩ := List.getElem?_eq_some_iff.1 hj'
    have e' : j' = j := by simpa using e.symm
    subst e'
    obtain ⟨q0, q1, q2⟩ := hF j' (by simpa using hlt)
    rw [ea] at q0 q1 q2
    simp only [add_plain] at q0 q1 q2
    exact ⟨q0, q1, q2⟩
set_option maxRecDepth 100000 in
theorem open_rows {H : Type} {enc : TypeId × Value → H} {w : World} {base : Nat} {sp : Nat → Bool} {held : Bool} {v : Value} {d : DataW H} {p : List MemPlace}
    (hc : v.cells = #[v]) (h : DataW.Trod enc Tryz.prog w base sp held 25 v d p) : ∃ rs, RwsAt w w.heap.size v rs := by
  obtain ⟨fuel, hf⟩ := h
  rw [hc] at hf
  exact rows_of hf
set_option maxRecDepth 100000 in
theorem set_of {H : Type} {enc : TypeId × Value → H} {w : World} {base n : Nat} {sp : Nat → Bool} {held : Bool} {c0 c1 c2 c3 : Value} {y : DataW H × List MemPlace}
    (h : DataW.trod enc Tryz.prog w base sp held n 45 [c0, c1, c2, c3] = some y) : ∃ S : BitVec 256, c0 = wv (wd S 0) ∧ c1 = wv (wd S 1) ∧ c2 = wv (wd S 2) ∧ c3 = wv (wd S 3) := by
  obtain ⟨xs, m, _, _, _, hx, he⟩ := DataW.trod_array Tryz.underlying45 h
  rw [Tryz.cellsWord] at he
  obtain ⟨y0, y1, y2, y3, rfl⟩ : ∃ y0 y1 y2 y3, xs = [y0, y1, y2, y3] := by
    match xs, hx with
    | [a, b, c, d], _ => exact ⟨a, b, c, d, rfl⟩
  obtain ⟨x0, e0⟩ := word_of (he 0 (by decide))
  obtain ⟨x1, e1⟩ := word_of (he 1 (by decide))
  obtain ⟨x2, e2⟩ := word_of (he 2 (by decide))
  obtain ⟨x3, e3⟩ := word_of (he 3 (by decide))
  obtain ⟨S, f0, f1, f2, f3⟩ := of_words x0 x1 x2 x3
  exact ⟨S, by rw [f0]; exact e0, by rw [f1]; exact e1, by rw [f2]; exact e2, by rw [f3]; exact e3⟩
set_option maxRecDepth 100000 in
theorem sets_of {H : Type} {enc : TypeId × Value → H} {w : World} {base m : Nat} {sp : Nat → Bool} {held : Bool} {c : Value} {y : DataW H × List MemPlace}
    (h : DataW.trod enc Tryz.prog w base sp held m 22 [c] = some y) : ∃ Ss, SetsAt w w.heap.size c Ss := by
  rcases Go.Deep.open_slice Tryz.underlying22 h with ⟨e, _⟩ | ⟨a, len, cap, m, n, D, Pl, e, hb, hl, hm, hmm, hx, hel⟩
  · simp at e
    subst e
    exact ⟨[], none, 0, rfl, by decide, fun h => absurd h (by simp)⟩
  · simp at e
    subst e
    have hle : len ≤ m := by rw [hmm]; split <;> omega
    have hmx : maxLen = 9223372036854775807 := rfl
    have each : ∀ i, i < len → ∃ S : BitVec 256, w.cell? (a.add (i * 4)) = some (wv (wd S 0)) ∧ w.cell? ((a.add (i * 4)).add 1) = some (wv (wd S 1)) ∧ w.cell? ((a.add (i * 4)).add 2) = some (wv (wd S 2)) ∧ w.cell? ((a.add (i * 4)).add 3) = some (wv (wd S 3)) := by
      intro i hi
      obtain ⟨cs, hcs, ht⟩ := hel i (by omega)
      rw [Tryz.cellsSet4] at hcs
      obtain ⟨_, hn, hat⟩ := World.cells?_some hcs
      match cs, hn with
      | [c0, c1, c2, c3], _ =>
        have a0 := hat 0 (by decide)
        have a1 := hat 1 (by decide)
        have a2 := hat 2 (by decide)
        have a3 := hat 3 (by decide)
        obtain ⟨S, rfl, rfl, rfl, rfl⟩ := set_of ht
        exact ⟨S, by simpa [Addr.add] using a0, by simpa using a1, by simpa using a2, by simpa using a3⟩
    obtain ⟨F, hF⟩ := Go.Deep.choose_lt each
    refine ⟨(List.range len).map F, some a, cap, by simp, by simp; omega, fun h0 => ?_⟩
    have hl0 : 0 < len := by simpa using h0
    obtain ⟨z0, -⟩ := hF 0 hl0
    obtain ⟨ea, hblk⟩ := plain_addr (by simpa using z0)
    refine ⟨a.block, a.off, congrArg some ea, hblk, fun j l hj => ?_⟩
    rw [List.getElem?_map] at hj
    obtain ⟨j', hj', rfl⟩ := Option.map_eq_some_iff.1 hj
    obtain ⟨hlt, e⟩ := List.getElem?_eq_some_iff.1 hj'
    have e' : j' = j := by simpa using e.symm
    subst e'
    obtain ⟨q0, q1, q2, q3⟩ := hF j' (by simpa using hlt)
    rw [ea] at q0 q1 q2 q3
    simp only [add_plain] at q0 q1 q2 q3
    exact ⟨q0, q1, q2, q3⟩
theorem array3 {cs : Array Value} (h : cs.size = 3) : ∃ a b c, cs = #[a, b, c] := by
  match cs, h with
  | ⟨[a, b, c]⟩, _ => exact ⟨a, b, c, rfl⟩
set_option maxRecDepth 100000 in
theorem open_spec {H : Type} {enc : TypeId × Value → H} {w W : World} {r : Reach} {b0 base : Nat} {sp : Nat → Bool} {held : Bool} {v : Value} {d : DataW H} {p : List MemPlace}
    (hv : Value.okWide Tryz.prog W r b0 24 v) (h : DataW.Trod enc Tryz.prog w base sp held 24 v d p) : ∃ (s : Sp) (A C : Value), v = spv s.i A C ∧ SetsAt w w.heap.size A s.on ∧ SetsAt w w.heap.size C s.may := by
  have hv' : ∃ cs, v = .agg cs ∧ cs.size = Tryz.prog.cellsOf 24 := by
    unfold Value.okWide at hv
    rw [Tryz.underlying24] at hv
    obtain ⟨cs, h1, h2, _⟩ := hv
    exact ⟨cs, h1, h2⟩
  obtain ⟨cs, rfl, hsz⟩ := hv'
  obtain ⟨c0, c1, c2, rfl⟩ := array3 (hsz.trans (show Tryz.prog.cellsOf 24 = 3 by kernel_rfl))
  obtain ⟨fuel, hf⟩ := h
  obtain ⟨y0, y1, y2, n, _, _, h0, h1, h2⟩ := Go.Deep.trod_struct3 Tryz.underlying24 hf
  simp only [Value.cells, List.drop_zero, Tryz.cellsInt, show Tryz.prog.cellsOf 22 = 1 by kernel_rfl] at h0 h1 h2
  obtain ⟨k, rfl⟩ := num_of h0
  obtain ⟨on, hon⟩ := sets_of h1
  obtain ⟨may, hmay⟩ := sets_of h2
  exact ⟨⟨k, on, may⟩, c1, c2, rfl, hon, hmay⟩
end Go.Proofs.YtckmjampgeojbaaGreatDoor
