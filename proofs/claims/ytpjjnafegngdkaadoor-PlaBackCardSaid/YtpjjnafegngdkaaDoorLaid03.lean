/- The kinds' words lie where the laid variables say. -/
import Derived.Test.YtpjjnafegngdkaaDoorPrint03
import Derived.ProofKit
import Derived.LaidMore
import Derived.OpenShut
namespace Go.Proofs.YtpjjnafegngdkaaDoor
open Go.ChangeShapes Go.WideShapes Go.ChangeAt Go.RowKit Go.Joins

def laid4 : List (String × DataW Unit) := [("math/bits.deBruijn32tab", Rows.laid_math_bits_deBruijn32tab), ("math/bits.deBruijn64tab", Rows.laid_math_bits_deBruijn64tab), ("internal/strconv.uint64pow10", Rows.laid_internal_strconv_uint64pow10), ("drawknife/pla.kindWords", Rows.laid_drawknife_pla_kindWords)]
theorem str_lit {s : ByteArray} {l : List UInt8} (h : s.data.toList = l) : s = str l := by
  apply ByteArray.ext
  apply Array.ext'
  rw [h]
  simp [str]
set_option maxRecDepth 100000 in
theorem kw_of_laid {W : World} (h : laidMetH Tryd.prog laid4 W) : KW W := by
  rw [MakeChecks.laidMetH_plain _ _ _ (by kernel_rfl)] at h
  obtain ⟨ps, ⟨g0, t0, cs0, f0, p0, q0, hg0, ht0, hv0, hd0, ⟨g1, t1, cs1, f1, p1, q1, hg1, ht1, hv1, hd1, ⟨g2, t2, cs2, f2, p2, q2, hg2, ht2, hv2, hd2, ⟨g3, t3, cs3, f3, p3, q3, hg3, ht3, hv3, hd3, _, _⟩, _⟩, _⟩, _⟩, _, _⟩ := h
  obtain rfl := Option.some.inj ((show Tryd.prog.globalNamed "drawknife/pla.kindWords" = some 0 by kernel_rfl).symm.trans hg3)
  obtain rfl := Option.some.inj ((show (Tryd.prog.globals[0]?).map (·.type) = some 50 by kernel_rfl).symm.trans ht3)
  obtain ⟨xs, m, _, ex, _, hl, hel⟩ := DataW.trod_array Tryd.underlying50 hd3
  have c1 : Tryd.prog.cellsOf 9 = 1 := by kernel_rfl
  have e3 : xs.map (·.1) = [.lit (.string [102]), .lit (.string [102, 100]), .lit (.string [102, 114]), .lit (.string [102, 100, 114])] := (DataW.agg.inj (Prod.mk.inj ex).1).symm
  have cell : ∀ (r : Nat) (l : List UInt8), r < 4 → (xs.map (·.1))[r]? = some (.lit (.string l)) → W.cell? ⟨0, r, none⟩ = some (.string (str l)) := by
    intro r l hr hx
    have hE := hel r hr
    rw [c1, Nat.mul_one, List.getElem?_eq_getElem (by omega)] at hE
    obtain ⟨s, e1, e2, _⟩ := DataW.trod_string Tryd.underlying9 hE
    rw [List.getElem?_map, List.getElem?_eq_getElem (by omega : r < xs.length), e2] at hx
    have hs : s.data.toList = l := by simpa using hx
    rw [World.var?_cell hg3 hv3 r, ← str_lit hs]
    have : cs3.toList[r]? = some (.string s) := by
      have h0 : ((cs3.toList.drop r).take 1)[0]? = some (.string s) := by rw [e1]; rfl
      simpa using h0
    simpa using this
  have k0 := cell 0 [102] (by decide) (by rw [e3]; rfl)
  have k1 := cell 1 [102, 100] (by decide) (by rw [e3]; rfl)
  have k2 := cell 2 [102, 114] (by decide) (by rw [e3]; rfl)
  have k3 := cell 3 [102, 100, 114] (by decide) (by rw [e3]; rfl)
  have hb : 0 < W.heap.size := World.block_lt_of_cell? W _ k0
  exact ⟨Nat.lt_of_le_of_lt (Nat.zero_le _) hb, hb, k0, k1, k2, k3⟩
end Go.Proofs.YtpjjnafegngdkaaDoor
