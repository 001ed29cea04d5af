/- Rows and specs that come in. The table of powers lies where the three laid variables say. Primes of a set, plain: what is within, what is prime, the row of all primes; each cube within is held by a prime. -/
import Derived.Test.YtdfllifjbabfjaaGreatDoorGM32
import Derived.Test.YtdfllifjbabfjaaGreatDoorGM15
import Derived.Test.YtdfllifjbabfjaaGreatDoorGM19
import Derived.Test.YtdfllifjbabfjaaGreatDoorGM14
import Derived.Deep.Strs
import Derived.Lib.LaidTab
import Derived.ProofKit
import Derived.LaidMore
import Derived.OpenShut
namespace Go.Proofs.YtdfllifjbabfjaaGreatDoor
open Go.ChangeShapes Go.WideShapes Go.ChangeAt Go.RowKit Go.Joins

theorem Tryz.cellsRow : Tryz.prog.cellsOf 44 = 3 := by kernel_rfl
instance : Inhabited Rw := ⟨⟨0, 0, 0⟩⟩
set_option maxRecDepth 100000 in
theorem rows_of {H : Type} {enc : TypeId × Value → H} {w : World} {base m : Nat} {sp : Nat → Bool} {held : Bool} {c : Value} {y : DataW H × List MemPlace}
    (h : DataW.trod enc Tryz.prog w base sp held m 25 [c] = some y) : ∃ rs, RwsAt w w.heap.size c rs := by
  rcases Go.Deep.open_slice Tryz.underlying25 h with ⟨e, _⟩ | ⟨a, len, cap, m, n, D, Pl, e, hb, hl, hm, hmm, hx, hel⟩
  · simp at e
    subst e
    exact ⟨[], none, 0, rfl, by decide, fun h => absurd h (by simp)⟩
  · simp at e
    subst e
    have hle : len ≤ m := by rw [hmm]; split <;> omega
    have hmx : maxLen = 9223372036854775807 := rfl
    have each : ∀ i, i < len → ∃ x : Rw, w.cell? (a.add (i * 3)) = some (bvv x.m) ∧ w.cell? ((a.add (i * 3)).add 1) = some (bvv x.v) ∧ w.cell? ((a.add (i * 3)).add 2) = some (bvv x.o) := by
      intro i hi
      obtain ⟨cs, hcs, ht⟩ := hel i (by omega)
      rw [Tryz.cellsRow] at hcs
      obtain ⟨_, hn, hat⟩ := World.cells?_some hcs
      match cs, hn with
      | [c0, c1, c2], _ =>
        have a0 := hat 0 (by decide)
        have a1 := hat 1 (by decide)
        have a2 := hat 2 (by decide)
        obtain ⟨y0, y1, n, _, _, h0, h1⟩ := trod_struct2 Tryz.underlying44 ht
        simp only [List.drop_zero, Tryz.cellsCube, Tryz.cellsByte] at h0 h1
        obtain ⟨mm, vv, rfl, rfl⟩ := cube_of h0
        obtain ⟨oo, rfl⟩ := byte_of h1
        exact ⟨⟨mm, vv, oo⟩, by simpa [Addr.add] using a0, by simpa using a1, by simpa using a2⟩
    obtain ⟨F, hF⟩ := Go.Deep.choose_lt each
    refine ⟨(List.range len).map F, some a, cap, by simp, by simp; omega, fun h0 => ?_⟩
    have hl0 : 0 < len := by simpa using h0
    obtain ⟨z0, -⟩ := hF 0 hl0
    obtain ⟨ea, hblk⟩ := plain_addr (by simpa using z0)
    refine ⟨a.block, a.off, congrArg some ea, hblk, fun j l hj => ?_⟩
    rw [List.getElem?_map] at hj
    obtain ⟨j', hj', rfl⟩ := Option.map_eq_some_iff.1 hj
    obtain ⟨hlt, e⟩ := List.getElem?_eq_some_iff.1 hj'
    have e' : j' = j := by simpa using e.symm
    subst e'
    obtain ⟨q0, q1, q2⟩ := hF j' (by simpa using hlt)
    rw [ea] at q0 q1 q2
    simp only [add_plain] at q0 q1 q2
    exact ⟨q0, q1, q2⟩
set_option maxRecDepth 100000 in
theorem open_rows {H : Type} {enc : TypeId × Value → H} {w : World} {base : Nat} {sp : Nat → Bool} {held : Bool} {v : Value} {d : DataW H} {p : List MemPlace}
    (hc : v.cells = #[v]) (h : DataW.Trod enc Tryz.prog w base sp held 25 v d p) : ∃ rs, RwsAt w w.heap.size v rs := by
  obtain ⟨fuel, hf⟩ := h
  rw [hc] at hf
  exact rows_of hf
theorem array3 {cs : Array Value} (h : cs.size = 3) : ∃ a b c, cs = #[a, b, c] := by
  match cs, h with
  | ⟨[a, b, c]⟩, _ => exact ⟨a, b, c, rfl⟩
set_option maxRecDepth 100000 in
theorem open_spec {H : Type} {enc : TypeId × Value → H} {w W : World} {r : Reach} {b0 base : Nat} {sp : Nat → Bool} {held : Bool} {v : Value} {d : DataW H} {p : List MemPlace}
    (hv : Value.okWide Tryz.prog W r b0 24 v) (h : DataW.Trod enc Tryz.prog w base sp held 24 v d p) : ∃ (s : Sp) (A C : Value), v = spv s.i A C ∧ SetsAt w w.heap.size A s.on ∧ SetsAt w w.heap.size C s.may := by
  have hv' : ∃ cs, v = .agg cs ∧ cs.size = Tryz.prog.cellsOf 24 := by
    unfold Value.okWide at hv
    rw [Tryz.underlying24] at hv
    obtain ⟨cs, h1, h2, _⟩ := hv
    exact ⟨cs, h1, h2⟩
  obtain ⟨cs, rfl, hsz⟩ := hv'
  obtain ⟨c0, c1, c2, rfl⟩ := array3 (hsz.trans (show Tryz.prog.cellsOf 24 = 3 by kernel_rfl))
  obtain ⟨fuel, hf⟩ := h
  obtain ⟨y0, y1, y2, n, _, _, h0, h1, h2⟩ := Go.Deep.trod_struct3 Tryz.underlying24 hf
  simp only [Value.cells, List.drop_zero, Tryz.cellsInt, show Tryz.prog.cellsOf 22 = 1 by kernel_rfl] at h0 h1 h2
  obtain ⟨k, rfl⟩ := num_of h0
  obtain ⟨on, hon⟩ := sets_of h1
  obtain ⟨may, hmay⟩ := sets_of h2
  exact ⟨⟨k, on, may⟩, c1, c2, rfl, hon, hmay⟩
end Go.Proofs.YtdfllifjbabfjaaGreatDoor
namespace Go.Proofs.YtdfllifjbabfjaaGreatDoor
open Go.ChangeShapes Go.WideShapes Go.ChangeAt Go.RowKit Go.Joins

def laid3 : List (String × DataW Unit) := [("math/bits.deBruijn32tab", Rows.laid_math_bits_deBruijn32tab), ("math/bits.deBruijn64tab", Rows.laid_math_bits_deBruijn64tab), ("internal/strconv.uint64pow10", Rows.laid_internal_strconv_uint64pow10)]
set_option maxRecDepth 100000 in
theorem tab_of_laid {W : World} (h : laidMetH Tryz.prog laid3 W) : TabW W := by
  rw [MakeChecks.laidMetH_plain _ _ _ (by kernel_rfl)] at h
  obtain ⟨ps, ⟨g0, t0, cs0, f0, p0, q0, hg0, ht0, hv0, hd0, ⟨g1, t1, cs1, f1, p1, q1, hg1, ht1, hv1, hd1, ⟨g2, t2, cs2, f2, p2, q2, hg2, ht2, hv2, hd2, _, _⟩, _⟩, _⟩, _, _⟩ := h
  obtain rfl := Option.some.inj ((show Tryz.prog.globalNamed "internal/strconv.uint64pow10" = some 0 by kernel_rfl).symm.trans hg2)
  obtain rfl := Option.some.inj ((show (Tryz.prog.globals[0]?).map (·.type) = some 129 by kernel_rfl).symm.trans ht2)
  rw [show (Rows.laid_internal_strconv_uint64pow10 : DataW Unit) = Lib.tabData .u64 Lib.pow10Tab from rfl] at hd2
  unfold TabW Lib.TabIs
  rw [hv2, ← Lib.cells_of_tab Tryz.underlying129 Tryz.underlying48 (by kernel_rfl) (by kernel_rfl) hd2]
end Go.Proofs.YtdfllifjbabfjaaGreatDoor
namespace Go.Proofs.YtdfllifjbabfjaaGreatDoor
open Go.RowKit

/-- A byte without its bit i. -/
def drM (m : BitVec 8) (i : Nat) : BitVec 8 := m &&& ~~~(BitVec.twoPow 8 i)
theorem drM_bit (m : BitVec 8) (i j : Nat) : (drM m i).getLsbD j = (m.getLsbD j && !decide (j = i)) := by
  unfold drM
  rw [BitVec.getLsbD_and, BitVec.getLsbD_not, BitVec.getLsbD_twoPow]
  by_cases h : j < 8
  · by_cases e : j = i
    · subst e; simp [h]
    · have e' : ¬ i = j := fun h => e h.symm
      simp [h, e, e']
  · rw [BitVec.getLsbD_of_ge m j (by omega)]; simp
theorem drM_same {m : BitVec 8} {i : Nat} (h : m.getLsbD i = false) : drM m i = m := by
  apply BitVec.eq_of_getLsbD_eq
  intro j _
  rw [drM_bit]
  by_cases e : j = i
  · subst e; rw [h]; rfl
  · simp [e]
theorem drM_and (m v : BitVec 8) (i : Nat) : drM v i &&& drM m i = drM (v &&& m) i := by
  apply BitVec.eq_of_getLsbD_eq
  intro j _
  rw [BitVec.getLsbD_and, drM_bit, drM_bit, drM_bit, BitVec.getLsbD_and]
  cases v.getLsbD j <;> cases m.getLsbD j <;> simp
theorem drM_lt {m : BitVec 8} {i : Nat} (h : m.getLsbD i = true) : (drM m i).toNat < m.toNat := by
  have hle : (drM m i).toNat ≤ m.toNat := by
    unfold drM; rw [BitVec.toNat_and]; exact Nat.and_le_left
  rcases Nat.lt_or_ge (drM m i).toNat m.toNat with k | k
  · exact k
  · have e : drM m i = m := BitVec.eq_of_toNat_eq (by omega)
    have := drM_bit m i i
    rw [e, h] at this
    simp at this
/-- A row of literals without the one of input i. -/
def drG (m v : BitVec 8) (i : Nat) : Nat → Nat := fun j => if j = i then 2 else lit m v j
theorem drG_m (m v : BitVec 8) (i : Nat) : mB (drG m v i) 8 = drM m i := by
  apply BitVec.eq_of_getLsbD_eq
  intro j hj
  rw [mB_bit, drM_bit]
  unfold drG lit
  by_cases e : j = i
  · subst e; simp
  · cases m.getLsbD j <;> cases v.getLsbD j <;> simp [hj, e]
theorem drG_v (m v : BitVec 8) (i : Nat) : vB (drG m v i) 8 = drM (v &&& m) i := by
  apply BitVec.eq_of_getLsbD_eq
  intro j hj
  rw [vB_bit, drM_bit, BitVec.getLsbD_and]
  unfold drG lit
  by_cases e : j = i
  · subst e; simp
  · cases m.getLsbD j <;> cases v.getLsbD j <;> simp [hj, e]
theorem drG_le (m v : BitVec 8) (i j : Nat) : drG m v i j ≤ 2 := by
  unfold drG; split
  · omega
  · exact lit_le m v j

/-- Is a cube within a set of n inputs? -/
def inB (S : BitVec 256) (n : Int) (m v : BitVec 8) : Bool := rightB m v n && decide (cpts m v n.toNat n.toNat &&& ~~~S = 0)
theorem and_not_zero (A S : BitVec 256) : A &&& ~~~S = 0 ↔ ∀ p, A.getLsbD p = true → S.getLsbD p = true := by
  constructor
  · intro h p hp
    have h1 := congrArg (fun x => x.getLsbD p) h
    have hp2 : p < 256 := by
      rcases Nat.lt_or_ge p 256 with k | k
      · exact k
      · rw [BitVec.getLsbD_of_ge A p k] at hp; cases hp
    simp only [BitVec.getLsbD_and, BitVec.getLsbD_not, hp, hp2, decide_true, Bool.true_and] at h1
    simpa using h1
  · intro h
    apply BitVec.eq_of_getLsbD_eq
    intro p hp
    rw [BitVec.getLsbD_and, BitVec.getLsbD_not]
    cases hA : A.getLsbD p
    · simp
    · simp [h p hA]
theorem inB_iff (S : BitVec 256) (n : Nat) (m v : BitVec 8) : inB S n m v = true ↔ rightB m v n = true ∧ ∀ p, p < 2 ^ n → fits m v n p = true → S.getLsbD p = true := by
  unfold inB
  rw [Bool.and_eq_true, decide_eq_true_iff, Int.toNat_natCast]
  constructor
  · rintro ⟨h1, h2⟩
    have hn : n ≤ 8 := by have := (rightB_iff m v n).1 h1; omega
    refine ⟨h1, fun p hp hf => (and_not_zero _ _).1 h2 p ?_⟩
    rw [cpts_bit _ _ _ _ _ hn, hf, decide_eq_true hp]; rfl
  · rintro ⟨h1, h2⟩
    have hn : n ≤ 8 := by have := (rightB_iff m v n).1 h1; omega
    refine ⟨h1, (and_not_zero _ _).2 fun p hp => ?_⟩
    rw [cpts_bit _ _ _ _ _ hn, Bool.and_eq_true, decide_eq_true_iff] at hp
    exact h2 p hp.1 hp.2
theorem right_lows {m v : BitVec 8} {n : Nat} (h : rightB m v n = true) : n ≤ 8 ∧ m.toNat < 2 ^ n ∧ v.toNat < 2 ^ n ∧ (∀ i, n ≤ i → m.getLsbD i = false) ∧ v &&& m = v := by
  obtain ⟨-, h8, hm, hv⟩ := (rightB_iff m v n).1 h
  rw [Int.toNat_natCast] at hm
  refine ⟨by omega, Nat.lt_pow_two_of_testBit _ fun i hi => hm i hi, lt_of_right hm hv, hm, hv⟩
theorem right_dr {m v : BitVec 8} {n : Int} (i : Nat) (h : rightB m v n = true) : rightB (drM m i) (drM v i) n = true := by
  obtain ⟨h0, h8, hm, hv⟩ := (rightB_iff m v n).1 h
  refine (rightB_iff _ _ _).2 ⟨h0, h8, fun j hj => by rw [drM_bit, hm j hj]; rfl, ?_⟩
  rw [drM_and, hv]
/-- Is it prime? -/
def primB (S : BitVec 256) (n : Int) (m v : BitVec 8) : Bool := inB S n m v && (List.range n.toNat).all fun i => !(m.getLsbD i && inB S n (drM m i) (drM v i))
theorem primB_iff (S : BitVec 256) (n : Int) (m v : BitVec 8) : primB S n m v = true ↔ inB S n m v = true ∧ ∀ i, i < n.toNat → m.getLsbD i = true → inB S n (drM m i) (drM v i) = false := by
  unfold primB
  rw [Bool.and_eq_true, List.all_eq_true]
  constructor
  · rintro ⟨h1, h2⟩
    refine ⟨h1, fun i hi hm => ?_⟩
    have := h2 i (List.mem_range.2 hi)
    rw [hm] at this
    simpa using this
  · rintro ⟨h1, h2⟩
    refine ⟨h1, fun i hi => ?_⟩
    cases hm : m.getLsbD i
    · rfl
    · rw [h2 i (List.mem_range.1 hi) hm]; rfl
theorem holds_self (m v : BitVec 8) : holdsB m v m v = true := (holdsB_iff m v m v).2 fun _ h => ⟨h, rfl⟩
theorem holds_step {a b c d e f : BitVec 8} (h1 : holdsB a b c d = true) (h2 : holdsB c d e f = true) : holdsB a b e f = true := by
  rw [holdsB_iff] at *
  intro i hi
  obtain ⟨x, y⟩ := h1 i hi
  obtain ⟨z, t⟩ := h2 i x
  exact ⟨z, y.trans t⟩
theorem holds_dr (m v : BitVec 8) (i : Nat) : holdsB (drM m i) (drM v i) m v = true := by
  rw [holdsB_iff]
  intro j hj
  rw [drM_bit] at hj
  rw [drM_bit]
  cases hm : m.getLsbD j
  · rw [hm] at hj; cases hj
  · rw [hm, Bool.true_and] at hj
    rw [hj, Bool.and_true]
    exact ⟨rfl, rfl⟩
/-- Each cube within is held by a prime. -/
theorem prime_above (S : BitVec 256) (n : Int) : ∀ (k : Nat) (m v : BitVec 8), m.toNat < k → inB S n m v = true → ∃ m' v', primB S n m' v' = true ∧ holdsB m' v' m v = true
  | 0, _, _, h, _ => absurd h (Nat.not_lt_zero _)
  | k + 1, m, v, hk, h => by
    cases hp : primB S n m v
    · have : ¬ ∀ i, i < n.toNat → m.getLsbD i = true → inB S n (drM m i) (drM v i) = false := fun hh => by
        rw [(primB_iff S n m v).2 ⟨h, hh⟩] at hp; cases hp
      obtain ⟨i, hi⟩ := Classical.not_forall.1 this
      have hi1 : i < n.toNat := Classical.byContradiction fun q => hi fun q' => absurd q' q
      have hi2 : m.getLsbD i = true := by
        cases hb : m.getLsbD i
        · exact absurd (fun _ (q : m.getLsbD i = true) => by rw [hb] at q; cases q) hi
        · rfl
      have hi3 : inB S n (drM m i) (drM v i) = true := by
        cases hb : inB S n (drM m i) (drM v i)
        · exact absurd (fun _ _ => hb) hi
        · rfl
      obtain ⟨m', v', h1, h2⟩ := prime_above S n k (drM m i) (drM v i) (by have := drM_lt hi2; omega) hi3
      exact ⟨m', v', h1, holds_step h2 (holds_dr m v i)⟩
    · exact ⟨m, v, hp, holds_self m v⟩

/- THE ROW OF ALL PRIMES: by their keys, 256 times the mask and the value. -/
def kM (k : Nat) : BitVec 8 := BitVec.ofNat 8 (k / 256)
def kV (k : Nat) : BitVec 8 := BitVec.ofNat 8 k
def keyC (m v : BitVec 8) : Nat := 256 * m.toNat + v.toNat
theorem keyC_lt (m v : BitVec 8) : keyC m v < 65536 := by unfold keyC; have := m.isLt; have := v.isLt; omega
theorem kM_key (m v : BitVec 8) : kM (keyC m v) = m := by
  apply BitVec.eq_of_toNat_eq
  unfold kM keyC
  rw [BitVec.toNat_ofNat]
  have := m.isLt; have := v.isLt; omega
theorem kV_key (m v : BitVec 8) : kV (keyC m v) = v := by
  apply BitVec.eq_of_toNat_eq
  unfold kV keyC
  rw [BitVec.toNat_ofNat]
  have := m.isLt; have := v.isLt; omega
theorem key_kk {k : Nat} (h : k < 65536) : keyC (kM k) (kV k) = k := by
  unfold keyC kM kV
  rw [BitVec.toNat_ofNat, BitVec.toNat_ofNat]
  omega
theorem kM_at {m v : Nat} (hm : m < 256) (hv : v < 256) : (kM (256 * m + v)).toNat = m := by
  unfold kM; rw [BitVec.toNat_ofNat]; omega
theorem kV_at {m v : Nat} (hv : v < 256) : (kV (256 * m + v)).toNat = v := by
  unfold kV; rw [BitVec.toNat_ofNat]; omega
/-- A cube. -/
structure Cb where
  m : BitVec 8
  v : BitVec 8
def cbK (k : Nat) : Cb := ⟨kM k, kV k⟩
/-- The primes with keys below u. -/
def prmU (S : BitVec 256) (n : Int) (u : Nat) : List Nat := (List.range u).filter fun k => primB S n (kM k) (kV k)
theorem prmU_succ (S : BitVec 256) (n : Int) (u : Nat) : prmU S n (u + 1) = prmU S n u ++ (if primB S n (kM u) (kV u) = true then [u] else []) := by
  unfold prmU
  rw [List.range_succ, List.filter_append]
  congr 1
  cases h : primB S n (kM u) (kV u) <;> simp [h]
theorem prmU_mem (S : BitVec 256) (n : Int) (u k : Nat) : k ∈ prmU S n u ↔ k < u ∧ primB S n (kM k) (kV k) = true := by
  unfold prmU; rw [List.mem_filter, List.mem_range]
theorem prmU_srt (S : BitVec 256) (n : Int) (u : Nat) : (prmU S n u).Pairwise (· < ·) := List.Pairwise.filter _ (List.pairwise_lt_range)
theorem prmU_len (S : BitVec 256) (n : Int) (u : Nat) : (prmU S n u).length ≤ u := by
  have := List.length_filter_le (fun k => primB S n (kM k) (kV k)) (List.range u)
  rwa [List.length_range] at this
/-- Nothing is between: where no key from u to u' is prime. -/
theorem prmU_gap {S : BitVec 256} {n : Int} {u u' : Nat} (h : u ≤ u') (hn : ∀ k, u ≤ k → k < u' → primB S n (kM k) (kV k) = false) : prmU S n u' = prmU S n u := by
  obtain ⟨d, rfl⟩ := Nat.exists_eq_add_of_le h
  clear h
  induction d with
  | zero => rfl
  | succ d ih =>
    rw [show u + (d + 1) = u + d + 1 by omega, prmU_succ, ih (fun k h1 h2 => hn k h1 (by omega)), hn (u + d) (by omega) (by omega)]
    simp
theorem prim_right {S : BitVec 256} {n : Int} {m v : BitVec 8} (h : primB S n m v = true) : rightB m v n = true := by
  have := ((primB_iff S n m v).1 h).1
  unfold inB at this
  rw [Bool.and_eq_true] at this
  exact this.1
/-- One mask's keys. -/
theorem prmU_mask {S : BitVec 256} {n m : Nat} (hn : n ≤ 8) : prmU S n (256 * (m + 1)) = prmU S n (256 * m + 2 ^ n) := by
  have h2 : 2 ^ n ≤ 2 ^ 8 := Nat.pow_le_pow_right (by decide) hn
  refine prmU_gap (by omega) fun k h1 h2 => ?_
  cases hp : primB S n (kM k) (kV k)
  · rfl
  · obtain ⟨-, -, hv, -, -⟩ := right_lows (prim_right hp)
    obtain ⟨d, rfl⟩ := Nat.exists_eq_add_of_le (show 256 * m ≤ k by omega)
    rw [kV_at (by omega)] at hv
    omega
theorem prmU_all {S : BitVec 256} {n : Nat} (hn : n ≤ 8) : prmU S n (256 * 2 ^ n) = prmU S n 65536 := by
  have h2 : 2 ^ n ≤ 2 ^ 8 := Nat.pow_le_pow_right (by decide) hn
  refine (prmU_gap (by omega) fun k h1 h2 => ?_).symm
  cases hp : primB S n (kM k) (kV k)
  · rfl
  · obtain ⟨-, hm, -, -, -⟩ := right_lows (prim_right hp)
    have e : 256 * (k / 256) + k % 256 = k := Nat.div_add_mod k 256
    rw [← e, kM_at (by omega) (by omega)] at hm
    omega
/-- All primes, by their keys. -/
def prmL (S : BitVec 256) (n : Int) : List Nat := prmU S n 65536
theorem prmL_mem (S : BitVec 256) (n : Int) (m v : BitVec 8) : keyC m v ∈ prmL S n ↔ primB S n m v = true := by
  unfold prmL
  rw [prmU_mem, kM_key, kV_key]
  exact ⟨fun h => h.2, fun h => ⟨keyC_lt m v, h⟩⟩
def prims (S : BitVec 256) (n : Int) : List Cb := (prmL S n).map cbK
/-- A row of keys that rises and has just the primes is the row of all. -/
theorem rise_ext : ∀ {a b : List Nat}, a.Pairwise (· < ·) → b.Pairwise (· < ·) → (∀ x, x ∈ a ↔ x ∈ b) → a = b
  | [], [], _, _, _ => rfl
  | [], y :: b, _, _, h => absurd ((h y).2 (List.mem_cons_self)) (List.not_mem_nil)
  | x :: a, [], _, _, h => absurd ((h x).1 (List.mem_cons_self)) (List.not_mem_nil)
  | x :: a, y :: b, ha, hb, h => by
    rw [List.pairwise_cons] at ha hb
    have hx := (h x).1 List.mem_cons_self
    have hy := (h y).2 List.mem_cons_self
    have e : x = y := by
      rcases List.mem_cons.1 hx with e | hx
      · exact e
      · rcases List.mem_cons.1 hy with e | hy
        · exact e.symm
        · have := ha.1 y hy; have := hb.1 x hx; omega
    subst e
    rw [rise_ext ha.2 hb.2 fun z => ?_]
    constructor
    · intro hz
      rcases List.mem_cons.1 ((h z).1 (List.mem_cons_of_mem _ hz)) with e | q
      · subst e; exact absurd (ha.1 z hz) (Nat.lt_irrefl _)
      · exact q
    · intro hz
      rcases List.mem_cons.1 ((h z).2 (List.mem_cons_of_mem _ hz)) with e | q
      · subst e; exact absurd (hb.1 z hz) (Nat.lt_irrefl _)
      · exact q
/-- All primes together have just the set's points. -/
theorem point_in {S : BitVec 256} {n p : Nat} (hn : n ≤ 8) (hp : p < 2 ^ n) (hS : S.getLsbD p = true) : inB S n (BitVec.ofNat 8 (2 ^ n - 1)) (BitVec.ofNat 8 p) = true := by
  have h2 : 2 ^ n ≤ 2 ^ 8 := Nat.pow_le_pow_right (by decide) hn
  have hb : ∀ i, (BitVec.ofNat 8 (2 ^ n - 1)).getLsbD i = decide (i < n) := fun i => by
    rw [BitVec.getLsbD_ofNat, Nat.testBit_two_pow_sub_one]
    by_cases h : i < n
    · simp [h, show i < 8 by omega]
    · simp [h]
  have hv : ∀ i, (BitVec.ofNat 8 p).getLsbD i = p.testBit i := fun i => by
    rw [BitVec.getLsbD_ofNat]
    by_cases h : i < 8
    · simp [h]
    · have : p.testBit i = false := Nat.testBit_lt_two_pow (Nat.lt_of_lt_of_le (show p < 2 ^ 8 by omega) (Nat.pow_le_pow_right (by decide) (by omega)))
      simp [this]
  refine (inB_iff S n _ _).2 ⟨(rightB_iff _ _ _).2 ⟨by omega, by omega, fun i hi => by rw [hb]; exact decide_eq_false (by omega), ?_⟩, fun q hq hf => ?_⟩
  · apply BitVec.eq_of_getLsbD_eq
    intro i _
    rw [BitVec.getLsbD_and, hb, hv]
    by_cases h : i < n
    · simp [h]
    · have : p.testBit i = false := Nat.testBit_lt_two_pow (Nat.lt_of_lt_of_le hp (Nat.pow_le_pow_right (by decide) (by omega)))
      simp [this]
  · have e : q = p := Nat.eq_of_testBit_eq fun i => by
      by_cases h : i < n
      · have := (fits_iff _ _ _ _).1 hf i h (by rw [hb]; exact decide_eq_true h)
        rw [this, hv]
      · rw [Nat.testBit_lt_two_pow (Nat.lt_of_lt_of_le hq (Nat.pow_le_pow_right (by decide) (by omega))), Nat.testBit_lt_two_pow (Nat.lt_of_lt_of_le hp (Nat.pow_le_pow_right (by decide) (by omega)))]
    rw [e]; exact hS
theorem fits_holds {m v m' v' : BitVec 8} {n p : Nat} (h : holdsB m v m' v' = true) (hf : fits m' v' n p = true) : fits m v n p = true := by
  rw [holdsB_iff] at h
  rw [fits_iff] at *
  intro i hi hm
  obtain ⟨h1, h2⟩ := h i hm
  rw [hf i hi h1, h2]
theorem primes_points {S : BitVec 256} {n : Nat} (hn : n ≤ 8) (hS : S &&& ~~~(allB n) = 0) (p : Nat) : S.getLsbD p = true ↔ ∃ m v, primB S n m v = true ∧ p < 2 ^ n ∧ fits m v n p = true := by
  constructor
  · intro h
    have hp : p < 2 ^ n := by
      have := (and_not_zero _ _).1 hS p h
      unfold allB at this
      rw [bvOf_bit] at this
      simp at this
      exact this.2
    obtain ⟨m, v, h1, h2⟩ := prime_above S n _ _ _ (Nat.lt_succ_self _) (point_in hn hp h)
    refine ⟨m, v, h1, hp, fits_holds h2 ((fits_iff _ _ _ _).2 fun i hi _ => ?_)⟩
    rw [BitVec.getLsbD_ofNat, decide_eq_true (show i < 8 by omega), Bool.true_and]
  · rintro ⟨m, v, h1, h2, h3⟩
    exact ((inB_iff S n m v).1 ((primB_iff S n m v).1 h1).1).2 p h2 h3
end Go.Proofs.YtdfllifjbabfjaaGreatDoor
