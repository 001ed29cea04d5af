/- A row that comes in. The levels of cubes by which all primes are found, plain: what one level makes of the one below; which cubes stay; a row that rises, with one more. -/
import Derived.Test.YtgajgjlldohekaaGreatGP36
import Derived.Test.YtgajgjlldohekaaGreatGP22
namespace Go.Proofs.YtgajgjlldohekaaGreat
open Go.ChangeShapes Go.WideShapes Go.ChangeAt Go.RowKit Go.Joins

set_option maxRecDepth 100000 in
theorem open_row {H : Type} {enc : TypeId × Value → H} {w W : World} {r : Reach} {b0 base : Nat} {sp : Nat → Bool} {held : Bool} {v : Value} {d : DataW H} {p : List MemPlace}
    (hv : Value.okWide Tryz.prog W r b0 25 v) (h : DataW.Trod enc Tryz.prog w base sp held 25 v d p) : ∃ x : Rw, v = rwv x := by
  have hv' : ∃ cs, v = .agg cs ∧ cs.size = Tryz.prog.cellsOf 25 := by
    unfold Value.okWide at hv
    rw [Tryz.underlying25] at hv
    obtain ⟨cs, h1, h2, _⟩ := hv
    exact ⟨cs, h1, h2⟩
  obtain ⟨cs, rfl, hsz⟩ := hv'
  obtain ⟨c0, c1, c2, rfl⟩ := array3 (hsz.trans (show Tryz.prog.cellsOf 25 = 3 by kernel_rfl))
  obtain ⟨fuel, hf⟩ := h
  obtain ⟨y0, y1, n, _, _, h0, h1⟩ := trod_struct2 Tryz.underlying25 hf
  simp only [Value.cells, List.drop_zero, Tryz.cellsCube, Tryz.cellsByte] at h0 h1
  obtain ⟨mm, vv, rfl, rfl⟩ := cube_of h0
  obtain ⟨oo, rfl⟩ := byte_of h1
  exact ⟨⟨mm, vv, oo⟩, rfl⟩
end Go.Proofs.YtgajgjlldohekaaGreat
namespace Go.Proofs.YtgajgjlldohekaaGreat
open Go.RowKit

/-- How many literals a mask has. -/
def lc (m : BitVec 8) : Nat := (List.range 8).countP fun i => m.getLsbD i
/-- A value with its bit i turned. -/
def flV (v : BitVec 8) (i : Nat) : BitVec 8 := v ^^^ BitVec.twoPow 8 i
theorem flV_bit (v : BitVec 8) (i j : Nat) : (flV v i).getLsbD j = (v.getLsbD j ^^ (decide (i < 8) && decide (i = j))) := by
  unfold flV
  rw [BitVec.getLsbD_xor, BitVec.getLsbD_twoPow]
theorem lc_dr8 : ∀ (m : Fin 256) (i : Fin 8), (BitVec.ofFin (w := 8) m).getLsbD i = true → lc (drM (BitVec.ofFin (w := 8) m) i) + 1 = lc (BitVec.ofFin (w := 8) m) := by decide +kernel
theorem bit_lt8 {m : BitVec 8} {i : Nat} (h : m.getLsbD i = true) : i < 8 := by
  rcases Nat.lt_or_ge i 8 with k | k
  · exact k
  · rw [BitVec.getLsbD_of_ge m i k] at h; cases h
theorem lc_dr {m : BitVec 8} {i : Nat} (h : m.getLsbD i = true) : lc (drM m i) + 1 = lc m := lc_dr8 m.toFin ⟨i, bit_lt8 h⟩ h
theorem lc_or8 : ∀ (m : Fin 256) (i : Fin 8), (BitVec.ofFin (w := 8) m).getLsbD i = false → lc (BitVec.ofFin (w := 8) m ||| BitVec.twoPow 8 i) = lc (BitVec.ofFin (w := 8) m) + 1 := by decide +kernel
theorem lc_or {m : BitVec 8} {i : Nat} (hi : i < 8) (h : m.getLsbD i = false) : lc (m ||| BitVec.twoPow 8 i) = lc m + 1 := lc_or8 m.toFin ⟨i, hi⟩ h
theorem lc_full9 : ∀ (n : Fin 9) (m : Fin 256), m.val < 2 ^ n.val → n.val ≤ lc (BitVec.ofFin (w := 8) m) → m.val = 2 ^ n.val - 1 := by decide +kernel
theorem lc_le9 : ∀ (n : Fin 9) (m : Fin 256), m.val < 2 ^ n.val → lc (BitVec.ofFin (w := 8) m) ≤ n.val := by decide +kernel
theorem lc_free9 : ∀ (n : Fin 9) (m : Fin 256), m.val < 2 ^ n.val → lc (BitVec.ofFin (w := 8) m) < n.val → ∃ i : Fin 8, i.val < n.val ∧ (BitVec.ofFin (w := 8) m).getLsbD i = false := by decide +kernel
theorem lc_top9 : ∀ n : Fin 9, lc (BitVec.ofNat 8 (2 ^ n.val - 1)) = n.val := by decide +kernel
theorem lc_le {m : BitVec 8} {n : Nat} (hn : n ≤ 8) (h : m.toNat < 2 ^ n) : lc m ≤ n := lc_le9 ⟨n, by omega⟩ m.toFin h
theorem lc_full {m : BitVec 8} {n : Nat} (hn : n ≤ 8) (h : m.toNat < 2 ^ n) (hl : n ≤ lc m) : m = BitVec.ofNat 8 (2 ^ n - 1) := by
  have := lc_full9 ⟨n, by omega⟩ m.toFin h hl
  apply BitVec.eq_of_toNat_eq
  rw [BitVec.toNat_ofNat, Nat.mod_eq_of_lt (by have : 2 ^ n ≤ 2 ^ 8 := Nat.pow_le_pow_right (by decide) hn; omega)]
  exact this
theorem lc_free {m : BitVec 8} {n : Nat} (hn : n ≤ 8) (h : m.toNat < 2 ^ n) (hl : lc m < n) : ∃ i, i < n ∧ m.getLsbD i = false := by
  obtain ⟨i, h1, h2⟩ := lc_free9 ⟨n, by omega⟩ m.toFin h hl
  exact ⟨i, h1, h2⟩

/-- Without a literal a cube is within just if both its halves are. -/
theorem in_dr {S : BitVec 256} {n : Nat} {m v : BitVec 8} {i : Nat} (hr : rightB m v n = true) (hm : m.getLsbD i = true) :
    inB S n (drM m i) (drM v i) = true ↔ inB S n m v = true ∧ inB S n m (flV v i) = true := by
  have hi8 := bit_lt8 hm
  obtain ⟨h0, h8, hlow, hv⟩ := (rightB_iff _ _ _).1 hr
  have hr2 : rightB m (flV v i) n = true := (rightB_iff _ _ _).2 ⟨h0, h8, hlow, by
    apply BitVec.eq_of_getLsbD_eq
    intro j hj
    rw [BitVec.getLsbD_and, flV_bit]
    have hvj : (v.getLsbD j && m.getLsbD j) = v.getLsbD j := by rw [← BitVec.getLsbD_and, hv]
    by_cases e : i = j
    · subst e; rw [hm, Bool.and_true]
    · simp [e, hvj]⟩
  constructor
  · intro h
    refine ⟨inC_down h (holds_dr m v i) hr, inC_down h ?_ hr2⟩
    rw [holdsB_iff]
    intro j hj
    rw [drM_bit] at hj
    rw [drM_bit, flV_bit]
    cases hmj : m.getLsbD j
    · rw [hmj] at hj; cases hj
    · rw [hmj, Bool.true_and] at hj
      have e : ¬ i = j := fun e => by subst e; simp at hj
      rw [hj, Bool.and_true]
      simp [e]
  · rintro ⟨h1, h2⟩
    rw [inB_iff] at *
    refine ⟨right_dr i hr, fun p hp hf => ?_⟩
    rw [fits_iff] at hf
    by_cases hb : p.testBit i = v.getLsbD i
    · refine h1.2 p hp ((fits_iff _ _ _ _).2 fun j hj hmj => ?_)
      by_cases e : j = i
      · subst e; exact hb
      · have := hf j hj (by rw [drM_bit, hmj]; simp [e])
        rw [this, drM_bit]; simp [e]
    · refine h2.2 p hp ((fits_iff _ _ _ _).2 fun j hj hmj => ?_)
      rw [flV_bit]
      by_cases e : j = i
      · subst e
        have : p.testBit j = !v.getLsbD j := by cases hp : p.testBit j <;> cases hq : v.getLsbD j <;> simp_all
        rw [this]; simp [hi8]
      · have h := hf j hj (by rw [drM_bit, hmj]; simp [e])
        have e' : ¬ i = j := fun h => e h.symm
        rw [h, drM_bit]; simp [e, e']
theorem not_fl {S : BitVec 256} {n : Nat} {m v : BitVec 8} {i : Nat} (hi : i < 8) (hr : rightB m v n = true) (hm : m.getLsbD i = false) : inB S n m (flV v i) = false := by
  cases h : inB S n m (flV v i)
  · rfl
  · exfalso
    have h1 := ((rightB_iff _ _ _).1 (in_right h)).2.2.2
    have hv := ((rightB_iff _ _ _).1 hr).2.2.2
    have e1 : ((flV v i) &&& m).getLsbD i = (flV v i).getLsbD i := by rw [h1]
    have e2 : (v &&& m).getLsbD i = v.getLsbD i := by rw [hv]
    rw [BitVec.getLsbD_and, hm, Bool.and_false] at e1 e2
    rw [flV_bit, ← e2] at e1
    simp [hi] at e1

/-- The cubes within that have n - k literals. -/
def Lv (S : BitVec 256) (n k : Nat) (m v : BitVec 8) : Prop := inB S n m v = true ∧ lc m + k = n
theorem lv_right {S : BitVec 256} {n k : Nat} {m v : BitVec 8} (h : Lv S n k m v) : rightB m v n = true := in_right h.1
/-- One level makes the next. -/
theorem lv_fl {S : BitVec 256} {n k i : Nat} {m v : BitVec 8} (h : Lv S n k m v) (hi : i < n) (hf : Lv S n k m (flV v i)) : m.getLsbD i = true := by
  have hn := (right_lows (lv_right h)).1
  cases hm : m.getLsbD i
  · have := not_fl (S := S) (by omega : i < 8) (lv_right h) hm
    rw [hf.1] at this
    cases this
  · rfl
theorem lv_up {S : BitVec 256} {n k : Nat} (m' v' : BitVec 8) : Lv S n (k + 1) m' v' ↔ ∃ m v i, Lv S n k m v ∧ i < n ∧ Lv S n k m (flV v i) ∧ m' = drM m i ∧ v' = drM v i := by
  constructor
  · rintro ⟨hin, hl⟩
    obtain ⟨hn, hm', -, hlow, hv'⟩ := right_lows (in_right hin)
    obtain ⟨i, hi, hb⟩ := lc_free hn hm' (by omega)
    have hvb : v'.getLsbD i = false := by
      have := congrArg (fun x => x.getLsbD i) hv'
      simp only [BitVec.getLsbD_and, hb, Bool.and_false] at this
      exact this.symm
    have hor : ∀ j, (m' ||| BitVec.twoPow 8 i).getLsbD j = (m'.getLsbD j || (decide (i < 8) && decide (i = j))) := fun j => by rw [BitVec.getLsbD_or, BitVec.getLsbD_twoPow]
    have hset : (m' ||| BitVec.twoPow 8 i).getLsbD i = true := by rw [hor]; simp [show i < 8 by omega]
    have em : drM (m' ||| BitVec.twoPow 8 i) i = m' := by
      apply BitVec.eq_of_getLsbD_eq
      intro j hj
      rw [drM_bit, hor]
      by_cases e : j = i
      · subst e; simp [hb]
      · have e' : ¬ i = j := fun h => e h.symm
        simp [e, e']
    have ev : drM v' i = v' := drM_same hvb
    have hr : rightB (m' ||| BitVec.twoPow 8 i) v' n = true := by
      refine (rightB_iff _ _ _).2 ⟨by omega, by omega, fun j hj => ?_, ?_⟩
      · rw [hor, hlow j (by omega)]
        have e' : ¬ i = j := by omega
        simp [e']
      · apply BitVec.eq_of_getLsbD_eq
        intro j hj
        have hvj : (v'.getLsbD j && m'.getLsbD j) = v'.getLsbD j := by rw [← BitVec.getLsbD_and, hv']
        rw [BitVec.getLsbD_and, hor]
        cases h1 : v'.getLsbD j
        · rfl
        · rw [h1, Bool.true_and] at hvj; rw [hvj]; rfl
    have hd := (in_dr (S := S) hr hset).1 (by rw [em, ev]; exact hin)
    have hlc := lc_or (by omega : i < 8) hb
    exact ⟨m' ||| BitVec.twoPow 8 i, v', i, ⟨hd.1, by omega⟩, hi, ⟨hd.2, by omega⟩, em.symm, ev.symm⟩
  · rintro ⟨m, v, i, h, hi, hf, rfl, rfl⟩
    have hm := lv_fl h hi hf
    have := lc_dr hm
    exact ⟨(in_dr (lv_right h) hm).2 ⟨h.1, hf.1⟩, by have := h.2; omega⟩
/-- A cube stays just if nothing is made of it. -/
theorem lv_prime {S : BitVec 256} {n k : Nat} {m v : BitVec 8} (h : Lv S n k m v) : primB S n m v = true ↔ ∀ i, i < n → ¬ Lv S n k m (flV v i) := by
  rw [primB_iff, Int.toNat_natCast]
  constructor
  · rintro ⟨-, hp⟩ i hi hf
    have hm := lv_fl h hi hf
    have := (in_dr (lv_right h) hm).2 ⟨h.1, hf.1⟩
    rw [hp i hi hm] at this
    cases this
  · intro hp
    refine ⟨h.1, fun i hi hm => ?_⟩
    cases hd : inB S n (drM m i) (drM v i)
    · rfl
    · exact absurd ⟨((in_dr (lv_right h) hm).1 hd).2, h.2⟩ (hp i hi)
/-- The first level: a cube for each point. -/
theorem lv_zero {S : BitVec 256} {n : Nat} (hn : n ≤ 8) (m v : BitVec 8) : Lv S n 0 m v ↔ m = BitVec.ofNat 8 (2 ^ n - 1) ∧ ∃ p, p < 2 ^ n ∧ S.getLsbD p = true ∧ v = BitVec.ofNat 8 p := by
  have h2 : 2 ^ n ≤ 2 ^ 8 := Nat.pow_le_pow_right (by decide) hn
  constructor
  · rintro ⟨hin, hl⟩
    obtain ⟨-, hm, hv, -, -⟩ := right_lows (in_right hin)
    have em := lc_full hn hm (by omega)
    refine ⟨em, v.toNat, hv, ?_, by simp⟩
    refine ((inB_iff _ _ _ _).1 hin).2 v.toNat hv ((fits_iff _ _ _ _).2 fun i _ _ => rfl)
  · rintro ⟨rfl, p, hp, hS, rfl⟩
    exact ⟨point_in hn hp hS, lc_top9 ⟨n, by omega⟩⟩
theorem lv_none {S : BitVec 256} {n k : Nat} (h : ∀ m v, ¬ Lv S n k m v) : ∀ (j : Nat) (m v : BitVec 8), ¬ Lv S n (k + j) m v
  | 0, m, v => h m v
  | j + 1, m, v => fun hl => by
    obtain ⟨m1, v1, i, h1, -⟩ := (lv_up m v).1 hl
    exact lv_none h j m1 v1 h1

/-- The primes that have more than n - k literals, and those of D. -/
structure Kept (S : BitVec 256) (n k : Nat) (D : BitVec 8 → BitVec 8 → Prop) (ks : List Nat) : Prop where
  rise : ks.Pairwise (· < ·)
  mem : ∀ x, x ∈ ks ↔ ∃ m v, x = keyC m v ∧ primB S n m v = true ∧ (n < lc m + k ∨ D m v)
theorem key_inj {m v m' v' : BitVec 8} (h : keyC m v = keyC m' v') : m = m' ∧ v = v' := by
  have e1 := congrArg kM h
  have e2 := congrArg kV h
  rw [kM_key, kM_key] at e1
  rw [kV_key, kV_key] at e2
  exact ⟨e1, e2⟩
theorem Kept.lt {S : BitVec 256} {n k : Nat} {D : BitVec 8 → BitVec 8 → Prop} {ks : List Nat} (h : Kept S n k D ks) {x : Nat} (hx : x ∈ ks) : x < 65536 := by
  obtain ⟨m, v, rfl, -⟩ := (h.mem x).1 hx
  exact keyC_lt m v
theorem Kept.nil {S : BitVec 256} {n : Nat} : Kept S n 0 (fun _ _ => False) [] := by
  refine ⟨List.Pairwise.nil, fun x => ⟨fun h => absurd h List.not_mem_nil, ?_⟩⟩
  rintro ⟨m, v, -, hp, h | h⟩
  · obtain ⟨h8, hm, -⟩ := right_lows (in_right ((primB_iff _ _ _ _).1 hp).1)
    have := lc_le h8 hm
    omega
  · exact h.elim
theorem Kept.same {S : BitVec 256} {n k : Nat} {D D' : BitVec 8 → BitVec 8 → Prop} {ks : List Nat} (h : Kept S n k D ks) (hD : ∀ m v, primB S n m v = true → (D m v ↔ D' m v)) : Kept S n k D' ks :=
  ⟨h.rise, fun x => (h.mem x).trans ⟨fun ⟨m, v, e, p, q⟩ => ⟨m, v, e, p, q.imp id (hD m v p).1⟩, fun ⟨m, v, e, p, q⟩ => ⟨m, v, e, p, q.imp id (hD m v p).2⟩⟩⟩
theorem Kept.next {S : BitVec 256} {n k : Nat} {D : BitVec 8 → BitVec 8 → Prop} {ks : List Nat} (h : Kept S n k D ks) (hD : ∀ m v, primB S n m v = true → (D m v ↔ lc m + k = n)) : Kept S n (k + 1) (fun _ _ => False) ks := by
  refine ⟨h.rise, fun x => (h.mem x).trans ⟨?_, ?_⟩⟩
  · rintro ⟨m, v, e, p, q⟩
    refine ⟨m, v, e, p, Or.inl ?_⟩
    rcases q with q | q
    · omega
    · have := (hD m v p).1 q; omega
  · rintro ⟨m, v, e, p, q⟩
    refine ⟨m, v, e, p, ?_⟩
    rcases q with q | q
    · by_cases h : lc m + k = n
      · exact Or.inr ((hD m v p).2 h)
      · exact Or.inl (by omega)
    · exact q.elim
/-- Where no level is left, these are all primes. -/
theorem Kept.all {S : BitVec 256} {n k : Nat} {ks : List Nat} (h : Kept S n k (fun _ _ => False) ks) (hz : ∀ m v, ¬ Lv S n k m v) : ks = prmL S n := by
  refine rise_ext h.rise (prmU_srt _ _ _) fun x => ?_
  constructor
  · intro hx
    obtain ⟨m, v, rfl, hp, -⟩ := (h.mem x).1 hx
    exact (prmL_mem S n m v).2 hp
  · intro hx
    have hx2 := (prmU_mem S n 65536 x).1 hx
    refine (h.mem x).2 ⟨kM x, kV x, (key_kk hx2.1).symm, hx2.2, Or.inl ?_⟩
    have hin := ((primB_iff _ _ _ _).1 hx2.2).1
    rcases Nat.lt_or_ge n (lc (kM x) + k) with g | g
    · exact g
    · exact absurd ⟨hin, by omega⟩ (lv_none hz (n - lc (kM x) - k) (kM x) (kV x))
/-- A row that rises, with one more. -/
def insK (ks : List Nat) (i x : Nat) : List Nat := ks.take i ++ x :: ks.drop i
theorem insK_rise {ks : List Nat} {i x : Nat} (h : ks.Pairwise (· < ·)) (hlo : ∀ j y, j < i → ks[j]? = some y → y < x) (hhi : ∀ j y, i ≤ j → ks[j]? = some y → x < y) : (insK ks i x).Pairwise (· < ·) := by
  unfold insK
  rw [List.pairwise_append]
  have hlo' : ∀ a ∈ ks.take i, a < x := fun a ha => by
    obtain ⟨j, hj⟩ := List.getElem?_of_mem ha
    rw [List.getElem?_take] at hj
    split at hj
    · exact hlo j a (by assumption) hj
    · cases hj
  have hhi' : ∀ b ∈ ks.drop i, x < b := fun b hb => by
    obtain ⟨j, hj⟩ := List.getElem?_of_mem hb
    rw [List.getElem?_drop] at hj
    exact hhi (i + j) b (by omega) hj
  refine ⟨h.sublist (List.take_sublist i ks), List.pairwise_cons.2 ⟨hhi', h.sublist (List.drop_sublist i ks)⟩, fun a ha b hb => ?_⟩
  have := hlo' a ha
  rcases List.mem_cons.1 hb with e | hb
  · omega
  · have := hhi' b hb; omega
theorem insK_mem {ks : List Nat} {i x : Nat} (y : Nat) : y ∈ insK ks i x ↔ y ∈ ks ∨ y = x := by
  unfold insK
  have e : ks.take i ++ ks.drop i = ks := List.take_append_drop i ks
  have : y ∈ ks ↔ y ∈ ks.take i ∨ y ∈ ks.drop i := by rw [← List.mem_append, e]
  rw [List.mem_append, List.mem_cons, this]
  constructor
  · rintro (h | h | h)
    · exact Or.inl (Or.inl h)
    · exact Or.inr h
    · exact Or.inl (Or.inr h)
  · rintro ((h | h) | h)
    · exact Or.inl h
    · exact Or.inr (Or.inr h)
    · exact Or.inr (Or.inl h)
theorem Kept.put {S : BitVec 256} {n k : Nat} {D : BitVec 8 → BitVec 8 → Prop} {ks : List Nat} (h : Kept S n k D ks) {m v : BitVec 8} (hp : primB S n m v = true) {i : Nat}
    (hlo : ∀ j y, j < i → ks[j]? = some y → y < keyC m v) (hhi : ∀ j y, i ≤ j → ks[j]? = some y → keyC m v < y) : Kept S n k (fun m' v' => D m' v' ∨ (m' = m ∧ v' = v)) (insK ks i (keyC m v)) := by
  refine ⟨insK_rise h.rise hlo hhi, fun x => (insK_mem x).trans ?_⟩
  rw [h.mem x]
  constructor
  · rintro (⟨m', v', e, p, q⟩ | e)
    · exact ⟨m', v', e, p, q.imp id Or.inl⟩
    · exact ⟨m, v, e, hp, Or.inr (Or.inr ⟨rfl, rfl⟩)⟩
  · rintro ⟨m', v', e, p, q | q | ⟨rfl, rfl⟩⟩
    · exact Or.inl ⟨m', v', e, p, Or.inl q⟩
    · exact Or.inl ⟨m', v', e, p, Or.inr q⟩
    · exact Or.inr e
theorem Kept.fresh {S : BitVec 256} {n k : Nat} {D : BitVec 8 → BitVec 8 → Prop} {ks : List Nat} (h : Kept S n k D ks) {m v : BitVec 8} (hl : lc m + k = n) (hD : ¬ D m v) : keyC m v ∉ ks := by
  intro hx
  obtain ⟨m', v', e, -, q⟩ := (h.mem _).1 hx
  obtain ⟨rfl, rfl⟩ := key_inj e
  rcases q with q | q
  · omega
  · exact hD q
end Go.Proofs.YtgajgjlldohekaaGreat
