/- What the statements ask of package tagged: primes of any number of inputs, all rows of a spec that is right, of one that is not, and of no diagram. The levels of cubes by which all primes are found, plain: what one level makes of the one below; which cubes stay; a row that rises, with one more. The order of cubes: cmp.Compare and cmp.Or, package prime's compare. -/
import Derived.Test.YtehpccanjlaokaaGreatGQxQuTgr11
import Derived.Test.YtehpccanjlaokaaGreatGQ34
import Derived.Test.YtehpccanjlaokaaGreatGQ38
import Derived.Test.YtehpccanjlaokaaGreatGQ35
import Derived.Test.YtehpccanjlaokaaGreatGQ14
import Derived.Test.YtehpccanjlaokaaGreatGQxQuLaw11c
import Derived.Test.YtehpccanjlaokaaGreatGQxQuLaw11d
import Derived.Test.YtehpccanjlaokaaGreatGQ20
import Derived.Test.YtehpccanjlaokaaGreatGQ22
import Derived.Test.YtehpccanjlaokaaGreatGQ08
namespace Go.Proofs.YtehpccanjlaokaaGreat
open Go.RowKit Go.Joins
theorem tprimes_all {n : Nat} (hn : n ≤ 6) : ∀ k, PrimesOk n k
  | 0 => tprimes_step hn fun j h => by cases h
  | k + 1 => tprimes_step hn fun j h => by
    obtain rfl : k = j := by omega
    intro N w zb ab bm drb mm v full S C
    exact tcombine_any hn (tprimes_all hn k)
theorem tgood_any : PrimesGood (FrR 20000) DgR := tprimes_good fun n hn => tprimes_all hn n
theorem tknows_any : Knows11 := knows11_any dgok_any tgood_any tmember_any trow_any
theorem tall_bad (room : Nat) : AllBad (FrR room) := by
  intro B w zb i A C on may ho hA hC hf
  have hB : B ≤ w.heap.size := by
    obtain ⟨ab, bm, v, full, hd⟩ := hf
    rcases Nat.lt_or_ge w.heap.size B with h | h
    · exact absurd (hd.off w.heap.size h).1 (Nat.lt_irrefl _)
    · exact h
  have HR := fun w1 (hb : Below w.heap.size w w1) => sright_any i A C on may w1 ((hA.below hb).more hb.size) ((hC.below hb).more hb.size)
  rw [ho] at HR
  have hs := heap_alloc_new w (spb i A C)
  have hb := below_alloc1 w (spb i A C)
  clear hA hC ho hf
  unfold spv spb at *
  go_enter Tryz.func9, Tryz.ntmps9
  go_upto_region 1 with (fail)
  generalize w.alloc _ = W at *
  have HR1 := HR W hb
  obtain ⟨s0, s1, s2, -⟩ := now3 hs rfl
  clear HR
  go_wp2_with fail
  refine HR1.mono ?_
  rintro e w1 ⟨rfl, hb1⟩
  have hB1 := (hb.trans (hb1.mono hb.size)).mono hB
  clear HR1 s0 s1 s2 hs hb1 hb
  go_wp2
  go_ret2
  exact ⟨rfl, hB1⟩
theorem tall_none : AllNone := by
  intro w i A C on may _ _
  have hb := below_alloc1 w (spb i A C)
  unfold spv spb at *
  go_enter Tryz.func9, Tryz.ntmps9
  go_upto_region 1 with (fail)
  generalize w.alloc _ = W at *
  go_wp2
  go_ret2
  exact ⟨rfl, hb⟩
theorem tall_good : AllGood (FrR 20000) DgR := by
  intro B w zb n A C on may ho hn hA hC hf
  refine (tall_any (fun n h => tprimes_all h n) n A C on may w ho hn hA hC hf).mono ?_
  rintro e w' ⟨⟨id, he, hd⟩ | ⟨_, h⟩, hb⟩
  · exact ⟨id, he, hd, hb⟩
  · exact absurd h (by omega)
theorem tall_room (room : Nat) : AllRoom (FrR room) DgR := by
  intro B w zb n A C on may ho hn hA hC hf
  refine (tall_any (fun n h => tprimes_all h n) n A C on may w ho (by omega) hA hC hf).mono ?_
  rintro e w' ⟨⟨id, he, hd⟩ | ⟨he, _⟩, hb⟩
  · exact ⟨.inl ⟨id, he, hd⟩, hb⟩
  · exact ⟨.inr he, hb⟩
theorem tnew_room (b : BitVec 8) : NewRoom (FrR b.toNat) b := fun w => tnew_any b.toNat (by have := b.isLt; omega) w
end Go.Proofs.YtehpccanjlaokaaGreat
namespace Go.Proofs.YtehpccanjlaokaaGreat
open Go.RowKit

/-- How many literals a mask has. -/
def lc (m : BitVec 8) : Nat := (List.range 8).countP fun i => m.getLsbD i
/-- A value with its bit i turned. -/
def flV (v : BitVec 8) (i : Nat) : BitVec 8 := v ^^^ BitVec.twoPow 8 i
theorem flV_bit (v : BitVec 8) (i j : Nat) : (flV v i).getLsbD j = (v.getLsbD j ^^ (decide (i < 8) && decide (i = j))) := by
  unfold flV
  rw [BitVec.getLsbD_xor, BitVec.getLsbD_twoPow]
theorem lc_dr8 : ∀ (m : Fin 256) (i : Fin 8), (BitVec.ofFin (w := 8) m).getLsbD i = true → lc (drM (BitVec.ofFin (w := 8) m) i) + 1 = lc (BitVec.ofFin (w := 8) m) := by decide +kernel
theorem bit_lt8 {m : BitVec 8} {i : Nat} (h : m.getLsbD i = true) : i < 8 := by
  rcases Nat.lt_or_ge i 8 with k | k
  · exact k
  · rw [BitVec.getLsbD_of_ge m i k] at h; cases h
theorem lc_dr {m : BitVec 8} {i : Nat} (h : m.getLsbD i = true) : lc (drM m i) + 1 = lc m := lc_dr8 m.toFin ⟨i, bit_lt8 h⟩ h
theorem lc_or8 : ∀ (m : Fin 256) (i : Fin 8), (BitVec.ofFin (w := 8) m).getLsbD i = false → lc (BitVec.ofFin (w := 8) m ||| BitVec.twoPow 8 i) = lc (BitVec.ofFin (w := 8) m) + 1 := by decide +kernel
theorem lc_or {m : BitVec 8} {i : Nat} (hi : i < 8) (h : m.getLsbD i = false) : lc (m ||| BitVec.twoPow 8 i) = lc m + 1 := lc_or8 m.toFin ⟨i, hi⟩ h
theorem lc_full9 : ∀ (n : Fin 9) (m : Fin 256), m.val < 2 ^ n.val → n.val ≤ lc (BitVec.ofFin (w := 8) m) → m.val = 2 ^ n.val - 1 := by decide +kernel
theorem lc_le9 : ∀ (n : Fin 9) (m : Fin 256), m.val < 2 ^ n.val → lc (BitVec.ofFin (w := 8) m) ≤ n.val := by decide +kernel
theorem lc_free9 : ∀ (n : Fin 9) (m : Fin 256), m.val < 2 ^ n.val → lc (BitVec.ofFin (w := 8) m) < n.val → ∃ i : Fin 8, i.val < n.val ∧ (BitVec.ofFin (w := 8) m).getLsbD i = false := by decide +kernel
theorem lc_top9 : ∀ n : Fin 9, lc (BitVec.ofNat 8 (2 ^ n.val - 1)) = n.val := by decide +kernel
theorem lc_le {m : BitVec 8} {n : Nat} (hn : n ≤ 8) (h : m.toNat < 2 ^ n) : lc m ≤ n := lc_le9 ⟨n, by omega⟩ m.toFin h
theorem lc_full {m : BitVec 8} {n : Nat} (hn : n ≤ 8) (h : m.toNat < 2 ^ n) (hl : n ≤ lc m) : m = BitVec.ofNat 8 (2 ^ n - 1) := by
  have := lc_full9 ⟨n, by omega⟩ m.toFin h hl
  apply BitVec.eq_of_toNat_eq
  rw [BitVec.toNat_ofNat, Nat.mod_eq_of_lt (by have : 2 ^ n ≤ 2 ^ 8 := Nat.pow_le_pow_right (by decide) hn; omega)]
  exact this
theorem lc_free {m : BitVec 8} {n : Nat} (hn : n ≤ 8) (h : m.toNat < 2 ^ n) (hl : lc m < n) : ∃ i, i < n ∧ m.getLsbD i = false := by
  obtain ⟨i, h1, h2⟩ := lc_free9 ⟨n, by omega⟩ m.toFin h hl
  exact ⟨i, h1, h2⟩

/-- Without a literal a cube is within just if both its halves are. -/
theorem in_dr {S : BitVec 256} {n : Nat} {m v : BitVec 8} {i : Nat} (hr : rightB m v n = true) (hm : m.getLsbD i = true) :
    inB S n (drM m i) (drM v i) = true ↔ inB S n m v = true ∧ inB S n m (flV v i) = true := by
  have hi8 := bit_lt8 hm
  obtain ⟨h0, h8, hlow, hv⟩ := (rightB_iff _ _ _).1 hr
  have hr2 : rightB m (flV v i) n = true := (rightB_iff _ _ _).2 ⟨h0, h8, hlow, by
    apply BitVec.eq_of_getLsbD_eq
    intro j hj
    rw [BitVec.getLsbD_and, flV_bit]
    have hvj : (v.getLsbD j && m.getLsbD j) = v.getLsbD j := by rw [← BitVec.getLsbD_and, hv]
    by_cases e : i = j
    · subst e; rw [hm, Bool.and_true]
    · simp [e, hvj]⟩
  constructor
  · intro h
    refine ⟨inC_down h (holds_dr m v i) hr, inC_down h ?_ hr2⟩
    rw [holdsB_iff]
    intro j hj
    rw [drM_bit] at hj
    rw [drM_bit, flV_bit]
    cases hmj : m.getLsbD j
    · rw [hmj] at hj; cases hj
    · rw [hmj, Bool.true_and] at hj
      have e : ¬ i = j := fun e => by subst e; simp at hj
      rw [hj, Bool.and_true]
      simp [e]
  · rintro ⟨h1, h2⟩
    rw [inB_iff] at *
    refine ⟨right_dr i hr, fun p hp hf => ?_⟩
    rw [fits_iff] at hf
    by_cases hb : p.testBit i = v.getLsbD i
    · refine h1.2 p hp ((fits_iff _ _ _ _).2 fun j hj hmj => ?_)
      by_cases e : j = i
      · subst e; exact hb
      · have := hf j hj (by rw [drM_bit, hmj]; simp [e])
        rw [this, drM_bit]; simp [e]
    · refine h2.2 p hp ((fits_iff _ _ _ _).2 fun j hj hmj => ?_)
      rw [flV_bit]
      by_cases e : j = i
      · subst e
        have : p.testBit j = !v.getLsbD j := by cases hp : p.testBit j <;> cases hq : v.getLsbD j <;> simp_all
        rw [this]; simp [hi8]
      · have h := hf j hj (by rw [drM_bit, hmj]; simp [e])
        have e' : ¬ i = j := fun h => e h.symm
        rw [h, drM_bit]; simp [e, e']
theorem not_fl {S : BitVec 256} {n : Nat} {m v : BitVec 8} {i : Nat} (hi : i < 8) (hr : rightB m v n = true) (hm : m.getLsbD i = false) : inB S n m (flV v i) = false := by
  cases h : inB S n m (flV v i)
  · rfl
  · exfalso
    have h1 := ((rightB_iff _ _ _).1 (in_right h)).2.2.2
    have hv := ((rightB_iff _ _ _).1 hr).2.2.2
    have e1 : ((flV v i) &&& m).getLsbD i = (flV v i).getLsbD i := by rw [h1]
    have e2 : (v &&& m).getLsbD i = v.getLsbD i := by rw [hv]
    rw [BitVec.getLsbD_and, hm, Bool.and_false] at e1 e2
    rw [flV_bit, ← e2] at e1
    simp [hi] at e1

/-- The cubes within that have n - k literals. -/
def Lv (S : BitVec 256) (n k : Nat) (m v : BitVec 8) : Prop := inB S n m v = true ∧ lc m + k = n
theorem lv_right {S : BitVec 256} {n k : Nat} {m v : BitVec 8} (h : Lv S n k m v) : rightB m v n = true := in_right h.1
/-- One level makes the next. -/
theorem lv_fl {S : BitVec 256} {n k i : Nat} {m v : BitVec 8} (h : Lv S n k m v) (hi : i < n) (hf : Lv S n k m (flV v i)) : m.getLsbD i = true := by
  have hn := (right_lows (lv_right h)).1
  cases hm : m.getLsbD i
  · have := not_fl (S := S) (by omega : i < 8) (lv_right h) hm
    rw [hf.1] at this
    cases this
  · rfl
theorem lv_up {S : BitVec 256} {n k : Nat} (m' v' : BitVec 8) : Lv S n (k + 1) m' v' ↔ ∃ m v i, Lv S n k m v ∧ i < n ∧ Lv S n k m (flV v i) ∧ m' = drM m i ∧ v' = drM v i := by
  constructor
  · rintro ⟨hin, hl⟩
    obtain ⟨hn, hm', -, hlow, hv'⟩ := right_lows (in_right hin)
    obtain ⟨i, hi, hb⟩ := lc_free hn hm' (by omega)
    have hvb : v'.getLsbD i = false := by
      have := congrArg (fun x => x.getLsbD i) hv'
      simp only [BitVec.getLsbD_and, hb, Bool.and_false] at this
      exact this.symm
    have hor : ∀ j, (m' ||| BitVec.twoPow 8 i).getLsbD j = (m'.getLsbD j || (decide (i < 8) && decide (i = j))) := fun j => by rw [BitVec.getLsbD_or, BitVec.getLsbD_twoPow]
    have hset : (m' ||| BitVec.twoPow 8 i).getLsbD i = true := by rw [hor]; simp [show i < 8 by omega]
    have em : drM (m' ||| BitVec.twoPow 8 i) i = m' := by
      apply BitVec.eq_of_getLsbD_eq
      intro j hj
      rw [drM_bit, hor]
      by_cases e : j = i
      · subst e; simp [hb]
      · have e' : ¬ i = j := fun h => e h.symm
        simp [e, e']
    have ev : drM v' i = v' := drM_same hvb
    have hr : rightB (m' ||| BitVec.twoPow 8 i) v' n = true := by
      refine (rightB_iff _ _ _).2 ⟨by omega, by omega, fun j hj => ?_, ?_⟩
      · rw [hor, hlow j (by omega)]
        have e' : ¬ i = j := by omega
        simp [e']
      · apply BitVec.eq_of_getLsbD_eq
        intro j hj
        have hvj : (v'.getLsbD j && m'.getLsbD j) = v'.getLsbD j := by rw [← BitVec.getLsbD_and, hv']
        rw [BitVec.getLsbD_and, hor]
        cases h1 : v'.getLsbD j
        · rfl
        · rw [h1, Bool.true_and] at hvj; rw [hvj]; rfl
    have hd := (in_dr (S := S) hr hset).1 (by rw [em, ev]; exact hin)
    have hlc := lc_or (by omega : i < 8) hb
    exact ⟨m' ||| BitVec.twoPow 8 i, v', i, ⟨hd.1, by omega⟩, hi, ⟨hd.2, by omega⟩, em.symm, ev.symm⟩
  · rintro ⟨m, v, i, h, hi, hf, rfl, rfl⟩
    have hm := lv_fl h hi hf
    have := lc_dr hm
    exact ⟨(in_dr (lv_right h) hm).2 ⟨h.1, hf.1⟩, by have := h.2; omega⟩
/-- A cube stays just if nothing is made of it. -/
theorem lv_prime {S : BitVec 256} {n k : Nat} {m v : BitVec 8} (h : Lv S n k m v) : primB S n m v = true ↔ ∀ i, i < n → ¬ Lv S n k m (flV v i) := by
  rw [primB_iff, Int.toNat_natCast]
  constructor
  · rintro ⟨-, hp⟩ i hi hf
    have hm := lv_fl h hi hf
    have := (in_dr (lv_right h) hm).2 ⟨h.1, hf.1⟩
    rw [hp i hi hm] at this
    cases this
  · intro hp
    refine ⟨h.1, fun i hi hm => ?_⟩
    cases hd : inB S n (drM m i) (drM v i)
    · rfl
    · exact absurd ⟨((in_dr (lv_right h) hm).1 hd).2, h.2⟩ (hp i hi)
/-- The first level: a cube for each point. -/
theorem lv_zero {S : BitVec 256} {n : Nat} (hn : n ≤ 8) (m v : BitVec 8) : Lv S n 0 m v ↔ m = BitVec.ofNat 8 (2 ^ n - 1) ∧ ∃ p, p < 2 ^ n ∧ S.getLsbD p = true ∧ v = BitVec.ofNat 8 p := by
  have h2 : 2 ^ n ≤ 2 ^ 8 := Nat.pow_le_pow_right (by decide) hn
  constructor
  · rintro ⟨hin, hl⟩
    obtain ⟨-, hm, hv, -, -⟩ := right_lows (in_right hin)
    have em := lc_full hn hm (by omega)
    refine ⟨em, v.toNat, hv, ?_, by simp⟩
    refine ((inB_iff _ _ _ _).1 hin).2 v.toNat hv ((fits_iff _ _ _ _).2 fun i _ _ => rfl)
  · rintro ⟨rfl, p, hp, hS, rfl⟩
    exact ⟨point_in hn hp hS, lc_top9 ⟨n, by omega⟩⟩
theorem lv_none {S : BitVec 256} {n k : Nat} (h : ∀ m v, ¬ Lv S n k m v) : ∀ (j : Nat) (m v : BitVec 8), ¬ Lv S n (k + j) m v
  | 0, m, v => h m v
  | j + 1, m, v => fun hl => by
    obtain ⟨m1, v1, i, h1, -⟩ := (lv_up m v).1 hl
    exact lv_none h j m1 v1 h1

/-- The primes that have more than n - k literals, and those of D. -/
structure Kept (S : BitVec 256) (n k : Nat) (D : BitVec 8 → BitVec 8 → Prop) (ks : List Nat) : Prop where
  rise : ks.Pairwise (· < ·)
  mem : ∀ x, x ∈ ks ↔ ∃ m v, x = keyC m v ∧ primB S n m v = true ∧ (n < lc m + k ∨ D m v)
theorem key_inj {m v m' v' : BitVec 8} (h : keyC m v = keyC m' v') : m = m' ∧ v = v' := by
  have e1 := congrArg kM h
  have e2 := congrArg kV h
  rw [kM_key, kM_key] at e1
  rw [kV_key, kV_key] at e2
  exact ⟨e1, e2⟩
theorem Kept.lt {S : BitVec 256} {n k : Nat} {D : BitVec 8 → BitVec 8 → Prop} {ks : List Nat} (h : Kept S n k D ks) {x : Nat} (hx : x ∈ ks) : x < 65536 := by
  obtain ⟨m, v, rfl, -⟩ := (h.mem x).1 hx
  exact keyC_lt m v
theorem Kept.nil {S : BitVec 256} {n : Nat} : Kept S n 0 (fun _ _ => False) [] := by
  refine ⟨List.Pairwise.nil, fun x => ⟨fun h => absurd h List.not_mem_nil, ?_⟩⟩
  rintro ⟨m, v, -, hp, h | h⟩
  · obtain ⟨h8, hm, -⟩ := right_lows (in_right ((primB_iff _ _ _ _).1 hp).1)
    have := lc_le h8 hm
    omega
  · exact h.elim
theorem Kept.same {S : BitVec 256} {n k : Nat} {D D' : BitVec 8 → BitVec 8 → Prop} {ks : List Nat} (h : Kept S n k D ks) (hD : ∀ m v, primB S n m v = true → (D m v ↔ D' m v)) : Kept S n k D' ks :=
  ⟨h.rise, fun x => (h.mem x).trans ⟨fun ⟨m, v, e, p, q⟩ => ⟨m, v, e, p, q.imp id (hD m v p).1⟩, fun ⟨m, v, e, p, q⟩ => ⟨m, v, e, p, q.imp id (hD m v p).2⟩⟩⟩
theorem Kept.next {S : BitVec 256} {n k : Nat} {D : BitVec 8 → BitVec 8 → Prop} {ks : List Nat} (h : Kept S n k D ks) (hD : ∀ m v, primB S n m v = true → (D m v ↔ lc m + k = n)) : Kept S n (k + 1) (fun _ _ => False) ks := by
  refine ⟨h.rise, fun x => (h.mem x).trans ⟨?_, ?_⟩⟩
  · rintro ⟨m, v, e, p, q⟩
    refine ⟨m, v, e, p, Or.inl ?_⟩
    rcases q with q | q
    · omega
    · have := (hD m v p).1 q; omega
  · rintro ⟨m, v, e, p, q⟩
    refine ⟨m, v, e, p, ?_⟩
    rcases q with q | q
    · by_cases h : lc m + k = n
      · exact Or.inr ((hD m v p).2 h)
      · exact Or.inl (by omega)
    · exact q.elim
/-- Where no level is left, these are all primes. -/
theorem Kept.all {S : BitVec 256} {n k : Nat} {ks : List Nat} (h : Kept S n k (fun _ _ => False) ks) (hz : ∀ m v, ¬ Lv S n k m v) : ks = prmL S n := by
  refine rise_ext h.rise (prmU_srt _ _ _) fun x => ?_
  constructor
  · intro hx
    obtain ⟨m, v, rfl, hp, -⟩ := (h.mem x).1 hx
    exact (prmL_mem S n m v).2 hp
  · intro hx
    have hx2 := (prmU_mem S n 65536 x).1 hx
    refine (h.mem x).2 ⟨kM x, kV x, (key_kk hx2.1).symm, hx2.2, Or.inl ?_⟩
    have hin := ((primB_iff _ _ _ _).1 hx2.2).1
    rcases Nat.lt_or_ge n (lc (kM x) + k) with g | g
    · exact g
    · exact absurd ⟨hin, by omega⟩ (lv_none hz (n - lc (kM x) - k) (kM x) (kV x))
/-- A row that rises, with one more. -/
def insK (ks : List Nat) (i x : Nat) : List Nat := ks.take i ++ x :: ks.drop i
theorem insK_rise {ks : List Nat} {i x : Nat} (h : ks.Pairwise (· < ·)) (hlo : ∀ j y, j < i → ks[j]? = some y → y < x) (hhi : ∀ j y, i ≤ j → ks[j]? = some y → x < y) : (insK ks i x).Pairwise (· < ·) := by
  unfold insK
  rw [List.pairwise_append]
  have hlo' : ∀ a ∈ ks.take i, a < x := fun a ha => by
    obtain ⟨j, hj⟩ := List.getElem?_of_mem ha
    rw [List.getElem?_take] at hj
    split at hj
    · exact hlo j a (by assumption) hj
    · cases hj
  have hhi' : ∀ b ∈ ks.drop i, x < b := fun b hb => by
    obtain ⟨j, hj⟩ := List.getElem?_of_mem hb
    rw [List.getElem?_drop] at hj
    exact hhi (i + j) b (by omega) hj
  refine ⟨h.sublist (List.take_sublist i ks), List.pairwise_cons.2 ⟨hhi', h.sublist (List.drop_sublist i ks)⟩, fun a ha b hb => ?_⟩
  have := hlo' a ha
  rcases List.mem_cons.1 hb with e | hb
  · omega
  · have := hhi' b hb; omega
theorem insK_mem {ks : List Nat} {i x : Nat} (y : Nat) : y ∈ insK ks i x ↔ y ∈ ks ∨ y = x := by
  unfold insK
  have e : ks.take i ++ ks.drop i = ks := List.take_append_drop i ks
  have : y ∈ ks ↔ y ∈ ks.take i ∨ y ∈ ks.drop i := by rw [← List.mem_append, e]
  rw [List.mem_append, List.mem_cons, this]
  constructor
  · rintro (h | h | h)
    · exact Or.inl (Or.inl h)
    · exact Or.inr h
    · exact Or.inl (Or.inr h)
  · rintro ((h | h) | h)
    · exact Or.inl h
    · exact Or.inr (Or.inr h)
    · exact Or.inr (Or.inl h)
theorem Kept.put {S : BitVec 256} {n k : Nat} {D : BitVec 8 → BitVec 8 → Prop} {ks : List Nat} (h : Kept S n k D ks) {m v : BitVec 8} (hp : primB S n m v = true) {i : Nat}
    (hlo : ∀ j y, j < i → ks[j]? = some y → y < keyC m v) (hhi : ∀ j y, i ≤ j → ks[j]? = some y → keyC m v < y) : Kept S n k (fun m' v' => D m' v' ∨ (m' = m ∧ v' = v)) (insK ks i (keyC m v)) := by
  refine ⟨insK_rise h.rise hlo hhi, fun x => (insK_mem x).trans ?_⟩
  rw [h.mem x]
  constructor
  · rintro (⟨m', v', e, p, q⟩ | e)
    · exact ⟨m', v', e, p, q.imp id Or.inl⟩
    · exact ⟨m, v, e, hp, Or.inr (Or.inr ⟨rfl, rfl⟩)⟩
  · rintro ⟨m', v', e, p, q | q | ⟨rfl, rfl⟩⟩
    · exact Or.inl ⟨m', v', e, p, Or.inl q⟩
    · exact Or.inl ⟨m', v', e, p, Or.inr q⟩
    · exact Or.inr e
theorem Kept.fresh {S : BitVec 256} {n k : Nat} {D : BitVec 8 → BitVec 8 → Prop} {ks : List Nat} (h : Kept S n k D ks) {m v : BitVec 8} (hl : lc m + k = n) (hD : ¬ D m v) : keyC m v ∉ ks := by
  intro hx
  obtain ⟨m', v', e, -, q⟩ := (h.mem _).1 hx
  obtain ⟨rfl, rfl⟩ := key_inj e
  rcases q with q | q
  · omega
  · exact hD q
end Go.Proofs.YtehpccanjlaokaaGreat
namespace Go.Proofs.YtehpccanjlaokaaGreat
open Go.RowKit Go.Joins

def cmpI (a b : Nat) : Int := if a < b then -1 else if b < a then 1 else 0
theorem compare8_any (a b : BitVec 8) (w : World) : Calls Tryz.prog 67 #[.int .u8 a.toNat, .int .u8 b.toNat] w fun e w' => e = .returned (.int .i64 (cmpI a.toNat b.toNat)) ∧ w' = w := by
  by_cases h1 : a.toNat < b.toNat
  · have e : cmpI a.toNat b.toNat = -1 := by unfold cmpI; rw [if_pos h1]
    rw [e]
    have d1 : decide ((a.toNat : Int) < b.toNat) = true := decide_eq_true (by omega)
    have d2 : decide (a.toNat < b.toNat) = true := decide_eq_true h1
    clear e
    go_enter Tryz.func67, Tryz.ntmps67
    go_wp2
    go_ret
    exact ⟨rfl, rfl⟩
  · have d1 : decide ((a.toNat : Int) < b.toNat) = false := decide_eq_false (by omega)
    have d2 : decide (a.toNat < b.toNat) = false := decide_eq_false h1
    by_cases h2 : b.toNat < a.toNat
    · have e : cmpI a.toNat b.toNat = 1 := by unfold cmpI; rw [if_neg h1, if_pos h2]
      rw [e]
      have d3 : decide ((b.toNat : Int) < a.toNat) = true := decide_eq_true (by omega)
      have d4 : decide (b.toNat < a.toNat) = true := decide_eq_true h2
      clear e
      go_enter Tryz.func67, Tryz.ntmps67
      go_wp2
      go_ret
      exact ⟨rfl, rfl⟩
    · have e : cmpI a.toNat b.toNat = 0 := by unfold cmpI; rw [if_neg h1, if_neg h2]
      rw [e]
      have d3 : decide ((b.toNat : Int) < a.toNat) = false := decide_eq_false (by omega)
      have d4 : decide (b.toNat < a.toNat) = false := decide_eq_false h2
      clear e
      go_enter Tryz.func67, Tryz.ntmps67
      go_wp2
      go_ret
      exact ⟨rfl, rfl⟩
/-- Of two numbers the first that is not 0. -/
theorem or2_any (x y : Int) (g c : Nat) (w : World) (h0 : w.cell? ⟨g, 0, none⟩ = some (.int .i64 x)) (h1 : w.cell? ⟨g, 1, none⟩ = some (.int .i64 y)) :
    Calls Tryz.prog 88 #[.slice (some ⟨g, 0, none⟩) 2 c] w fun e w' => e = .returned (.int .i64 (if x = 0 then y else x)) ∧ w' = w := by
  go_enter Tryz.func88, Tryz.ntmps88
  go_wp2
  go_loopw [8] (fun t wr => ∃ k : Nat, k ≤ 2 ∧ t = .int .i64 k ∧ wr = w ∧ Hid (1 ≤ k → x = 0) ∧ Hid (2 ≤ k → y = 0)) (fun t _ => 2 - (intOf t).toNat)
  case atStart => exact ⟨0, by omega, rfl, rfl, Lib.hid (by omega), Lib.hid (by omega)⟩
  case round =>
    obtain ⟨k, hk, rfl, rfl, hx, hy⟩ := hrel
    rcases (by omega : k = 0 ∨ k = 1 ∨ k = 2) with rfl | rfl | rfl
    · cases hd : ((x : Int) != 0)
      · have e : x = 0 := by simpa using hd
        clear hx hy
        go_wp2
        go_roundw
        case rel => exact ⟨1, by omega, by simp, by simp, Lib.hid fun _ => e, Lib.hid (by omega)⟩
        case measure => simp [intOf]
      · have e : ¬ x = 0 := by simpa using hd
        have e2 : Hid ((if x = 0 then y else x) = x) := Lib.hid (if_neg e)
        generalize (if x = 0 then y else x) = r at *
        clear hx hy
        go_wp2
        go_ret
        exact ⟨rfl, rfl⟩
    · have e := hx.out (by omega)
      subst e
      cases hd : ((y : Int) != 0)
      · have e : y = 0 := by simpa using hd
        clear hx hy
        go_wp2
        go_roundw
        case rel => exact ⟨2, by omega, by simp, by simp, Lib.hid (by simp), Lib.hid fun _ => e⟩
        case measure => simp [intOf]
      · clear hx hy
        go_wp2
        go_ret
        exact ⟨rfl, rfl⟩
    · have e := hx.out (by omega)
      have e' := hy.out (by omega)
      subst e
      subst e'
      clear hx hy
      go_wp2
      go_ret
      exact ⟨rfl, rfl⟩
theorem cmp_key (m v m' v' : BitVec 8) : (if cmpI m.toNat m'.toNat = 0 then cmpI v.toNat v'.toNat else cmpI m.toNat m'.toNat) = cmpI (keyC m v) (keyC m' v') := by
  unfold cmpI keyC
  have := v.isLt
  have := v'.isLt
  split <;> split <;> (try split) <;> (try split) <;> (try split) <;> (try split) <;> omega
theorem pcompare_any (m v m' v' : BitVec 8) (w : World) : Calls Tryz.prog 59 #[cv m v, cv m' v'] w fun e w' => e = .returned (.int .i64 (cmpI (keyC m v) (keyC m' v'))) ∧ Below w.heap.size w w' := by
  have HM := fun w => compare8_any m m' w
  have HV := fun w => compare8_any v v' w
  have HO := fun g c w h0 h1 => or2_any (cmpI m.toNat m'.toNat) (cmpI v.toNat v'.toNat) g c w h0 h1
  rw [cmp_key] at HO
  generalize cmpI (keyC m v) (keyC m' v') = r at *
  generalize cmpI m.toNat m'.toNat = r1 at *
  generalize cmpI v.toNat v'.toNat = r2 at *
  have hx : ((w.alloc (cb m v)).alloc (cb m' v')).heap[w.heap.size]? = some (cb m v) := by rw [heap_alloc2_old]
  have hy : ((w.alloc (cb m v)).alloc (cb m' v')).heap[w.heap.size + 1]? = some (cb m' v') := by rw [heap_alloc2_new]
  have hb := below_alloc2 w (cb m v) (cb m' v')
  unfold cv cb bvv at *
  go_enter Tryz.func59, Tryz.ntmps59
  go_upto_region 1 with (fail)
  generalize (w.alloc _).alloc _ = W at *
  obtain ⟨x0, x1, -⟩ := box2 hx rfl
  obtain ⟨y0, y1, -⟩ := box2 hy rfl
  refine wp_region_mid_after 10 _ rfl rfl (by kernel_rfl) (by kernel_rfl) ?_
  simp only [List.take_succ_cons, List.take_zero, List.drop_succ_cons, List.drop_zero]
  repeat (first | go_big_quiet_step (first | (go_at_call_of 67 (Value.int .u8 m.toNat); exact Calls.after_of ((HM _).mono fun e w' ⟨h, h'⟩ => ⟨h, by rw [h']; exact Below.refl _ _⟩)) | (go_at_call_of 67 (Value.int .u8 v.toNat); exact Calls.after_of ((HV _).mono fun e w' ⟨h, h'⟩ => ⟨h, by rw [h']; exact Below.refl _ _⟩))))
  refine wpQuiet_nil ?_
  intro z K hK
  go_simp
  refine hK.out _ _ ?_
  clear hK x0 x1 y0 y1 hx hy HM HV
  have hz := heap_alloc_new z.1 (.cells #[.int .i64 r1, .int .i64 r2] 3)
  have hbz := (hb.trans (z.2.mono hb.size)).alloc (hb.trans (z.2.mono hb.size)).size (.cells #[.int .i64 r1, .int .i64 r2] 3)
  generalize hW2 : z.1.alloc _ = w2 at *
  generalize z.1.heap.size = zb at *
  clear hW2 z hb
  obtain ⟨z0, z1, -⟩ := now2 hz rfl
  have HO1 := HO zb 2 w2 z0 z1
  clear HO
  repeat (first | go_big_quiet_step ((exact HO1 _)))
  refine wpQuiet_nil ?_
  go_wp2
  go_ret
  exact ⟨rfl, hbz⟩
end Go.Proofs.YtehpccanjlaokaaGreat
