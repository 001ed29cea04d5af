/- What the document's answers of layer 2 come to, for every input. What the document's Cube and Right of layer 2 come to. What the document's Right and Has of layer 2 come to. What the document's Points and Text of layer 2 come to. Primes of a set, plain: what is within, what is prime, the row of all primes; each cube within is held by a prime. The member of a row and the row of a member, plain. A text that is a cube's is the text of its cube, and a cube is what its text is parsed to. Tables of layer 3 and their texts, plain: what a table's text is, what a text is parsed to, and that one is the other's way back. A right table's text is parsed to the table. A slice that reads as numbers. A table in memory: its lines are a slice, of each line the outputs are one; a line that is too long, or too many of them. A slice of sets in memory. -/
import Derived.Test.YtehpccanjlaokaaGreatGQ05
import Derived.Test.YtehpccanjlaokaaGreatGQ03
import Derived.Lib.IndexMore
import Derived.Lib.Strings
namespace Go.Proofs.YtehpccanjlaokaaGreat
open Go.RowKit Go.Joins

def litV (m v : BitVec 8) (k : Nat) : List Value := (List.range k).map fun i => Value.int .i64 (lit m v i : Nat)
theorem litV_succ (m v : BitVec 8) (k : Nat) : litV m v (k + 1) = litV m v k ++ [.int .i64 (lit m v k : Nat)] := by
  unfold litV; rw [List.range_succ, List.map_append]; rfl
theorem litV_get (m v : BitVec 8) (n i : Nat) (h : i < n) : (litV m v n)[i]? = some (.int .i64 (lit m v i : Nat)) := by
  unfold litV; simp [h]
theorem bit_mod (x : BitVec 8) (k : Nat) : x.toNat / 2 ^ k % 2 = if x.getLsbD k then 1 else 0 := by
  simp only [BitVec.getLsbD, Nat.testBit_eq_decide_div_mod_eq]
  by_cases h : x.toNat / 2 ^ k % 2 = 1
  · simp [h]
  · have : x.toNat / 2 ^ k % 2 = 0 := by omega
    simp [this]
set_option maxHeartbeats 1000000 in
set_option maxRecDepth 1000000 in
theorem lits_own (m v : BitVec 8) (w : World) :
    Calls Tryz.prog 71 #[cv m v] w fun e w' => ∃ r, e = .returned r ∧ w'.ownsRow w.heap.size 3 1 r 8 (litV m v 8) ∧ Below w.heap.size w w' := by
  obtain ⟨i0, hi, hz0, hz1, hz2⟩ := info_parts Tryz.infoInt
  unfold cv bvv
  go_enter Tryz.func71, Tryz.ntmps71
  go_wp2
  generalize hW : w.alloc (cb m v) = W
  obtain ⟨a0, a1, -⟩ := box2 (by rw [← hW]; exact heap_alloc_new _ _ : W.heap[w.heap.size]? = _) rfl
  have hB : Below w.heap.size w W := by rw [← hW]; exact below_alloc1 _ _
  have hs : w.heap.size < W.heap.size := by rw [← hW]; simp
  clear hW
  refine wp_region_after (by kernel_rfl) (by kernel_rfl) ?_
  repeat (first | go_big_quiet_step (fail))
  refine wpQuiet_nil ?_
  intro x
  have hBx := hB.trans (x.2.mono hB.size)
  have hsx : w.heap.size < x.1.heap.size := Nat.lt_of_lt_of_le hs x.2.size
  clear a0 a1
  generalize x.1 = wx at *
  clear hB hs
  go_wp2
  go_loopw [3, 4, 5, 6] (fun r a b i wr => ∃ k : Nat, k ≤ 8 ∧ i = .int .i64 k ∧ a = .int .u8 (m.toNat / 2 ^ k : Nat) ∧ b = .int .u8 (v.toNat / 2 ^ k : Nat) ∧ wr.ownsRow (w.heap.size + 1) 3 1 r k (litV m v k) ∧ w.heap.size < wr.heap.size ∧ Below w.heap.size w wr) (fun _ _ _ i _ => 8 - (intOf i).toNat)
  case atStart => exact ⟨0, by omega, rfl, by simp, by simp, World.ownsRow_nil _ _ _ _, hsx, hBx⟩
  case round =>
    clear hBx hsx
    obtain ⟨k, hk, rfl, rfl, rfl, hown, hsz, hb⟩ := hrel
    by_cases hlt : k < 8
    · have hsucc := Lib.hid (litV_succ m v k)
      have hm1 := Lib.hid (half_step m.toNat k)
      have hv1 := Lib.hid (half_step v.toNat k)
      have hml : m.toNat / 2 ^ k < 256 := Nat.lt_of_le_of_lt (Nat.div_le_self _ _) m.isLt
      have hvl : v.toNat / 2 ^ k < 256 := Nat.lt_of_le_of_lt (Nat.div_le_self _ _) v.isLt
      have hmb := bit_mod m k
      have hvb := bit_mod v k
      cases hmk : m.getLsbD k
      · rw [hmk] at hmb
        have hlit : Hid (lit m v k = 2) := Lib.hid (by unfold lit; rw [hmk]; rfl)
        generalize hq : m.toNat / 2 ^ k = q at *
        generalize hp : v.toNat / 2 ^ k = p at *
        have hmq : ((q : Int) % 2 == 0) = true := by rw [beq_iff_eq]; simp at hmb; omega
        clear hmb hvb hmk hq hp
        go_wp2_with (at_builtin; go_loud (refine wpList_append_own _ rfl _ _ 36 rfl (w.heap.size + 1) 3 i0 (.int .i64 0) 1 8 Tryz.underlying36 hi hz0 hz1 hz2 rfl (by decide) _ _ _ rfl (hown.alloc _) ⟨wr.heap.size, 0, none⟩ 1 1 [.int .i64 2] rfl rfl ?c1 ?c2 ?c3 ?c4 ?c5 ?_))
        case c1 => exact cell_one_new _ _ _
        case c2 => intro u hu; simp at hu; subst hu; rfl
        case c3 => unfold maxLen; omega
        case c4 => omega
        case c5 => simp; omega
        intro v' w2 hown2 hgrow _
        have hR : w.heap.size < w2.heap.size ∧ Below w.heap.size w w2 :=
          ⟨by have := hgrow.size; simp at this; omega, grown_below hown hgrow (hb.alloc (by omega) _) (by omega) (by simp; omega)⟩
        clear hgrow hown hb
        go_wp2
        go_roundw
        case rel => exact ⟨k + 1, by omega, by go_num, by rw [← hm1.out]; rfl, by rw [← hv1.out]; rfl, by rw [hsucc.out, hlit.out]; exact hown2, hR.1, hR.2⟩
        case measure => simp [intOf]; omega
      · rw [hmk] at hmb
        have hlit : Hid (lit m v k = v.toNat / 2 ^ k % 2) := Lib.hid (by unfold lit; rw [hmk, hvb]; rfl)
        generalize hq : m.toNat / 2 ^ k = q at *
        generalize hp : v.toNat / 2 ^ k = p at *
        have hmq : ((q : Int) % 2 == 0) = false := by rw [beq_eq_false_iff_ne]; simp at hmb; omega
        clear hmb hvb hmk hq hp
        go_wp2_with (at_builtin; go_loud (refine wpList_append_own _ rfl _ _ 36 rfl (w.heap.size + 1) 3 i0 (.int .i64 0) 1 8 Tryz.underlying36 hi hz0 hz1 hz2 rfl (by decide) _ _ _ rfl (hown.alloc _) ⟨wr.heap.size, 0, none⟩ 1 1 [.int .i64 ((p : Int) % 2)] rfl rfl ?c1 ?c2 ?c3 ?c4 ?c5 ?_))
        case c1 => exact cell_one_new _ _ _
        case c2 => intro u hu; simp at hu; subst hu; rfl
        case c3 => unfold maxLen; omega
        case c4 => omega
        case c5 => simp; omega
        intro v' w2 hown2 hgrow _
        have hR : w.heap.size < w2.heap.size ∧ Below w.heap.size w w2 :=
          ⟨by have := hgrow.size; simp at this; omega, grown_below hown hgrow (hb.alloc (by omega) _) (by omega) (by simp; omega)⟩
        clear hgrow hown hb
        go_wp2
        go_roundw
        case rel => exact ⟨k + 1, by omega, by go_num, by rw [← hm1.out]; rfl, by rw [← hv1.out]; rfl, by rw [hsucc.out, hlit.out, show ((p % 2 : Nat) : Int) = (p : Int) % 2 by omega]; exact hown2, hR.1, hR.2⟩
        case measure => simp [intOf]; omega
    · have e : k = 8 := by omega
      subst e
      go_wp2
      go_ret
      exact ⟨_, rfl, ownsRow_le hown (by omega), hb⟩
/-- The literals lie in cells of their own. -/
def LitsAt (m v : BitVec 8) (b : Nat) (w : World) : Prop := b < w.heap.size ∧ ∀ i, i < 8 → w.cell? ⟨b, i, none⟩ = some (.int .i64 (lit m v i : Nat))
def LitsPost (m v : BitVec 8) (w : World) (e : Ending) (w' : World) : Prop := ∃ b cap : Nat, e = .returned (.slice (some ⟨b, 0, none⟩) 8 cap) ∧ w.heap.size ≤ b ∧ LitsAt m v b w' ∧ Below w.heap.size w w'
theorem lits_any (m v : BitVec 8) (w : World) : Calls Tryz.prog 71 #[cv m v] w (LitsPost m v w) := by
  refine (lits_own m v w).mono ?_
  rintro e w' ⟨r, rfl, hown, hb⟩
  obtain ⟨b, cap, rfl⟩ := ownsRow_form hown (by decide)
  have hl := hown.lt b rfl
  exact ⟨b, cap, rfl, hl.1, ⟨hl.2, fun i hi => by rw [hown.cellAt i (by omega), litV_get m v 8 i hi]⟩, hb⟩
theorem LitsAt.keep {m v : BitVec 8} {b : Nat} {w w1 : World} (h : LitsAt m v b w) (hb : Below w.heap.size w w1) : LitsAt m v b w1 :=
  ⟨Nat.lt_of_lt_of_le h.1 hb.size, fun i hi => After.cell ⟨w1, hb⟩ (h.2 i hi)⟩
end Go.Proofs.YtehpccanjlaokaaGreat
namespace Go.Proofs.YtehpccanjlaokaaGreat
open Go.RowKit Go.Joins

def pw (k : Nat) : Nat := 2 ^ k % 256
end Go.Proofs.YtehpccanjlaokaaGreat
namespace Go.Proofs.YtehpccanjlaokaaGreat
open Go.RowKit Go.Joins

end Go.Proofs.YtehpccanjlaokaaGreat
namespace Go.Proofs.YtehpccanjlaokaaGreat
open Go.RowKit Go.Joins

/-- The flags when the first k points are asked. -/
def pf (m v : BitVec 8) (n k p : Nat) : Bool := decide (p < 2 ^ n) && (!decide (p < k) || fits m v 8 p)
end Go.Proofs.YtehpccanjlaokaaGreat
namespace Go.Proofs.YtehpccanjlaokaaGreat
open Go.RowKit

/-- A byte without its bit i. -/
def drM (m : BitVec 8) (i : Nat) : BitVec 8 := m &&& ~~~(BitVec.twoPow 8 i)
theorem drM_bit (m : BitVec 8) (i j : Nat) : (drM m i).getLsbD j = (m.getLsbD j && !decide (j = i)) := by
  unfold drM
  rw [BitVec.getLsbD_and, BitVec.getLsbD_not, BitVec.getLsbD_twoPow]
  by_cases h : j < 8
  · by_cases e : j = i
    · subst e; simp [h]
    · have e' : ¬ i = j := fun h => e h.symm
      simp [h, e, e']
  · rw [BitVec.getLsbD_of_ge m j (by omega)]; simp
theorem drM_same {m : BitVec 8} {i : Nat} (h : m.getLsbD i = false) : drM m i = m := by
  apply BitVec.eq_of_getLsbD_eq
  intro j _
  rw [drM_bit]
  by_cases e : j = i
  · subst e; rw [h]; rfl
  · simp [e]
theorem drM_and (m v : BitVec 8) (i : Nat) : drM v i &&& drM m i = drM (v &&& m) i := by
  apply BitVec.eq_of_getLsbD_eq
  intro j _
  rw [BitVec.getLsbD_and, drM_bit, drM_bit, drM_bit, BitVec.getLsbD_and]
  cases v.getLsbD j <;> cases m.getLsbD j <;> simp
/-- Is a cube within a set of n inputs? -/
def inB (S : BitVec 256) (n : Int) (m v : BitVec 8) : Bool := rightB m v n && decide (cpts m v n.toNat n.toNat &&& ~~~S = 0)
theorem and_not_zero (A S : BitVec 256) : A &&& ~~~S = 0 ↔ ∀ p, A.getLsbD p = true → S.getLsbD p = true := by
  constructor
  · intro h p hp
    have h1 := congrArg (fun x => x.getLsbD p) h
    have hp2 : p < 256 := by
      rcases Nat.lt_or_ge p 256 with k | k
      · exact k
      · rw [BitVec.getLsbD_of_ge A p k] at hp; cases hp
    simp only [BitVec.getLsbD_and, BitVec.getLsbD_not, hp, hp2, decide_true, Bool.true_and] at h1
    simpa using h1
  · intro h
    apply BitVec.eq_of_getLsbD_eq
    intro p hp
    rw [BitVec.getLsbD_and, BitVec.getLsbD_not]
    cases hA : A.getLsbD p
    · simp
    · simp [h p hA]
theorem inB_iff (S : BitVec 256) (n : Nat) (m v : BitVec 8) : inB S n m v = true ↔ rightB m v n = true ∧ ∀ p, p < 2 ^ n → fits m v n p = true → S.getLsbD p = true := by
  unfold inB
  rw [Bool.and_eq_true, decide_eq_true_iff, Int.toNat_natCast]
  constructor
  · rintro ⟨h1, h2⟩
    have hn : n ≤ 8 := by have := (rightB_iff m v n).1 h1; omega
    refine ⟨h1, fun p hp hf => (and_not_zero _ _).1 h2 p ?_⟩
    rw [cpts_bit _ _ _ _ _ hn, hf, decide_eq_true hp]; rfl
  · rintro ⟨h1, h2⟩
    have hn : n ≤ 8 := by have := (rightB_iff m v n).1 h1; omega
    refine ⟨h1, (and_not_zero _ _).2 fun p hp => ?_⟩
    rw [cpts_bit _ _ _ _ _ hn, Bool.and_eq_true, decide_eq_true_iff] at hp
    exact h2 p hp.1 hp.2
theorem right_lows {m v : BitVec 8} {n : Nat} (h : rightB m v n = true) : n ≤ 8 ∧ m.toNat < 2 ^ n ∧ v.toNat < 2 ^ n ∧ (∀ i, n ≤ i → m.getLsbD i = false) ∧ v &&& m = v := by
  obtain ⟨-, h8, hm, hv⟩ := (rightB_iff m v n).1 h
  rw [Int.toNat_natCast] at hm
  refine ⟨by omega, Nat.lt_pow_two_of_testBit _ fun i hi => hm i hi, lt_of_right hm hv, hm, hv⟩
theorem right_dr {m v : BitVec 8} {n : Int} (i : Nat) (h : rightB m v n = true) : rightB (drM m i) (drM v i) n = true := by
  obtain ⟨h0, h8, hm, hv⟩ := (rightB_iff m v n).1 h
  refine (rightB_iff _ _ _).2 ⟨h0, h8, fun j hj => by rw [drM_bit, hm j hj]; rfl, ?_⟩
  rw [drM_and, hv]
/-- Is it prime? -/
def primB (S : BitVec 256) (n : Int) (m v : BitVec 8) : Bool := inB S n m v && (List.range n.toNat).all fun i => !(m.getLsbD i && inB S n (drM m i) (drM v i))
theorem primB_iff (S : BitVec 256) (n : Int) (m v : BitVec 8) : primB S n m v = true ↔ inB S n m v = true ∧ ∀ i, i < n.toNat → m.getLsbD i = true → inB S n (drM m i) (drM v i) = false := by
  unfold primB
  rw [Bool.and_eq_true, List.all_eq_true]
  constructor
  · rintro ⟨h1, h2⟩
    refine ⟨h1, fun i hi hm => ?_⟩
    have := h2 i (List.mem_range.2 hi)
    rw [hm] at this
    simpa using this
  · rintro ⟨h1, h2⟩
    refine ⟨h1, fun i hi => ?_⟩
    cases hm : m.getLsbD i
    · rfl
    · rw [h2 i (List.mem_range.1 hi) hm]; rfl
theorem holds_dr (m v : BitVec 8) (i : Nat) : holdsB (drM m i) (drM v i) m v = true := by
  rw [holdsB_iff]
  intro j hj
  rw [drM_bit] at hj
  rw [drM_bit]
  cases hm : m.getLsbD j
  · rw [hm] at hj; cases hj
  · rw [hm, Bool.true_and] at hj
    rw [hj, Bool.and_true]
    exact ⟨rfl, rfl⟩
/- THE ROW OF ALL PRIMES: by their keys, 256 times the mask and the value. -/
def kM (k : Nat) : BitVec 8 := BitVec.ofNat 8 (k / 256)
def kV (k : Nat) : BitVec 8 := BitVec.ofNat 8 k
def keyC (m v : BitVec 8) : Nat := 256 * m.toNat + v.toNat
theorem keyC_lt (m v : BitVec 8) : keyC m v < 65536 := by unfold keyC; have := m.isLt; have := v.isLt; omega
theorem kM_key (m v : BitVec 8) : kM (keyC m v) = m := by
  apply BitVec.eq_of_toNat_eq
  unfold kM keyC
  rw [BitVec.toNat_ofNat]
  have := m.isLt; have := v.isLt; omega
theorem kV_key (m v : BitVec 8) : kV (keyC m v) = v := by
  apply BitVec.eq_of_toNat_eq
  unfold kV keyC
  rw [BitVec.toNat_ofNat]
  have := m.isLt; have := v.isLt; omega
theorem key_kk {k : Nat} (h : k < 65536) : keyC (kM k) (kV k) = k := by
  unfold keyC kM kV
  rw [BitVec.toNat_ofNat, BitVec.toNat_ofNat]
  omega
theorem kM_at {m v : Nat} (hm : m < 256) (hv : v < 256) : (kM (256 * m + v)).toNat = m := by
  unfold kM; rw [BitVec.toNat_ofNat]; omega
/-- A cube. -/
structure Cb where
  m : BitVec 8
  v : BitVec 8
def cbK (k : Nat) : Cb := ⟨kM k, kV k⟩
/-- The primes with keys below u. -/
def prmU (S : BitVec 256) (n : Int) (u : Nat) : List Nat := (List.range u).filter fun k => primB S n (kM k) (kV k)
theorem prmU_succ (S : BitVec 256) (n : Int) (u : Nat) : prmU S n (u + 1) = prmU S n u ++ (if primB S n (kM u) (kV u) = true then [u] else []) := by
  unfold prmU
  rw [List.range_succ, List.filter_append]
  congr 1
  cases h : primB S n (kM u) (kV u) <;> simp [h]
theorem prmU_mem (S : BitVec 256) (n : Int) (u k : Nat) : k ∈ prmU S n u ↔ k < u ∧ primB S n (kM k) (kV k) = true := by
  unfold prmU; rw [List.mem_filter, List.mem_range]
theorem prmU_srt (S : BitVec 256) (n : Int) (u : Nat) : (prmU S n u).Pairwise (· < ·) := List.Pairwise.filter _ (List.pairwise_lt_range)
theorem prmU_len (S : BitVec 256) (n : Int) (u : Nat) : (prmU S n u).length ≤ u := by
  have := List.length_filter_le (fun k => primB S n (kM k) (kV k)) (List.range u)
  rwa [List.length_range] at this
/-- Nothing is between: where no key from u to u' is prime. -/
theorem prmU_gap {S : BitVec 256} {n : Int} {u u' : Nat} (h : u ≤ u') (hn : ∀ k, u ≤ k → k < u' → primB S n (kM k) (kV k) = false) : prmU S n u' = prmU S n u := by
  obtain ⟨d, rfl⟩ := Nat.exists_eq_add_of_le h
  clear h
  induction d with
  | zero => rfl
  | succ d ih =>
    rw [show u + (d + 1) = u + d + 1 by omega, prmU_succ, ih (fun k h1 h2 => hn k h1 (by omega)), hn (u + d) (by omega) (by omega)]
    simp
theorem prim_right {S : BitVec 256} {n : Int} {m v : BitVec 8} (h : primB S n m v = true) : rightB m v n = true := by
  have := ((primB_iff S n m v).1 h).1
  unfold inB at this
  rw [Bool.and_eq_true] at this
  exact this.1
theorem prmU_all {S : BitVec 256} {n : Nat} (hn : n ≤ 8) : prmU S n (256 * 2 ^ n) = prmU S n 65536 := by
  have h2 : 2 ^ n ≤ 2 ^ 8 := Nat.pow_le_pow_right (by decide) hn
  refine (prmU_gap (by omega) fun k h1 h2 => ?_).symm
  cases hp : primB S n (kM k) (kV k)
  · rfl
  · obtain ⟨-, hm, -, -, -⟩ := right_lows (prim_right hp)
    have e : 256 * (k / 256) + k % 256 = k := Nat.div_add_mod k 256
    rw [← e, kM_at (by omega) (by omega)] at hm
    omega
/-- All primes, by their keys. -/
def prmL (S : BitVec 256) (n : Int) : List Nat := prmU S n 65536
theorem prmL_mem (S : BitVec 256) (n : Int) (m v : BitVec 8) : keyC m v ∈ prmL S n ↔ primB S n m v = true := by
  unfold prmL
  rw [prmU_mem, kM_key, kV_key]
  exact ⟨fun h => h.2, fun h => ⟨keyC_lt m v, h⟩⟩
def prims (S : BitVec 256) (n : Int) : List Cb := (prmL S n).map cbK
/-- A row of keys that rises and has just the primes is the row of all. -/
theorem rise_ext : ∀ {a b : List Nat}, a.Pairwise (· < ·) → b.Pairwise (· < ·) → (∀ x, x ∈ a ↔ x ∈ b) → a = b
  | [], [], _, _, _ => rfl
  | [], y :: b, _, _, h => absurd ((h y).2 (List.mem_cons_self)) (List.not_mem_nil)
  | x :: a, [], _, _, h => absurd ((h x).1 (List.mem_cons_self)) (List.not_mem_nil)
  | x :: a, y :: b, ha, hb, h => by
    rw [List.pairwise_cons] at ha hb
    have hx := (h x).1 List.mem_cons_self
    have hy := (h y).2 List.mem_cons_self
    have e : x = y := by
      rcases List.mem_cons.1 hx with e | hx
      · exact e
      · rcases List.mem_cons.1 hy with e | hy
        · exact e.symm
        · have := ha.1 y hy; have := hb.1 x hx; omega
    subst e
    rw [rise_ext ha.2 hb.2 fun z => ?_]
    constructor
    · intro hz
      rcases List.mem_cons.1 ((h z).1 (List.mem_cons_of_mem _ hz)) with e | q
      · subst e; exact absurd (ha.1 z hz) (Nat.lt_irrefl _)
      · exact q
    · intro hz
      rcases List.mem_cons.1 ((h z).2 (List.mem_cons_of_mem _ hz)) with e | q
      · subst e; exact absurd (hb.1 z hz) (Nat.lt_irrefl _)
      · exact q
/-- All primes together have just the set's points. -/
theorem point_in {S : BitVec 256} {n p : Nat} (hn : n ≤ 8) (hp : p < 2 ^ n) (hS : S.getLsbD p = true) : inB S n (BitVec.ofNat 8 (2 ^ n - 1)) (BitVec.ofNat 8 p) = true := by
  have h2 : 2 ^ n ≤ 2 ^ 8 := Nat.pow_le_pow_right (by decide) hn
  have hb : ∀ i, (BitVec.ofNat 8 (2 ^ n - 1)).getLsbD i = decide (i < n) := fun i => by
    rw [BitVec.getLsbD_ofNat, Nat.testBit_two_pow_sub_one]
    by_cases h : i < n
    · simp [h, show i < 8 by omega]
    · simp [h]
  have hv : ∀ i, (BitVec.ofNat 8 p).getLsbD i = p.testBit i := fun i => by
    rw [BitVec.getLsbD_ofNat]
    by_cases h : i < 8
    · simp [h]
    · have : p.testBit i = false := Nat.testBit_lt_two_pow (Nat.lt_of_lt_of_le (show p < 2 ^ 8 by omega) (Nat.pow_le_pow_right (by decide) (by omega)))
      simp [this]
  refine (inB_iff S n _ _).2 ⟨(rightB_iff _ _ _).2 ⟨by omega, by omega, fun i hi => by rw [hb]; exact decide_eq_false (by omega), ?_⟩, fun q hq hf => ?_⟩
  · apply BitVec.eq_of_getLsbD_eq
    intro i _
    rw [BitVec.getLsbD_and, hb, hv]
    by_cases h : i < n
    · simp [h]
    · have : p.testBit i = false := Nat.testBit_lt_two_pow (Nat.lt_of_lt_of_le hp (Nat.pow_le_pow_right (by decide) (by omega)))
      simp [this]
  · have e : q = p := Nat.eq_of_testBit_eq fun i => by
      by_cases h : i < n
      · have := (fits_iff _ _ _ _).1 hf i h (by rw [hb]; exact decide_eq_true h)
        rw [this, hv]
      · rw [Nat.testBit_lt_two_pow (Nat.lt_of_lt_of_le hq (Nat.pow_le_pow_right (by decide) (by omega))), Nat.testBit_lt_two_pow (Nat.lt_of_lt_of_le hp (Nat.pow_le_pow_right (by decide) (by omega)))]
    rw [e]; exact hS
theorem fits_holds {m v m' v' : BitVec 8} {n p : Nat} (h : holdsB m v m' v' = true) (hf : fits m' v' n p = true) : fits m v n p = true := by
  rw [holdsB_iff] at h
  rw [fits_iff] at *
  intro i hi hm
  obtain ⟨h1, h2⟩ := h i hm
  rw [hf i hi h1, h2]
end Go.Proofs.YtehpccanjlaokaaGreat
namespace Go.Proofs.YtehpccanjlaokaaGreat
open Go.RowKit

/-- Has the member of a row the item t? -/
def mbF (m v o : BitVec 8) (t : Nat) : Bool := if t < 16 then m.getLsbD (t / 2) && (v.getLsbD (t / 2) == decide (t % 2 = 1)) else decide (t < 20) && o.getLsbD (t - 16)
def memB (m v o : BitVec 8) : Nat := wsum (mbF m v o) 20
def rmM (k : Nat) : BitVec 8 := BitVec.ofNat 8 (wsum (fun i => k.testBit (2 * i) || k.testBit (2 * i + 1)) 8)
def rmV (k : Nat) : BitVec 8 := BitVec.ofNat 8 (wsum (fun i => k.testBit (2 * i + 1)) 8)
def rmO (k : Nat) : BitVec 8 := BitVec.ofNat 8 (wsum (fun j => k.testBit (16 + j)) 4)
/-- Are no items of one input both there, of the first i? -/
def twoB (k i : Nat) : Bool := (List.range i).all fun j => !(k.testBit (2 * j) && k.testBit (2 * j + 1))
def belB (k : Int) : Bool := decide (65536 ≤ k ∧ k < 1048576) && twoB k.toNat 8
theorem twoB_iff (k i : Nat) : twoB k i = true ↔ ∀ j, j < i → (k.testBit (2 * j) && k.testBit (2 * j + 1)) = false := by
  unfold twoB
  rw [List.all_eq_true]
  constructor
  · intro h j hj
    have h1 := h j (List.mem_range.2 hj)
    cases hb : (k.testBit (2 * j) && k.testBit (2 * j + 1))
    · rfl
    · rw [hb] at h1; cases h1
  · intro h j hj
    rw [h j (List.mem_range.1 hj)]; rfl
theorem twoB_succ (k i : Nat) : twoB k (i + 1) = (twoB k i && !(k.testBit (2 * i) && k.testBit (2 * i + 1))) := by
  unfold twoB
  rw [List.range_succ, List.all_append]
  simp
theorem twoB_no {k i : Nat} (hi : i < 8) (h : (k.testBit (2 * i) && k.testBit (2 * i + 1)) = true) : twoB k 8 = false := by
  cases ht : twoB k 8
  · rfl
  · rw [(twoB_iff k 8).1 ht i hi] at h; cases h
theorem ofN_bit {g : Nat → Bool} {n j : Nat} (hn : n ≤ 8) : (BitVec.ofNat 8 (wsum g n)).getLsbD j = (decide (j < n) && g j) := by
  rw [BitVec.getLsbD_ofNat, wsum_bit]
  by_cases h : j < 8
  · simp [h]
  · have : ¬ j < n := by omega
    simp [h, this]
theorem rmM_bit (k j : Nat) : (rmM k).getLsbD j = (decide (j < 8) && (k.testBit (2 * j) || k.testBit (2 * j + 1))) := ofN_bit (by omega)
theorem rmV_bit (k j : Nat) : (rmV k).getLsbD j = (decide (j < 8) && k.testBit (2 * j + 1)) := ofN_bit (by omega)
theorem rmO_bit (k j : Nat) : (rmO k).getLsbD j = (decide (j < 4) && k.testBit (16 + j)) := ofN_bit (by omega)
theorem memB_bit (m v o : BitVec 8) (t : Nat) : (memB m v o).testBit t = (decide (t < 20) && mbF m v o t) := wsum_bit _ _ _
theorem memB_lt (m v o : BitVec 8) : memB m v o < 1048576 := wsum_lt _ 20
theorem memB_even (m v o : BitVec 8) {i : Nat} (hi : i < 8) : (memB m v o).testBit (2 * i) = (m.getLsbD i && !v.getLsbD i) := by
  rw [memB_bit, decide_eq_true (by omega), Bool.true_and]
  unfold mbF
  rw [if_pos (by omega), show 2 * i / 2 = i by omega, decide_eq_false (show ¬ 2 * i % 2 = 1 by omega)]
  cases m.getLsbD i <;> cases v.getLsbD i <;> rfl
theorem memB_odd (m v o : BitVec 8) {i : Nat} (hi : i < 8) : (memB m v o).testBit (2 * i + 1) = (m.getLsbD i && v.getLsbD i) := by
  rw [memB_bit, decide_eq_true (by omega), Bool.true_and]
  unfold mbF
  rw [if_pos (by omega), show (2 * i + 1) / 2 = i by omega, decide_eq_true (show (2 * i + 1) % 2 = 1 by omega)]
  cases m.getLsbD i <;> cases v.getLsbD i <;> rfl
theorem memB_out (m v o : BitVec 8) {j : Nat} (hj : j < 4) : (memB m v o).testBit (16 + j) = o.getLsbD j := by
  rw [memB_bit, decide_eq_true (by omega), Bool.true_and]
  unfold mbF
  rw [if_neg (by omega), decide_eq_true (by omega), Bool.true_and, show 16 + j - 16 = j by omega]
theorem row_m (m v o : BitVec 8) : rmM (memB m v o) = m := by
  apply BitVec.eq_of_getLsbD_eq
  intro j hj
  rw [rmM_bit, decide_eq_true hj, Bool.true_and, memB_even _ _ _ hj, memB_odd _ _ _ hj]
  cases m.getLsbD j <;> cases v.getLsbD j <;> rfl
theorem row_v (m v o : BitVec 8) : rmV (memB m v o) = m &&& v := by
  apply BitVec.eq_of_getLsbD_eq
  intro j hj
  rw [rmV_bit, decide_eq_true hj, Bool.true_and, memB_odd _ _ _ hj, BitVec.getLsbD_and]
theorem row_o (m v o : BitVec 8) : rmO (memB m v o) = o &&& 15#8 := by
  apply BitVec.eq_of_getLsbD_eq
  intro j hj
  rw [rmO_bit, BitVec.getLsbD_and]
  by_cases h : j < 4
  · rw [decide_eq_true h, Bool.true_and, memB_out _ _ _ h]
    rcases (by omega : j = 0 ∨ j = 1 ∨ j = 2 ∨ j = 3) with rfl | rfl | rfl | rfl <;> simp
  · rw [decide_eq_false h, Bool.false_and]
    rcases (by omega : j = 4 ∨ j = 5 ∨ j = 6 ∨ j = 7) with rfl | rfl | rfl | rfl <;> simp
/-- A member, item by item. -/
theorem mb_step (m v o : BitVec 8) {i : Nat} (hi : i < 8) : wsum (mbF m v o) (2 * (i + 1)) = wsum (mbF m v o) (2 * i) + (if lit m v i = 2 then 0 else 2 ^ (2 * i + lit m v i)) := by
  rw [show 2 * (i + 1) = 2 * i + 1 + 1 by omega, wsum, wsum]
  have e0 : mbF m v o (2 * i) = (m.getLsbD i && !v.getLsbD i) := by
    have := memB_even m v o hi
    rw [memB_bit, decide_eq_true (by omega), Bool.true_and] at this
    exact this
  have e1 : mbF m v o (2 * i + 1) = (m.getLsbD i && v.getLsbD i) := by
    have := memB_odd m v o hi
    rw [memB_bit, decide_eq_true (by omega), Bool.true_and] at this
    exact this
  rw [e0, e1]
  unfold lit
  cases m.getLsbD i <;> cases v.getLsbD i <;> simp
theorem mb_out (m v o : BitVec 8) {j : Nat} (hj : j < 4) : wsum (mbF m v o) (16 + (j + 1)) = wsum (mbF m v o) (16 + j) + (if o.getLsbD j = true then 2 ^ (16 + j) else 0) := by
  rw [show 16 + (j + 1) = 16 + j + 1 by omega, wsum]
  have e0 : mbF m v o (16 + j) = o.getLsbD j := by
    have := memB_out m v o hj
    rw [memB_bit, decide_eq_true (by omega), Bool.true_and] at this
    exact this
  rw [e0]
end Go.Proofs.YtehpccanjlaokaaGreat
namespace Go.Proofs.YtehpccanjlaokaaGreat
open Go.RowKit Go.Joins

end Go.Proofs.YtehpccanjlaokaaGreat
namespace Go.Proofs.YtehpccanjlaokaaGreat
open Go.RowKit Go.Joins

/-- A line of a table: a cube, and what it says of the outputs. -/
structure Ln where
  m : BitVec 8
  v : BitVec 8
  o : List Int
end Go.Proofs.YtehpccanjlaokaaGreat
namespace Go.Proofs.YtehpccanjlaokaaGreat
open Go.RowKit Go.Joins

end Go.Proofs.YtehpccanjlaokaaGreat
namespace Go.Proofs.YtehpccanjlaokaaGreat
open Go.RowKit Go.Joins

/-- The slice v reads as the numbers o; what it reads lies below block B. -/
def IntsAt (w : World) (B : Nat) (v : Value) (o : List Int) : Prop :=
  ∃ A c, v = .slice A o.length c ∧ o.length ≤ 9223372036854775807 ∧
    (0 < o.length → ∃ b off, A = some ⟨b, off, none⟩ ∧ b < B ∧ ∀ j x, o[j]? = some x → w.cell? ⟨b, off + j, none⟩ = some (.int .i64 x))
theorem IntsAt.below {w w' : World} {B : Nat} {v : Value} {o : List Int} (h : IntsAt w B v o) (hb : Below B w w') : IntsAt w' B v o := by
  obtain ⟨A, c, e, hl, h⟩ := h
  refine ⟨A, c, e, hl, fun h0 => ?_⟩
  obtain ⟨b, off, eA, hB, hc⟩ := h h0
  exact ⟨b, off, eA, hB, fun j x hx => (hb.cell (p := ⟨b, off + j, none⟩) hB).trans (hc j x hx)⟩
theorem IntsAt.more {w : World} {B B' : Nat} {v : Value} {o : List Int} (h : IntsAt w B v o) (hB : B ≤ B') : IntsAt w B' v o := by
  obtain ⟨A, c, e, hl, h⟩ := h
  refine ⟨A, c, e, hl, fun h0 => ?_⟩
  obtain ⟨b, off, eA, hb, hc⟩ := h h0
  exact ⟨b, off, eA, by omega, hc⟩
end Go.Proofs.YtehpccanjlaokaaGreat
namespace Go.Proofs.YtehpccanjlaokaaGreat
open Go.RowKit Go.Joins

def lv (m v : BitVec 8) (O : Value) : Value := .agg #[bvv m, bvv v, O]
end Go.Proofs.YtehpccanjlaokaaGreat
namespace Go.Proofs.YtehpccanjlaokaaGreat
open Go.RowKit Go.Joins

/-- The slice v reads as the sets Ss; what it reads lies below block B. -/
def SetsAt (w : World) (B : Nat) (v : Value) (Ss : List (BitVec 256)) : Prop :=
  ∃ A c, v = .slice A Ss.length c ∧ Ss.length ≤ 9223372036854775807 ∧
    (0 < Ss.length → ∃ b off, A = some ⟨b, off, none⟩ ∧ b < B ∧ ∀ j X, Ss[j]? = some X → w.cell? ⟨b, off + j * 4, none⟩ = some (wv (wd X 0)) ∧ w.cell? ⟨b, off + j * 4 + 1, none⟩ = some (wv (wd X 1)) ∧
      w.cell? ⟨b, off + j * 4 + 2, none⟩ = some (wv (wd X 2)) ∧ w.cell? ⟨b, off + j * 4 + 3, none⟩ = some (wv (wd X 3)))
theorem SetsAt.below {w w' : World} {B : Nat} {v : Value} {Ss : List (BitVec 256)} (h : SetsAt w B v Ss) (hb : Below B w w') : SetsAt w' B v Ss := by
  obtain ⟨A, c, e, hl, h⟩ := h
  refine ⟨A, c, e, hl, fun h0 => ?_⟩
  obtain ⟨b, off, eA, hB, hc⟩ := h h0
  refine ⟨b, off, eA, hB, fun j X hx => ?_⟩
  obtain ⟨a0, a1, a2, a3⟩ := hc j X hx
  exact ⟨(hb.cell (p := ⟨b, off + j * 4, none⟩) hB).trans a0, (hb.cell (p := ⟨b, off + j * 4 + 1, none⟩) hB).trans a1, (hb.cell (p := ⟨b, off + j * 4 + 2, none⟩) hB).trans a2, (hb.cell (p := ⟨b, off + j * 4 + 3, none⟩) hB).trans a3⟩
theorem SetsAt.more {w : World} {B B' : Nat} {v : Value} {Ss : List (BitVec 256)} (h : SetsAt w B v Ss) (hB : B ≤ B') : SetsAt w B' v Ss := by
  obtain ⟨A, c, e, hl, h⟩ := h
  refine ⟨A, c, e, hl, fun h0 => ?_⟩
  obtain ⟨b, off, eA, hb, hc⟩ := h h0
  exact ⟨b, off, eA, by omega, hc⟩
end Go.Proofs.YtehpccanjlaokaaGreat
