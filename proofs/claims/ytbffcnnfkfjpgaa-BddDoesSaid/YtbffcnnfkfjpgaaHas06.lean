/- What an id is asked: whether a point is in its set, the set, how many nodes it leads to; and what is kept. -/
import Derived.Test.YtbffcnnfkfjpgaaMem06
namespace Go.Proofs.Ytbffcnnfkfjpgaa
open Go.RowKit Go.Joins

theorem intsV_at {l : List Nat} {j i : Nat} (h : l[j]? = some i) : (intsV l)[j]? = some (.int .i64 (i : Int)) := by unfold intsV; simp [h]
theorem row_at {w : World} {B : Nat} {ov : Value} {o : List Nat} (h : w.ownsRow B 3 1 ov o.length (intsV o)) {j i : Nat} (hj : o[j]? = some i) : ∃ g c, ov = .slice (some ⟨g, 0, none⟩) o.length c ∧ w.cell? ⟨g, j, none⟩ = some (.int .i64 (i : Int)) := by
  have hl := (List.getElem?_eq_some_iff.1 hj).1
  obtain ⟨g, c, e⟩ := own_some h (by omega)
  subst e
  exact ⟨g, c, rfl, (h.cellAt j (by simpa using hl)).trans (intsV_at hj)⟩
theorem i64_nat (op : Bool) (a b : Nat) (ha : a < 4611686018427387904) (hb : b < 4611686018427387904) : bits (if op then .or else .and) .i64 (a : Int) (b : Int) = (((if op then a ||| b else a &&& b) : Nat) : Int) := by
  have ea : (BitVec.ofInt 64 (a : Int)).toNat = a := by rw [BitVec.ofInt_natCast, BitVec.toNat_ofNat]; omega
  have eb : (BitVec.ofInt 64 (b : Int)).toNat = b := by rw [BitVec.ofInt_natCast, BitVec.toNat_ofNat]; omega
  cases op
  · show IntKind.i64.wrap (((BitVec.ofInt 64 (a : Int) &&& BitVec.ofInt 64 (b : Int)).toNat : Nat) : Int) = ((a &&& b : Nat) : Int)
    rw [BitVec.toNat_and, ea, eb, IntKind.wrap_i64]
    have := Nat.and_le_left (n := a) (m := b)
    omega
  · show IntKind.i64.wrap (((BitVec.ofInt 64 (a : Int) ||| BitVec.ofInt 64 (b : Int)).toNat : Nat) : Int) = ((a ||| b : Nat) : Int)
    rw [BitVec.toNat_or, ea, eb, IntKind.wrap_i64]
    have : a ||| b < 2 ^ 62 := Nat.or_lt_two_pow (by omega) (by omega)
    omega
theorem bit_of (p i : Nat) (hp : p < 256) : (bits BinOp.and IntKind.i64 ((p : Int) / 2 ^ i) 1 == 1) = p.testBit i := by
  have e : ((p : Int) / 2 ^ i) = ((p / 2 ^ i : Nat) : Int) := by simp
  have hlt : p / 2 ^ i ≤ p := Nat.div_le_self _ _
  have h := i64_nat false (p / 2 ^ i) 1 (by omega) (by decide)
  simp only [Bool.false_eq_true, if_false] at h
  rw [e, show (1 : Int) = ((1 : Nat) : Int) from rfl, h, Nat.and_one_is_mod, Nat.testBit_eq_decide_div_mod_eq, Bool.eq_iff_iff]
  simp
  omega
set_option maxHeartbeats 1000000 in
theorem bhas_any {w : World} {B bb ab bm : Nat} {ov v : Value} {room full : Nat} {S : St} {o : List Nat} (h : BdAt w B bb ab bm ov v room full S o) (id : Int) (h0 : 0 ≤ lvl S id) (p : Nat) (hp : p < 256) :
    Calls Try.prog 33 #[.pointer (some ⟨bb, 0, none⟩), .int .i64 id, .int .i64 p] w fun e w' => e = .returned (.bool (says S (bitsOf o p) id)) ∧ Below w.heap.size w w' := by
  have hV := h.rst.vst
  have hord := h.ord
  have h8 := h.eight
  obtain ⟨c0, c1, cf⟩ := now2 h.head rfl
  obtain ⟨A, c, rfl⟩ := own_form h.row
  go_enter Try.func33, Try.ntmps33
  go_wp2
  go_loopw [1, 14] (fun s t wr => ∃ (k : Nat) (x : Int), k ≤ o.length ∧ s = .int .i64 x ∧ t = .int .i64 k ∧ Hid ((k : Int) ≤ lvl S x ∧ says S (bitsOf o p) x = says S (bitsOf o p) id) ∧ Below w.heap.size w wr) (fun _ t _ => o.length - (intOf t).toNat)
  case atStart => exact ⟨0, id, by omega, rfl, rfl, Lib.hid ⟨h0, rfl⟩, Below.refl _ _⟩
  case round =>
    clear c0 c1 cf
    obtain ⟨k, x, hk, rfl, rfl, hx, hb⟩ := hrel
    have hr := h.below hb
    by_cases hlt : k < o.length
    · obtain ⟨i, hi⟩ : ∃ i, o[k]? = some i := ⟨_, List.getElem?_eq_getElem hlt⟩
      have hi8 : i < 8 := by have := hord.lt i (List.mem_of_getElem? hi); omega
      obtain ⟨g, c', e, q⟩ := row_at hr.row hi
      obtain rfl : A = some ⟨g, 0, none⟩ := by injection e
      have HH := bhalf_any hr x k (p.testBit i)
      have hbit := bit_of p i hp
      have hp2 : (p : Int) / 2 ^ i = ((p / 2 ^ i : Nat) : Int) := by simp
      have hx' : Hid (((k : Int) + 1) ≤ lvl S (halfI S x k (p.testBit i)) ∧ says S (bitsOf o p) (halfI S x k (p.testBit i)) = says S (bitsOf o p) id) := Lib.hid ⟨half_lvl hV hx.out.1 (by omega) _, by
        have hs := half_says hV (bitsOf o p) (id := x) (l := k)
        have e : bitsOf o p k = p.testBit i := by unfold bitsOf; rw [List.getD_eq_getElem?_getD, hi]; rfl
        rw [e] at hs
        exact hs.trans hx.out.2⟩
      clear hx hi hp2
      go_wp2_with fail
      refine HH.mono ?_
      rintro e w1 ⟨rfl, hb1⟩
      go_wp2
      go_roundw
      case rel => exact ⟨k + 1, _, by omega, rfl, by go_num, Lib.hid (by have := hx'.out; exact ⟨by omega, this.2⟩), hb.trans (hb1.mono hb.size)⟩
      case measure => simp [intOf]; omega
    · have hR : Hid (says S (bitsOf o p) id = (x == 1)) := Lib.hid (by
        rw [← hx.out.2]
        have he : x = 0 ∨ x = 1 := by
          rcases lvl_kind (S := S) (id := x) (by have := hx.out.1; omega) with he | ⟨j, m, rfl, hm, hl⟩
          · exact he
          · have h1 := h.lst j m hm
            have h2 := hx.out.1
            omega
        rcases he with rfl | rfl
        · rw [says_zero]; rfl
        · rw [says_one]; rfl)
      clear hx
      go_wp2
      go_ret
      exact ⟨by rw [hR.out]; rfl, hb⟩
/-- The set that an id says. -/
def setOf (o : List Nat) (S : St) (id : Int) : BitVec 256 := bvOf fun p => decide (p < 2 ^ o.length) && says S (bitsOf o p) id
theorem two_eight {n : Nat} (h : n ≤ 8) : 2 ^ n ≤ 256 := Nat.pow_le_pow_right (n := 2) (by decide) h
theorem setOf_eq {o : List Nat} (ho : OrdOk o) {S : St} {id : Int} {X : BitVec 256} (hX : ∀ p, 2 ^ o.length ≤ p → X.getLsbD p = false) (h : ∀ c, says S c id = setF o X c) : setOf o S id = X := by
  unfold setOf
  refine bvOf_eq _ _ fun p hp => ?_
  by_cases hlt : p < 2 ^ o.length
  · rw [decide_eq_true hlt, Bool.true_and, h]
    unfold setF
    rw [ptOf_bits ho hlt]
  · rw [decide_eq_false hlt, Bool.false_and, hX p (by omega)]
/-- The points below k of it. -/
def setUp (o : List Nat) (S : St) (id : Int) (k : Nat) : BitVec 256 := bvOf fun p => decide (p < k) && says S (bitsOf o p) id
theorem setUp_zero (o : List Nat) (S : St) (id : Int) : setUp o S id 0 = 0 := bvOf_eq _ _ fun p _ => by simp
theorem getLsbD_bvOf (g : Nat → Bool) (p : Nat) (hp : p < 256) : (bvOf g).getLsbD p = g p := by
  rw [bvOf_bit]; simp [hp]
theorem setUp_no {o : List Nat} {S : St} {id : Int} {k : Nat} (h : says S (bitsOf o k) id = false) : setUp o S id (k + 1) = setUp o S id k := by
  refine bvOf_eq _ _ fun p hp => ?_
  unfold setUp
  rw [getLsbD_bvOf _ p hp]
  by_cases e : p = k
  · subst e; rw [h]; simp
  · have : decide (p < k + 1) = decide (p < k) := by rw [Bool.eq_iff_iff]; simp; omega
    rw [this]
theorem setUp_yes {o : List Nat} {S : St} {id : Int} {k : Nat} (hk : k < 256) (h : says S (bitsOf o k) id = true) : addB (setUp o S id k) k = setUp o S id (k + 1) := by
  unfold addB
  rw [if_pos (by omega)]
  symm
  refine bvOf_eq _ _ fun p hp => ?_
  rw [BitVec.getLsbD_or, BitVec.getLsbD_twoPow]
  unfold setUp
  rw [getLsbD_bvOf _ p hp]
  by_cases e : p = k
  · subst e; rw [h]; simp [hp]
  · have : decide (p < k + 1) = decide (p < k) := by rw [Bool.eq_iff_iff]; simp; omega
    rw [this]
    have : decide (((k : Int)).toNat = p) = false := decide_eq_false (by omega)
    rw [this]; simp
theorem w64_pow (n : Nat) (h : n ≤ 8) : wrap64 ((2 : Int) ^ n) = ((2 ^ n : Nat) : Int) := by
  have h2 := two_eight h
  have e : ((2 : Int) ^ n) = ((2 ^ n : Nat) : Int) := by simp
  rw [e]
  generalize 2 ^ n = m at h2
  unfold wrap64
  omega
theorem setUp_all (o : List Nat) (S : St) (id : Int) : setUp o S id (2 ^ o.length) = setOf o S id := rfl
set_option maxHeartbeats 1000000 in
theorem bset_any {w : World} {B bb ab bm : Nat} {ov v : Value} {room full : Nat} {S : St} {o : List Nat} (h : BdAt w B bb ab bm ov v room full S o) (id : Int) (h0 : 0 ≤ lvl S id) :
    Calls Try.prog 11 #[.pointer (some ⟨bb, 0, none⟩), .int .i64 id] w fun e w' => e = .returned (.tuple #[sv (setOf o S id), .int .i64 0]) ∧ Below w.heap.size w w' := by
  have hn := two_eight h.eight
  have h8 := h.eight
  have hB0 := below_alloc2 w (.cells #[.int .u64 0, .int .u64 0, .int .u64 0, .int .u64 0] 25 (0, 0)) (.cells #[.int .i64 id] 3 (0, 0))
  have hU := uses_any (h.below hB0) (w.heap.size + 1) 1 [id] (by simp) (fun j x hj => by
    match j, hj with
    | 0, hj => simp at hj; subst hj; rw [cell_of_block (heap_alloc2_new _ _ _)]; rfl)
  have hu : usedB S id = true := by unfold usedB; exact decide_eq_true h0
  simp only [List.length_cons, List.length_nil, List.all_cons, List.all_nil, hu, Bool.and_true, Nat.zero_add] at hU
  have hr0 := heap_alloc2_old w (.cells #[.int .u64 0, .int .u64 0, .int .u64 0, .int .u64 0] 25 (0, 0)) (.cells #[.int .i64 id] 3 (0, 0))
  have hz0 : (w.alloc (.cells #[.int .u64 0, .int .u64 0, .int .u64 0, .int .u64 0] 25 (0, 0))).heap.size + 0 = w.heap.size + 1 := by simp
  clear hu
  go_enter Try.func11, Try.ntmps11
  go_wp2_with fail
  refine hU.mono ?_
  rintro e w1 ⟨rfl, hb1⟩
  have hB1 := hB0.trans (hb1.mono hB0.size)
  have hr1 := keep_blk hb1 hr0
  have hd1 := h.below hB1
  have hw1 : w.heap.size < w1.heap.size := size_of_block hr1
  clear hU hB0 hb1 hr0 hz0
  have hs2 := heap_alloc_new w1 (.cells #[.int .u64 0, .int .u64 0, .int .u64 0, .int .u64 0] 25 (0, 0))
  have hr2 := keep_alloc (x := .cells #[.int .u64 0, .int .u64 0, .int .u64 0, .int .u64 0] 25 (0, 0)) hr1
  have hB2 := hB1.alloc hB1.size (.cells #[.int .u64 0, .int .u64 0, .int .u64 0, .int .u64 0] 25 (0, 0))
  have hd2 := h.below hB2
  obtain ⟨A, c, rfl⟩ := own_form h.row
  obtain ⟨c0, c1, cf⟩ := now2 hd2.head rfl
  obtain ⟨N, hN⟩ : ∃ N, N = 2 ^ o.length := ⟨_, rfl⟩
  have hwr : wrap64 ((2 : Int) ^ o.length) = (N : Int) := by rw [hN]; exact w64_pow _ h8
  have hNN := Lib.hid hN
  rw [← hN] at hn
  have hS0 : w1.heap.size < (w1.alloc (.cells #[.int .u64 0, .int .u64 0, .int .u64 0, .int .u64 0] 25 (0, 0))).heap.size := by simp
  clear hN
  go_wp2
  rw [hwr]
  go_loopw [7, 20] (fun _ t wr => ∃ k : Nat, k ≤ N ∧ t = .int .i64 k ∧ wr.heap[w1.heap.size]? = some (.cells (sa (setUp o S id k)) 25 (0, 0)) ∧ wr.heap[w.heap.size]? = some (.cells #[.int .u64 0, .int .u64 0, .int .u64 0, .int .u64 0] 25 (0, 0)) ∧ Below w.heap.size w wr) (fun _ t _ => N - (intOf t).toNat)
  case atStart => exact ⟨0, by omega, rfl, by rw [setUp_zero]; exact hs2, hr2, hB2⟩
  case round =>
    clear hs2 hr2 hB2 hd2 c0 c1 cf hwr
    obtain ⟨k, hk, rfl, hs, hr, hb⟩ := hrel
    by_cases hlt : k < N
    · have HH := bhas_any (h.below hb) id h0 k (by omega)
      cases hsay : says S (bitsOf o k) id
      · rw [hsay] at HH
        have hst := Lib.hid (setUp_no (o := o) hsay)
        clear hsay
        go_wp2_with fail
        refine HH.mono ?_
        rintro e w2 ⟨rfl, hb2⟩
        go_wp2
        go_roundw
        case rel => exact ⟨k + 1, by omega, by go_num, by rw [hst.out]; exact keep_blk hb2 hs, keep_blk hb2 hr, hb.trans (hb2.mono hb.size)⟩
        case measure => simp [intOf]; omega
      · rw [hsay] at HH
        have hst := Lib.hid (setUp_yes (o := o) (by omega) hsay)
        clear hsay
        go_wp2_with fail
        refine HH.mono ?_
        rintro e w2 ⟨rfl, hb2⟩
        have hs2 := keep_blk hb2 hs
        have hr2 := keep_blk hb2 hr
        have hb2' := hb.trans (hb2.mono hb.size)
        have HW := fun w => withAny (setUp o S id k) k w
        rw [hst.out] at HW
        clear HH hs hr hb hb2
        obtain ⟨s0, s1, s2, s3, sf⟩ := now4 hs2 rfl
        unfold sv wv at HW
        unfold wv at s0 s1 s2 s3
        go_wp2_with fail
        refine (HW _).mono ?_
        rintro e w3 ⟨rfl, hb3⟩
        have hs3 := keep_blk hb3 hs2
        have hr3 := keep_blk hb3 hr2
        have hb3' := hb2'.trans (hb3.mono hb2'.size)
        clear HW hs2 hr2 hb2' hb3 s0 s1 s2 s3 sf
        obtain ⟨s0, s1, s2, s3, sf⟩ := now4 hs3 rfl
        unfold wv at s0 s1 s2 s3
        go_wp2
        go_roundw
        case rel => exact ⟨k + 1, by omega, by go_num, put4 hs3, keep_set4 (by omega) hr3, below4 (by omega) hb3'⟩
        case measure => simp [intOf]; omega
    · have hkN : k = 2 ^ o.length := by rw [← hNN.out]; omega
      have hset : setUp o S id k = setOf o S id := by rw [hkN]; rfl
      rw [hset] at hs
      obtain ⟨s0, s1, s2, s3, sf⟩ := now4 hs rfl
      obtain ⟨r0, r1, r2, r3, rf⟩ := now4 hr rfl
      unfold wv at s0 s1 s2 s3
      clear hkN hset
      go_wp2
      unfold sv wv
      obtain ⟨q0, q1, q2, q3, -⟩ := now4 (put4 (x0 := .int .u64 (wd (setOf o S id) 0).toNat) (x1 := .int .u64 (wd (setOf o S id) 1).toNat) (x2 := .int .u64 (wd (setOf o S id) 2).toNat) (x3 := .int .u64 (wd (setOf o S id) 3).toNat) hr) rfl
      exact bodyPost_ret (v := .tuple #[.agg #[.int .u64 (wd (setOf o S id) 0).toNat, .int .u64 (wd (setOf o S id) 1).toNat, .int .u64 (wd (setOf o S id) 2).toNat, .int .u64 (wd (setOf o S id) 3).toNat], .int .i64 0]) (by simp [results, Try.results11, go_sem, q0, q1, q2, q3]) rfl
        ⟨rfl, below4 (Nat.le_refl _) hb⟩
theorem bsize_any {w : World} {B bb ab bm : Nat} {ov v : Value} {room full : Nat} {S : St} {o : List Nat} (h : BdAt w B bb ab bm ov v room full S o) (id : Int) (h0 : 0 ≤ lvl S id) :
    Calls Try.prog 12 #[.pointer (some ⟨bb, 0, none⟩), .int .i64 id] w fun e w' => e = .returned (.int .i64 (sizeB (fun c => says S c id) o.length o.length)) ∧ Below w.heap.size w w' := by
  have HR := reach_any h.ar h.ok id
  obtain ⟨c0, c1, cf⟩ := now2 h.head rfl
  have h24 : o.length ≤ 24 := by have := h.eight; omega
  have hsz := Lib.hid (fun f hf => size_says h.rst h.lst h24 h0 (f := f) hf)
  go_enter Try.func12, Try.ntmps12
  go_wp2_with fail
  refine HR.mono ?_
  rintro e w1 ⟨v1, f, rfl, hf, ho1, hb1⟩
  have hlen : Hid (((idsK f S.length).length : Int) = ((sizeB (fun c => says S c id) o.length o.length : Nat) : Int)) := Lib.hid (by rw [← hsz.out f hf]; rfl)
  obtain ⟨A, c, rfl⟩ := own_form ho1
  clear hf ho1
  go_wp2
  go_ret
  exact ⟨by rw [← hlen.out]; rfl, hb1⟩
/-- What is kept. -/
def SweptTo (w : World) (B bb ab bm : Nat) (ov v : Value) (room : Nat) (S : St) (o : List Nat) (K : List Int) (e : Ending) (w' : World) : Prop :=
  e = .returned (.tuple #[]) ∧ ∃ f : Nat → Bool, (∀ i, i < S.length → (f i = true ↔ Rch S K i)) ∧ BdAt w' B bb ab bm ov v room 0 (swp S f) o ∧ Below B w w' ∧ Kep (· = bm) w w'
theorem bsweep_any {w : World} {B bb ab bm : Nat} {ov v : Value} {room full : Nat} {S : St} {o : List Nat} (h : BdAt w B bb ab bm ov v room full S o) (kv : Value) (K : List Int) (hK : IntsAt w w.heap.size kv K) :
    Calls Try.prog 26 #[.pointer (some ⟨bb, 0, none⟩), kv] w (SweptTo w B bb ab bm ov v room S o K) := by
  have HS := sweep_any h.ar h.ok kv K hK
  obtain ⟨c0, c1, cf⟩ := now2 h.head rfl
  go_enter Try.func26, Try.ntmps26
  go_wp2_with fail
  refine HS.mono ?_
  rintro e w1 ⟨rfl, f, hf, hA, hO, hoff⟩
  have hk := Kep.of_off h.ar hoff
  have hd := h.kep hk hA hO (h.rst.swept hf) (h.lst.swept f)
  have hb := h.ar.off_below hoff
  go_wp2
  go_end0
  exact ⟨rfl, f, hf, hd, hb, hk⟩
end Go.Proofs.Ytbffcnnfkfjpgaa
