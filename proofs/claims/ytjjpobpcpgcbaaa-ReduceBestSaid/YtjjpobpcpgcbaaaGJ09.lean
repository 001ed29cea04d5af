/- A right table's text is parsed to the table. A table in memory: its lines are a slice, of each line the outputs are one; a line that is too long, or too many of them. What the document's answers of layer 1 come to, for every input. The document's own examples of layer 1, as the statements hold them. -/
import Derived.Test.YtjjpobpcpgcbaaaGJ08
import Derived.Test.YtjjpobpcpgcbaaaGJ03
import Derived.Test.YtjjpobpcpgcbaaaGJ05
import Derived.Test.YtjjpobpcpgcbaaaGJ02
import Derived.StillTailTactics
namespace Go.Proofs.Ytjjpobpcpgcbaaa
open Go.RowKit Go.Joins

theorem pre_ne {a b : UInt8} (h : a ≠ b) (p l : List UInt8) : (a :: p).isPrefixOf (b :: l) = false := by
  show (a == b && p.isPrefixOf l) = false
  rw [beq_false_of_ne h]; rfl
theorem num_i (n : Nat) (h : n ≤ 8) : numB (wordI ++ digL n) wordI 0 8 = ((n : Int), true) := by
  have : ∀ k, k < 9 → numB (wordI ++ digL k) wordI 0 8 = ((k : Int), true) := by decide
  exact this n (by omega)
theorem num_o (n : Nat) (h1 : 1 ≤ n) (h : n ≤ 4) : numB (wordO ++ digL n) wordO 1 4 = ((n : Int), true) := by
  have : ∀ k, k < 5 → 1 ≤ k → numB (wordO ++ digL k) wordO 1 4 = ((k : Int), true) := by decide
  exact this n (by omega) h1
set_option maxRecDepth 100000 in
theorem num_p (n : Nat) (h : n ≤ 64) : numB (wordP ++ digL n) wordP 0 64 = ((n : Int), true) := by
  have : ∀ k, k < 65 → numB (wordP ++ digL k) wordP 0 64 = ((k : Int), true) := by decide +kernel
  exact this n (by omega)
theorem kind_back (k : Int) (h0 : 0 ≤ k) (h : k ≤ 3) : kindOf (kindW k) = some k := by
  have : k = 0 ∨ k = 1 ∨ k = 2 ∨ k = 3 := by omega
  rcases this with h | h | h | h <;> subst h <;> decide
theorem dig_no10 (n : Nat) (h : n ≤ 64) : ∀ c ∈ digL n, c ≠ 10 := by
  have : ∀ k, k < 65 → ∀ c ∈ digL k, c ≠ 10 := by decide +kernel
  exact this n (by omega)
theorem kind_no10 (k : Int) (h0 : 0 ≤ k) (h : k ≤ 3) : ∀ c ∈ kindW k, c ≠ 10 := by
  have : k = 0 ∨ k = 1 ∨ k = 2 ∨ k = 3 := by omega
  rcases this with h | h | h | h <;> subst h <;> decide
theorem litC_ne (x : Nat) : litC x ≠ 10 ∧ litC x ≠ 35 ∧ litC x ≠ 46 := by
  unfold litC; split
  · decide
  · split <;> decide
theorem outC_ne (x : Int) : outC x ≠ 10 := by
  unfold outC; split
  · decide
  · split <;> decide
theorem outC_ok (x : Int) : okC (outC x) = true := by
  unfold outC; split
  · decide
  · split <;> decide
theorem outOf_outC (x : Int) (h0 : 0 ≤ x) (h2 : x ≤ 2) : outOf (outC x) = x := by
  have : x = 0 ∨ x = 1 ∨ x = 2 := by omega
  rcases this with h | h | h <;> subst h <;> decide
theorem row_no10 (l : Ln) (i : Nat) : ∀ c ∈ rowL l i, c ≠ 10 := by
  intro c hc
  unfold rowL at hc
  rw [List.mem_append, List.mem_append, List.mem_singleton] at hc
  rcases hc with (hc | hc) | hc
  · unfold txtL at hc
    obtain ⟨j, _, rfl⟩ := List.mem_map.1 hc
    exact (litC_ne _).1
  · subst hc; decide
  · obtain ⟨x, _, rfl⟩ := List.mem_map.1 hc
    exact outC_ne x
theorem row_len (l : Ln) (i : Nat) : (rowL l i).length = i + 1 + l.o.length := by
  unfold rowL; simp [txtL_len]; omega
theorem row_take (l : Ln) (i : Nat) : (rowL l i).take i = txtL l.m l.v i := by
  unfold rowL
  rw [List.append_assoc, List.take_left' (txtL_len _ _ _)]
theorem row_drop (l : Ln) (i : Nat) : (rowL l i).drop i = 32 :: l.o.map outC := by
  unfold rowL
  rw [List.append_assoc, List.drop_left' (txtL_len _ _ _)]
  rfl
theorem row_drop1 (l : Ln) (i : Nat) : (rowL l i).drop (i + 1) = l.o.map outC := by
  rw [← List.drop_drop, row_drop]; rfl
theorem row_ok {l : Ln} {i : Nat} {n : Int} (h : lineB l i n = true) : rowOk (rowL l i) i n = true := by
  rw [lineB_iff] at h
  obtain ⟨hr, hn, ho⟩ := h
  have h8 : i ≤ 8 := by have := ((rightB_iff l.m l.v i).1 hr).2.1; omega
  unfold rowOk
  simp only [Bool.and_eq_true, decide_eq_true_eq, Int.toNat_natCast]
  refine ⟨⟨⟨by rw [row_len]; omega, by rw [row_drop]; rfl⟩, by rw [row_take]; exact text_ok _ _ _ h8⟩, ?_⟩
  rw [row_drop1, List.all_eq_true]
  intro c hc
  obtain ⟨x, _, rfl⟩ := List.mem_map.1 hc
  exact outC_ok x
theorem row_back {l : Ln} {i : Nat} {n : Int} (h : lineB l i n = true) : rowLn (rowL l i) i = l := by
  rw [lineB_iff] at h
  obtain ⟨hr, hn, ho⟩ := h
  obtain ⟨e1, e2, _⟩ := text_parsed hr
  unfold rowLn
  simp only [Int.toNat_natCast]
  rw [row_take, e1, e2, row_drop1, List.map_map]
  have : l.o.map (outOf ∘ outC) = l.o := by
    conv => rhs; rw [← List.map_id l.o]
    apply List.map_congr_left
    intro x hx
    exact outOf_outC x (ho x hx).1 (ho x hx).2
  rw [this]
theorem row_ne (l : Ln) (i : Nat) : rowL l i ≠ [] := by
  intro h
  have := row_len l i
  rw [h] at this
  simp at this
  omega
theorem row_head (l : Ln) (i : Nat) : ∃ c r, rowL l i = c :: r ∧ c ≠ 35 ∧ c ≠ 46 := by
  cases i with
  | zero => exact ⟨32, l.o.map outC, rfl, by decide, by decide⟩
  | succ i =>
    have h := row_take l (i + 1)
    have e : txtL l.m l.v (i + 1) = litC (lit l.m l.v 0) :: ((List.range i).map fun j => litC (lit l.m l.v (j + 1))) := by
      unfold txtL; rw [List.range_succ_eq_map]; simp
    rw [e] at h
    cases hr : rowL l (i + 1) with
    | nil => exact absurd hr (row_ne l (i + 1))
    | cons c r =>
      rw [hr, List.take_succ_cons] at h
      injection h with h1 _
      exact ⟨c, r, rfl, by rw [h1]; exact (litC_ne _).2.1, by rw [h1]; exact (litC_ne _).2.2⟩
theorem row_skip (l : Ln) (i : Nat) : skipL (rowL l i) = false := by
  obtain ⟨c, r, e, h1, _⟩ := row_head l i
  rw [e]
  unfold skipL
  rw [pre_ne (Ne.symm h1)]; rfl
theorem row_pre (l : Ln) (i : Nat) (w : List UInt8) : (46 :: w).isPrefixOf (rowL l i) = false := by
  obtain ⟨c, r, e, _, h1⟩ := row_head l i
  rw [e, pre_ne (Ne.symm h1)]
theorem row_notE (l : Ln) (i : Nat) : rowL l i ≠ wordE := by
  obtain ⟨c, r, e, _, h1⟩ := row_head l i
  rw [e]
  unfold wordE
  intro h
  injection h with h2 _
  exact h1 h2
theorem step_row {d : Dr} {l : Ln} {i : Nat} (hi : d.i = i) (h4 : 4 ≤ d.last) (h5 : d.last ≤ 5) (hl : lineB l d.i d.n = true) (hlen : d.ls.length < 64) :
    takeD d (rowL l i) = .inr { d with ls := d.ls ++ [l], last := 5 } := by
  unfold takeD
  rw [row_skip]
  unfold stepD
  rw [hi] at hl
  have hk := row_ok hl
  have hb := row_back hl
  rw [← hi] at hk hb
  rw [if_neg (by decide), if_neg (by omega), if_neg (by omega), if_neg (by omega), if_neg (by omega), if_neg (by omega), if_neg (row_notE l i), if_pos hk, if_neg (by omega), hb]
theorem rows_go (i : Nat) (k n : Int) : ∀ (ls done : List Ln) (r : List UInt8) (last said : Int) (m : Nat), (∀ l ∈ ls, lineB l i n = true) → done.length + ls.length ≤ 64 → 4 ≤ last → last ≤ 5 →
    ∃ last' m', 4 ≤ last' ∧ last' ≤ 5 ∧ pGo (rowsL ls i ++ r) [] ⟨k, i, n, done, last, said⟩ m = pGo r [] ⟨k, i, n, done ++ ls, last', said⟩ m' := by
  intro ls
  induction ls with
  | nil => intro done r last said m _ _ h4 h5; exact ⟨last, m, h4, h5, by simp [rowsL]⟩
  | cons l ls ih =>
    intro done r last said m hl hlen h4 h5
    have e : rowsL (l :: ls) i ++ r = rowL l i ++ [10] ++ (rowsL ls i ++ r) := by simp [rowsL]
    rw [e, pGo_ok (row_no10 l i) (step_row (d := ⟨k, i, n, done, last, said⟩) (l := l) (i := i) rfl h4 h5 (hl l (by simp)) (by simp at hlen ⊢; omega))]
    obtain ⟨last', m', a, b, h⟩ := ih (done ++ [l]) r 5 said (m + 1) (fun x hx => hl x (by simp [hx])) (by simp at hlen ⊢; omega) (by omega) (by omega)
    refine ⟨last', m', a, b, ?_⟩
    show pGo _ [] ⟨k, i, n, done ++ [l], 5, said⟩ (m + 1) = _
    rw [h]
    simp
theorem rowsL_len (i : Nat) (hi : i ≤ 8) (n : Int) (hn : n ≤ 4) : ∀ ls : List Ln, (∀ l ∈ ls, lineB l i n = true) → (rowsL ls i).length ≤ ls.length * 14 := by
  intro ls
  induction ls with
  | nil => intro _; simp [rowsL]
  | cons l ls ih =>
    intro h
    have h1 := ih fun x hx => h x (by simp [hx])
    have h2 := ((lineB_iff _ _ _).1 (h l (by simp))).2.1
    have e : rowsL (l :: ls) i = rowL l i ++ [10] ++ rowsL ls i := by simp [rowsL]
    rw [e, List.length_append, List.length_append, row_len, List.length_cons]
    simp only [List.length_cons, List.length_nil]
    omega
theorem digL_len (n : Nat) : (digL n).length ≤ 2 := by unfold digL; split <;> simp
theorem kindW_len (k : Int) : (kindW k).length ≤ 3 := by
  unfold kindW; split
  · simp
  · split
    · simp
    · split <;> simp
theorem textT_len {t : Tb} (h : rightT t = true) : (textT t).length ≤ 1000 := by
  rw [rightT_iff] at h
  obtain ⟨⟨hk, hi, hn⟩, hlen, hl⟩ := h
  obtain ⟨i, ei⟩ := Int.eq_ofNat_of_zero_le hi.1
  have hl' : ∀ l ∈ t.ls, lineB l i t.n = true := by rw [ei] at hl; exact hl
  have h1 := rowsL_len i (by omega) t.n (by omega) t.ls hl'
  unfold textT headL
  rw [ei]
  simp only [List.length_append, Int.toNat_natCast, List.length_cons, List.length_nil, wordI, wordO, wordK, wordP, wordE]
  have a := digL_len i
  have b := digL_len t.n.toNat
  have c := kindW_len t.k
  have d := digL_len t.ls.length
  omega
theorem take_i (d : Dr) (h0 : d.last = 0) (n : Nat) (h : n ≤ 8) : takeD d (wordI ++ digL n) = .inr { d with i := n, last := 1 } := by
  unfold takeD
  have hs : skipL (wordI ++ digL n) = false := by unfold skipL wordI; rw [List.cons_append, pre_ne (by decide)]; rfl
  rw [hs]
  unfold stepD
  rw [if_neg (by decide), if_pos h0, num_i n h, if_pos rfl]
theorem take_o (d : Dr) (h0 : d.last = 1) (n : Nat) (h1 : 1 ≤ n) (h : n ≤ 4) : takeD d (wordO ++ digL n) = .inr { d with n := n, last := 2 } := by
  unfold takeD
  have hs : skipL (wordO ++ digL n) = false := by unfold skipL wordO; rw [List.cons_append, pre_ne (by decide)]; rfl
  rw [hs]
  unfold stepD
  rw [if_neg (by decide), if_neg (by omega), if_pos h0, num_o n h1 h, if_pos rfl]
theorem take_k (d : Dr) (h0 : d.last = 2) (k : Int) (hk : 0 ≤ k ∧ k ≤ 3) : takeD d (wordK ++ kindW k) = .inr { d with k := k, last := 3 } := by
  unfold takeD
  have hs : skipL (wordK ++ kindW k) = false := by unfold skipL wordK; rw [List.cons_append, pre_ne (by decide)]; rfl
  have hp : wordK.isPrefixOf (wordK ++ kindW k) = true := by simp
  have hd : (wordK ++ kindW k).drop 6 = kindW k := rfl
  rw [hs]
  unfold stepD
  rw [if_neg (by decide), if_neg (by omega), if_neg (by omega), if_neg (by omega), if_pos ⟨by omega, hp⟩, hd, kind_back k hk.1 hk.2]
theorem take_p (d : Dr) (h0 : d.last = 3) (n : Nat) (h : n ≤ 64) : takeD d (wordP ++ digL n) = .inr { d with said := n, last := 4 } := by
  unfold takeD
  have hs : skipL (wordP ++ digL n) = false := by unfold skipL wordP; rw [List.cons_append, pre_ne (by decide)]; rfl
  have hp : wordP.isPrefixOf (wordP ++ digL n) = true := by simp
  rw [hs]
  unfold stepD
  rw [if_neg (by decide), if_neg (by omega), if_neg (by omega), if_neg (by omega), if_neg (by omega), if_pos ⟨by omega, hp⟩, num_p n h, if_pos rfl]
theorem take_e (d : Dr) (h4 : 4 ≤ d.last) (h5 : d.last ≤ 5) (hs : d.said = d.ls.length) : takeD d wordE = .inr { d with last := 6 } := by
  unfold takeD
  rw [show skipL wordE = false from by decide]
  unfold stepD
  rw [if_neg (by decide), if_neg (by omega), if_neg (by omega), if_neg (by omega), if_neg (by omega), if_neg (by omega), if_pos rfl, if_pos (Or.inr hs)]
theorem no10_append {a b : List UInt8} (ha : ∀ c ∈ a, c ≠ 10) (hb : ∀ c ∈ b, c ≠ 10) : ∀ c ∈ a ++ b, c ≠ 10 := by
  intro c hc
  rcases List.mem_append.1 hc with h | h
  · exact ha c h
  · exact hb c h
theorem text_back {t : Tb} (h : rightT t = true) : parseT (textT t) = some t := by
  have hlen := textT_len h
  rw [rightT_iff] at h
  obtain ⟨⟨hk, hi, hn⟩, h64, hl⟩ := h
  obtain ⟨k, i, n, ls⟩ := t
  obtain ⟨i, rfl⟩ := Int.eq_ofNat_of_zero_le hi.1
  obtain ⟨n, rfl⟩ := Int.eq_ofNat_of_zero_le (show 0 ≤ n from Int.le_trans (by decide) hn.1)
  dsimp only at hk hi hn h64 hl
  unfold parseT
  rw [if_neg (by omega)]
  have e : textT ⟨k, i, n, ls⟩ = wordI ++ digL i ++ [10] ++ (wordO ++ digL n ++ [10] ++ (wordK ++ kindW k ++ [10] ++ (wordP ++ digL ls.length ++ [10] ++ (rowsL ls i ++ (wordE ++ [10] ++ []))))) := by
    unfold textT headL
    simp only [Int.toNat_natCast, List.append_assoc, List.append_nil]
  rw [e]
  rw [pGo_ok (no10_append (by decide) (dig_no10 i (by omega))) (take_i dr0 rfl i (by omega)),
    pGo_ok (no10_append (by decide) (dig_no10 n (by omega))) (take_o _ rfl n (by omega) (by omega)),
    pGo_ok (no10_append (by decide) (kind_no10 k hk.1 hk.2)) (take_k _ rfl k hk),
    pGo_ok (no10_append (by decide) (dig_no10 ls.length h64)) (take_p _ rfl ls.length h64)]
  obtain ⟨last, m, h4, h5, hgo⟩ := rows_go i k n ls [] (wordE ++ [10] ++ []) 4 ls.length (0 + 1 + 1 + 1 + 1) hl (by simpa using h64) (by omega) (by omega)
  have hgo' := hgo
  rw [pGo_ok (show ∀ c ∈ wordE, c ≠ 10 by decide) (take_e ⟨k, i, n, [] ++ ls, last, ls.length⟩ h4 h5 (by simp))] at hgo'
  have hE : pGo (rowsL ls i ++ (wordE ++ [10] ++ [])) [] ⟨k, i, n, [], 4, ls.length⟩ (0 + 1 + 1 + 1 + 1) = .inr (m + 1, ⟨k, i, n, ls, 6, ls.length⟩) := hgo'
  show (match pGo (rowsL ls i ++ (wordE ++ [10] ++ [])) [] ⟨k, i, n, [], 4, ls.length⟩ (0 + 1 + 1 + 1 + 1) with | .inl _ => none | .inr (_, d) => if d.last = 6 then some (⟨d.k, d.i, d.n, d.ls⟩ : Tb) else none) = _
  rw [hE]
  simp
end Go.Proofs.Ytjjpobpcpgcbaaa
namespace Go.Proofs.Ytjjpobpcpgcbaaa
open Go.RowKit Go.Joins

/-- The slice v reads as the lines ls. -/
def LinesAt (w : World) (B : Nat) (v : Value) (ls : List Ln) : Prop :=
  ∃ A c, v = .slice A ls.length c ∧ ls.length ≤ 9223372036854775807 ∧
    (0 < ls.length → ∃ b off, A = some ⟨b, off, none⟩ ∧ b < B ∧ ∀ j l, ls[j]? = some l → ∃ ov, w.cell? ⟨b, off + j * 3, none⟩ = some (bvv l.m) ∧ w.cell? ⟨b, off + j * 3 + 1, none⟩ = some (bvv l.v) ∧
      w.cell? ⟨b, off + j * 3 + 2, none⟩ = some ov ∧ IntsAt w B ov l.o)
def tv (k i n : Int) (L : Value) : Value := .agg #[.int .i64 k, .int .i64 i, .int .i64 n, L]
def lv (m v : BitVec 8) (O : Value) : Value := .agg #[bvv m, bvv v, O]
theorem LinesAt.below {w w' : World} {B : Nat} {v : Value} {ls : List Ln} (h : LinesAt w B v ls) (hb : Below B w w') : LinesAt w' B v ls := by
  obtain ⟨A, c, e, hl, h⟩ := h
  refine ⟨A, c, e, hl, fun h0 => ?_⟩
  obtain ⟨b, off, eA, hB, hc⟩ := h h0
  refine ⟨b, off, eA, hB, fun j l hx => ?_⟩
  obtain ⟨ov, c0, c1, c2, hi⟩ := hc j l hx
  exact ⟨ov, (hb.cell (p := ⟨b, off + j * 3, none⟩) hB).trans c0, (hb.cell (p := ⟨b, off + j * 3 + 1, none⟩) hB).trans c1, (hb.cell (p := ⟨b, off + j * 3 + 2, none⟩) hB).trans c2, hi.below hb⟩
theorem LinesAt.more {w : World} {B B' : Nat} {v : Value} {ls : List Ln} (h : LinesAt w B v ls) (hB : B ≤ B') : LinesAt w B' v ls := by
  obtain ⟨A, c, e, hl, h⟩ := h
  refine ⟨A, c, e, hl, fun h0 => ?_⟩
  obtain ⟨b, off, eA, hb, hc⟩ := h h0
  refine ⟨b, off, eA, by omega, fun j l hx => ?_⟩
  obtain ⟨ov, c0, c1, c2, hi⟩ := hc j l hx
  exact ⟨ov, c0, c1, c2, hi.more hB⟩
def greatL (ls : List Ln) : Bool := (ls.any fun l : Ln => decide (20 < l.o.length)) || decide (100 < ls.length)
theorem greatL_no {ls : List Ln} (h : greatL ls = false) : ls.length ≤ 100 := by
  unfold greatL at h; simp at h; exact h.2
end Go.Proofs.Ytjjpobpcpgcbaaa
namespace Go.Proofs.Ytjjpobpcpgcbaaa
open Go.RowKit Go.Joins

theorem pow_step (k : Nat) : 2 ^ k % 18446744073709551616 * 2 % 18446744073709551616 = 2 ^ (k + 1) % 18446744073709551616 := by
  rw [Nat.pow_succ]; omega
/-- The flags of the first n points. -/
def flagsV (S : BitVec 256) (n : Nat) : List Value := (List.range n).map (fun p => Value.bool (S.getLsbD p))
theorem flagsV_succ (S : BitVec 256) (n : Nat) : flagsV S (n + 1) = flagsV S n ++ [.bool (S.getLsbD n)] := by
  unfold flagsV; rw [List.range_succ, List.map_append]; rfl
theorem flagsV_get (S : BitVec 256) (n p : Nat) (h : p < n) : (flagsV S n)[p]? = some (.bool (S.getLsbD p)) := by
  unfold flagsV; simp [h]
theorem odd_bit (S : BitVec 256) (i k : Nat) (hk : k < 64) : (((((wd S i).toNat / 2 ^ k : Nat) : Int) % 2) == 1) = S.getLsbD (64 * i + k) := by
  have hb := wd_bit S i k
  simp only [hk, decide_true, Bool.true_and, BitVec.getLsbD, Nat.testBit_eq_decide_div_mod_eq] at hb ⊢
  rw [← hb]
  by_cases h1 : (wd S i).toNat / 2 ^ k % 2 = 1
  · simp only [h1, decide_true, beq_iff_eq]; omega
  · simp only [h1, decide_false, beq_eq_false_iff_ne, ne_eq]; omega
theorem half_step (x k : Nat) : x / 2 ^ k / 2 = x / 2 ^ (k + 1) := by rw [Nat.pow_succ, Nat.div_div_eq_div_mul]

/-- The words of the set of g, when all of the first i are made, and n bits of the next one. -/
def wsq (g : Nat → Bool) (i n j : Nat) : Nat := if j < i then wsum (fun p => g (64 * j + p)) 64 else if j = i then wsum (fun p => g (64 * j + p)) n else 0
def wsA (g : Nat → Bool) (i n : Nat) : Array Value := #[.int .u64 (wsq g i n 0 : Nat), .int .u64 (wsq g i n 1 : Nat), .int .u64 (wsq g i n 2 : Nat), .int .u64 (wsq g i n 3 : Nat)]
theorem wsA_get (g : Nat → Bool) (i n : Nat) (hi : i < 4) : (wsA g i n)[i]? = some (.int .u64 (wsum (fun p => g (64 * i + p)) n : Nat)) := by
  match i, hi with
  | 0, _ => simp [wsA, wsq]
  | 1, _ => simp [wsA, wsq]
  | 2, _ => simp [wsA, wsq]
  | 3, _ => simp [wsA, wsq]
theorem wsA_set (g : Nat → Bool) (i n : Nat) (hi : i < 4) : (wsA g i n).setIfInBounds i (.int .u64 (wsum (fun p => g (64 * i + p)) (n + 1) : Nat)) = wsA g i (n + 1) := by
  match i, hi with
  | 0, _ => simp [wsA, wsq]
  | 1, _ => simp [wsA, wsq]
  | 2, _ => simp [wsA, wsq]
  | 3, _ => simp [wsA, wsq]
theorem wsA_same (g : Nat → Bool) (i n : Nat) (h : wsum (fun p => g (64 * i + p)) (n + 1) = wsum (fun p => g (64 * i + p)) n) : wsA g i (n + 1) = wsA g i n := by
  have e : ∀ j, wsq g i (n + 1) j = wsq g i n j := by
    intro j
    unfold wsq
    by_cases h1 : j < i
    · simp [h1]
    · by_cases h2 : j = i
      · subst h2; simp [h]
      · simp [h1, h2]
  unfold wsA
  simp only [e]
theorem wsA_next (g : Nat → Bool) (i : Nat) : wsA g i 64 = wsA g (i + 1) 0 := by
  have e : ∀ j, wsq g i 64 j = wsq g (i + 1) 0 j := by
    intro j
    unfold wsq
    by_cases h1 : j < i
    · have : j < i + 1 := by omega
      simp [h1, this]
    · by_cases h2 : j = i
      · subst h2; simp
      · have a : ¬ j < i + 1 := by omega
        simp [h1, h2, a, wsum]
  unfold wsA
  simp only [e]
theorem wsA_zero (g : Nat → Bool) : wsA g 0 0 = #[.int .u64 0, .int .u64 0, .int .u64 0, .int .u64 0] := by simp [wsA, wsq, wsum]
theorem wsA_done (g : Nat → Bool) : wsA g 4 0 = sa (bvOf g) := by
  have e : ∀ j, j < 4 → Value.int .u64 (wsq g 4 0 j : Nat) = wv (wd (bvOf g) j) := by
    intro j hj
    unfold wv wsq
    rw [if_pos hj, wd_bvOf g j hj]
  unfold wsA sa
  rw [e 0 (by omega), e 1 (by omega), e 2 (by omega), e 3 (by omega)]

/-- A slice of 256 flags that a call has made: its cells. -/
theorem flags_form {w : World} {base : Nat} {v : Value} {S : BitVec 256} (h : w.ownsRow base 4 1 v 256 (flagsV S 256)) :
    ∃ b cap, v = .slice (some ⟨b, 0, none⟩) 256 cap ∧ base ≤ b ∧ b < w.heap.size ∧ ∀ p, p < 256 → w.cell? ⟨b, p, none⟩ = some (.bool (S.getLsbD p)) := by
  obtain ⟨b, cap, rfl⟩ := ownsRow_form h (by decide)
  have hl := h.lt b rfl
  exact ⟨b, cap, rfl, hl.1, hl.2, fun p hp => by rw [h.cellAt p (by omega), flagsV_get S 256 p hp]⟩

theorem pow_small (i : Nat) (hi : i < 8) : 2 ^ i % 18446744073709551616 = 2 ^ i := Nat.mod_eq_of_lt (Nat.lt_of_lt_of_le (Nat.pow_lt_pow_right (by decide) hi) (by decide))
/-- The flags of the points of n inputs. -/
def allV (m : Nat) : List Value := (List.range 256).map (fun p => Value.bool (decide (p < m)))

end Go.Proofs.Ytjjpobpcpgcbaaa
namespace Go.Proofs.Ytjjpobpcpgcbaaa
open Go.RowKit Go.Joins

def gk (S : BitVec 256) (i : Nat) (one : Bool) (k p : Nat) : Bool := ((pts S).take k).contains p && (p.testBit i == one)
theorem pts_lt (S : BitVec 256) (q : Nat) (h : q ∈ pts S) : q < 256 ∧ S.getLsbD q = true := by
  unfold pts at h
  rw [List.mem_filter] at h
  exact ⟨by simpa using h.1, h.2⟩
theorem gk_succ (S : BitVec 256) (i : Nat) (one : Bool) (k p : Nat) (hk : k < (pts S).length) : gk S i one (k + 1) p = (gk S i one k p || (p == (pts S)[k] && (p.testBit i == one))) := by
  unfold gk
  rw [List.take_succ_eq_append_getElem hk]
  rw [Bool.eq_iff_iff]
  simp only [List.contains_iff_mem, Bool.and_eq_true, Bool.or_eq_true, List.mem_append, List.mem_singleton, beq_iff_eq]
  constructor
  · rintro ⟨h1 | h1, h2⟩
    · exact .inl ⟨h1, h2⟩
    · exact .inr ⟨h1, h2⟩
  · rintro (⟨h1, h2⟩ | ⟨h1, h2⟩)
    · exact ⟨.inl h1, h2⟩
    · exact ⟨.inr h1, h2⟩
theorem gk_all (S : BitVec 256) (i : Nat) (one : Bool) (p : Nat) (hp : p < 256) : gk S i one (pts S).length p = (S.getLsbD p && (p.testBit i == one)) := by
  unfold gk
  rw [List.take_length]
  congr 1
  rw [Bool.eq_iff_iff, List.contains_iff_mem]
  unfold pts
  rw [List.mem_filter]
  simp [hp]
theorem half_flags (S : BitVec 256) (i : Nat) (one : Bool) (hi : i < 8) : bvOf (gk S i one (pts S).length) = halfB S i one := by
  have h : 0 ≤ (i : Int) ∧ (i : Int) < 8 := by omega
  unfold halfB
  rw [if_pos h]
  refine bvOf_eq _ _ fun p hp => ?_
  rw [gk_all S i one p hp]
  have ho : (onesB i).getLsbD p = p.testBit i := by unfold onesB; rw [bvOf_bit]; simp [hp]
  cases one <;> simp only [Int.toNat_natCast, if_true, Bool.false_eq_true, if_false, BitVec.getLsbD_and, BitVec.getLsbD_not, ho, hp, decide_true, Bool.true_and]
  · cases p.testBit i <;> simp
  · cases p.testBit i <;> simp
theorem no_flags : bvOf (fun _ => false) = 0 := bvOf_eq _ _ fun p _ => by simp

end Go.Proofs.Ytjjpobpcpgcbaaa
