/- What Parse of the package cube answers, for every text. A text that is a cube's is the text of its cube, and a cube is what its text is parsed to. Tables of layer 3 and their texts, plain: what a table's text is, what a text is parsed to, and that one is the other's way back. -/
import Derived.Test.YtjjpobpcpgcbaaaGJ07
import Derived.Lib.OthersKept
import Derived.Lib.IndexMore
import Derived.Lib.Strings
namespace Go.Proofs.Ytjjpobpcpgcbaaa
open Go.RowKit Go.Joins

/-- Is a byte a literal's? -/
def okC (c : UInt8) : Bool := c == 48 || c == 49 || c == 45
/-- The literal of a byte. -/
def litOf (c : UInt8) : Nat := if c = 48 then 0 else if c = 49 then 1 else 2
/-- The literal of byte i of a text. -/
def gS (s : ByteArray) (i : Nat) : Nat := litOf (s.data.toList.getD i 0)
def okTo (s : ByteArray) (k : Nat) : Prop := ∀ i (h : i < s.size), i < k → okC s[i] = true
def okT (s : ByteArray) : Bool := decide (s.size ≤ 8) && s.data.toList.all okC
/-- What a text is parsed to. -/
def pM (s : ByteArray) : BitVec 8 := if okT s then mB (gS s) s.size else 0
def pV (s : ByteArray) : BitVec 8 := if okT s then vB (gS s) s.size else 0
def pE (s : ByteArray) : Int := if okT s then 0 else 2
theorem gS_at (s : ByteArray) (k : Nat) (h : k < s.size) : gS s k = litOf s[k] := by
  unfold gS
  have e : s.data.toList.getD k 0 = s[k] := by simp [List.getD, h]; rfl
  rw [e]
theorem okT_yes {s : ByteArray} (h8 : s.size ≤ 8) (h : okTo s s.size) : okT s = true := by
  unfold okT
  simp only [h8, decide_true, Bool.true_and, List.all_eq_true]
  intro c hc
  obtain ⟨i, hi, rfl⟩ := List.mem_iff_getElem.1 hc
  have hi' : i < s.size := by simpa using hi
  exact h i hi' hi'
theorem okT_bad {s : ByteArray} {k : Nat} (hk : k < s.size) (h : okC s[k] = false) : okT s = false := by
  unfold okT
  rw [Bool.and_eq_false_iff]
  right
  rw [List.all_eq_false]
  refine ⟨s[k], ?_, by rw [h]; simp⟩
  exact List.mem_iff_getElem.2 ⟨k, by simpa using hk, rfl⟩
theorem okT_long {s : ByteArray} (h : 8 < s.size) : okT s = false := by
  unfold okT
  have : ¬ s.size ≤ 8 := by omega
  simp [this]
theorem mB_zero (g : Nat → Nat) : mB g 0 = 0 := rfl
theorem vB_zero (g : Nat → Nat) : vB g 0 = 0 := rfl
theorem twoPow8 (k : Nat) (hk : k < 8) : (BitVec.twoPow 8 k).toNat = 2 ^ k := BitVec.toNat_twoPow_of_lt hk
theorem mB_succ (g : Nat → Nat) (k : Nat) (h : g k < 2) : mB g (k + 1) = mB g k ||| BitVec.twoPow 8 k := by
  apply BitVec.eq_of_getLsbD_eq
  intro i hi
  rw [BitVec.getLsbD_or, mB_bit, mB_bit, BitVec.getLsbD_twoPow]
  by_cases e : i = k
  · subst e; simp [hi, h]
  · have a : (i < k + 1) ↔ (i < k) := by omega
    have b : ¬ k = i := fun x => e x.symm
    simp [a, b, hi]
theorem mB_same (g : Nat → Nat) (k : Nat) (h : ¬ g k < 2) : mB g (k + 1) = mB g k := by
  apply BitVec.eq_of_getLsbD_eq
  intro i hi
  rw [mB_bit, mB_bit]
  by_cases e : i = k
  · subst e; simp [h]
  · have a : (i < k + 1) ↔ (i < k) := by omega
    simp [a]
theorem vB_succ (g : Nat → Nat) (k : Nat) (h : g k = 1) : vB g (k + 1) = vB g k ||| BitVec.twoPow 8 k := by
  apply BitVec.eq_of_getLsbD_eq
  intro i hi
  rw [BitVec.getLsbD_or, vB_bit, vB_bit, BitVec.getLsbD_twoPow]
  by_cases e : i = k
  · subst e; simp [hi, h]
  · have a : (i < k + 1) ↔ (i < k) := by omega
    have b : ¬ k = i := fun x => e x.symm
    simp [a, b, hi]
theorem vB_same (g : Nat → Nat) (k : Nat) (h : ¬ g k = 1) : vB g (k + 1) = vB g k := by
  apply BitVec.eq_of_getLsbD_eq
  intro i hi
  rw [vB_bit, vB_bit]
  by_cases e : i = k
  · subst e; simp [h]
  · have a : (i < k + 1) ↔ (i < k) := by omega
    simp [a]
theorem or_one (x : BitVec 8) (k : Nat) (hk : k < 8) : bits .or .u8 (x.toNat : Int) (2 ^ k % 256) = ((x ||| BitVec.twoPow 8 k).toNat : Int) := by
  have h : (2 : Int) ^ k % 256 = ((BitVec.twoPow 8 k).toNat : Int) := by
    rw [twoPow8 k hk]
    have : 2 ^ k < 256 := Nat.pow_lt_pow_right (n := 8) (by decide) hk
    have e : ((2 ^ k : Nat) : Int) = 2 ^ k := by simp
    rw [← e]
    clear e
    generalize 2 ^ k = q at *
    omega
  rw [h, or8]
end Go.Proofs.Ytjjpobpcpgcbaaa
namespace Go.Proofs.Ytjjpobpcpgcbaaa
open Go.RowKit Go.Joins

theorem litC_litOf (c : UInt8) (h : okC c = true) : litC (litOf c) = c := by
  unfold okC at h
  simp only [Bool.or_eq_true, beq_iff_eq] at h
  rcases h with (h | h) | h <;> subst h <;> rfl
theorem litOf_litC (x : Nat) (h : x ≤ 2) : litOf (litC x) = x := by
  have : x = 0 ∨ x = 1 ∨ x = 2 := by omega
  rcases this with h | h | h <;> subst h <;> rfl
theorem okC_litC (x : Nat) : okC (litC x) = true := by
  unfold litC; split
  · rfl
  · split <;> rfl
theorem okT_size {s : ByteArray} (h : okT s = true) : s.size ≤ 8 := by
  unfold okT at h
  simp only [Bool.and_eq_true, decide_eq_true_eq] at h
  exact h.1
theorem okT_at {s : ByteArray} (h : okT s = true) (i : Nat) (hi : i < s.size) : okC s[i] = true := by
  unfold okT at h
  simp only [Bool.and_eq_true, List.all_eq_true] at h
  exact h.2 s[i] (List.mem_iff_getElem.2 ⟨i, by simpa using hi, rfl⟩)
theorem gS_le2 (s : ByteArray) (k : Nat) : gS s k ≤ 2 := by
  unfold gS litOf; split
  · omega
  · split <;> omega
theorem lit_mv (g : Nat → Nat) (n i : Nat) (hn : n ≤ 8) (hi : i < n) (hg : g i ≤ 2) : lit (mB g n) (vB g n) i = g i := by
  unfold lit
  rw [mB_bit, vB_bit]
  have h8 : i < 8 := by omega
  have : g i = 0 ∨ g i = 1 ∨ g i = 2 := by omega
  rcases this with h | h | h <;> simp [h, h8, hi]
theorem right_mv (g : Nat → Nat) (n : Nat) (hn : n ≤ 8) : rightB (mB g n) (vB g n) n = true := by
  rw [rightB_iff]
  refine ⟨by omega, by omega, fun i hi => ?_, ?_⟩
  · rw [mB_bit]
    have : ¬ i < n := by simp at hi; omega
    simp [this]
  · apply BitVec.eq_of_getLsbD_eq
    intro i _
    rw [BitVec.getLsbD_and, mB_bit, vB_bit]
    by_cases h : g i = 1
    · simp [h]
    · simp [h]
theorem parsed_right {s : ByteArray} (h : okT s = true) : rightB (pM s) (pV s) s.size = true := by
  unfold pM pV
  rw [if_pos h, if_pos h]
  exact right_mv _ _ (okT_size h)
theorem txtL_get (m v : BitVec 8) (n i : Nat) (h : i < (txtL m v n).length) : (txtL m v n)[i] = litC (lit m v i) := by simp [txtL]
theorem parsed_text {s : ByteArray} (h : okT s = true) : str (txtL (pM s) (pV s) s.size) = s := by
  unfold pM pV
  rw [if_pos h, if_pos h]
  have hn := okT_size h
  apply ByteArray.ext
  apply Array.ext'
  show txtL (mB (gS s) s.size) (vB (gS s) s.size) s.size = s.data.toList
  apply List.ext_getElem
  · rw [txtL_len]; simp
  · intro i h1 h2
    have hi : i < s.size := by simpa using h2
    rw [txtL_get, lit_mv _ _ _ hn hi (gS_le2 s i), gS_at s i hi, litC_litOf _ (okT_at h i hi)]
    rfl
theorem txt_at (m v : BitVec 8) (n i : Nat) (h : i < (str (txtL m v n)).size) : (str (txtL m v n))[i] = litC (lit m v i) := by
  have : i < n := by simpa [str, ByteArray.size, txtL] using h
  show (txtL m v n).toArray[i]'(by simpa [txtL] using this) = _
  simp [txtL]
theorem txt_size (m v : BitVec 8) (n : Nat) : (str (txtL m v n)).size = n := by simp [str, ByteArray.size, txtL]
theorem text_ok (m v : BitVec 8) (n : Nat) (hn : n ≤ 8) : okT (str (txtL m v n)) = true :=
  okT_yes (by rw [txt_size]; exact hn) (fun i hi _ => by rw [txt_at]; exact okC_litC _)
theorem gS_txt (m v : BitVec 8) (n i : Nat) (hi : i < n) : gS (str (txtL m v n)) i = lit m v i := by
  rw [gS_at _ i (by rw [txt_size]; exact hi), txt_at, litOf_litC _ (lit_le m v i)]
theorem text_parsed {m v : BitVec 8} {n : Nat} (h : rightB m v n = true) : pM (str (txtL m v n)) = m ∧ pV (str (txtL m v n)) = v ∧ pE (str (txtL m v n)) = 0 := by
  have h' := h
  rw [rightB_iff] at h'
  obtain ⟨_, h8, hm, hv⟩ := h'
  have hn : n ≤ 8 := by omega
  have hok := text_ok m v n hn
  unfold pM pV pE
  rw [if_pos hok, if_pos hok, if_pos hok, txt_size]
  refine ⟨?_, ?_, rfl⟩
  · apply BitVec.eq_of_getLsbD_eq
    intro i hi
    rw [mB_bit]
    by_cases hin : i < n
    · rw [gS_txt m v n i hin]
      unfold lit
      cases m.getLsbD i <;> cases v.getLsbD i <;> simp [hi, hin]
    · rw [hm i (by simp; omega)]
      simp [hin]
  · apply BitVec.eq_of_getLsbD_eq
    intro i hi
    rw [vB_bit]
    have hvi := congrArg (fun x => x.getLsbD i) hv
    simp only [BitVec.getLsbD_and] at hvi
    by_cases hin : i < n
    · rw [gS_txt m v n i hin]
      unfold lit
      cases hmi : m.getLsbD i <;> cases hvv : v.getLsbD i <;> rw [hmi, hvv] at hvi <;> simp [hi, hin] at hvi ⊢
    · rw [hm i (by simp; omega), Bool.and_false] at hvi
      rw [← hvi]
      simp [hin]
end Go.Proofs.Ytjjpobpcpgcbaaa
namespace Go.Proofs.Ytjjpobpcpgcbaaa
open Go.RowKit Go.Joins

/-- A line of a table: a cube, and what it says of the outputs. -/
structure Ln where
  m : BitVec 8
  v : BitVec 8
  o : List Int
/-- A table. -/
structure Tb where
  k : Int
  i : Int
  n : Int
  ls : List Ln
def okOut (x : Int) : Bool := decide (0 ≤ x) && decide (x ≤ 2)
def lineB (l : Ln) (i n : Int) : Bool := rightB l.m l.v i && decide ((l.o.length : Int) = n) && l.o.all okOut
def headB (t : Tb) : Bool := decide (0 ≤ t.k) && decide (t.k ≤ 3) && (decide (0 ≤ t.i) && decide (t.i ≤ 8)) && (decide (1 ≤ t.n) && decide (t.n ≤ 4))
def rightT (t : Tb) : Bool := headB t && decide (t.ls.length ≤ 64) && t.ls.all fun l => lineB l t.i t.n
theorem headB_iff (t : Tb) : headB t = true ↔ (0 ≤ t.k ∧ t.k ≤ 3) ∧ (0 ≤ t.i ∧ t.i ≤ 8) ∧ (1 ≤ t.n ∧ t.n ≤ 4) := by
  unfold headB; simp [and_assoc]
theorem rightT_iff (t : Tb) : rightT t = true ↔ ((0 ≤ t.k ∧ t.k ≤ 3) ∧ (0 ≤ t.i ∧ t.i ≤ 8) ∧ (1 ≤ t.n ∧ t.n ≤ 4)) ∧ t.ls.length ≤ 64 ∧ ∀ l ∈ t.ls, lineB l t.i t.n = true := by
  unfold rightT; rw [← headB_iff]; simp [and_assoc]
theorem lineB_iff (l : Ln) (i n : Int) : lineB l i n = true ↔ rightB l.m l.v i = true ∧ (l.o.length : Int) = n ∧ ∀ x ∈ l.o, 0 ≤ x ∧ x ≤ 2 := by
  unfold lineB okOut; simp [and_assoc]

/-- The byte of an output. -/
def outC (x : Int) : UInt8 := if x = 0 then 48 else if x = 1 then 49 else 45
def digL (n : Nat) : List UInt8 := if n < 10 then [UInt8.ofNat (48 + n)] else [UInt8.ofNat (48 + n / 10), UInt8.ofNat (48 + n % 10)]
def kindW (k : Int) : List UInt8 := if k = 0 then [102] else if k = 1 then [102, 100] else if k = 2 then [102, 114] else [102, 100, 114]
def rowL (l : Ln) (i : Nat) : List UInt8 := txtL l.m l.v i ++ [32] ++ l.o.map outC
def wordI : List UInt8 := [46, 105, 32]
def wordO : List UInt8 := [46, 111, 32]
def wordK : List UInt8 := [46, 116, 121, 112, 101, 32]
def wordP : List UInt8 := [46, 112, 32]
def wordE : List UInt8 := [46, 101]
def rowsL (ls : List Ln) (i : Nat) : List UInt8 := ls.flatMap fun l => rowL l i ++ [10]
def headL (t : Tb) : List UInt8 := wordI ++ digL t.i.toNat ++ [10] ++ (wordO ++ digL t.n.toNat ++ [10]) ++ (wordK ++ kindW t.k ++ [10]) ++ (wordP ++ digL t.ls.length ++ [10])
/-- A table's text. -/
def textT (t : Tb) : List UInt8 := headL t ++ rowsL t.ls t.i.toNat ++ (wordE ++ [10])

/-! ### What a text is parsed to -/
def numGo (most : Int) : List UInt8 → Bool → Int → Option Int
  | [], _, n => some n
  | c :: r, first, n => if (c.toNat : Int) < 48 ∨ 57 < (c.toNat : Int) ∨ (first = false ∧ n = 0) then none else
      if most < n * 10 + ((c.toNat : Int) - 48) then none else numGo most r false (n * 10 + ((c.toNat : Int) - 48))
/-- The number behind a word, and whether there is one. -/
def numB (line word : List UInt8) (least most : Int) : Int × Bool :=
  if word.isPrefixOf line = true ∧ line.drop word.length ≠ [] then
    match numGo most (line.drop word.length) true 0 with
    | none => (0, false)
    | some n => (n, decide (least ≤ n))
  else (0, false)
def outOf (c : UInt8) : Int := if c = 48 then 0 else if c = 49 then 1 else 2
structure Dr where
  k : Int
  i : Int
  n : Int
  ls : List Ln
  last : Int
  said : Int
/-- Is a text a line of a table? -/
def rowOk (line : List UInt8) (i n : Int) : Bool :=
  decide ((line.length : Int) = i + 1 + n) && decide ((line.drop i.toNat).take 1 = [32]) && okT (str (line.take i.toNat)) && (line.drop (i.toNat + 1)).all okC
def rowLn (line : List UInt8) (i : Int) : Ln := ⟨pM (str (line.take i.toNat)), pV (str (line.take i.toNat)), (line.drop (i.toNat + 1)).map outOf⟩
def kindOf (w : List UInt8) : Option Int := if w = [102] then some 0 else if w = [102, 100] then some 1 else if w = [102, 114] then some 2 else if w = [102, 100, 114] then some 3 else none
/-- A line is read: an error, or a draft. -/
def stepD (d : Dr) (line : List UInt8) : Int ⊕ Dr :=
  if d.last = 0 then (if (numB line wordI 0 8).2 = true then .inr { d with i := (numB line wordI 0 8).1, last := 1 } else .inl 2)
  else if d.last = 1 then (if (numB line wordO 1 4).2 = true then .inr { d with n := (numB line wordO 1 4).1, last := 2 } else .inl 2)
  else if d.last = 6 then .inl 2
  else if d.last < 3 ∧ wordK.isPrefixOf line = true then (match kindOf (line.drop 6) with | some k => .inr { d with k := k, last := 3 } | none => .inl 2)
  else if d.last < 4 ∧ wordP.isPrefixOf line = true then (if (numB line wordP 0 64).2 = true then .inr { d with said := (numB line wordP 0 64).1, last := 4 } else .inl 2)
  else if line = wordE then (if d.said = -1 ∨ d.said = d.ls.length then .inr { d with last := 6 } else .inl 2)
  else if rowOk line d.i d.n = true then (if d.ls.length = 64 then .inl 3 else .inr { d with ls := d.ls ++ [rowLn line d.i], last := 5 })
  else .inl 2
def skipL (line : List UInt8) : Bool := line.isEmpty || [35].isPrefixOf line
/-- One line: skipped, or read. -/
def takeD (d : Dr) (line : List UInt8) : Int ⊕ Dr := if skipL line then .inr d else stepD d line
/-- Line by line: the number of a line and an error, or the number of lines and a draft. -/
def pGo : List UInt8 → List UInt8 → Dr → Nat → (Nat × Int) ⊕ (Nat × Dr)
  | [], cur, d, n => if cur.isEmpty then .inr (n, d) else .inl (n, 2)
  | c :: r, cur, d, n => if c = 10 then (match takeD d cur with | .inl e => .inl (n, e) | .inr d' => pGo r [] d' (n + 1)) else pGo r (cur ++ [c]) d n
def dr0 : Dr := ⟨1, 0, 0, [], 0, -1⟩
/-- A table, if the text is one. -/
def parseT (s : List UInt8) : Option Tb :=
  if 8000 < s.length then none else
  match pGo s [] dr0 0 with
  | .inl _ => none
  | .inr (_, d) => if d.last = 6 then some ⟨d.k, d.i, d.n, d.ls⟩ else none
/-- The line and the error. -/
def parseE (s : List UInt8) : Int × Int :=
  if 8000 < s.length then (0, 3) else
  match pGo s [] dr0 0 with
  | .inl (n, e) => (n, e)
  | .inr (n, d) => if d.last = 6 then (0, 0) else (n, 7)

/-! ### Line by line -/
theorem pGo_run (l : List UInt8) (h : ∀ c ∈ l, c ≠ 10) : ∀ (r cur : List UInt8) (d : Dr) (n : Nat), pGo (l ++ r) cur d n = pGo r (cur ++ l) d n := by
  induction l with
  | nil => intro r cur d n; simp
  | cons c l ih =>
    intro r cur d n
    rw [List.cons_append]
    show (if c = 10 then _ else pGo (l ++ r) (cur ++ [c]) d n) = _
    rw [if_neg (h c (by simp)), ih (fun x hx => h x (by simp [hx]))]
    simp
theorem pGo_line (l r : List UInt8) (h : ∀ c ∈ l, c ≠ 10) (d : Dr) (n : Nat) : pGo (l ++ 10 :: r) [] d n = match takeD d l with | .inl e => .inl (n, e) | .inr d' => pGo r [] d' (n + 1) := by
  rw [pGo_run l h]
  simp [pGo]
theorem pGo_last (l : List UInt8) (h : ∀ c ∈ l, c ≠ 10) (hne : l ≠ []) (d : Dr) (n : Nat) : pGo l [] d n = .inl (n, 2) := by
  have := pGo_run l h [] [] d n
  rw [List.append_nil] at this
  rw [this]
  simp [pGo, hne]
theorem pGo_ok {l r : List UInt8} (h : ∀ c ∈ l, c ≠ 10) {d d' : Dr} {n : Nat} (hd : takeD d l = .inr d') : pGo (l ++ [10] ++ r) [] d n = pGo r [] d' (n + 1) := by
  rw [List.append_assoc, List.singleton_append, pGo_line l r h, hd]

/-! ### What was parsed is right -/
structure GoodD (d : Dr) : Prop where
  lo : 0 ≤ d.last
  k : 0 ≤ d.k ∧ d.k ≤ 3
  i : 1 ≤ d.last → 0 ≤ d.i ∧ d.i ≤ 8
  n : 2 ≤ d.last → 1 ≤ d.n ∧ d.n ≤ 4
  len : d.ls.length ≤ 64
  ls : ∀ l ∈ d.ls, lineB l d.i d.n = true
  none : d.last < 2 → d.ls = []
theorem good0 : GoodD dr0 := ⟨by decide, by decide, by decide, by decide, by decide, by simp [dr0], by simp [dr0]⟩
theorem numGo_ge (most : Int) : ∀ (l : List UInt8) (f : Bool) (n x : Int), 0 ≤ n → n ≤ most → numGo most l f n = some x → 0 ≤ x ∧ x ≤ most := by
  intro l
  induction l with
  | nil => intro f n x h0 h1 h; simp [numGo] at h; subst h; exact ⟨h0, h1⟩
  | cons c r ih =>
    intro f n x h0 h1 h
    unfold numGo at h
    split at h
    · cases h
    · rename_i hc
      split at h
      · cases h
      · rename_i hm
        exact ih _ _ _ (by omega) (by omega) h
theorem numB_in {line word : List UInt8} {least most : Int} (hm : 0 ≤ most) (h : (numB line word least most).2 = true) : least ≤ (numB line word least most).1 ∧ 0 ≤ (numB line word least most).1 ∧ (numB line word least most).1 ≤ most := by
  unfold numB at h ⊢
  by_cases hc : word.isPrefixOf line = true ∧ line.drop word.length ≠ []
  · rw [if_pos hc] at h ⊢
    cases hg : numGo most (line.drop word.length) true 0 with
    | none => rw [hg] at h; simp at h
    | some x =>
      rw [hg] at h
      simp at h
      have := numGo_ge most _ _ _ _ (by omega) hm hg
      exact ⟨h, this⟩
  · rw [if_neg hc] at h; cases h
theorem outOf_in (c : UInt8) : 0 ≤ outOf c ∧ outOf c ≤ 2 := by
  unfold outOf; split
  · omega
  · split <;> omega
theorem size_str (l : List UInt8) : (str l).size = l.length := by simp [str, ByteArray.size]
theorem row_right {line : List UInt8} {i n : Int} (hi : 0 ≤ i) (hn : 0 ≤ n) (h : rowOk line i n = true) : lineB (rowLn line i) i n = true := by
  unfold rowOk at h
  simp only [Bool.and_eq_true, decide_eq_true_eq] at h
  obtain ⟨⟨⟨hl, _⟩, hc⟩, _⟩ := h
  rw [lineB_iff]
  have hs : (str (line.take i.toNat)).size = i.toNat := by rw [size_str, List.length_take]; omega
  have hr := parsed_right hc
  rw [hs, Int.toNat_of_nonneg hi] at hr
  refine ⟨hr, ?_, ?_⟩
  · simp [rowLn]; omega
  · intro x hx
    simp only [rowLn, List.mem_map] at hx
    obtain ⟨c, _, rfl⟩ := hx
    exact outOf_in c
theorem kindOf_in {w : List UInt8} {k : Int} (h : kindOf w = some k) : 0 ≤ k ∧ k ≤ 3 := by
  unfold kindOf at h
  split at h
  · cases h; omega
  · split at h
    · cases h; omega
    · split at h
      · cases h; omega
      · split at h
        · cases h; omega
        · cases h
theorem step_good {d d' : Dr} {line : List UInt8} (g : GoodD d) (h : stepD d line = .inr d') : GoodD d' := by
  unfold stepD at h
  split at h
  · rename_i h0
    split at h
    · rename_i hn
      cases h
      have hin := numB_in (by decide) hn
      have he := g.none (by omega)
      exact ⟨by show (0 : Int) ≤ 1; omega, g.k, fun _ => hin.2, fun h => absurd h (by show ¬ (2 : Int) ≤ 1; omega), g.len, by show ∀ l ∈ d.ls, _; rw [he]; simp, fun _ => he⟩
    · cases h
  · split at h
    · rename_i h0 h1
      split at h
      · rename_i hn
        cases h
        have hin := numB_in (by decide) hn
        have he := g.none (by omega)
        exact ⟨by show (0 : Int) ≤ 2; omega, g.k, fun _ => g.i (by omega), fun _ => ⟨hin.1, hin.2.2⟩, g.len, by show ∀ l ∈ d.ls, _; rw [he]; simp, fun h => absurd h (by show ¬ (2 : Int) < 2; omega)⟩
      · cases h
    · rename_i h0 h1
      have hlo := g.lo
      split at h
      · cases h
      · split at h
        · split at h
          · rename_i k hk
            cases h
            exact ⟨by show (0 : Int) ≤ 3; omega, kindOf_in hk, fun _ => g.i (by omega), fun _ => g.n (by omega), g.len, g.ls, fun h => absurd h (by show ¬ (3 : Int) < 2; omega)⟩
          · cases h
        · split at h
          · split at h
            · cases h
              exact ⟨by show (0 : Int) ≤ 4; omega, g.k, fun _ => g.i (by omega), fun _ => g.n (by omega), g.len, g.ls, fun h => absurd h (by show ¬ (4 : Int) < 2; omega)⟩
            · cases h
          · split at h
            · split at h
              · cases h
                exact ⟨by show (0 : Int) ≤ 6; omega, g.k, fun _ => g.i (by omega), fun _ => g.n (by omega), g.len, g.ls, fun h => absurd h (by show ¬ (6 : Int) < 2; omega)⟩
              · cases h
            · split at h
              · rename_i hr
                split at h
                · cases h
                · rename_i h64
                  cases h
                  have hi := g.i (by omega)
                  have hn := g.n (by omega)
                  refine ⟨by show (0 : Int) ≤ 5; omega, g.k, fun _ => hi, fun _ => hn, ?_, ?_, fun h => absurd h (by show ¬ (5 : Int) < 2; omega)⟩
                  · show (d.ls ++ _).length ≤ 64
                    have := g.len
                    simp; omega
                  · intro l hl
                    have hl' : l ∈ d.ls ++ [rowLn line d.i] := hl
                    rw [List.mem_append, List.mem_singleton] at hl'
                    rcases hl' with hl' | rfl
                    · exact g.ls l hl'
                    · exact row_right hi.1 (Int.le_trans (by decide) hn.1) hr
              · cases h
theorem take_good {d d' : Dr} {line : List UInt8} (g : GoodD d) (h : takeD d line = .inr d') : GoodD d' := by
  unfold takeD at h
  split at h
  · cases h; exact g
  · exact step_good g h
theorem pGo_good : ∀ (s cur : List UInt8) (d : Dr) (n m : Nat) (d' : Dr), GoodD d → pGo s cur d n = .inr (m, d') → GoodD d' := by
  intro s
  induction s with
  | nil =>
    intro cur d n m d' g h
    unfold pGo at h
    split at h
    · cases h; exact g
    · cases h
  | cons c r ih =>
    intro cur d n m d' g h
    unfold pGo at h
    split at h
    · split at h
      · cases h
      · rename_i d2 hd
        exact ih _ _ _ _ _ (take_good g hd) h
    · exact ih _ _ _ _ _ g h
theorem parse_right {s : List UInt8} {t : Tb} (h : parseT s = some t) : rightT t = true := by
  unfold parseT at h
  split at h
  · cases h
  · split at h
    · cases h
    · rename_i n d hp
      split at h
      · rename_i h6
        cases h
        have g := pGo_good _ _ _ _ _ _ good0 hp
        rw [rightT_iff]
        exact ⟨⟨g.k, g.i (by omega), g.n (by omega)⟩, g.len, g.ls⟩
      · cases h
theorem parse_E {s : List UInt8} {t : Tb} (h : parseT s = some t) : parseE s = (0, 0) := by
  unfold parseT at h
  unfold parseE
  split at h
  · cases h
  · rename_i h8
    rw [if_neg h8]
    split at h
    · cases h
    · rename_i n d hp
      rw [hp]
      split at h
      · rename_i h6
        simp [h6]
      · cases h
end Go.Proofs.Ytjjpobpcpgcbaaa
