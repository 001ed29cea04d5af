/- Tables of layer 3 and their texts, plain: what a table's text is, what a text is parsed to, and that one is the other's way back. A right table's text is parsed to the table. A table in memory: its lines are a slice, of each line the outputs are one; a line that is too long, or too many of them. -/
import Derived.Test.YtckmjampgeojbaaGreatDoorJ02
import Derived.Lib.IndexMore
import Derived.Lib.Strings
namespace Go.Proofs.YtckmjampgeojbaaGreatDoor
open Go.RowKit Go.Joins

/-- A line of a table: a cube, and what it says of the outputs. -/
structure Ln where
  m : BitVec 8
  v : BitVec 8
  o : List Int
/-- A table. -/
structure Tb where
  k : Int
  i : Int
  n : Int
  ls : List Ln
def okOut (x : Int) : Bool := decide (0 ≤ x) && decide (x ≤ 2)
def lineB (l : Ln) (i n : Int) : Bool := rightB l.m l.v i && decide ((l.o.length : Int) = n) && l.o.all okOut
def headB (t : Tb) : Bool := decide (0 ≤ t.k) && decide (t.k ≤ 3) && (decide (0 ≤ t.i) && decide (t.i ≤ 8)) && (decide (1 ≤ t.n) && decide (t.n ≤ 4))
def rightT (t : Tb) : Bool := headB t && decide (t.ls.length ≤ 64) && t.ls.all fun l => lineB l t.i t.n
theorem headB_iff (t : Tb) : headB t = true ↔ (0 ≤ t.k ∧ t.k ≤ 3) ∧ (0 ≤ t.i ∧ t.i ≤ 8) ∧ (1 ≤ t.n ∧ t.n ≤ 4) := by
  unfold headB; simp [and_assoc]
theorem rightT_iff (t : Tb) : rightT t = true ↔ ((0 ≤ t.k ∧ t.k ≤ 3) ∧ (0 ≤ t.i ∧ t.i ≤ 8) ∧ (1 ≤ t.n ∧ t.n ≤ 4)) ∧ t.ls.length ≤ 64 ∧ ∀ l ∈ t.ls, lineB l t.i t.n = true := by
  unfold rightT; rw [← headB_iff]; simp [and_assoc]
theorem lineB_iff (l : Ln) (i n : Int) : lineB l i n = true ↔ rightB l.m l.v i = true ∧ (l.o.length : Int) = n ∧ ∀ x ∈ l.o, 0 ≤ x ∧ x ≤ 2 := by
  unfold lineB okOut; simp [and_assoc]

/-- The byte of an output. -/
def outC (x : Int) : UInt8 := if x = 0 then 48 else if x = 1 then 49 else 45
def digL (n : Nat) : List UInt8 := if n < 10 then [UInt8.ofNat (48 + n)] else [UInt8.ofNat (48 + n / 10), UInt8.ofNat (48 + n % 10)]
def kindW (k : Int) : List UInt8 := if k = 0 then [102] else if k = 1 then [102, 100] else if k = 2 then [102, 114] else [102, 100, 114]
def rowL (l : Ln) (i : Nat) : List UInt8 := txtL l.m l.v i ++ [32] ++ l.o.map outC
def wordI : List UInt8 := [46, 105, 32]
def wordO : List UInt8 := [46, 111, 32]
def wordK : List UInt8 := [46, 116, 121, 112, 101, 32]
def wordP : List UInt8 := [46, 112, 32]
def wordE : List UInt8 := [46, 101]
def rowsL (ls : List Ln) (i : Nat) : List UInt8 := ls.flatMap fun l => rowL l i ++ [10]
def headL (t : Tb) : List UInt8 := wordI ++ digL t.i.toNat ++ [10] ++ (wordO ++ digL t.n.toNat ++ [10]) ++ (wordK ++ kindW t.k ++ [10]) ++ (wordP ++ digL t.ls.length ++ [10])
/-- A table's text. -/
def textT (t : Tb) : List UInt8 := headL t ++ rowsL t.ls t.i.toNat ++ (wordE ++ [10])

/-! ### What a text is parsed to -/
def numGo (most : Int) : List UInt8 → Bool → Int → Option Int
  | [], _, n => some n
  | c :: r, first, n => if (c.toNat : Int) < 48 ∨ 57 < (c.toNat : Int) ∨ (first = false ∧ n = 0) then none else
      if most < n * 10 + ((c.toNat : Int) - 48) then none else numGo most r false (n * 10 + ((c.toNat : Int) - 48))
/-- The number behind a word, and whether there is one. -/
def numB (line word : List UInt8) (least most : Int) : Int × Bool :=
  if word.isPrefixOf line = true ∧ line.drop word.length ≠ [] then
    match numGo most (line.drop word.length) true 0 with
    | none => (0, false)
    | some n => (n, decide (least ≤ n))
  else (0, false)
def outOf (c : UInt8) : Int := if c = 48 then 0 else if c = 49 then 1 else 2
structure Dr where
  k : Int
  i : Int
  n : Int
  ls : List Ln
  last : Int
  said : Int
/-- Is a text a line of a table? -/
def rowOk (line : List UInt8) (i n : Int) : Bool :=
  decide ((line.length : Int) = i + 1 + n) && decide ((line.drop i.toNat).take 1 = [32]) && okT (str (line.take i.toNat)) && (line.drop (i.toNat + 1)).all okC
def rowLn (line : List UInt8) (i : Int) : Ln := ⟨pM (str (line.take i.toNat)), pV (str (line.take i.toNat)), (line.drop (i.toNat + 1)).map outOf⟩
def kindOf (w : List UInt8) : Option Int := if w = [102] then some 0 else if w = [102, 100] then some 1 else if w = [102, 114] then some 2 else if w = [102, 100, 114] then some 3 else none
/-- A line is read: an error, or a draft. -/
def stepD (d : Dr) (line : List UInt8) : Int ⊕ Dr :=
  if d.last = 0 then (if (numB line wordI 0 8).2 = true then .inr { d with i := (numB line wordI 0 8).1, last := 1 } else .inl 2)
  else if d.last = 1 then (if (numB line wordO 1 4).2 = true then .inr { d with n := (numB line wordO 1 4).1, last := 2 } else .inl 2)
  else if d.last = 6 then .inl 2
  else if d.last < 3 ∧ wordK.isPrefixOf line = true then (match kindOf (line.drop 6) with | some k => .inr { d with k := k, last := 3 } | none => .inl 2)
  else if d.last < 4 ∧ wordP.isPrefixOf line = true then (if (numB line wordP 0 64).2 = true then .inr { d with said := (numB line wordP 0 64).1, last := 4 } else .inl 2)
  else if line = wordE then (if d.said = -1 ∨ d.said = d.ls.length then .inr { d with last := 6 } else .inl 2)
  else if rowOk line d.i d.n = true then (if d.ls.length = 64 then .inl 3 else .inr { d with ls := d.ls ++ [rowLn line d.i], last := 5 })
  else .inl 2
def skipL (line : List UInt8) : Bool := line.isEmpty || [35].isPrefixOf line
/-- One line: skipped, or read. -/
def takeD (d : Dr) (line : List UInt8) : Int ⊕ Dr := if skipL line then .inr d else stepD d line
/-- Line by line: the number of a line and an error, or the number of lines and a draft. -/
def pGo : List UInt8 → List UInt8 → Dr → Nat → (Nat × Int) ⊕ (Nat × Dr)
  | [], cur, d, n => if cur.isEmpty then .inr (n, d) else .inl (n, 2)
  | c :: r, cur, d, n => if c = 10 then (match takeD d cur with | .inl e => .inl (n, e) | .inr d' => pGo r [] d' (n + 1)) else pGo r (cur ++ [c]) d n
def dr0 : Dr := ⟨1, 0, 0, [], 0, -1⟩
/-- A table, if the text is one. -/
def parseT (s : List UInt8) : Option Tb :=
  if 8000 < s.length then none else
  match pGo s [] dr0 0 with
  | .inl _ => none
  | .inr (_, d) => if d.last = 6 then some ⟨d.k, d.i, d.n, d.ls⟩ else none
/-- The line and the error. -/
def parseE (s : List UInt8) : Int × Int :=
  if 8000 < s.length then (0, 3) else
  match pGo s [] dr0 0 with
  | .inl (n, e) => (n, e)
  | .inr (n, d) => if d.last = 6 then (0, 0) else (n, 7)

/-! ### Line by line -/
theorem pGo_run (l : List UInt8) (h : ∀ c ∈ l, c ≠ 10) : ∀ (r cur : List UInt8) (d : Dr) (n : Nat), pGo (l ++ r) cur d n = pGo r (cur ++ l) d n := by
  induction l with
  | nil => intro r cur d n; simp
  | cons c l ih =>
    intro r cur d n
    rw [List.cons_append]
    show (if c = 10 then _ else pGo (l ++ r) (cur ++ [c]) d n) = _
    rw [if_neg (h c (by simp)), ih (fun x hx => h x (by simp [hx]))]
    simp
theorem pGo_line (l r : List UInt8) (h : ∀ c ∈ l, c ≠ 10) (d : Dr) (n : Nat) : pGo (l ++ 10 :: r) [] d n = match takeD d l with | .inl e => .inl (n, e) | .inr d' => pGo r [] d' (n + 1) := by
  rw [pGo_run l h]
  simp [pGo]
theorem pGo_last (l : List UInt8) (h : ∀ c ∈ l, c ≠ 10) (hne : l ≠ []) (d : Dr) (n : Nat) : pGo l [] d n = .inl (n, 2) := by
  have := pGo_run l h [] [] d n
  rw [List.append_nil] at this
  rw [this]
  simp [pGo, hne]
theorem pGo_ok {l r : List UInt8} (h : ∀ c ∈ l, c ≠ 10) {d d' : Dr} {n : Nat} (hd : takeD d l = .inr d') : pGo (l ++ [10] ++ r) [] d n = pGo r [] d' (n + 1) := by
  rw [List.append_assoc, List.singleton_append, pGo_line l r h, hd]

/-! ### What was parsed is right -/
structure GoodD (d : Dr) : Prop where
  lo : 0 ≤ d.last
  k : 0 ≤ d.k ∧ d.k ≤ 3
  i : 1 ≤ d.last → 0 ≤ d.i ∧ d.i ≤ 8
  n : 2 ≤ d.last → 1 ≤ d.n ∧ d.n ≤ 4
  len : d.ls.length ≤ 64
  ls : ∀ l ∈ d.ls, lineB l d.i d.n = true
  none : d.last < 2 → d.ls = []
theorem good0 : GoodD dr0 := ⟨by decide, by decide, by decide, by decide, by decide, by simp [dr0], by simp [dr0]⟩
theorem numGo_ge (most : Int) : ∀ (l : List UInt8) (f : Bool) (n x : Int), 0 ≤ n → n ≤ most → numGo most l f n = some x → 0 ≤ x ∧ x ≤ most := by
  intro l
  induction l with
  | nil => intro f n x h0 h1 h; simp [numGo] at h; subst h; exact ⟨h0, h1⟩
  | cons c r ih =>
    intro f n x h0 h1 h
    unfold numGo at h
    split at h
    · cases h
    · rename_i hc
      split at h
      · cases h
      · rename_i hm
        exact ih _ _ _ (by omega) (by omega) h
theorem numB_in {line word : List UInt8} {least most : Int} (hm : 0 ≤ most) (h : (numB line word least most).2 = true) : least ≤ (numB line word least most).1 ∧ 0 ≤ (numB line word least most).1 ∧ (numB line word least most).1 ≤ most := by
  unfold numB at h ⊢
  by_cases hc : word.isPrefixOf line = true ∧ line.drop word.length ≠ []
  · rw [if_pos hc] at h ⊢
    cases hg : numGo most (line.drop word.length) true 0 with
    | none => rw [hg] at h; simp at h
    | some x =>
      rw [hg] at h
      simp at h
      have := numGo_ge most _ _ _ _ (by omega) hm hg
      exact ⟨h, this⟩
  · rw [if_neg hc] at h; cases h
theorem outOf_in (c : UInt8) : 0 ≤ outOf c ∧ outOf c ≤ 2 := by
  unfold outOf; split
  · omega
  · split <;> omega
theorem size_str (l : List UInt8) : (str l).size = l.length := by simp [str, ByteArray.size]
theorem row_right {line : List UInt8} {i n : Int} (hi : 0 ≤ i) (hn : 0 ≤ n) (h : rowOk line i n = true) : lineB (rowLn line i) i n = true := by
  unfold rowOk at h
  simp only [Bool.and_eq_true, decide_eq_true_eq] at h
  obtain ⟨⟨⟨hl, _⟩, hc⟩, _⟩ := h
  rw [lineB_iff]
  have hs : (str (line.take i.toNat)).size = i.toNat := by rw [size_str, List.length_take]; omega
  have hr := parsed_right hc
  rw [hs, Int.toNat_of_nonneg hi] at hr
  refine ⟨hr, ?_, ?_⟩
  · simp [rowLn]; omega
  · intro x hx
    simp only [rowLn, List.mem_map] at hx
    obtain ⟨c, _, rfl⟩ := hx
    exact outOf_in c
theorem kindOf_in {w : List UInt8} {k : Int} (h : kindOf w = some k) : 0 ≤ k ∧ k ≤ 3 := by
  unfold kindOf at h
  split at h
  · cases h; omega
  · split at h
    · cases h; omega
    · split at h
      · cases h; omega
      · split at h
        · cases h; omega
        · cases h
theorem step_good {d d' : Dr} {line : List UInt8} (g : GoodD d) (h : stepD d line = .inr d') : GoodD d' := by
  unfold stepD at h
  split at h
  · rename_i h0
    split at h
    · rename_i hn
      cases h
      have hin := numB_in (by decide) hn
      have he := g.none (by omega)
      exact ⟨by show (0 : Int) ≤ 1; omega, g.k, fun _ => hin.2, fun h => absurd h (by show ¬ (2 : Int) ≤ 1; omega), g.len, by show ∀ l ∈ d.ls, _; rw [he]; simp, fun _ => he⟩
    · cases h
  · split at h
    · rename_i h0 h1
      split at h
      · rename_i hn
        cases h
        have hin := numB_in (by decide) hn
        have he := g.none (by omega)
        exact ⟨by show (0 : Int) ≤ 2; omega, g.k, fun _ => g.i (by omega), fun _ => ⟨hin.1, hin.2.2⟩, g.len, by show ∀ l ∈ d.ls, _; rw [he]; simp, fun h => absurd h (by show ¬ (2 : Int) < 2; omega)⟩
      · cases h
    · rename_i h0 h1
      have hlo := g.lo
      split at h
      · cases h
      · split at h
        · split at h
          · rename_i k hk
            cases h
            exact ⟨by show (0 : Int) ≤ 3; omega, kindOf_in hk, fun _ => g.i (by omega), fun _ => g.n (by omega), g.len, g.ls, fun h => absurd h (by show ¬ (3 : Int) < 2; omega)⟩
          · cases h
        · split at h
          · split at h
            · cases h
              exact ⟨by show (0 : Int) ≤ 4; omega, g.k, fun _ => g.i (by omega), fun _ => g.n (by omega), g.len, g.ls, fun h => absurd h (by show ¬ (4 : Int) < 2; omega)⟩
            · cases h
          · split at h
            · split at h
              · cases h
                exact ⟨by show (0 : Int) ≤ 6; omega, g.k, fun _ => g.i (by omega), fun _ => g.n (by omega), g.len, g.ls, fun h => absurd h (by show ¬ (6 : Int) < 2; omega)⟩
              · cases h
            · split at h
              · rename_i hr
                split at h
                · cases h
                · rename_i h64
                  cases h
                  have hi := g.i (by omega)
                  have hn := g.n (by omega)
                  refine ⟨by show (0 : Int) ≤ 5; omega, g.k, fun _ => hi, fun _ => hn, ?_, ?_, fun h => absurd h (by show ¬ (5 : Int) < 2; omega)⟩
                  · show (d.ls ++ _).length ≤ 64
                    have := g.len
                    simp; omega
                  · intro l hl
                    have hl' : l ∈ d.ls ++ [rowLn line d.i] := hl
                    rw [List.mem_append, List.mem_singleton] at hl'
                    rcases hl' with hl' | rfl
                    · exact g.ls l hl'
                    · exact row_right hi.1 (Int.le_trans (by decide) hn.1) hr
              · cases h
theorem take_good {d d' : Dr} {line : List UInt8} (g : GoodD d) (h : takeD d line = .inr d') : GoodD d' := by
  unfold takeD at h
  split at h
  · cases h; exact g
  · exact step_good g h
theorem pGo_good : ∀ (s cur : List UInt8) (d : Dr) (n m : Nat) (d' : Dr), GoodD d → pGo s cur d n = .inr (m, d') → GoodD d' := by
  intro s
  induction s with
  | nil =>
    intro cur d n m d' g h
    unfold pGo at h
    split at h
    · cases h; exact g
    · cases h
  | cons c r ih =>
    intro cur d n m d' g h
    unfold pGo at h
    split at h
    · split at h
      · cases h
      · rename_i d2 hd
        exact ih _ _ _ _ _ (take_good g hd) h
    · exact ih _ _ _ _ _ g h
theorem parse_right {s : List UInt8} {t : Tb} (h : parseT s = some t) : rightT t = true := by
  unfold parseT at h
  split at h
  · cases h
  · split at h
    · cases h
    · rename_i n d hp
      split at h
      · rename_i h6
        cases h
        have g := pGo_good _ _ _ _ _ _ good0 hp
        rw [rightT_iff]
        exact ⟨⟨g.k, g.i (by omega), g.n (by omega)⟩, g.len, g.ls⟩
      · cases h
theorem parse_E {s : List UInt8} {t : Tb} (h : parseT s = some t) : parseE s = (0, 0) := by
  unfold parseT at h
  unfold parseE
  split at h
  · cases h
  · rename_i h8
    rw [if_neg h8]
    split at h
    · cases h
    · rename_i n d hp
      rw [hp]
      split at h
      · rename_i h6
        simp [h6]
      · cases h
end Go.Proofs.YtckmjampgeojbaaGreatDoor
namespace Go.Proofs.YtckmjampgeojbaaGreatDoor
open Go.RowKit Go.Joins

theorem pre_ne {a b : UInt8} (h : a ≠ b) (p l : List UInt8) : (a :: p).isPrefixOf (b :: l) = false := by
  show (a == b && p.isPrefixOf l) = false
  rw [beq_false_of_ne h]; rfl
theorem num_i (n : Nat) (h : n ≤ 8) : numB (wordI ++ digL n) wordI 0 8 = ((n : Int), true) := by
  have : ∀ k, k < 9 → numB (wordI ++ digL k) wordI 0 8 = ((k : Int), true) := by decide
  exact this n (by omega)
theorem num_o (n : Nat) (h1 : 1 ≤ n) (h : n ≤ 4) : numB (wordO ++ digL n) wordO 1 4 = ((n : Int), true) := by
  have : ∀ k, k < 5 → 1 ≤ k → numB (wordO ++ digL k) wordO 1 4 = ((k : Int), true) := by decide
  exact this n (by omega) h1
set_option maxRecDepth 100000 in
theorem num_p (n : Nat) (h : n ≤ 64) : numB (wordP ++ digL n) wordP 0 64 = ((n : Int), true) := by
  have : ∀ k, k < 65 → numB (wordP ++ digL k) wordP 0 64 = ((k : Int), true) := by decide +kernel
  exact this n (by omega)
theorem kind_back (k : Int) (h0 : 0 ≤ k) (h : k ≤ 3) : kindOf (kindW k) = some k := by
  have : k = 0 ∨ k = 1 ∨ k = 2 ∨ k = 3 := by omega
  rcases this with h | h | h | h <;> subst h <;> decide
theorem dig_no10 (n : Nat) (h : n ≤ 64) : ∀ c ∈ digL n, c ≠ 10 := by
  have : ∀ k, k < 65 → ∀ c ∈ digL k, c ≠ 10 := by decide +kernel
  exact this n (by omega)
theorem kind_no10 (k : Int) (h0 : 0 ≤ k) (h : k ≤ 3) : ∀ c ∈ kindW k, c ≠ 10 := by
  have : k = 0 ∨ k = 1 ∨ k = 2 ∨ k = 3 := by omega
  rcases this with h | h | h | h <;> subst h <;> decide
theorem litC_ne (x : Nat) : litC x ≠ 10 ∧ litC x ≠ 35 ∧ litC x ≠ 46 := by
  unfold litC; split
  · decide
  · split <;> decide
theorem outC_ne (x : Int) : outC x ≠ 10 := by
  unfold outC; split
  · decide
  · split <;> decide
theorem outC_ok (x : Int) : okC (outC x) = true := by
  unfold outC; split
  · decide
  · split <;> decide
theorem outOf_outC (x : Int) (h0 : 0 ≤ x) (h2 : x ≤ 2) : outOf (outC x) = x := by
  have : x = 0 ∨ x = 1 ∨ x = 2 := by omega
  rcases this with h | h | h <;> subst h <;> decide
theorem row_no10 (l : Ln) (i : Nat) : ∀ c ∈ rowL l i, c ≠ 10 := by
  intro c hc
  unfold rowL at hc
  rw [List.mem_append, List.mem_append, List.mem_singleton] at hc
  rcases hc with (hc | hc) | hc
  · unfold txtL at hc
    obtain ⟨j, _, rfl⟩ := List.mem_map.1 hc
    exact (litC_ne _).1
  · subst hc; decide
  · obtain ⟨x, _, rfl⟩ := List.mem_map.1 hc
    exact outC_ne x
theorem row_len (l : Ln) (i : Nat) : (rowL l i).length = i + 1 + l.o.length := by
  unfold rowL; simp [txtL_len]; omega
theorem row_take (l : Ln) (i : Nat) : (rowL l i).take i = txtL l.m l.v i := by
  unfold rowL
  rw [List.append_assoc, List.take_left' (txtL_len _ _ _)]
theorem row_drop (l : Ln) (i : Nat) : (rowL l i).drop i = 32 :: l.o.map outC := by
  unfold rowL
  rw [List.append_assoc, List.drop_left' (txtL_len _ _ _)]
  rfl
theorem row_drop1 (l : Ln) (i : Nat) : (rowL l i).drop (i + 1) = l.o.map outC := by
  rw [← List.drop_drop, row_drop]; rfl
theorem row_ok {l : Ln} {i : Nat} {n : Int} (h : lineB l i n = true) : rowOk (rowL l i) i n = true := by
  rw [lineB_iff] at h
  obtain ⟨hr, hn, ho⟩ := h
  have h8 : i ≤ 8 := by have := ((rightB_iff l.m l.v i).1 hr).2.1; omega
  unfold rowOk
  simp only [Bool.and_eq_true, decide_eq_true_eq, Int.toNat_natCast]
  refine ⟨⟨⟨by rw [row_len]; omega, by rw [row_drop]; rfl⟩, by rw [row_take]; exact text_ok _ _ _ h8⟩, ?_⟩
  rw [row_drop1, List.all_eq_true]
  intro c hc
  obtain ⟨x, _, rfl⟩ := List.mem_map.1 hc
  exact outC_ok x
theorem row_back {l : Ln} {i : Nat} {n : Int} (h : lineB l i n = true) : rowLn (rowL l i) i = l := by
  rw [lineB_iff] at h
  obtain ⟨hr, hn, ho⟩ := h
  obtain ⟨e1, e2, _⟩ := text_parsed hr
  unfold rowLn
  simp only [Int.toNat_natCast]
  rw [row_take, e1, e2, row_drop1, List.map_map]
  have : l.o.map (outOf ∘ outC) = l.o := by
    conv => rhs; rw [← List.map_id l.o]
    apply List.map_congr_left
    intro x hx
    exact outOf_outC x (ho x hx).1 (ho x hx).2
  rw [this]
theorem row_ne (l : Ln) (i : Nat) : rowL l i ≠ [] := by
  intro h
  have := row_len l i
  rw [h] at this
  simp at this
  omega
theorem row_head (l : Ln) (i : Nat) : ∃ c r, rowL l i = c :: r ∧ c ≠ 35 ∧ c ≠ 46 := by
  cases i with
  | zero => exact ⟨32, l.o.map outC, rfl, by decide, by decide⟩
  | succ i =>
    have h := row_take l (i + 1)
    have e : txtL l.m l.v (i + 1) = litC (lit l.m l.v 0) :: ((List.range i).map fun j => litC (lit l.m l.v (j + 1))) := by
      unfold txtL; rw [List.range_succ_eq_map]; simp
    rw [e] at h
    cases hr : rowL l (i + 1) with
    | nil => exact absurd hr (row_ne l (i + 1))
    | cons c r =>
      rw [hr, List.take_succ_cons] at h
      injection h with h1 _
      exact ⟨c, r, rfl, by rw [h1]; exact (litC_ne _).2.1, by rw [h1]; exact (litC_ne _).2.2⟩
theorem row_skip (l : Ln) (i : Nat) : skipL (rowL l i) = false := by
  obtain ⟨c, r, e, h1, _⟩ := row_head l i
  rw [e]
  unfold skipL
  rw [pre_ne (Ne.symm h1)]; rfl
theorem row_pre (l : Ln) (i : Nat) (w : List UInt8) : (46 :: w).isPrefixOf (rowL l i) = false := by
  obtain ⟨c, r, e, _, h1⟩ := row_head l i
  rw [e, pre_ne (Ne.symm h1)]
theorem row_notE (l : Ln) (i : Nat) : rowL l i ≠ wordE := by
  obtain ⟨c, r, e, _, h1⟩ := row_head l i
  rw [e]
  unfold wordE
  intro h
  injection h with h2 _
  exact h1 h2
theorem step_row {d : Dr} {l : Ln} {i : Nat} (hi : d.i = i) (h4 : 4 ≤ d.last) (h5 : d.last ≤ 5) (hl : lineB l d.i d.n = true) (hlen : d.ls.length < 64) :
    takeD d (rowL l i) = .inr { d with ls := d.ls ++ [l], last := 5 } := by
  unfold takeD
  rw [row_skip]
  unfold stepD
  rw [hi] at hl
  have hk := row_ok hl
  have hb := row_back hl
  rw [← hi] at hk hb
  rw [if_neg (by decide), if_neg (by omega), if_neg (by omega), if_neg (by omega), if_neg (by omega), if_neg (by omega), if_neg (row_notE l i), if_pos hk, if_neg (by omega), hb]
theorem rows_go (i : Nat) (k n : Int) : ∀ (ls done : List Ln) (r : List UInt8) (last said : Int) (m : Nat), (∀ l ∈ ls, lineB l i n = true) → done.length + ls.length ≤ 64 → 4 ≤ last → last ≤ 5 →
    ∃ last' m', 4 ≤ last' ∧ last' ≤ 5 ∧ pGo (rowsL ls i ++ r) [] ⟨k, i, n, done, last, said⟩ m = pGo r [] ⟨k, i, n, done ++ ls, last', said⟩ m' := by
  intro ls
  induction ls with
  | nil => intro done r last said m _ _ h4 h5; exact ⟨last, m, h4, h5, by simp [rowsL]⟩
  | cons l ls ih =>
    intro done r last said m hl hlen h4 h5
    have e : rowsL (l :: ls) i ++ r = rowL l i ++ [10] ++ (rowsL ls i ++ r) := by simp [rowsL]
    rw [e, pGo_ok (row_no10 l i) (step_row (d := ⟨k, i, n, done, last, said⟩) (l := l) (i := i) rfl h4 h5 (hl l (by simp)) (by simp at hlen ⊢; omega))]
    obtain ⟨last', m', a, b, h⟩ := ih (done ++ [l]) r 5 said (m + 1) (fun x hx => hl x (by simp [hx])) (by simp at hlen ⊢; omega) (by omega) (by omega)
    refine ⟨last', m', a, b, ?_⟩
    show pGo _ [] ⟨k, i, n, done ++ [l], 5, said⟩ (m + 1) = _
    rw [h]
    simp
theorem rowsL_len (i : Nat) (hi : i ≤ 8) (n : Int) (hn : n ≤ 4) : ∀ ls : List Ln, (∀ l ∈ ls, lineB l i n = true) → (rowsL ls i).length ≤ ls.length * 14 := by
  intro ls
  induction ls with
  | nil => intro _; simp [rowsL]
  | cons l ls ih =>
    intro h
    have h1 := ih fun x hx => h x (by simp [hx])
    have h2 := ((lineB_iff _ _ _).1 (h l (by simp))).2.1
    have e : rowsL (l :: ls) i = rowL l i ++ [10] ++ rowsL ls i := by simp [rowsL]
    rw [e, List.length_append, List.length_append, row_len, List.length_cons]
    simp only [List.length_cons, List.length_nil]
    omega
theorem digL_len (n : Nat) : (digL n).length ≤ 2 := by unfold digL; split <;> simp
theorem kindW_len (k : Int) : (kindW k).length ≤ 3 := by
  unfold kindW; split
  · simp
  · split
    · simp
    · split <;> simp
theorem textT_len {t : Tb} (h : rightT t = true) : (textT t).length ≤ 1000 := by
  rw [rightT_iff] at h
  obtain ⟨⟨hk, hi, hn⟩, hlen, hl⟩ := h
  obtain ⟨i, ei⟩ := Int.eq_ofNat_of_zero_le hi.1
  have hl' : ∀ l ∈ t.ls, lineB l i t.n = true := by rw [ei] at hl; exact hl
  have h1 := rowsL_len i (by omega) t.n (by omega) t.ls hl'
  unfold textT headL
  rw [ei]
  simp only [List.length_append, Int.toNat_natCast, List.length_cons, List.length_nil, wordI, wordO, wordK, wordP, wordE]
  have a := digL_len i
  have b := digL_len t.n.toNat
  have c := kindW_len t.k
  have d := digL_len t.ls.length
  omega
theorem take_i (d : Dr) (h0 : d.last = 0) (n : Nat) (h : n ≤ 8) : takeD d (wordI ++ digL n) = .inr { d with i := n, last := 1 } := by
  unfold takeD
  have hs : skipL (wordI ++ digL n) = false := by unfold skipL wordI; rw [List.cons_append, pre_ne (by decide)]; rfl
  rw [hs]
  unfold stepD
  rw [if_neg (by decide), if_pos h0, num_i n h, if_pos rfl]
theorem take_o (d : Dr) (h0 : d.last = 1) (n : Nat) (h1 : 1 ≤ n) (h : n ≤ 4) : takeD d (wordO ++ digL n) = .inr { d with n := n, last := 2 } := by
  unfold takeD
  have hs : skipL (wordO ++ digL n) = false := by unfold skipL wordO; rw [List.cons_append, pre_ne (by decide)]; rfl
  rw [hs]
  unfold stepD
  rw [if_neg (by decide), if_neg (by omega), if_pos h0, num_o n h1 h, if_pos rfl]
theorem take_k (d : Dr) (h0 : d.last = 2) (k : Int) (hk : 0 ≤ k ∧ k ≤ 3) : takeD d (wordK ++ kindW k) = .inr { d with k := k, last := 3 } := by
  unfold takeD
  have hs : skipL (wordK ++ kindW k) = false := by unfold skipL wordK; rw [List.cons_append, pre_ne (by decide)]; rfl
  have hp : wordK.isPrefixOf (wordK ++ kindW k) = true := by simp
  have hd : (wordK ++ kindW k).drop 6 = kindW k := rfl
  rw [hs]
  unfold stepD
  rw [if_neg (by decide), if_neg (by omega), if_neg (by omega), if_neg (by omega), if_pos ⟨by omega, hp⟩, hd, kind_back k hk.1 hk.2]
theorem take_p (d : Dr) (h0 : d.last = 3) (n : Nat) (h : n ≤ 64) : takeD d (wordP ++ digL n) = .inr { d with said := n, last := 4 } := by
  unfold takeD
  have hs : skipL (wordP ++ digL n) = false := by unfold skipL wordP; rw [List.cons_append, pre_ne (by decide)]; rfl
  have hp : wordP.isPrefixOf (wordP ++ digL n) = true := by simp
  rw [hs]
  unfold stepD
  rw [if_neg (by decide), if_neg (by omega), if_neg (by omega), if_neg (by omega), if_neg (by omega), if_pos ⟨by omega, hp⟩, num_p n h, if_pos rfl]
theorem take_e (d : Dr) (h4 : 4 ≤ d.last) (h5 : d.last ≤ 5) (hs : d.said = d.ls.length) : takeD d wordE = .inr { d with last := 6 } := by
  unfold takeD
  rw [show skipL wordE = false from by decide]
  unfold stepD
  rw [if_neg (by decide), if_neg (by omega), if_neg (by omega), if_neg (by omega), if_neg (by omega), if_neg (by omega), if_pos rfl, if_pos (Or.inr hs)]
theorem no10_append {a b : List UInt8} (ha : ∀ c ∈ a, c ≠ 10) (hb : ∀ c ∈ b, c ≠ 10) : ∀ c ∈ a ++ b, c ≠ 10 := by
  intro c hc
  rcases List.mem_append.1 hc with h | h
  · exact ha c h
  · exact hb c h
theorem text_back {t : Tb} (h : rightT t = true) : parseT (textT t) = some t := by
  have hlen := textT_len h
  rw [rightT_iff] at h
  obtain ⟨⟨hk, hi, hn⟩, h64, hl⟩ := h
  obtain ⟨k, i, n, ls⟩ := t
  obtain ⟨i, rfl⟩ := Int.eq_ofNat_of_zero_le hi.1
  obtain ⟨n, rfl⟩ := Int.eq_ofNat_of_zero_le (show 0 ≤ n from Int.le_trans (by decide) hn.1)
  dsimp only at hk hi hn h64 hl
  unfold parseT
  rw [if_neg (by omega)]
  have e : textT ⟨k, i, n, ls⟩ = wordI ++ digL i ++ [10] ++ (wordO ++ digL n ++ [10] ++ (wordK ++ kindW k ++ [10] ++ (wordP ++ digL ls.length ++ [10] ++ (rowsL ls i ++ (wordE ++ [10] ++ []))))) := by
    unfold textT headL
    simp only [Int.toNat_natCast, List.append_assoc, List.append_nil]
  rw [e]
  rw [pGo_ok (no10_append (by decide) (dig_no10 i (by omega))) (take_i dr0 rfl i (by omega)),
    pGo_ok (no10_append (by decide) (dig_no10 n (by omega))) (take_o _ rfl n (by omega) (by omega)),
    pGo_ok (no10_append (by decide) (kind_no10 k hk.1 hk.2)) (take_k _ rfl k hk),
    pGo_ok (no10_append (by decide) (dig_no10 ls.length h64)) (take_p _ rfl ls.length h64)]
  obtain ⟨last, m, h4, h5, hgo⟩ := rows_go i k n ls [] (wordE ++ [10] ++ []) 4 ls.length (0 + 1 + 1 + 1 + 1) hl (by simpa using h64) (by omega) (by omega)
  have hgo' := hgo
  rw [pGo_ok (show ∀ c ∈ wordE, c ≠ 10 by decide) (take_e ⟨k, i, n, [] ++ ls, last, ls.length⟩ h4 h5 (by simp))] at hgo'
  have hE : pGo (rowsL ls i ++ (wordE ++ [10] ++ [])) [] ⟨k, i, n, [], 4, ls.length⟩ (0 + 1 + 1 + 1 + 1) = .inr (m + 1, ⟨k, i, n, ls, 6, ls.length⟩) := hgo'
  show (match pGo (rowsL ls i ++ (wordE ++ [10] ++ [])) [] ⟨k, i, n, [], 4, ls.length⟩ (0 + 1 + 1 + 1 + 1) with | .inl _ => none | .inr (_, d) => if d.last = 6 then some (⟨d.k, d.i, d.n, d.ls⟩ : Tb) else none) = _
  rw [hE]
  simp
end Go.Proofs.YtckmjampgeojbaaGreatDoor
namespace Go.Proofs.YtckmjampgeojbaaGreatDoor
open Go.RowKit Go.Joins

/-- The slice v reads as the numbers o; what it reads lies below block B. -/
def IntsAt (w : World) (B : Nat) (v : Value) (o : List Int) : Prop :=
  ∃ A c, v = .slice A o.length c ∧ o.length ≤ 9223372036854775807 ∧
    (0 < o.length → ∃ b off, A = some ⟨b, off, none⟩ ∧ b < B ∧ ∀ j x, o[j]? = some x → w.cell? ⟨b, off + j, none⟩ = some (.int .i64 x))
/-- The slice v reads as the lines ls. -/
def LinesAt (w : World) (B : Nat) (v : Value) (ls : List Ln) : Prop :=
  ∃ A c, v = .slice A ls.length c ∧ ls.length ≤ 9223372036854775807 ∧
    (0 < ls.length → ∃ b off, A = some ⟨b, off, none⟩ ∧ b < B ∧ ∀ j l, ls[j]? = some l → ∃ ov, w.cell? ⟨b, off + j * 3, none⟩ = some (bvv l.m) ∧ w.cell? ⟨b, off + j * 3 + 1, none⟩ = some (bvv l.v) ∧
      w.cell? ⟨b, off + j * 3 + 2, none⟩ = some ov ∧ IntsAt w B ov l.o)
def tv (k i n : Int) (L : Value) : Value := .agg #[.int .i64 k, .int .i64 i, .int .i64 n, L]
def tb (k i n : Int) (L : Value) : Obj := .cells #[.int .i64 k, .int .i64 i, .int .i64 n, L] 33 (0, 0)
def lv (m v : BitVec 8) (O : Value) : Value := .agg #[bvv m, bvv v, O]
def lb (m v : BitVec 8) (O : Value) : Obj := .cells #[bvv m, bvv v, O] 93 (0, 0)

theorem IntsAt.below {w w' : World} {B : Nat} {v : Value} {o : List Int} (h : IntsAt w B v o) (hb : Below B w w') : IntsAt w' B v o := by
  obtain ⟨A, c, e, hl, h⟩ := h
  refine ⟨A, c, e, hl, fun h0 => ?_⟩
  obtain ⟨b, off, eA, hB, hc⟩ := h h0
  exact ⟨b, off, eA, hB, fun j x hx => (hb.cell (p := ⟨b, off + j, none⟩) hB).trans (hc j x hx)⟩
theorem IntsAt.more {w : World} {B B' : Nat} {v : Value} {o : List Int} (h : IntsAt w B v o) (hB : B ≤ B') : IntsAt w B' v o := by
  obtain ⟨A, c, e, hl, h⟩ := h
  refine ⟨A, c, e, hl, fun h0 => ?_⟩
  obtain ⟨b, off, eA, hb, hc⟩ := h h0
  exact ⟨b, off, eA, by omega, hc⟩
theorem LinesAt.below {w w' : World} {B : Nat} {v : Value} {ls : List Ln} (h : LinesAt w B v ls) (hb : Below B w w') : LinesAt w' B v ls := by
  obtain ⟨A, c, e, hl, h⟩ := h
  refine ⟨A, c, e, hl, fun h0 => ?_⟩
  obtain ⟨b, off, eA, hB, hc⟩ := h h0
  refine ⟨b, off, eA, hB, fun j l hx => ?_⟩
  obtain ⟨ov, c0, c1, c2, hi⟩ := hc j l hx
  exact ⟨ov, (hb.cell (p := ⟨b, off + j * 3, none⟩) hB).trans c0, (hb.cell (p := ⟨b, off + j * 3 + 1, none⟩) hB).trans c1, (hb.cell (p := ⟨b, off + j * 3 + 2, none⟩) hB).trans c2, hi.below hb⟩
theorem LinesAt.more {w : World} {B B' : Nat} {v : Value} {ls : List Ln} (h : LinesAt w B v ls) (hB : B ≤ B') : LinesAt w B' v ls := by
  obtain ⟨A, c, e, hl, h⟩ := h
  refine ⟨A, c, e, hl, fun h0 => ?_⟩
  obtain ⟨b, off, eA, hb, hc⟩ := h h0
  refine ⟨b, off, eA, by omega, fun j l hx => ?_⟩
  obtain ⟨ov, c0, c1, c2, hi⟩ := hc j l hx
  exact ⟨ov, c0, c1, c2, hi.more hB⟩
/-- A box of three cells, here and now. -/
theorem now3 {w : World} {b : Nat} {T : TypeId} {C : Array Value} {x0 x1 x2 : Value} (h : w.heap[b]? = some (.cells C T (0, 0))) (hC : C = #[x0, x1, x2]) :
    w.cell? ⟨b, 0, none⟩ = some x0 ∧ w.cell? ⟨b, 1, none⟩ = some x1 ∧ w.cell? ⟨b, 2, none⟩ = some x2 ∧ (∀ j : Nat, w.frozen? ⟨b, j, none⟩ = false) := by
  subst hC
  exact ⟨by rw [cell_of_block h]; rfl, by rw [cell_of_block h]; rfl, by rw [cell_of_block h]; rfl, unfrozen_of_block h⟩
def greatL (ls : List Ln) : Bool := (ls.any fun l : Ln => decide (20 < l.o.length)) || decide (100 < ls.length)
theorem greatL_no {ls : List Ln} (h : greatL ls = false) : ls.length ≤ 100 := by
  unfold greatL at h; simp at h; exact h.2
end Go.Proofs.YtckmjampgeojbaaGreatDoor
