/- What comes of a call that makes families, plain; its joins; the members as a row that rises. The primes of a set by halves, as families of members, plain: which rows of literals they are, and which cubes. The document's Part and Least of layer 8. The document's Least of layer 8. -/
import Derived.Test.YtehpccanjlaokaaGreatGQ15
import Derived.Test.YtehpccanjlaokaaGreatGQ16
import Derived.Test.YtehpccanjlaokaaGreatGQ06
import Derived.Test.YtehpccanjlaokaaGreatGQ08
namespace Go.Proofs.YtehpccanjlaokaaGreat

/-- What is left behind: the places, the id and the error; at most B nodes more. -/
structure OutZ (D room : Nat) (S : St) (F : Nat → Bool) (B : Nat) (T : St) (id e : Int) : Prop where
  ext : Ext S T
  zst : ZSt T
  few : cnt T ≤ cnt S + B
  res : (e = 0 ∧ 0 ≤ lvl T id ∧ 24 ≤ lvl T id + D ∧ zf T D id = F) ∨ (e = 5 ∧ id = 0 ∧ room ≤ cnt T)
theorem OutZ.stay {D room : Nat} {S : St} {F : Nat → Bool} {id : Int} (hZ : ZSt S) (h0 : 0 ≤ lvl S id) (h1 : 24 ≤ lvl S id + D) (h2 : zf S D id = F) (B : Nat) : OutZ D room S F B S id 0 :=
  ⟨Ext.refl S, hZ, Nat.le_add_right _ _, .inl ⟨rfl, h0, h1, h2⟩⟩
theorem OutZ.more {D room B B' : Nat} {S T : St} {F : Nat → Bool} {id e : Int} (h : OutZ D room S F B T id e) (hB : B ≤ B') : OutZ D room S F B' T id e :=
  ⟨h.ext, h.zst, by have := h.few; omega, h.res⟩
theorem OutZ.same {D room B : Nat} {S T : St} {F G : Nat → Bool} {id e : Int} (h : OutZ D room S F B T id e) (hF : F = G) : OutZ D room S G B T id e := hF ▸ h
theorem OutZ.ok {D room B : Nat} {S T : St} {F : Nat → Bool} {id : Int} (h : OutZ D room S F B T id 0) : 0 ≤ lvl T id ∧ 24 ≤ lvl T id + D ∧ zf T D id = F := by
  rcases h.res with ⟨-, h1⟩ | ⟨h2, -, -⟩
  · exact h1
  · cases h2
theorem OutZ.bad {D room B : Nat} {S T : St} {F : Nat → Bool} {id e : Int} (h : OutZ D room S F B T id e) (he : e ≠ 0) : e = 5 ∧ id = 0 ∧ room ≤ cnt T := by
  rcases h.res with ⟨h1, -⟩ | h2
  · exact absurd h1 he
  · exact h2
/-- One item more, which no member has. -/
theorem OutZ.lift {D room B : Nat} {S T : St} {F G : Nat → Bool} {id e : Int} (h : OutZ D room S F B T id e) (h0 : half0 G = F) (h1 : half1 G = fun _ => false) : OutZ (D + 1) room S G B T id e := by
  refine ⟨h.ext, h.zst, h.few, ?_⟩
  rcases h.res with ⟨e0, l0, l1, hf⟩ | h2
  · have hs : 24 < lvl T id + (D + 1 : Nat) := by omega
    exact .inl ⟨e0, l0, by omega, famh_ext (by rw [zf_skip0 hs, hf, h0]) (by rw [zf_skip1 hs, h1])⟩
  · exact .inr h2
/-- A first call that tells an error. -/
theorem OutZ.fail0 {D D' room B B' : Nat} {S T : St} {F G : Nat → Bool} {id e : Int} (h : OutZ D room S F B T id e) (he : e ≠ 0) (hB : B ≤ B') : OutZ D' room S G B' T 0 e := by
  obtain ⟨h1, -, h3⟩ := h.bad he
  exact ⟨h.ext, h.zst, by have := h.few; omega, .inr ⟨h1, rfl, h3⟩⟩
/-- A second call that does. -/
theorem OutZ.fail1 {D D1 D' room B B1 B' : Nat} {S T U : St} {F F1 G : Nat → Bool} {a id e : Int} (h : OutZ D room S F B T a 0) (h1 : OutZ D1 room T F1 B1 U id e) (he : e ≠ 0) (hB : B + B1 ≤ B') : OutZ D' room S G B' U 0 e := by
  obtain ⟨e1, -, e3⟩ := h1.bad he
  exact ⟨h.ext.trans h1.ext, h1.zst, by have := h.few; have := h1.few; omega, .inr ⟨e1, rfl, e3⟩⟩
/-- One behind the other. -/
theorem OutZ.then {D D1 room B B1 : Nat} {S T U : St} {F F1 : Nat → Bool} {a id e : Int} (h : OutZ D room S F B T a 0) (h1 : OutZ D1 room T F1 B1 U id e) : OutZ D1 room S F1 (B + B1) U id e :=
  ⟨h.ext.trans h1.ext, h1.zst, by have := h.few; have := h1.few; omega, h1.res⟩
/-- The high is empty: the low is the answer. -/
theorem OutZ.low {D room B B1 : Nat} {S T U : St} {F F0 F1 : Nat → Bool} {a : Int} (hD : D + 1 ≤ 24) (h0 : OutZ D room S F0 B T a 0) (h1 : OutZ D room T F1 B1 U 0 0) (e0 : half0 F = F0) (e1 : half1 F = F1) : OutZ (D + 1) room S F (B + B1) U a 0 := by
  obtain ⟨l0, l1, l2⟩ := h0.ok
  obtain ⟨-, -, m2⟩ := h1.ok
  have hlv := h1.ext.lvl l0
  have hfz := h1.ext.zf h0.zst.vst D a (by omega) l0 l1
  have hs : 24 < lvl U a + (D + 1 : Nat) := by rw [hlv]; omega
  refine ⟨h0.ext.trans h1.ext, h1.zst, by have := h0.few; have := h1.few; omega, .inl ⟨rfl, by rw [hlv]; exact l0, by rw [hlv]; omega, famh_ext ?_ ?_⟩⟩
  · rw [zf_skip0 hs, hfz, l2, e0]
  · rw [zf_skip1 hs, e1, ← m2]
    funext n
    exact (zf_zero U D n (by omega)).symm
theorem cnt_made (room : Nat) (S : St) (n : Nd) : cnt (mkS room S n).1 ≤ cnt S + 1 := by
  unfold mkS
  split
  · exact Nat.le_succ _
  · split
    · exact Nat.le_succ _
    · split
      · exact Nat.le_succ _
      · show cnt (putS S (freeI S) n) ≤ _
        rw [cnt_put (freeI_le S) free_not]
        exact Nat.le_refl _
/-- The high is not empty: a node. -/
theorem OutZ.make {D room B B1 : Nat} {S T U : St} {F F0 F1 : Nat → Bool} {a b k : Int} (hk : k + (D + 1 : Nat) = 24) (hk0 : 0 ≤ k) (h0 : OutZ D room S F0 B T a 0) (h1 : OutZ D room T F1 B1 U b 0) (hb : b ≠ 0) (e0 : half0 F = F0) (e1 : half1 F = F1) :
    OutZ (D + 1) room S F (B + B1 + 1) (mkS room U (k, a, b)).1 (mkS room U (k, a, b)).2.1 (mkS room U (k, a, b)).2.2 := by
  obtain ⟨l0, l1, l2⟩ := h0.ok
  obtain ⟨m0, m1, m2⟩ := h1.ok
  have hlv := h1.ext.lvl l0
  have hfz := h1.ext.zf h0.zst.vst D a (by omega) l0 l1
  have hok : okN U (k, a, b) = true := (okN_iff _ _).2 ⟨hk0, by show k < 24; omega, by show k < lvl U a; rw [hlv]; omega, by show k < lvl U b; omega⟩
  have hc := cnt_made room U (k, a, b)
  refine ⟨(h0.ext.trans h1.ext).trans (Ext.mk room U _), h1.zst.made room _ hb, by have := h0.few; have := h1.few; omega, ?_⟩
  by_cases he : (mkS room U (k, a, b)).2.2 = 0
  · obtain ⟨-, g1, g2, g3⟩ := mk_fam h1.zst.vst (D := D) hok hk he
    have g1' : lvl (mkS room U (k, a, b)).1 (mkS room U (k, a, b)).2.1 = k := g1
    refine .inl ⟨he, by rw [g1']; exact hk0, by rw [g1']; omega, famh_ext ?_ ?_⟩
    · rw [g2, e0]
      show zf U D a = F0
      rw [hfz, l2]
    · rw [g3, e1]
      exact m2
  · refine .inr ?_
    unfold mkS at he ⊢
    rw [if_neg (by rw [hok]; decide)] at he ⊢
    cases hw : whereN U (k, a, b) with
    | some i => simp only [hw] at he; exact absurd trivial he
    | none =>
      simp only [hw] at he ⊢
      split
      · rename_i hr; exact ⟨rfl, rfl, hr⟩
      · rename_i hr; rw [if_neg hr] at he; exact absurd rfl he

/-- How many nodes a family needs that shares none. -/
def tS : Nat → (Nat → Bool) → Nat
  | 0, _ => 0
  | D + 1, F => tS D (half0 F) + tS D (half1 F) + min (cF D (half1 F)) 1
theorem tS_le : ∀ (D : Nat) (F : Nat → Bool), tS D F ≤ D * cF D F
  | 0, _ => Nat.zero_le _
  | D + 1, F => by
    have h0 := tS_le D (half0 F)
    have h1 := tS_le D (half1 F)
    have e : cF (D + 1) F = cF D (half0 F) + cF D (half1 F) := rfl
    rw [tS, e, Nat.add_mul, Nat.mul_add, Nat.one_mul]
    omega
theorem tS_mono {F G : Nat → Bool} : ∀ D, (∀ n, F n = true → G n = true) → tS D F ≤ tS D G := by
  intro D
  induction D generalizing F G with
  | zero => intro _; exact Nat.le_refl _
  | succ D ih =>
    intro h
    have h0 := ih (F := half0 F) (G := half0 G) (fun n hn => h _ hn)
    have h1 := ih (F := half1 F) (G := half1 G) (fun n hn => h _ hn)
    have h2 := cF_le (F := half1 F) (G := half1 G) D (fun n hn => h _ hn)
    rw [tS, tS]
    omega
theorem tS_lift {D : Nat} {F G : Nat → Bool} (h0 : half0 G = F) (h1 : half1 G = fun _ => false) : tS (D + 1) G = tS D F := by
  have h2 := tS_le D (fun _ => false)
  rw [cF_false, Nat.mul_zero] at h2
  rw [tS, h0, h1, cF_false]
  omega
/-- As much as it needs, and no more than b. -/
def tB (D : Nat) (F : Nat → Bool) (b : Nat) : Nat := min (tS D F) b
theorem tB_le (D : Nat) (F : Nat → Bool) (b : Nat) : tB D F b ≤ b := Nat.min_le_right _ _
theorem tB_les (D : Nat) (F : Nat → Bool) (b : Nat) : tB D F b ≤ tS D F := Nat.min_le_left _ _
theorem tB_both {D : Nat} {F F0 F1 : Nat → Bool} {b b0 b1 : Nat} (e0 : half0 F = F0) (e1 : half1 F = F1) (h : b0 + b1 + 1 ≤ b) : tB D F0 b0 + tB D F1 b1 ≤ tB (D + 1) F b := by
  unfold tB
  rw [tS, e0, e1]
  omega
theorem tB_node {D : Nat} {F F0 F1 : Nat → Bool} {b b0 b1 : Nat} (e0 : half0 F = F0) (e1 : half1 F = F1) (h : b0 + b1 + 1 ≤ b) (hc : 1 ≤ cF D F1) : tB D F0 b0 + tB D F1 b1 + 1 ≤ tB (D + 1) F b := by
  unfold tB
  rw [tS, e0, e1]
  omega
theorem tB_more {D D' : Nat} {F F' : Nat → Bool} {b b' : Nat} (h : tS D F ≤ tS D' F') (hb : b ≤ b') : tB D F b ≤ tB D' F' b' := by
  unfold tB; omega

/-! ### The members as a row -/
def famL (D : Nat) (F : Nat → Bool) : List Nat := (List.range (2 ^ D)).filter F
theorem famL_mem {D : Nat} {F : Nat → Bool} {x : Nat} : x ∈ famL D F ↔ x < 2 ^ D ∧ F x = true := by
  unfold famL
  rw [List.mem_filter, List.mem_range]
theorem famL_srt (D : Nat) (F : Nat → Bool) : srtN (famL D F) := by
  unfold famL srtN
  exact List.Pairwise.filter _ List.pairwise_lt_range
theorem famL_len (D : Nat) (F : Nat → Bool) : (famL D F).length = cF D F := by
  unfold famL
  rw [← List.countP_eq_length_filter, cF_count]
/-- A row of members that rises is that of its family. -/
theorem famL_eq {D : Nat} {F : Nat → Bool} {r : List Nat} (hr : srtN r) (h : ∀ x, x ∈ r ↔ x < 2 ^ D ∧ F x = true) : famL D F = r :=
  srt_ext (famL_srt D F) hr fun x => by rw [famL_mem, h]
/-- The family of a row. -/
def rowF (l : List Nat) : Nat → Bool := fun n => decide (n ∈ l)
theorem cF_row_le {D : Nat} (l : List Nat) : cF D (rowF l) ≤ l.length := by
  induction l with
  | nil =>
    have e : rowF [] = fun _ => false := by funext n; unfold rowF; simp
    rw [e, cF_false]
    exact Nat.zero_le _
  | cons x l ih =>
    have e : rowF (x :: l) = fun n => rowF [x] n || rowF l n := by
      funext n
      unfold rowF
      rw [Bool.eq_iff_iff]
      simp
    rw [e]
    have h1 := cF_or D (rowF [x]) (rowF l)
    have h2 : cF D (rowF [x]) ≤ 1 := by
      rw [← cF_count]
      have : (List.range (2 ^ D)).countP (rowF [x]) = (List.range (2 ^ D)).countP (fun j => decide (j = x)) := by
        congr 1
        funext j
        unfold rowF
        simp
      rw [this]
      exact countP_one8
    rw [List.length_cons]
    omega
end Go.Proofs.YtehpccanjlaokaaGreat
namespace Go.Proofs.YtehpccanjlaokaaGreat

/-- The points that are in both halves. -/
def bothS (s : Nat → Bool) : Nat → Bool := fun p => half0 s p && half1 s p
/-- The members of the primes of s, which has points of k inputs. -/
def FP : Nat → (Nat → Bool) → Nat → Bool
  | 0, s, x => decide (x = 0) && s 0
  | k + 1, s, x =>
    if x % 4 = 0 then FP k (bothS s) (x / 4)
    else if x % 4 = 1 then FP k (half0 s) (x / 4) && !FP k (bothS s) (x / 4)
    else if x % 4 = 2 then FP k (half1 s) (x / 4) && !FP k (bothS s) (x / 4)
    else false
/-- Is a row of literals, those of the first k inputs, within s? -/
def inC : Nat → (Nat → Bool) → (Nat → Nat) → Bool
  | 0, s, _ => s 0
  | k + 1, s, c => inC k (if c 0 = 0 then half0 s else if c 0 = 1 then half1 s else bothS s) (fun j => c (j + 1))
/-- One literal dropped. -/
def drpC (c : Nat → Nat) (j : Nat) : Nat → Nat := fun q => if q = j then 2 else c q
def prC (k : Nat) (s : Nat → Bool) (c : Nat → Nat) : Prop := inC k s c = true ∧ ∀ j, j < k → c j < 2 → inC k s (drpC c j) = false
/-- Its member. -/
def mC : Nat → (Nat → Nat) → Nat
  | 0, _ => 0
  | k + 1, c => 4 * mC k (fun j => c (j + 1)) + (if c 0 = 0 then 1 else if c 0 = 1 then 2 else 0)
theorem inC_mono : ∀ (k : Nat) {s t : Nat → Bool} {c : Nat → Nat}, (∀ p, s p = true → t p = true) → inC k s c = true → inC k t c = true
  | 0, s, t, c, h, hi => h 0 hi
  | k + 1, s, t, c, h, hi => by
    rw [inC] at hi ⊢
    refine inC_mono k (fun p hp => ?_) hi
    by_cases h0 : c 0 = 0
    · rw [if_pos h0] at hp ⊢; exact h _ hp
    · rw [if_neg h0] at hp ⊢
      by_cases h1 : c 0 = 1
      · rw [if_pos h1] at hp ⊢; exact h _ hp
      · rw [if_neg h1] at hp ⊢
        unfold bothS at hp ⊢
        rw [Bool.and_eq_true] at hp ⊢
        exact ⟨h _ hp.1, h _ hp.2⟩
theorem both_0 {s : Nat → Bool} (p : Nat) (h : bothS s p = true) : half0 s p = true := by unfold bothS at h; rw [Bool.and_eq_true] at h; exact h.1
theorem both_1 {s : Nat → Bool} (p : Nat) (h : bothS s p = true) : half1 s p = true := by unfold bothS at h; rw [Bool.and_eq_true] at h; exact h.2
theorem drpC_0 (c : Nat → Nat) : (fun j => drpC c 0 (j + 1)) = fun j => c (j + 1) := by
  funext j; unfold drpC; rw [if_neg (by omega)]
theorem drpC_s (c : Nat → Nat) (j : Nat) : (fun q => drpC c (j + 1) (q + 1)) = drpC (fun q => c (q + 1)) j := by
  funext q; unfold drpC
  by_cases h : q = j
  · rw [if_pos h, if_pos (by omega)]
  · rw [if_neg h, if_neg (by omega)]
theorem drpC_at0 (c : Nat → Nat) (j : Nat) : drpC c (j + 1) 0 = c 0 := by unfold drpC; rw [if_neg (by omega)]
theorem prC_two {k : Nat} {s : Nat → Bool} {c : Nat → Nat} (h : c 0 = 2) : prC (k + 1) s c ↔ prC k (bothS s) (fun j => c (j + 1)) := by
  unfold prC
  rw [inC, if_neg (by omega), if_neg (by omega)]
  constructor
  · rintro ⟨h1, h2⟩
    refine ⟨h1, fun j hj hc => ?_⟩
    have := h2 (j + 1) (by omega) hc
    rw [inC, drpC_at0, if_neg (by omega), if_neg (by omega), drpC_s] at this
    exact this
  · rintro ⟨h1, h2⟩
    refine ⟨h1, fun j hj hc => ?_⟩
    cases j with
    | zero => omega
    | succ j =>
      rw [inC, drpC_at0, if_neg (by omega), if_neg (by omega), drpC_s]
      exact h2 j (by omega) hc
theorem prC_lit {k : Nat} {s : Nat → Bool} {c : Nat → Nat} (h : c 0 < 2) : prC (k + 1) s c ↔ prC k (if c 0 = 0 then half0 s else half1 s) (fun j => c (j + 1)) ∧ inC k (bothS s) (fun j => c (j + 1)) = false := by
  have e : (if c 0 = 0 then half0 s else if c 0 = 1 then half1 s else bothS s) = if c 0 = 0 then half0 s else half1 s := by
    by_cases h0 : c 0 = 0
    · rw [if_pos h0, if_pos h0]
    · rw [if_neg h0, if_neg h0, if_pos (by omega)]
  unfold prC
  rw [inC, e]
  constructor
  · rintro ⟨h1, h2⟩
    refine ⟨⟨h1, fun j hj hc => ?_⟩, ?_⟩
    · have := h2 (j + 1) (by omega) hc
      rw [inC, drpC_at0, e, drpC_s] at this
      exact this
    · have := h2 0 (by omega) h
      rw [inC, show drpC c 0 0 = 2 from rfl, if_neg (by omega), if_neg (by omega), drpC_0] at this
      exact this
  · rintro ⟨⟨h1, h2⟩, h3⟩
    refine ⟨h1, fun j hj hc => ?_⟩
    cases j with
    | zero => rw [inC, show drpC c 0 0 = 2 from rfl, if_neg (by omega), if_neg (by omega), drpC_0]; exact h3
    | succ j =>
      rw [inC, drpC_at0, e, drpC_s]
      exact h2 j (by omega) hc
/-- What is prime in a half, and not within both, is not prime in both. -/
theorem prC_less {k : Nat} {s t : Nat → Bool} {c : Nat → Nat} (h : ∀ p, t p = true → s p = true) : (prC k s c ∧ ¬ prC k t c) ↔ (prC k s c ∧ inC k t c = false) := by
  constructor
  · rintro ⟨h1, h2⟩
    refine ⟨h1, ?_⟩
    cases hi : inC k t c
    · rfl
    · refine absurd ⟨hi, fun j hj hc => ?_⟩ h2
      cases hd : inC k t (drpC c j)
      · rfl
      · have := inC_mono k h hd
        rw [h1.2 j hj hc] at this; cases this
  · rintro ⟨h1, h2⟩
    exact ⟨h1, fun h3 => by rw [h3.1] at h2; cases h2⟩
theorem mC_mod {k : Nat} {c : Nat → Nat} : mC (k + 1) c % 4 = (if c 0 = 0 then 1 else if c 0 = 1 then 2 else 0) ∧ mC (k + 1) c / 4 = mC k (fun j => c (j + 1)) := by
  rw [mC]
  generalize mC k (fun j => c (j + 1)) = a
  split
  · omega
  · split <;> omega
theorem FP_row : ∀ (k : Nat) (s : Nat → Bool) (c : Nat → Nat), (∀ j, c j ≤ 2) → (FP k s (mC k c) = true ↔ prC k s c)
  | 0, s, c, _ => by
    unfold prC
    rw [FP, mC, inC]
    simp
  | k + 1, s, c, hc => by
    obtain ⟨e0, e1⟩ := mC_mod (k := k) (c := c)
    have ih := fun t => FP_row k t (fun j => c (j + 1)) (fun j => hc (j + 1))
    rw [FP, e0, e1]
    have h2 := hc 0
    rcases (by omega : c 0 = 0 ∨ c 0 = 1 ∨ c 0 = 2) with h | h | h
    · rw [if_neg (by rw [if_pos h]; omega), if_pos (by rw [if_pos h]), Bool.and_eq_true, Bool.not_eq_true', Bool.eq_false_iff, Ne, ih, ih, prC_lit (by omega), if_pos h, prC_less both_0]
    · rw [if_neg (by rw [if_neg (by omega), if_pos h]; omega), if_neg (by rw [if_neg (by omega), if_pos h]; omega), if_pos (by rw [if_neg (by omega), if_pos h]), Bool.and_eq_true, Bool.not_eq_true', Bool.eq_false_iff, Ne, ih, ih, prC_lit (by omega), if_neg (by omega), prC_less both_1]
    · rw [if_pos (by rw [if_neg (by omega), if_neg (by omega)]), ih, prC_two h]
theorem FP_some : ∀ (k : Nat) (s : Nat → Bool) (x : Nat), FP k s x = true → ∃ c : Nat → Nat, (∀ j, c j ≤ 2) ∧ mC k c = x
  | 0, s, x, h => by
    rw [FP, Bool.and_eq_true, decide_eq_true_iff] at h
    exact ⟨fun _ => 2, fun _ => Nat.le_refl _, h.1.symm⟩
  | k + 1, s, x, h => by
    have key : ∀ d : Nat, d ≤ 2 → x % 4 = (if d = 0 then 1 else if d = 1 then 2 else 0) → (∃ t, FP k t (x / 4) = true) → ∃ c : Nat → Nat, (∀ j, c j ≤ 2) ∧ mC (k + 1) c = x := fun d hd hx ⟨t, ht⟩ => by
      obtain ⟨c, hc, e⟩ := FP_some k t _ ht
      refine ⟨fun j => if j = 0 then d else c (j - 1), fun j => ?_, ?_⟩
      · dsimp only
        split
        · exact hd
        · exact hc _
      · rw [mC]
        have e2 : (fun j => (fun j => if j = 0 then d else c (j - 1)) (j + 1)) = c := by
          funext j
          dsimp only
          rw [if_neg (by omega), Nat.add_sub_cancel]
        rw [e2, e, if_pos rfl, ← hx]
        omega
    rw [FP] at h
    split at h
    · rename_i h4
      exact key 2 (by omega) (by rw [h4]; rfl) ⟨_, h⟩
    · split at h
      · rename_i h4
        rw [Bool.and_eq_true] at h
        exact key 0 (by omega) (by rw [h4]; rfl) ⟨_, h.1⟩
      · split at h
        · rename_i h4
          rw [Bool.and_eq_true] at h
          exact key 1 (by omega) (by rw [h4]; rfl) ⟨_, h.1⟩
        · cases h
/-- To be within, point by point. -/
theorem inC_iff : ∀ (k : Nat) (s : Nat → Bool) (c : Nat → Nat), inC k s c = true ↔ ∀ p, p < 2 ^ k → (∀ j, j < k → c j < 2 → p.testBit j = decide (c j = 1)) → s p = true
  | 0, s, c => by
    rw [inC]
    constructor
    · intro h p hp _
      rw [Nat.pow_zero] at hp
      obtain rfl : p = 0 := by omega
      exact h
    · intro h
      exact h 0 (by decide) (fun j hj => by omega)
  | k + 1, s, c => by
    rw [inC, inC_iff k]
    have b0 : ∀ p : Nat, (2 * p).testBit 0 = false := fun p => by rw [Nat.testBit_zero]; simp
    have b1 : ∀ p : Nat, (2 * p + 1).testBit 0 = true := fun p => by rw [Nat.testBit_zero]; simp
    have s0 : ∀ p j : Nat, (2 * p).testBit (j + 1) = p.testBit j := fun p j => by rw [Nat.testBit_succ, show 2 * p / 2 = p by omega]
    have s1 : ∀ p j : Nat, (2 * p + 1).testBit (j + 1) = p.testBit j := fun p j => by rw [Nat.testBit_succ, show (2 * p + 1) / 2 = p by omega]
    have hp2 : 2 ^ (k + 1) = 2 * 2 ^ k := by rw [Nat.pow_succ, Nat.mul_comm]
    constructor
    · intro h p hp hb
      have h2 := h (p / 2) (by omega) (fun j hj hc => by
        have := hb (j + 1) (by omega) hc
        rw [Nat.testBit_succ] at this
        exact this)
      have hb0 := hb 0 (by omega)
      rw [Nat.testBit_zero] at hb0
      by_cases e0 : c 0 = 0
      · rw [if_pos e0] at h2
        have := hb0 (by omega)
        rw [e0] at this
        have he : p % 2 ≠ 1 := by simpa using this
        unfold half0 at h2
        rwa [show 2 * (p / 2) = p by omega] at h2
      · rw [if_neg e0] at h2
        by_cases e1 : c 0 = 1
        · rw [if_pos e1] at h2
          have := hb0 (by omega)
          rw [e1] at this
          have he : p % 2 = 1 := by simpa using this
          unfold half1 at h2
          rwa [show 2 * (p / 2) + 1 = p by omega] at h2
        · rw [if_neg e1] at h2
          rcases Nat.mod_two_eq_zero_or_one p with he | he
          · have h3 := both_0 _ h2
            unfold half0 at h3
            rwa [show 2 * (p / 2) = p by omega] at h3
          · have h3 := both_1 _ h2
            unfold half1 at h3
            rwa [show 2 * (p / 2) + 1 = p by omega] at h3
    · intro h p hp hb
      have h0 : c 0 ≠ 1 → s (2 * p) = true := fun hc => h (2 * p) (by omega) (fun j hj hcj => by
        cases j with
        | zero => rw [b0]; symm; exact decide_eq_false hc
        | succ j => rw [s0]; exact hb j (by omega) hcj)
      have h1 : c 0 ≠ 0 → s (2 * p + 1) = true := fun hc => h (2 * p + 1) (by omega) (fun j hj hcj => by
        cases j with
        | zero => rw [b1]; symm; exact decide_eq_true (by omega)
        | succ j => rw [s1]; exact hb j (by omega) hcj)
      by_cases e0 : c 0 = 0
      · rw [if_pos e0]; exact h0 (by omega)
      · rw [if_neg e0]
        by_cases e1 : c 0 = 1
        · rw [if_pos e1]; exact h1 e0
        · rw [if_neg e1]
          unfold bothS
          rw [Bool.and_eq_true]
          exact ⟨h0 e1, h1 e0⟩
theorem inC_ext {k : Nat} {s : Nat → Bool} {c d : Nat → Nat} (h : ∀ j, j < k → c j = d j) : inC k s c = inC k s d := by
  rw [Bool.eq_iff_iff, inC_iff, inC_iff]
  constructor
  · intro h1 p hp hb
    exact h1 p hp (fun j hj hc => by rw [h j hj] at hc ⊢; exact hb j hj hc)
  · intro h1 p hp hb
    exact h1 p hp (fun j hj hc => by rw [← h j hj] at hc ⊢; exact hb j hj hc)
theorem prC_ext {k : Nat} {s : Nat → Bool} {c d : Nat → Nat} (h : ∀ j, j < k → c j = d j) : prC k s c ↔ prC k s d := by
  have hd : ∀ i j, j < k → drpC c i j = drpC d i j := fun i j hj => by
    unfold drpC
    split
    · rfl
    · exact h j hj
  unfold prC
  rw [inC_ext h]
  constructor
  · rintro ⟨h1, h2⟩
    exact ⟨h1, fun j hj hc => by rw [← inC_ext (hd j)]; exact h2 j hj (by rw [h j hj]; exact hc)⟩
  · rintro ⟨h1, h2⟩
    exact ⟨h1, fun j hj hc => by rw [inC_ext (hd j)]; exact h2 j hj (by rw [← h j hj]; exact hc)⟩
theorem mC_ext : ∀ {k : Nat} {c d : Nat → Nat}, (∀ j, j < k → c j = d j) → mC k c = mC k d
  | 0, _, _, _ => rfl
  | k + 1, c, d, h => by
    rw [mC, mC, h 0 (by omega), mC_ext (k := k) (d := fun j => d (j + 1)) fun j hj => h (j + 1) (by omega)]
theorem mC_bits : ∀ (k : Nat) (c : Nat → Nat) (j : Nat), (mC k c).testBit (2 * j) = (decide (j < k) && decide (c j = 0)) ∧ (mC k c).testBit (2 * j + 1) = (decide (j < k) && decide (c j = 1))
  | 0, c, j => by rw [mC]; simp
  | k + 1, c, 0 => by
    have h := (mC_mod (k := k) (c := c)).1
    rw [Nat.mul_zero, Nat.testBit_zero, Nat.testBit_succ, Nat.testBit_zero]
    generalize mC (k + 1) c = a at *
    split at h
    · rename_i e; rw [e]; simp; omega
    · split at h
      · rename_i e; rw [e]; simp; omega
      · rename_i e0 e1; simp [e0, e1]; omega
  | k + 1, c, j + 1 => by
    have h := (mC_mod (k := k) (c := c)).2
    obtain ⟨i0, i1⟩ := mC_bits k (fun j => c (j + 1)) j
    have e0 : (mC (k + 1) c).testBit (2 * (j + 1)) = (mC k fun j => c (j + 1)).testBit (2 * j) := by
      rw [← h, show 2 * (j + 1) = 2 * j + 1 + 1 by omega, Nat.testBit_succ, Nat.testBit_succ, Nat.div_div_eq_div_mul]
    have e1 : (mC (k + 1) c).testBit (2 * (j + 1) + 1) = (mC k fun j => c (j + 1)).testBit (2 * j + 1) := by
      rw [← h, show 2 * (j + 1) + 1 = 2 * j + 1 + 1 + 1 by omega, Nat.testBit_succ, Nat.testBit_succ, Nat.div_div_eq_div_mul]
    rw [e0, e1, i0, i1]
    simp
/-- A cube's member is that of its literals. -/
theorem mem_mC {m v : BitVec 8} {n : Nat} (hn : n ≤ 8) (hm : ∀ i, n ≤ i → m.getLsbD i = false) : memB m v 0 = mC n (lit m v) := by
  apply Nat.eq_of_testBit_eq
  intro t
  have hl2 : ∀ i, (lit m v i = 0 ↔ (m.getLsbD i = true ∧ v.getLsbD i = false)) ∧ (lit m v i = 1 ↔ (m.getLsbD i = true ∧ v.getLsbD i = true)) := fun i => by
    unfold lit
    cases m.getLsbD i <;> cases v.getLsbD i <;> simp
  have big : ∀ i, 8 ≤ i → m.getLsbD i = false := fun i hi => hm i (by omega)
  obtain ⟨i, rfl | rfl⟩ : ∃ i, t = 2 * i ∨ t = 2 * i + 1 := ⟨t / 2, by omega⟩
  · rw [(mC_bits n (lit m v) i).1]
    by_cases h8 : i < 8
    · rw [memB_even _ _ _ h8, Bool.eq_iff_iff]
      simp only [Bool.and_eq_true, Bool.not_eq_true', decide_eq_true_eq, (hl2 i).1]
      constructor
      · rintro ⟨a, b⟩
        exact ⟨Classical.byContradiction fun hh => (by rw [hm i (by omega)] at a; cases a), a, b⟩
      · rintro ⟨-, a, b⟩; exact ⟨a, b⟩
    · rw [memB_bit, decide_eq_false (show ¬ i < n by omega), Bool.false_and]
      unfold mbF
      rw [if_neg (by omega)]
      simp
  · rw [(mC_bits n (lit m v) i).2]
    by_cases h8 : i < 8
    · rw [memB_odd _ _ _ h8, Bool.eq_iff_iff]
      simp only [Bool.and_eq_true, decide_eq_true_eq, (hl2 i).2]
      constructor
      · rintro ⟨a, b⟩
        exact ⟨Classical.byContradiction fun hh => (by rw [hm i (by omega)] at a; cases a), a, b⟩
      · rintro ⟨-, a, b⟩; exact ⟨a, b⟩
    · rw [memB_bit, decide_eq_false (show ¬ i < n by omega), Bool.false_and]
      unfold mbF
      rw [if_neg (by omega)]
      simp
theorem inB_lit {S : BitVec 256} {n : Nat} {m v : BitVec 8} (hr : rightB m v n = true) : inB S n m v = inC n (fun p => S.getLsbD p) (lit m v) := by
  rw [Bool.eq_iff_iff, inB_iff, inC_iff]
  have hl2 : ∀ i, (lit m v i < 2 ↔ m.getLsbD i = true) ∧ (m.getLsbD i = true → decide (lit m v i = 1) = v.getLsbD i) := fun i => by
    unfold lit
    cases m.getLsbD i <;> cases v.getLsbD i <;> simp
  constructor
  · rintro ⟨-, h⟩ p hp hb
    refine h p hp ((fits_iff _ _ _ _).2 fun i hi hm => ?_)
    rw [hb i hi ((hl2 i).1.2 hm), (hl2 i).2 hm]
  · intro h
    refine ⟨hr, fun p hp hf => h p hp fun j hj hc => ?_⟩
    have hm := (hl2 j).1.1 hc
    rw [(fits_iff _ _ _ _).1 hf j hj hm, (hl2 j).2 hm]
theorem lit_drop (m v : BitVec 8) (i : Nat) : lit (drM m i) (drM v i) = drpC (lit m v) i := by
  funext j
  unfold drpC lit
  rw [drM_bit, drM_bit]
  by_cases e : j = i
  · subst e; simp
  · simp [e]
theorem primB_lit {S : BitVec 256} {n : Nat} {m v : BitVec 8} : primB S n m v = true ↔ rightB m v n = true ∧ prC n (fun p => S.getLsbD p) (lit m v) := by
  have hlm : ∀ i, lit m v i < 2 ↔ m.getLsbD i = true := fun i => by
    unfold lit
    cases m.getLsbD i <;> cases v.getLsbD i <;> simp
  rw [primB_iff, Int.toNat_natCast]
  unfold prC
  constructor
  · rintro ⟨h1, h2⟩
    have hr := ((inB_iff S n m v).1 h1).1
    refine ⟨hr, by rw [← inB_lit hr]; exact h1, fun j hj hc => ?_⟩
    rw [← lit_drop, ← inB_lit (right_dr j hr)]
    exact h2 j hj ((hlm j).1 hc)
  · rintro ⟨hr, h1, h2⟩
    refine ⟨by rw [inB_lit hr]; exact h1, fun j hj hm => ?_⟩
    rw [inB_lit (right_dr j hr), lit_drop]
    exact h2 j hj ((hlm j).2 hm)
theorem lit_mv11 (g : Nat → Nat) (n i : Nat) (hn : n ≤ 8) (hi : i < n) (hg : g i ≤ 2) : lit (mB g n) (vB g n) i = g i := by
  unfold lit
  rw [mB_bit, vB_bit]
  have h8 : i < 8 := by omega
  have : g i = 0 ∨ g i = 1 ∨ g i = 2 := by omega
  rcases this with h | h | h <;> simp [h, h8, hi]
/-- The members of all prime cubes. -/
theorem FP_cubes {S : BitVec 256} {n : Nat} (hn : n ≤ 8) (x : Nat) : FP n (fun p => S.getLsbD p) x = true ↔ ∃ m v, primB S n m v = true ∧ memB m v 0 = x := by
  constructor
  · intro h
    obtain ⟨c, hc, e⟩ := FP_some _ _ _ h
    rw [← e, FP_row _ _ _ hc] at h
    have hl : ∀ j, j < n → lit (mB c n) (vB c n) j = c j := fun j hj => lit_mv11 c n j hn hj (hc j)
    have hm : ∀ i, n ≤ i → (mB c n).getLsbD i = false := fun i hi => by rw [mB_bit, decide_eq_false (show ¬ i < n by omega)]; simp
    refine ⟨mB c n, vB c n, primB_lit.2 ⟨(rightB_iff _ _ _).2 ⟨by omega, by omega, fun i hi => hm i (by omega), ?_⟩, (prC_ext hl).2 h⟩, ?_⟩
    · apply BitVec.eq_of_getLsbD_eq
      intro i hi
      rw [BitVec.getLsbD_and, mB_bit, vB_bit]
      by_cases h1 : c i = 1
      · simp [h1]
      · simp [h1]
    · rw [mem_mC hn hm, ← e]
      exact mC_ext hl
  · rintro ⟨m, v, hp, rfl⟩
    obtain ⟨hr, hp⟩ := primB_lit.1 hp
    obtain ⟨h8, -, -, hm, -⟩ := right_lows hr
    rw [mem_mC hn hm]
    exact (FP_row _ _ _ (fun j => lit_le m v j)).2 hp
end Go.Proofs.YtehpccanjlaokaaGreat
namespace Go.Proofs.YtehpccanjlaokaaGreat
open Go.RowKit Go.Joins

theorem bit_le {x i : Nat} (h : x.testBit i = true) : 2 ^ i ≤ x := Nat.ge_two_pow_of_testBit h
end Go.Proofs.YtehpccanjlaokaaGreat
namespace Go.Proofs.YtehpccanjlaokaaGreat
open Go.RowKit Go.Joins

end Go.Proofs.YtehpccanjlaokaaGreat
