/- What comes of a call that makes families, plain; its joins; the members as a row that rises. -/
import Derived.Test.YtkkdfpmjmommcaaFam08
import Derived.Test.YtkkdfpmjmommcaaRefw08
namespace Go.Proofs.Ytkkdfpmjmommcaa

/-- What is left behind: the places, the id and the error; at most B nodes more. -/
structure OutZ (D room : Nat) (S : St) (F : Nat → Bool) (B : Nat) (T : St) (id e : Int) : Prop where
  ext : Ext S T
  zst : ZSt T
  few : cnt T ≤ cnt S + B
  res : (e = 0 ∧ 0 ≤ lvl T id ∧ 24 ≤ lvl T id + D ∧ zf T D id = F) ∨ (e = 5 ∧ id = 0 ∧ room ≤ cnt T)
theorem OutZ.stay {D room : Nat} {S : St} {F : Nat → Bool} {id : Int} (hZ : ZSt S) (h0 : 0 ≤ lvl S id) (h1 : 24 ≤ lvl S id + D) (h2 : zf S D id = F) (B : Nat) : OutZ D room S F B S id 0 :=
  ⟨Ext.refl S, hZ, Nat.le_add_right _ _, .inl ⟨rfl, h0, h1, h2⟩⟩
theorem OutZ.more {D room B B' : Nat} {S T : St} {F : Nat → Bool} {id e : Int} (h : OutZ D room S F B T id e) (hB : B ≤ B') : OutZ D room S F B' T id e :=
  ⟨h.ext, h.zst, by have := h.few; omega, h.res⟩
theorem OutZ.same {D room B : Nat} {S T : St} {F G : Nat → Bool} {id e : Int} (h : OutZ D room S F B T id e) (hF : F = G) : OutZ D room S G B T id e := hF ▸ h
/-- With room enough no error is told. -/
theorem OutZ.enough {D room B : Nat} {S T : St} {F : Nat → Bool} {id e : Int} (h : OutZ D room S F B T id e) (hr : cnt S + B < room) : e = 0 ∧ 0 ≤ lvl T id ∧ 24 ≤ lvl T id + D ∧ zf T D id = F := by
  rcases h.res with h1 | ⟨-, -, h3⟩
  · exact h1
  · have := h.few; omega
theorem OutZ.ok {D room B : Nat} {S T : St} {F : Nat → Bool} {id : Int} (h : OutZ D room S F B T id 0) : 0 ≤ lvl T id ∧ 24 ≤ lvl T id + D ∧ zf T D id = F := by
  rcases h.res with ⟨-, h1⟩ | ⟨h2, -, -⟩
  · exact h1
  · cases h2
theorem OutZ.bad {D room B : Nat} {S T : St} {F : Nat → Bool} {id e : Int} (h : OutZ D room S F B T id e) (he : e ≠ 0) : e = 5 ∧ id = 0 ∧ room ≤ cnt T := by
  rcases h.res with ⟨h1, -⟩ | h2
  · exact absurd h1 he
  · exact h2
/-- One item more, which no member has. -/
theorem OutZ.lift {D room B : Nat} {S T : St} {F G : Nat → Bool} {id e : Int} (h : OutZ D room S F B T id e) (h0 : half0 G = F) (h1 : half1 G = fun _ => false) : OutZ (D + 1) room S G B T id e := by
  refine ⟨h.ext, h.zst, h.few, ?_⟩
  rcases h.res with ⟨e0, l0, l1, hf⟩ | h2
  · have hs : 24 < lvl T id + (D + 1 : Nat) := by omega
    exact .inl ⟨e0, l0, by omega, famh_ext (by rw [zf_skip0 hs, hf, h0]) (by rw [zf_skip1 hs, h1])⟩
  · exact .inr h2
/-- A first call that tells an error. -/
theorem OutZ.fail0 {D D' room B B' : Nat} {S T : St} {F G : Nat → Bool} {id e : Int} (h : OutZ D room S F B T id e) (he : e ≠ 0) (hB : B ≤ B') : OutZ D' room S G B' T 0 e := by
  obtain ⟨h1, -, h3⟩ := h.bad he
  exact ⟨h.ext, h.zst, by have := h.few; omega, .inr ⟨h1, rfl, h3⟩⟩
/-- A second call that does. -/
theorem OutZ.fail1 {D D1 D' room B B1 B' : Nat} {S T U : St} {F F1 G : Nat → Bool} {a id e : Int} (h : OutZ D room S F B T a 0) (h1 : OutZ D1 room T F1 B1 U id e) (he : e ≠ 0) (hB : B + B1 ≤ B') : OutZ D' room S G B' U 0 e := by
  obtain ⟨e1, -, e3⟩ := h1.bad he
  exact ⟨h.ext.trans h1.ext, h1.zst, by have := h.few; have := h1.few; omega, .inr ⟨e1, rfl, e3⟩⟩
/-- One behind the other. -/
theorem OutZ.then {D D1 room B B1 : Nat} {S T U : St} {F F1 : Nat → Bool} {a id e : Int} (h : OutZ D room S F B T a 0) (h1 : OutZ D1 room T F1 B1 U id e) : OutZ D1 room S F1 (B + B1) U id e :=
  ⟨h.ext.trans h1.ext, h1.zst, by have := h.few; have := h1.few; omega, h1.res⟩
/-- The high is empty: the low is the answer. -/
theorem OutZ.low {D room B B1 : Nat} {S T U : St} {F F0 F1 : Nat → Bool} {a : Int} (hD : D + 1 ≤ 24) (h0 : OutZ D room S F0 B T a 0) (h1 : OutZ D room T F1 B1 U 0 0) (e0 : half0 F = F0) (e1 : half1 F = F1) : OutZ (D + 1) room S F (B + B1) U a 0 := by
  obtain ⟨l0, l1, l2⟩ := h0.ok
  obtain ⟨-, -, m2⟩ := h1.ok
  have hlv := h1.ext.lvl l0
  have hfz := h1.ext.zf h0.zst.vst D a (by omega) l0 l1
  have hs : 24 < lvl U a + (D + 1 : Nat) := by rw [hlv]; omega
  refine ⟨h0.ext.trans h1.ext, h1.zst, by have := h0.few; have := h1.few; omega, .inl ⟨rfl, by rw [hlv]; exact l0, by rw [hlv]; omega, famh_ext ?_ ?_⟩⟩
  · rw [zf_skip0 hs, hfz, l2, e0]
  · rw [zf_skip1 hs, e1, ← m2]
    funext n
    exact (zf_zero U D n (by omega)).symm
theorem cnt_made (room : Nat) (S : St) (n : Nd) : cnt (mkS room S n).1 ≤ cnt S + 1 := by
  unfold mkS
  split
  · exact Nat.le_succ _
  · split
    · exact Nat.le_succ _
    · split
      · exact Nat.le_succ _
      · show cnt (putS S (freeI S) n) ≤ _
        rw [cnt_put (freeI_le S) free_not]
        exact Nat.le_refl _
/-- The high is not empty: a node. -/
theorem OutZ.make {D room B B1 : Nat} {S T U : St} {F F0 F1 : Nat → Bool} {a b k : Int} (hk : k + (D + 1 : Nat) = 24) (hk0 : 0 ≤ k) (h0 : OutZ D room S F0 B T a 0) (h1 : OutZ D room T F1 B1 U b 0) (hb : b ≠ 0) (e0 : half0 F = F0) (e1 : half1 F = F1) :
    OutZ (D + 1) room S F (B + B1 + 1) (mkS room U (k, a, b)).1 (mkS room U (k, a, b)).2.1 (mkS room U (k, a, b)).2.2 := by
  obtain ⟨l0, l1, l2⟩ := h0.ok
  obtain ⟨m0, m1, m2⟩ := h1.ok
  have hlv := h1.ext.lvl l0
  have hfz := h1.ext.zf h0.zst.vst D a (by omega) l0 l1
  have hok : okN U (k, a, b) = true := (okN_iff _ _).2 ⟨hk0, by show k < 24; omega, by show k < lvl U a; rw [hlv]; omega, by show k < lvl U b; omega⟩
  have hc := cnt_made room U (k, a, b)
  refine ⟨(h0.ext.trans h1.ext).trans (Ext.mk room U _), h1.zst.made room _ hb, by have := h0.few; have := h1.few; omega, ?_⟩
  by_cases he : (mkS room U (k, a, b)).2.2 = 0
  · obtain ⟨-, g1, g2, g3⟩ := mk_fam h1.zst.vst (D := D) hok hk he
    have g1' : lvl (mkS room U (k, a, b)).1 (mkS room U (k, a, b)).2.1 = k := g1
    refine .inl ⟨he, by rw [g1']; exact hk0, by rw [g1']; omega, famh_ext ?_ ?_⟩
    · rw [g2, e0]
      show zf U D a = F0
      rw [hfz, l2]
    · rw [g3, e1]
      exact m2
  · refine .inr ?_
    unfold mkS at he ⊢
    rw [if_neg (by rw [hok]; decide)] at he ⊢
    cases hw : whereN U (k, a, b) with
    | some i => simp only [hw] at he; exact absurd trivial he
    | none =>
      simp only [hw] at he ⊢
      split
      · rename_i hr; exact ⟨rfl, rfl, hr⟩
      · rename_i hr; rw [if_neg hr] at he; exact absurd rfl he

/-! ### Counts of what is made -/
/-- A call that goes on while both have members makes at most this many nodes. -/
def bU (D : Nat) (F G : Nat → Bool) : Nat := D * min (cF D F) (cF D G)
theorem bU_step {D : Nat} {F G : Nat → Bool} (hF : 1 ≤ cF (D + 1) F) (hG : 1 ≤ cF (D + 1) G) : bU D (half0 F) (half0 G) + bU D (half1 F) (half1 G) + 1 ≤ bU (D + 1) F G := by
  unfold bU
  have eF : cF (D + 1) F = cF D (half0 F) + cF D (half1 F) := rfl
  have eG : cF (D + 1) G = cF D (half0 G) + cF D (half1 G) := rfl
  rw [eF] at hF ⊢
  rw [eG] at hG ⊢
  have h : min (cF D (half0 F)) (cF D (half0 G)) + min (cF D (half1 F)) (cF D (half1 G)) ≤ min (cF D (half0 F) + cF D (half1 F)) (cF D (half0 G) + cF D (half1 G)) := by omega
  have h2 : 1 ≤ min (cF D (half0 F) + cF D (half1 F)) (cF D (half0 G) + cF D (half1 G)) := by omega
  have h3 := Nat.mul_le_mul_left D h
  rw [Nat.mul_add] at h3
  rw [Nat.add_mul, Nat.one_mul]
  omega
theorem bU_le {D n : Nat} {F G : Nat → Bool} (h : cF D F ≤ n) : bU D F G ≤ D * n := Nat.mul_le_mul_left D (Nat.le_trans (Nat.min_le_left _ _) h)
theorem bU_le2 {D n : Nat} {F G : Nat → Bool} (h : cF D G ≤ n) : bU D F G ≤ D * n := Nat.mul_le_mul_left D (Nat.le_trans (Nat.min_le_right _ _) h)

/-! ### The members as a row -/
def famL (D : Nat) (F : Nat → Bool) : List Nat := (List.range (2 ^ D)).filter F
theorem famL_mem {D : Nat} {F : Nat → Bool} {x : Nat} : x ∈ famL D F ↔ x < 2 ^ D ∧ F x = true := by
  unfold famL
  rw [List.mem_filter, List.mem_range]
theorem famL_srt (D : Nat) (F : Nat → Bool) : srtN (famL D F) := by
  unfold famL srtN
  exact List.Pairwise.filter _ List.pairwise_lt_range
theorem famL_len (D : Nat) (F : Nat → Bool) : (famL D F).length = cF D F := by
  unfold famL
  rw [← List.countP_eq_length_filter, cF_count]
/-- Of an id: its members are those of its family. -/
theorem zf_mem {S : St} {D : Nat} {id : Int} {x : Nat} : x ∈ famL D (zf S D id) ↔ zf S D id x = true := by
  rw [famL_mem]
  exact ⟨fun h => h.2, fun h => ⟨zf_lt D id x h, h⟩⟩
/-- A row of members that rises is that of its family. -/
theorem famL_eq {D : Nat} {F : Nat → Bool} {r : List Nat} (hr : srtN r) (h : ∀ x, x ∈ r ↔ x < 2 ^ D ∧ F x = true) : famL D F = r :=
  srt_ext (famL_srt D F) hr fun x => by rw [famL_mem, h]
/-- The family of a row. -/
def rowF (l : List Nat) : Nat → Bool := fun n => decide (n ∈ l)
theorem cF_nodup {D : Nat} {l : List Nat} (hl : ∀ x ∈ l, x < 2 ^ D) (hs : srtN l) : cF D (rowF l) = l.length := by
  rw [← famL_len, famL_eq hs fun x => ?_]
  unfold rowF
  rw [decide_eq_true_iff]
  exact ⟨fun h => ⟨hl x h, h⟩, fun h => h.2⟩
theorem cF_row_le {D : Nat} (l : List Nat) : cF D (rowF l) ≤ l.length := by
  induction l with
  | nil =>
    have e : rowF [] = fun _ => false := by funext n; unfold rowF; simp
    rw [e, cF_false]
    exact Nat.zero_le _
  | cons x l ih =>
    have e : rowF (x :: l) = fun n => rowF [x] n || rowF l n := by
      funext n
      unfold rowF
      rw [Bool.eq_iff_iff]
      simp
    rw [e]
    have h1 := cF_or D (rowF [x]) (rowF l)
    have h2 : cF D (rowF [x]) ≤ 1 := by
      rw [← cF_count]
      have : (List.range (2 ^ D)).countP (rowF [x]) = (List.range (2 ^ D)).countP (fun j => decide (j = x)) := by
        congr 1
        funext j
        unfold rowF
        simp
      rw [this]
      exact countP_one8
    rw [List.length_cons]
    omega
end Go.Proofs.Ytkkdfpmjmommcaa
