/- Halves by an item, what is remembered of calls, and how much is made, plain. -/
import Derived.Test.YtehpccanjlaokaaGreatGQ18
namespace Go.Proofs.YtehpccanjlaokaaGreat

/-- How many members an id has. -/
theorem zn_ex (S : St) (id : Int) : ∃ n, n = zc S 24 id := ⟨_, rfl⟩
noncomputable def zn (S : St) (id : Int) : Nat := Classical.choose (zn_ex S id)
theorem zn_def (S : St) (id : Int) : zn S id = zc S 24 id := Classical.choose_spec (zn_ex S id)
theorem zn_at {S : St} {id : Int} : ∀ (d D : Nat), D + d = 24 → 24 ≤ lvl S id + D → zc S D id = zn S id
  | 0, D, h, _ => by obtain rfl : D = 24 := by omega
                     exact (zn_def S id).symm
  | d + 1, D, h, hl => by
    rw [← zn_at d (D + 1) (by omega) (by omega), zc_skip (by omega)]
theorem zn_eq {S : St} {id : Int} {D : Nat} (hD : D ≤ 24) (h : 24 ≤ lvl S id + D) : zc S D id = zn S id := zn_at (24 - D) D (by omega) h
theorem zn_zero (S : St) : zn S 0 = 0 := (zn_def S 0).trans (zc_zero S (Nat.le_refl _))
theorem zn_pos {S : St} (hZ : ZSt S) {id : Int} (h0 : 0 ≤ lvl S id) (hne : id ≠ 0) : 1 ≤ zn S id := by
  rw [zn_def]
  exact zc_pos hZ (Nat.le_refl _) h0 (by omega) hne
theorem zn_one (S : St) : zn S 1 = 1 := by
  rw [← zn_eq (S := S) (id := 1) (D := 0) (by omega) (by rw [lvl_end (.inr rfl)]; decide)]
  rfl
theorem Ext.zn {S T : St} (hV : VSt S) (h : Ext S T) {id : Int} (h0 : 0 ≤ Go.Proofs.YtehpccanjlaokaaGreat.lvl S id) : Go.Proofs.YtehpccanjlaokaaGreat.zn T id = Go.Proofs.YtehpccanjlaokaaGreat.zn S id := by
  rw [zn_def, zn_def]
  unfold zc
  rw [h.zf hV 24 id (Nat.le_refl _) h0 (by omega)]
theorem zn_node {S : St} (hV : VSt S) {id : Int} {nd : Nd} (hn : ndAt S id = some nd) : zn S id = zn S nd.2.1 + zn S nd.2.2 := by
  obtain ⟨⟨k0, k1⟩, k2, k3⟩ := kids_lvl hV hn
  have hl := lvl_node hn
  obtain ⟨k, hk⟩ : ∃ k : Nat, nd.1 + (k + 1 : Nat) = 24 := ⟨(23 - nd.1).toNat, by omega⟩
  rw [← zn_eq (S := S) (id := id) (D := k + 1) (by omega) (by omega), zc_node hn (by omega), zn_eq (by omega) (by omega), zn_eq (by omega) (by omega)]
theorem zn_cF {S : St} {id : Int} {D : Nat} (hD : D ≤ 24) (h : 24 ≤ lvl S id + D) : cF D (zf S D id) = zn S id := zn_eq hD h
/-- The halves. -/
theorem hv_ok {S : St} (hZ : ZSt S) {id i : Int} {k : Nat} (h0 : 0 ≤ lvl S id) (hi : i + (k + 1 : Nat) = 24) (hi0 : 0 ≤ i) (hil : i ≤ lvl S id) :
    0 ≤ lvl S (hv S id i).1 ∧ 0 ≤ lvl S (hv S id i).2 ∧ 24 ≤ lvl S (hv S id i).1 + k ∧ 24 ≤ lvl S (hv S id i).2 + k ∧
    half0 (zf S (k + 1) id) = zf S k (hv S id i).1 ∧ half1 (zf S (k + 1) id) = zf S k (hv S id i).2 ∧ zn S id = zn S (hv S id i).1 + zn S (hv S id i).2 := by
  have hV := hZ.vst
  have hz : (fun _ => false) = zf S k 0 := funext fun n => (zf_zero S k n (by omega)).symm
  have h24 : lvl S 0 = 24 := lvl_end (.inl rfl)
  have stay : i < lvl S id → 0 ≤ lvl S id ∧ 0 ≤ lvl S 0 ∧ 24 ≤ lvl S id + k ∧ 24 ≤ lvl S 0 + k ∧ half0 (zf S (k + 1) id) = zf S k id ∧ half1 (zf S (k + 1) id) = zf S k 0 ∧ zn S id = zn S id + zn S 0 := fun hlt => by
    have hs : 24 < lvl S id + (k + 1 : Nat) := by omega
    have e1 := zf_skip0 hs
    have e2 := (zf_skip1 hs).trans hz
    have e3 : zn S id = zn S id + zn S 0 := by rw [zn_zero, Nat.add_zero]
    exact ⟨h0, by omega, by omega, by omega, e1, e2, e3⟩
  cases hn : ndAt S id with
  | none =>
    have hl : lvl S id = 24 := by
      by_cases he : id = 0 ∨ id = 1
      · exact lvl_end he
      · rw [lvl_not he hn] at h0; omega
    have e : hv S id i = (id, 0) := by unfold hv; rw [hn]
    rw [e]
    exact stay (by omega)
  | some m =>
    have hl := lvl_node hn
    obtain ⟨⟨k0, k1⟩, k2, k3⟩ := kids_lvl hV hn
    by_cases hm : m.1 = i
    · have e : hv S id i = (m.2.1, m.2.2) := by unfold hv; rw [hn]; exact if_pos hm
      have he : lvl S id + (k + 1 : Nat) = 24 := by omega
      have e1 := zf_node0 hn he
      have e2 := zf_node1 hn he
      have e3 := zn_node hV hn
      rw [e]
      exact ⟨by dsimp only; omega, by dsimp only; omega, by dsimp only; omega, by dsimp only; omega, e1, e2, e3⟩
    · have e : hv S id i = (id, 0) := by unfold hv; rw [hn]; exact if_neg hm
      rw [e]
      exact stay (by omega)

/-! ### What the remembered calls come to -/
def op2 (k : Nat) (a b : Bool) : Bool := if k = 0 then a || b else if k = 1 then a && b else a && !b
def op2F (k : Nat) (F G : Nat → Bool) : Nat → Bool := fun n => op2 k (F n) (G n)
theorem op2_none (k : Nat) : op2F k (fun _ => false) (fun _ => false) = fun _ => false := by
  funext n
  unfold op2F op2
  split
  · rfl
  · split <;> rfl
theorem leastF_nil (D : Nat) : leastF D (fun _ => false) = fun _ => false := by funext n; unfold leastF; rfl
theorem freeF_nil (D : Nat) (G : Nat → Bool) : freeF D (fun _ => false) G = fun _ => false := by funext n; unfold freeF; rfl
/-- The family that a call of number k comes to, D items left: union, meet, less, with, without, join, bare, least, copy. -/
def famE (S0 S : St) (k : Nat) (f x : Int) (D : Nat) : Nat → Bool :=
  if k < 3 then op2F k (zf S D f) (zf S D x)
  else if k = 3 then withF (x + D - 24).toNat (zf S D f)
  else if k = 4 then lackF (x + D - 24).toNat (zf S D f)
  else if k = 5 then joinF D (zf S D f) (zf S D x)
  else if k = 6 then freeF D (zf S D f) (zf S D x)
  else if k = 7 then leastF D (zf S D f)
  else zf S0 D f
/-- The lowest item of its families. -/
def baseE (S0 S : St) (k : Nat) (f x : Int) : Int := if k = 3 ∨ k = 4 ∨ k = 7 then lvl S f else if k < 7 then min (lvl S f) (lvl S x) else lvl S0 f
structure ArgE (S0 S : St) (k : Nat) (f x : Int) : Prop where
  f0 : k < 8 → 0 ≤ lvl S f
  x0 : k < 7 → k ≠ 3 → k ≠ 4 → 0 ≤ lvl S x
  item : k = 3 ∨ k = 4 → lvl S f < x
structure Entry (S0 S : St) (k : Nat) (f x r : Int) : Prop where
  arg : ArgE S0 S k f x
  r0 : 0 ≤ lvl S r
  fam : ∀ D : Nat, D ≤ 24 → 24 ≤ baseE S0 S k f x + D → 24 ≤ lvl S r + D ∧ zf S D r = famE S0 S k f x D
theorem famE_half {S0 S : St} {k : Nat} {f x : Int} (hA : ArgE S0 S k f x) {D : Nat} (hD : 24 < baseE S0 S k f x + (D + 1 : Nat)) :
    half0 (famE S0 S k f x (D + 1)) = famE S0 S k f x D ∧ half1 (famE S0 S k f x (D + 1)) = fun _ => false := by
  unfold famE baseE at *
  by_cases h3 : k < 3
  · rw [if_neg (by omega), if_pos (by omega)] at hD
    rw [if_pos h3, if_pos h3]
    have hf : 24 < lvl S f + (D + 1 : Nat) := by omega
    have hx : 24 < lvl S x + (D + 1 : Nat) := by omega
    have e0 : half0 (op2F k (zf S (D + 1) f) (zf S (D + 1) x)) = op2F k (half0 (zf S (D + 1) f)) (half0 (zf S (D + 1) x)) := rfl
    have e1 : half1 (op2F k (zf S (D + 1) f) (zf S (D + 1) x)) = op2F k (half1 (zf S (D + 1) f)) (half1 (zf S (D + 1) x)) := rfl
    rw [e0, e1, zf_skip0 hf, zf_skip0 hx, zf_skip1 hf, zf_skip1 hx, op2_none]
    exact ⟨rfl, rfl⟩
  · rw [if_neg h3, if_neg h3]
    by_cases k3 : k = 3
    · rw [if_pos (by omega)] at hD
      rw [if_pos k3, if_pos k3]
      have hi := hA.item (.inl k3)
      rw [show (x + ((D + 1 : Nat) : Int) - 24).toNat = (x + (D : Int) - 24).toNat + 1 by omega, withF_s0, withF_s1, zf_skip0 hD, zf_skip1 hD]
      refine ⟨rfl, ?_⟩
      funext n
      unfold withF
      rw [Bool.and_false]
    rw [if_neg k3, if_neg k3]
    by_cases k4 : k = 4
    · rw [if_pos (by omega)] at hD
      rw [if_pos k4, if_pos k4]
      have hi := hA.item (.inr k4)
      rw [show (x + ((D + 1 : Nat) : Int) - 24).toNat = (x + (D : Int) - 24).toNat + 1 by omega, lackF_s0, lackF_s1, zf_skip0 hD, zf_skip1 hD]
      refine ⟨rfl, ?_⟩
      funext n
      unfold lackF
      rw [Bool.and_false]
    rw [if_neg k4, if_neg k4]
    by_cases k5 : k = 5
    · rw [if_neg (by omega), if_pos (by omega)] at hD
      rw [if_pos k5, if_pos k5]
      have hf : 24 < lvl S f + (D + 1 : Nat) := by omega
      have hx : 24 < lvl S x + (D + 1 : Nat) := by omega
      rw [joinF_0, joinF_1, zf_skip0 hf, zf_skip0 hx, zf_skip1 hf, zf_skip1 hx, joinF_nil0, joinF_nil0, joinF_nil1]
      exact ⟨rfl, rfl⟩
    rw [if_neg k5, if_neg k5]
    by_cases k6 : k = 6
    · rw [if_neg (by omega), if_pos (by omega)] at hD
      rw [if_pos k6, if_pos k6]
      have hf : 24 < lvl S f + (D + 1 : Nat) := by omega
      have hx : 24 < lvl S x + (D + 1 : Nat) := by omega
      rw [freeF_0, freeF_1, zf_skip0 hf, zf_skip0 hx, zf_skip1 hf, zf_skip1 hx, freeF_nil, freeF_nil]
      exact ⟨rfl, rfl⟩
    rw [if_neg k6, if_neg k6]
    by_cases k7 : k = 7
    · rw [if_pos (by omega)] at hD
      rw [if_pos k7, if_pos k7, leastF_0, leastF_1, zf_skip0 hD, zf_skip1 hD, leastF_nil, freeF_nil]
      exact ⟨rfl, rfl⟩
    rw [if_neg k7, if_neg k7]
    rw [if_neg (by omega), if_neg (by omega)] at hD
    rw [zf_skip0 hD, zf_skip1 hD]
    exact ⟨rfl, rfl⟩
/-- A call's answer, told at its lowest item, holds at each lower one. -/
theorem OutZ.raise {S0 S T : St} {k : Nat} {f x : Int} (hA : ArgE S0 S k f x) {room B : Nat} {id e : Int} {D : Nat} (hb : 24 ≤ baseE S0 S k f x + D) :
    ∀ d, OutZ D room S (famE S0 S k f x D) B T id e → OutZ (D + d) room S (famE S0 S k f x (D + d)) B T id e
  | 0, h => h
  | d + 1, h => by
    obtain ⟨h0, h1⟩ := famE_half hA (D := D + d) (by omega)
    exact (OutZ.raise hA hb d h).lift h0 h1
theorem tS_raise {S0 S : St} {k : Nat} {f x : Int} (hA : ArgE S0 S k f x) {D : Nat} (hb : 24 ≤ baseE S0 S k f x + D) :
    ∀ d, tS (D + d) (famE S0 S k f x (D + d)) = tS D (famE S0 S k f x D)
  | 0 => rfl
  | d + 1 => by
    obtain ⟨h0, h1⟩ := famE_half hA (D := D + d) (by omega)
    exact (tS_lift h0 h1).trans (tS_raise hA hb d)
/-- An answer is an entry. -/
theorem OutZ.entry {S0 S T : St} {k : Nat} {f x : Int} (hA : ArgE S0 S k f x) {room B : Nat} {id : Int} {D : Nat} (hb : baseE S0 S k f x + D = 24) (h : OutZ D room S (famE S0 S k f x D) B T id 0) :
    ∀ D' : Nat, D' ≤ 24 → 24 ≤ baseE S0 S k f x + D' → 0 ≤ lvl T id ∧ 24 ≤ lvl T id + D' ∧ zf T D' id = famE S0 S k f x D' := fun D' _ hb' => by
  obtain ⟨d, rfl⟩ : ∃ d, D' = D + d := ⟨D' - D, by omega⟩
  exact (OutZ.raise hA (by omega) d h).ok
/-- Families of ids that are used stay what they are. -/
theorem famE_ext {S0 S T : St} (hV : VSt S) (hx : Ext S T) {k : Nat} {f x : Int} (hA : ArgE S0 S k f x) : baseE S0 T k f x = baseE S0 S k f x ∧ ∀ D : Nat, D ≤ 24 → 24 ≤ baseE S0 S k f x + D → famE S0 T k f x D = famE S0 S k f x D := by
  have ef : k < 8 → lvl T f = lvl S f := fun h => hx.lvl (hA.f0 h)
  have ex : k < 7 → k ≠ 3 → k ≠ 4 → lvl T x = lvl S x := fun h1 h2 h3 => hx.lvl (hA.x0 h1 h2 h3)
  refine ⟨?_, fun D hD hb => ?_⟩
  · unfold baseE
    by_cases h1 : k = 3 ∨ k = 4 ∨ k = 7
    · rw [if_pos h1, if_pos h1, ef (by omega)]
    · rw [if_neg h1, if_neg h1]
      by_cases h2 : k < 7
      · rw [if_pos h2, if_pos h2, ef (by omega), ex h2 (by omega) (by omega)]
      · rw [if_neg h2, if_neg h2]
  · unfold baseE at hb
    have zF : k < 8 → 24 ≤ lvl S f + D → zf T D f = zf S D f := fun h hl => hx.zf hV D f hD (hA.f0 h) hl
    have zX : k < 7 → k ≠ 3 → k ≠ 4 → 24 ≤ lvl S x + D → zf T D x = zf S D x := fun h1 h2 h3 hl => hx.zf hV D x hD (hA.x0 h1 h2 h3) hl
    unfold famE
    by_cases h1 : k = 3 ∨ k = 4 ∨ k = 7
    · rw [if_pos h1] at hb
      rw [zF (by omega) hb]
      have e3 : ¬ k < 3 := by omega
      have e5 : ¬ k = 5 := by omega
      have e6 : ¬ k = 6 := by omega
      rw [if_neg e3, if_neg e3, if_neg e5, if_neg e5, if_neg e6, if_neg e6]
    · rw [if_neg h1] at hb
      by_cases h2 : k < 7
      · rw [if_pos h2] at hb
        rw [zF (by omega) (by omega), zX h2 (by omega) (by omega) (by omega)]
      · have e3 : ¬ k < 3 := by omega
        have e5 : ¬ k = 5 := by omega
        have e6 : ¬ k = 6 := by omega
        have e7 : ¬ k = 7 := by omega
        have e8 : ¬ k = 3 := by omega
        have e9 : ¬ k = 4 := by omega
        rw [if_neg e3, if_neg e3, if_neg e5, if_neg e5, if_neg e6, if_neg e6, if_neg e7, if_neg e7, if_neg e8, if_neg e8, if_neg e9, if_neg e9]
theorem ArgE.ext {S0 S T : St} (hx : Ext S T) {k : Nat} {f x : Int} (h : ArgE S0 S k f x) : ArgE S0 T k f x :=
  ⟨fun a => by rw [hx.lvl (h.f0 a)]; exact h.f0 a, fun a b c => by rw [hx.lvl (h.x0 a b c)]; exact h.x0 a b c, fun a => by rw [hx.lvl (h.f0 (by omega))]; exact h.item a⟩
theorem Entry.ext {S0 S T : St} (hV : VSt S) (hx : Ext S T) {k : Nat} {f x r : Int} (h : Entry S0 S k f x r) : Entry S0 T k f x r := by
  obtain ⟨eb, ef⟩ := famE_ext hV hx h.arg
  refine ⟨h.arg.ext hx, by rw [hx.lvl h.r0]; exact h.r0, fun D hD hb => ?_⟩
  rw [eb] at hb
  obtain ⟨h1, h2⟩ := h.fam D hD hb
  rw [hx.lvl h.r0, hx.zf hV D r hD h.r0 h1, ef D hD hb]
  exact ⟨h1, h2⟩
/-- What was just answered may be remembered. -/
theorem OutZ.remember {S0 S T : St} (hV : VSt S) {k : Nat} {f x : Int} (hA : ArgE S0 S k f x) {room B : Nat} {id : Int} {D : Nat} (hb : baseE S0 S k f x + D = 24) (h : OutZ D room S (famE S0 S k f x D) B T id 0) : Entry S0 T k f x id := by
  obtain ⟨eb, ef⟩ := famE_ext hV h.ext hA
  refine ⟨hA.ext h.ext, h.ok.1, fun D' hD' hb' => ?_⟩
  rw [eb] at hb'
  obtain ⟨h1, h2, h3⟩ := h.entry hA hb D' hD' hb'
  rw [ef D' hD' hb']
  exact ⟨h2, h3⟩
/-- What is remembered is an answer. -/
theorem Entry.out {S0 S : St} (hZ : ZSt S) {k : Nat} {f x r : Int} (h : Entry S0 S k f x r) {D : Nat} (hD : D ≤ 24) (hb : 24 ≤ baseE S0 S k f x + D) (room B : Nat) : OutZ D room S (famE S0 S k f x D) B S r 0 :=
  OutZ.stay hZ h.r0 (h.fam D hD hb).1 (h.fam D hD hb).2 B
end Go.Proofs.YtehpccanjlaokaaGreat
