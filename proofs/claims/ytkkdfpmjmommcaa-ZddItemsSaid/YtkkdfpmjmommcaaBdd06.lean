/- What comes of a step down a diagram, plain: what is made says what it should, few nodes are made, and only those that a set needs. -/
import Derived.Test.YtkkdfpmjmommcaaOrd06
namespace Go.Proofs.Ytkkdfpmjmommcaa

/-- What comes of a call that makes nodes: T behind S, an id, an error. k: how many levels are to come at most; l: a level that the id is not above. -/
structure Out (n k : Nat) (l : Int) (room : Nat) (S : St) (F : (Nat → Bool) → Bool) (T : St) (id e : Int) : Prop where
  ext : Ext S T
  rst : RSt T
  lst : LSt T n
  few : cnt T + 1 ≤ cnt S + 2 ^ k
  res : (e = 0 ∧ 0 ≤ lvl T id ∧ l ≤ lvl T id ∧ ∀ c, says T c id = F c) ∨ (e = 5 ∧ id = 0 ∧ room ≤ cnt T)
theorem pow_one_le (k : Nat) : 1 ≤ 2 ^ k := Nat.one_le_two_pow
theorem Out.stay {n k : Nat} {l : Int} {room : Nat} {S : St} {F : (Nat → Bool) → Bool} {id : Int} (hR : RSt S) (hL : LSt S n) (h0 : 0 ≤ lvl S id) (h1 : l ≤ lvl S id) (h2 : ∀ c, says S c id = F c) : Out n k l room S F S id 0 :=
  ⟨Ext.refl S, hR, hL, by have := pow_one_le k; omega, .inl ⟨rfl, h0, h1, h2⟩⟩
theorem Out.kind {n k : Nat} {l : Int} {room : Nat} {S T : St} {F : (Nat → Bool) → Bool} {id e : Int} (h : Out n k l room S F T id e) : e = 0 ∨ (e = 5 ∧ id = 0) := h.res.imp (fun x => x.1) (fun x => ⟨x.1, x.2.1⟩)
theorem Out.good {n k : Nat} {l : Int} {room : Nat} {S T : St} {F : (Nat → Bool) → Bool} {id : Int} (h : Out n k l room S F T id 0) : 0 ≤ lvl T id ∧ l ≤ lvl T id ∧ ∀ c, says T c id = F c := by
  rcases h.res with ⟨-, h1, h2, h3⟩ | ⟨he, -, -⟩
  · exact ⟨h1, h2, h3⟩
  · cases he
theorem Out.wide {n k k' : Nat} {l l' : Int} {room : Nat} {S T : St} {F F' : (Nat → Bool) → Bool} {id e : Int} (h : Out n k l room S F T id e) (hk : k ≤ k') (hl : l' ≤ l) (hF : ∀ c, F c = F' c) : Out n k' l' room S F' T id e :=
  ⟨h.ext, h.rst, h.lst, Nat.le_trans h.few (Nat.add_le_add_left (Nat.pow_le_pow_right (by decide) hk) _), h.res.imp (fun ⟨a, b, c, d⟩ => ⟨a, b, by omega, fun x => (d x).trans (hF x)⟩) (fun x => x)⟩
/-- No node is left: in the first half. -/
theorem Out.fail0 {n k : Nat} {l l' : Int} {room : Nat} {S T : St} {F F0 : (Nat → Bool) → Bool} {id e : Int} (h : Out n k l' room S F0 T id e) (he : e ≠ 0) : Out n (k + 1) l room S F T 0 e := by
  refine ⟨h.ext, h.rst, h.lst, ?_, ?_⟩
  · have h1 := h.few
    rw [Nat.pow_succ]; omega
  · rcases h.res with ⟨h1, -⟩ | ⟨h1, -, h3⟩
    · exact absurd h1 he
    · exact .inr ⟨h1, rfl, h3⟩
theorem Out.fail1 {n k : Nat} {l l' l'' : Int} {room : Nat} {S T U : St} {F F0 F1 : (Nat → Bool) → Bool} {a id e : Int} (h0 : Out n k l' room S F0 T a 0) (h : Out n k l'' room T F1 U id e) (he : e ≠ 0) : Out n (k + 1) l room S F U 0 e := by
  refine ⟨h0.ext.trans h.ext, h.rst, h.lst, ?_, ?_⟩
  · have h1 := h.few
    have h2 := h0.few
    rw [Nat.pow_succ]; omega
  · rcases h.res with ⟨h1, -⟩ | ⟨h1, -, h3⟩
    · exact absurd h1 he
    · exact .inr ⟨h1, rfl, h3⟩
theorem mk_err {room : Nat} {S : St} {n : Nd} (hk : okN S n = true) : (mkS room S n).2.2 = 0 ∨ ((mkS room S n).2.2 = 5 ∧ (mkS room S n).2.1 = 0 ∧ (mkS room S n).1 = S ∧ room ≤ cnt S ∧ whereN S n = none) := by
  unfold mkS
  rw [if_neg (by rw [hk]; decide)]
  cases hw : whereN S n with
  | some i => exact .inl rfl
  | none =>
    by_cases hr : room ≤ cnt S
    · rw [if_pos hr]; exact .inr ⟨rfl, rfl, rfl, hr, rfl⟩
    · rw [if_neg hr]; exact .inl rfl
theorem mk_few (room : Nat) (S : St) (n : Nd) : cnt (mkS room S n).1 ≤ cnt S + 1 := by
  unfold mkS
  split
  · exact Nat.le_succ _
  · split
    · exact Nat.le_succ _
    · split
      · exact Nat.le_succ _
      · show cnt (putS S (freeI S) n) ≤ _
        rw [cnt_put (freeI_le S) free_not]; omega
/-- What stands in the places behind a node was made. -/
theorem mk_old {room : Nat} {S : St} {n : Nd} {i : Nat} {m : Nd} (h : (mkS room S n).1[i]? = some (some m)) : S[i]? = some (some m) ∨ (m = n ∧ i = freeI S ∧ (mkS room S n).2.2 = 0 ∧ (mkS room S n).2.1 = (i : Int) + 2) := by
  unfold mkS at h ⊢
  split at h
  · exact .inl h
  · rename_i h1
    rw [if_neg h1]
    split at h
    · exact .inl h
    · split at h
      · exact .inl h
      · rename_i h2 h3
        simp only at h
        by_cases e : i = freeI S
        · subst e
          rw [putS_get (freeI_le S)] at h
          injection h with h; injection h with h
          simp only [if_neg h3]
          exact .inr ⟨h.symm, by simp⟩
        · rw [putS_other e (freeI_le S)] at h
          exact .inl h
theorem LSt.nil (n : Nat) : LSt [] n := fun i m h => by simp at h
theorem LSt.made {S : St} {n : Nat} (h : LSt S n) (room : Nat) {nd : Nd} (hn : nd.1 < n) : LSt (mkS room S nd).1 n := fun i m hm => by
  rcases mk_old hm with h1 | ⟨rfl, -⟩
  · exact h i m h1
  · exact hn
theorem LSt.swept {S : St} {n : Nat} (h : LSt S n) (f : Nat → Bool) : LSt (swp S f) n := fun i m hm => h i m (swp_some.1 hm).1
/-- Both halves are there. -/
theorem Out.same {n k l room : Nat} {S T U : St} {F F0 F1 : (Nat → Bool) → Bool} {a : Int} (h0 : Out n k ((l : Int) + 1) room S F0 T a 0) (h1 : Out n k ((l : Int) + 1) room T F1 U a 0) (hF : ∀ c, F c = if c l then F1 c else F0 c) : Out n (k + 1) l room S F U a 0 := by
  refine ⟨h0.ext.trans h1.ext, h1.rst, h1.lst, ?_, ?_⟩
  · have h2 := h0.few
    have h3 := h1.few
    rw [Nat.pow_succ]; omega
  · obtain ⟨a0, a1, a2⟩ := h0.good
    obtain ⟨b0, b1, b2⟩ := h1.good
    refine .inl ⟨rfl, b0, by omega, fun c => ?_⟩
    have e := h1.ext.says h0.rst.vst c a0
    rw [hF c]
    split
    · exact b2 c
    · rw [e]; exact a2 c
theorem Out.ok_nd {n k l room : Nat} {S T U : St} {F0 F1 : (Nat → Bool) → Bool} {a b : Int} (h0 : Out n k ((l : Int) + 1) room S F0 T a 0) (h1 : Out n k ((l : Int) + 1) room T F1 U b 0) (hl : l < n) (hn : n ≤ 24) : okN U ((l : Int), a, b) = true := by
  obtain ⟨a0, a1, a2⟩ := h0.good
  obtain ⟨b0, b1, b2⟩ := h1.good
  have e := h1.ext.lvl a0
  exact (okN_iff _ _).2 ⟨by show (0 : Int) ≤ (l : Int); omega, by show (l : Int) < 24; omega, by show (l : Int) < lvl U a; omega, by show (l : Int) < lvl U b; omega⟩
theorem Out.make {n k l room : Nat} {S T U : St} {F F0 F1 : (Nat → Bool) → Bool} {a b : Int} (h0 : Out n k ((l : Int) + 1) room S F0 T a 0) (h1 : Out n k ((l : Int) + 1) room T F1 U b 0) (hl : l < n) (hn : n ≤ 24) (hab : a ≠ b) (hF : ∀ c, F c = if c l then F1 c else F0 c) :
    Out n (k + 1) l room S F (mkS room U ((l : Int), a, b)).1 (mkS room U ((l : Int), a, b)).2.1 (mkS room U ((l : Int), a, b)).2.2 := by
  have hk := h0.ok_nd h1 hl hn
  obtain ⟨a0, a1, a2⟩ := h0.good
  obtain ⟨b0, b1, b2⟩ := h1.good
  refine ⟨(h0.ext.trans h1.ext).trans (Ext.mk _ _ _), h1.rst.made room _ hab, h1.lst.made room (by show (l : Int) < n; omega), ?_, ?_⟩
  · have h2 := h0.few
    have h3 := h1.few
    have h4 := mk_few room U ((l : Int), a, b)
    rw [Nat.pow_succ]; omega
  · rcases mk_err (room := room) hk with he | ⟨e1, e2, e3, e4, -⟩
    · refine .inl ⟨he, ?_, ?_, fun c => ?_⟩
      · have hnd := (mk_says h1.rst.vst hk he (fun _ => false)).1
        rw [lvl_node hnd]; show (0 : Int) ≤ (l : Int); omega
      · have hnd := (mk_says h1.rst.vst hk he (fun _ => false)).1
        rw [lvl_node hnd]; exact Int.le_refl _
      · have hs := (mk_says h1.rst.vst hk he c).2
        have e := h1.ext.says h0.rst.vst c a0
        rw [hs, hF c]
        show says U c (if c ((l : Int)).toNat then b else a) = _
        rw [Int.toNat_natCast]
        split
        · exact b2 c
        · rw [e]; exact a2 c
    · exact .inr ⟨e1, e2, by rw [e3]; exact e4⟩

/-! ### Only what is needed -/
/-- Each node is one that G needs. -/
def Need (G : (Nat → Bool) → Bool) (n : Nat) (S : St) : Prop :=
  ∀ (i : Nat) (m : Nd), S[i]? = some (some m) → ∃ a, a < 2 ^ m.1.toNat ∧ rowB (fun c => says S c ((i : Int) + 2)) n m.1.toNat 0 = rowB G n m.1.toNat a
theorem Need.nil (G : (Nat → Bool) → Bool) (n : Nat) : Need G n [] := fun i m h => by simp at h
theorem Need.made {G : (Nat → Bool) → Bool} {n room l : Nat} {S : St} {lo hi : Int} (hV : VSt S) (h : Need G n S) (hk : okN S ((l : Int), lo, hi) = true) (hG : ∃ a, a < 2 ^ l ∧ ∀ w, says S (joinB l 0 w) (if joinB l 0 w l then hi else lo) = G (joinB l a w)) : Need G n (mkS room S ((l : Int), lo, hi)).1 := by
  intro i m hm
  rcases mk_old hm with h1 | ⟨rfl, h2, he, hid⟩
  · obtain ⟨a, ha, hr⟩ := h i m h1
    refine ⟨a, ha, ?_⟩
    rw [← hr]
    refine List.map_congr_left fun w _ => ?_
    refine (Ext.mk room S _).says hV _ ?_
    rw [lvl_node (ndAt_id h1)]
    exact ((okN_iff _ _).1 (hV.ok i m h1)).1
  · obtain ⟨a, ha, hr⟩ := hG
    refine ⟨a, by simpa using ha, ?_⟩
    show rowB _ n (((l : Int)).toNat) 0 = rowB G n (((l : Int)).toNat) a
    rw [Int.toNat_natCast]
    refine List.map_congr_left fun w _ => ?_
    rw [← hr w, ← hid]
    refine (mk_says hV hk he _).2.trans ?_
    show says S _ (if joinB l 0 w ((l : Int)).toNat then hi else lo) = _
    rw [Int.toNat_natCast]
theorem nodup_le {α : Type} [DecidableEq α] : ∀ (a b : List α), a.Nodup → (∀ x ∈ a, x ∈ b) → a.length ≤ b.length
  | [], b, _, _ => by simp
  | x :: a, b, hd, h => by
    obtain ⟨h1, h2⟩ := List.nodup_cons.1 hd
    have hx := h x (by simp)
    have ih := nodup_le a (b.erase x) h2 (fun y hy => (List.mem_erase_of_ne (fun e : y = x => h1 (e ▸ hy))).2 (h y (List.mem_cons_of_mem _ hy)))
    rw [List.length_erase_of_mem hx] at ih
    have := List.length_pos_of_mem hx
    simp only [List.length_cons]
    omega
theorem range_get (S : St) : (List.range S.length).map (fun i => S.getD i none) = S := by
  apply List.ext_getElem?
  intro i
  rw [List.getElem?_map]
  by_cases h : i < S.length
  · rw [List.getElem?_range h, List.getElem?_eq_getElem h]
    simp [List.getD_eq_getElem?_getD, List.getElem?_eq_getElem h]
  · rw [List.getElem?_eq_none (by simp; omega), List.getElem?_eq_none (by omega)]; rfl
theorem cnt_range (S : St) : cnt S = ((List.range S.length).filter fun i => (S.getD i none).isSome).length := by
  have h := congrArg (List.countP Option.isSome) (range_get S)
  unfold cnt
  rw [← h, List.countP_map, List.countP_eq_length_filter]
  rfl
/-- Nodes that are all needed are no more than needed. -/
theorem need_le {G : (Nat → Bool) → Bool} {n : Nat} {S : St} (hR : RSt S) (hL : LSt S n) (hn : n ≤ 24) (h : Need G n S) : cnt S ≤ sizeB G n n := by
  have hV := hR.vst
  have lev : ∀ k, k < n → (atLvl S (fun _ => true) k).length ≤ (metB G n k (2 ^ k)).length := by
    intro k hk
    have hnd : (atLvl S (fun _ => true) k).Nodup := List.nodup_range.filter _
    have hle := nodup_le ((atLvl S (fun _ => true) k).map fun i : Nat => rowB (fun c => says S c ((i : Int) + 2)) n k 0) (metB G n k (2 ^ k)) ?_ ?_
    · simpa using hle
    · rw [List.nodup_iff_pairwise_ne, List.pairwise_map]
      refine List.Pairwise.imp_of_mem ?_ (List.nodup_iff_pairwise_ne.1 hnd)
      intro a b ha hb hab e
      have h1 := (atLvl_mem.1 ha).2.2
      have h2 := (atLvl_mem.1 hb).2.2
      have := row_inj hR hL hk hn (a := (a : Int) + 2) (b := (b : Int) + 2) (by omega) (by omega) e
      omega
    · intro x hx
      obtain ⟨i, hi, rfl⟩ := List.mem_map.1 hx
      obtain ⟨hi1, -, hi3⟩ := atLvl_mem.1 hi
      obtain ⟨m, hm, em⟩ := nd_of_lvl (S := S) (id := (i : Int) + 2) (by omega) (by omega)
      have hm2 := (ndAt_some.1 hm).2
      rw [show (((i : Int) + 2 - 2).toNat) = i by omega] at hm2
      obtain ⟨a, ha, hr⟩ := h i m hm2
      have hmk : m.1.toNat = k := by omega
      rw [hmk] at ha hr
      refine (met_mem _).2 ⟨a, ha, ?_, hr.symm⟩
      rw [← hr]
      exact (row_turns hR hL hk hn (by omega)).2 hi3
  have key : ∀ K, K ≤ n → ((List.range S.length).filter fun i => (S.getD i none).isSome && decide (lvl S ((i : Int) + 2) < K)).length ≤ sizeB G n K := by
    intro K
    induction K with
    | zero =>
      intro _
      rw [List.filter_eq_nil_iff.2]
      · exact Nat.zero_le _
      · intro i hi hc
        obtain ⟨h1, h2⟩ := Bool.and_eq_true_iff.1 hc
        have h4 : lvl S ((i : Int) + 2) < (0 : Nat) := by simpa using h2
        cases hx : S.getD i none with
        | none => rw [hx] at h1; cases h1
        | some m =>
          have hi' : i < S.length := by simpa using hi
          have hm : S[i]? = some (some m) := by rw [List.getD_eq_getElem?_getD, List.getElem?_eq_getElem hi'] at hx; rw [List.getElem?_eq_getElem hi']; exact congrArg some hx
          have h5 := (kids_lvl hV (ndAt_id hm)).1
          rw [lvl_node (ndAt_id hm)] at h4
          omega
    | succ K ih =>
      intro hK
      unfold sizeB
      have h1 := ih (by omega)
      have h2 := lev K (by omega)
      refine Nat.le_trans (Nat.le_of_eq (count_split (fun i => (S.getD i none).isSome && decide (lvl S ((i : Int) + 2) < K)) (fun i => true && decide (lvl S ((i : Int) + 2) = K)) _ (fun i => ?_) (fun i hi => ?_) _)) (Nat.add_le_add h1 h2)
      · cases hx : S.getD i none with
        | none =>
          have : lvl S ((i : Int) + 2) = -1 := lvl_not (by omega) (by unfold ndAt; rw [if_pos (by omega), show (((i : Int) + 2 - 2).toNat) = i by omega, hx])
          rw [this]
          simp
        | some m =>
          simp only [Option.isSome_some, Bool.true_and]
          rw [Bool.eq_iff_iff]
          simp only [Bool.or_eq_true, decide_eq_true_eq]
          omega
      · obtain ⟨_, h2⟩ := Bool.and_eq_true_iff.1 hi
        have h2' : lvl S ((i : Int) + 2) < K := by simpa using h2
        rw [decide_eq_false (by omega)]; rfl
  refine Nat.le_trans ?_ (key n (Nat.le_refl _))
  rw [cnt_range]
  refine Nat.le_of_eq (congrArg List.length (List.filter_congr fun i hi => ?_))
  have hi' : i < S.length := by simpa using hi
  cases hx : S.getD i none with
  | none => rfl
  | some m =>
    have hm : S[i]? = some (some m) := by rw [List.getD_eq_getElem?_getD, List.getElem?_eq_getElem hi'] at hx; rw [List.getElem?_eq_getElem hi']; exact congrArg some hx
    have h2 := hL i m hm
    rw [lvl_node (ndAt_id hm), decide_eq_true (by omega)]; rfl
/-- What comes of a step of Of: as above; only what G needs is made; and where no node is left, G needs more than there may be. -/
def OutOf (q : Prop) (n k : Nat) (l : Int) (room : Nat) (S : St) (G F : (Nat → Bool) → Bool) (T : St) (id e : Int) : Prop :=
  Out n k l room S F T id e ∧ (q → Need G n S → Need G n T ∧ (e = 5 → room < sizeB G n n))
theorem OutOf.fail0 {q : Prop} {n k : Nat} {l l' : Int} {room : Nat} {S T : St} {G F F0 : (Nat → Bool) → Bool} {id e : Int} (h : OutOf q n k l' room S G F0 T id e) (he : e ≠ 0) : OutOf q n (k + 1) l room S G F T 0 e := ⟨h.1.fail0 he, h.2⟩
theorem OutOf.fail1 {q : Prop} {n k : Nat} {l l' l'' : Int} {room : Nat} {S T U : St} {G F F0 F1 : (Nat → Bool) → Bool} {a id e : Int} (h0 : OutOf q n k l' room S G F0 T a 0) (h : OutOf q n k l'' room T G F1 U id e) (he : e ≠ 0) : OutOf q n (k + 1) l room S G F U 0 e := ⟨h0.1.fail1 h.1 he, fun hq hN => h.2 hq (h0.2 hq hN).1⟩
theorem OutOf.same {q : Prop} {n k l room : Nat} {S T U : St} {G F F0 F1 : (Nat → Bool) → Bool} {a : Int} (h0 : OutOf q n k ((l : Int) + 1) room S G F0 T a 0) (h1 : OutOf q n k ((l : Int) + 1) room T G F1 U a 0) (hF : ∀ c, F c = if c l then F1 c else F0 c) : OutOf q n (k + 1) l room S G F U a 0 := ⟨h0.1.same h1.1 hF, fun hq hN => h1.2 hq (h0.2 hq hN).1⟩
theorem OutOf.make {q : Prop} {n k l room : Nat} {S T U : St} {G F F0 F1 : (Nat → Bool) → Bool} {a b : Int} (h0 : OutOf q n k ((l : Int) + 1) room S G F0 T a 0) (h1 : OutOf q n k ((l : Int) + 1) room T G F1 U b 0) (hl : l < n) (hn : n ≤ 24) (hab : a ≠ b) (hF : ∀ c, F c = if c l then F1 c else F0 c)
    (hG : q → ∃ a, a < 2 ^ l ∧ ∀ w, F (joinB l 0 w) = G (joinB l a w)) :
    OutOf q n (k + 1) l room S G F (mkS room U ((l : Int), a, b)).1 (mkS room U ((l : Int), a, b)).2.1 (mkS room U ((l : Int), a, b)).2.2 := by
  refine ⟨h0.1.make h1.1 hl hn hab hF, fun hq hN => ?_⟩
  have hG := hG hq
  have hN1 := (h1.2 hq (h0.2 hq hN).1).1
  have hk := h0.1.ok_nd h1.1 hl hn
  obtain ⟨a0, a1, a2⟩ := h0.1.good
  obtain ⟨b0, b1, b2⟩ := h1.1.good
  have hG' : ∃ p, p < 2 ^ l ∧ ∀ w, says U (joinB l 0 w) (if joinB l 0 w l then b else a) = G (joinB l p w) := by
    obtain ⟨p, hp, hw⟩ := hG
    refine ⟨p, hp, fun w => ?_⟩
    rw [← hw w, hF]
    have e := h1.1.ext.says h0.1.rst.vst (joinB l 0 w) a0
    split
    · exact b2 _
    · rw [e]; exact a2 _
  refine ⟨hN1.made h1.1.rst.vst hk hG', fun he => ?_⟩
  rcases mk_err (room := room) hk with he' | ⟨-, -, -, e4, e5⟩
  · rw [he'] at he; cases he
  · -- with one more place it would have been made
    have hN2 : Need G n (mkS (cnt U + 1) U ((l : Int), a, b)).1 := hN1.made h1.1.rst.vst hk hG'
    have h2 := need_le (h1.1.rst.made (cnt U + 1) _ hab) (h1.1.lst.made (cnt U + 1) (by show (l : Int) < n; omega)) hn hN2
    have e : (mkS (cnt U + 1) U ((l : Int), a, b)).1 = putS U (freeI U) ((l : Int), a, b) := by
      unfold mkS
      rw [if_neg (by rw [hk]; decide), e5]
      exact congrArg Prod.fst (if_neg (by omega))
    rw [e, cnt_put (freeI_le U) free_not] at h2
    omega
end Go.Proofs.Ytkkdfpmjmommcaa
