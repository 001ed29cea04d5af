/- The document's own In, All, where of layer 14. The document's own less, Take of layer 14. The document's own Take of layer 14. What the statements of layer 14 say of package reduce, as contracts; what is left of a right covering is right. Layer 15, plain: the bound, greedy columns, and what they say of all that solves a covering. What the statements of layer 15 look at; what they say of package search, as contracts. What the statements of layer 13 say of package cover, as contracts; CoverRights over them. -/
import Derived.Test.YtcbhcclickjpnaaGK03
import Derived.Test.YtcbhcclickjpnaaGK02
import Derived.Test.YtcbhcclickjpnaaGK01
import Derived.Lib.AppendIntMem
namespace Go.Proofs.Ytcbhcclickjpnaa
open Go.RowKit Go.Joins

set_option maxHeartbeats 1000000 in
set_option maxRecDepth 100000 in
theorem rin14_any (v : Value) (l : List Int) (c : Int) (w : World) (hz : IntsAt w w.heap.size v l) :
    Calls Try.prog 19 #[v, .int .i64 c] w fun e w' => e = .returned (.bool (decide (c ∈ l))) ∧ Below w.heap.size w w' := by
  obtain ⟨A, cp, rfl, hl, hc⟩ := hz
  have hyes : Hid (∀ (j : Nat), l[j]? = some c → decide (c ∈ l) = true) := Lib.hid (fun j h => decide_eq_true (List.mem_of_getElem? h))
  have hno : Hid ((∀ (j : Nat) (x : Int), l[j]? = some x → ¬ x = c) → decide (c ∈ l) = false) := Lib.hid (fun h => decide_eq_false (fun hm => by
    obtain ⟨j, hj⟩ := List.mem_iff_getElem?.1 hm
    exact h j c hj rfl))
  generalize decide (c ∈ l) = R at *
  go_enter Try.func19, Try.ntmps19
  go_wp2
  go_loop [5] (fun t => ∃ k : Nat, k ≤ l.length ∧ t = .int .i64 k ∧ Hid (∀ (j : Nat) (x : Int), j < k → l[j]? = some x → ¬ x = c)) (fun t => l.length - (intOf t).toNat)
  case atStart => exact ⟨0, by omega, rfl, Lib.hid (fun j x h => absurd h (Nat.not_lt_zero _))⟩
  case round =>
    obtain ⟨k, hk, rfl, hH⟩ := hrel
    by_cases hlt : k < l.length
    · obtain ⟨b, off, rfl, hB, hcell⟩ := hc (by omega)
      obtain ⟨x, hx⟩ : ∃ x, l[k]? = some x := ⟨_, List.getElem?_eq_getElem hlt⟩
      have c0 := hcell k x hx
      have hxH := Lib.hid hx
      clear hcell hx hc
      by_cases e : x = c
      · subst e
        have hr := Lib.hid (hyes.out k hxH.out)
        clear hyes hno hH hxH
        go_wp2
        go_ret
        exact ⟨by rw [hr.out]; rfl, Below.refl _ _⟩
      · have hne : (x == c) = false := by rw [beq_eq_false_iff_ne]; exact e
        have hH2 : Hid (∀ (j : Nat) (y : Int), j < k + 1 → l[j]? = some y → ¬ y = c) := Lib.hid (fun j y hj hy => by
          by_cases ej : j = k
          · subst ej
            rw [hxH.out] at hy
            injection hy with hy
            rw [← hy]; exact e
          · exact hH.out j y (by omega) hy)
        clear hH hxH e
        go_wp2
        go_round
        case rel => exact ⟨k + 1, by omega, by go_num, hH2⟩
        case measure => simp [intOf]; omega
    · have e : k = l.length := by omega
      have hr := Lib.hid (hno.out fun j x hx => hH.out j x (by rw [e]; exact (List.getElem?_eq_some_iff.1 hx).1) hx)
      have hkd : decide ((k : Int) < (l.length : Int)) = false := decide_eq_false (by omega)
      clear e hyes hno hH hc
      go_wp2
      go_ret
      exact ⟨by rw [hr.out]; rfl, Below.refl _ _⟩
/-- The rows among the first k that have a column. -/
def whK (ls : List (List Int)) (c : Int) (k : Nat) : List Int := ((List.range k).filter fun i => decide (c ∈ ls.getD i [])).map fun i : Nat => (i : Int)
theorem whK_all (ls : List (List Int)) (c : Int) : whK ls c ls.length = whr ls c := rfl
theorem whK_succ {ls : List (List Int)} {c : Int} {k : Nat} {l : List Int} (h : ls[k]? = some l) : whK ls c (k + 1) = if c ∈ l then whK ls c k ++ [(k : Int)] else whK ls c k := by
  have e : ls.getD k [] = l := by rw [List.getD_eq_getElem?_getD, h]; rfl
  unfold whK
  rw [List.range_succ, List.filter_append, List.filter_cons]
  by_cases hm : c ∈ l
  · rw [if_pos hm, if_pos (by rw [e]; exact decide_eq_true hm), List.filter_nil, List.map_append]; rfl
  · rw [if_neg hm, if_neg (by rw [e, decide_eq_false hm]; decide), List.filter_nil, List.append_nil]
theorem whK_len (ls : List (List Int)) (c : Int) (k : Nat) : (whK ls c k).length ≤ k := by
  unfold whK
  rw [List.length_map]
  have := List.length_filter_le (fun i => decide (c ∈ ls.getD i [])) (List.range k)
  simpa using this
end Go.Proofs.Ytcbhcclickjpnaa
namespace Go.Proofs.Ytcbhcclickjpnaa
open Go.RowKit Go.Joins

theorem find_at {α : Type} (p : α → Bool) : ∀ (l : List α) (k : Nat) (x : α), l[k]? = some x → p x = true → (∀ (j : Nat) (y : α), j < k → l[j]? = some y → p y = false) → l.find? p = some x
  | [], _, _, h, _, _ => by simp at h
  | a :: l, 0, x, h, hp, _ => by
    injection h with h
    subst h
    rw [List.find?_cons, hp]
  | a :: l, k + 1, x, h, hp, hn => by
    have h0 := hn 0 a (Nat.succ_pos _) rfl
    rw [List.find?_cons, h0]
    exact find_at p l k x (by simpa using h) hp fun j y hj hy => hn (j + 1) y (by omega) (by simpa using hy)
theorem find_no {α : Type} (p : α → Bool) (l : List α) (h : ∀ (j : Nat) (y : α), l[j]? = some y → p y = false) : l.find? p = none := by
  rw [List.find?_eq_none]
  intro x hx
  obtain ⟨j, hj⟩ := List.mem_iff_getElem?.1 hx
  rw [h j x hj]; decide
end Go.Proofs.Ytcbhcclickjpnaa
namespace Go.Proofs.Ytcbhcclickjpnaa
open Go.RowKit Go.Joins

/-- The capacity is no less than the length. -/
def CapOk (v : Value) : Prop := ∀ A n c, v = .slice A n c → n ≤ c
/-- The slice has room for what it holds, and so has each row. -/
def CapM (w : World) (v : Value) : Prop := ∀ A n c, v = .slice A n c → n ≤ c ∧ (0 < n → ∃ b off, A = some ⟨b, off, none⟩ ∧ b < w.heap.size ∧ ∀ j, j < n → ∃ A' n' c', w.cell? ⟨b, off + j, none⟩ = some (.slice A' n' c') ∧ n' ≤ c')
theorem CapM.ok {w : World} {v : Value} (h : CapM w v) : CapOk v := fun A n c e => (h A n c e).1
theorem CapM.below {w W : World} {v : Value} (h : CapM w v) (hb : Below w.heap.size w W) : CapM W v := fun A n c e => by
  obtain ⟨h1, h2⟩ := h A n c e
  refine ⟨h1, fun h0 => ?_⟩
  obtain ⟨b, off, eA, hB, hc⟩ := h2 h0
  refine ⟨b, off, eA, Nat.lt_of_lt_of_le hB hb.size, fun j hj => ?_⟩
  obtain ⟨A', n', c', h3, h4⟩ := hc j hj
  exact ⟨A', n', c', (hb.cell (p := ⟨b, off + j, none⟩) hB).trans h3, h4⟩
theorem own_cap14 {w : World} {B size n : Nat} {e : TypeId} {v : Value} {xs : List Value} (h : w.ownsRow B e size v n xs) : CapOk v := by
  intro A m c e1
  rcases h.2 with ⟨rfl, h0⟩ | ⟨g, cap, cur, rfl, -, -, hn, -⟩
  · injection e1 with _ e2 _
    omega
  · injection e1 with _ e2 e3
    omega
def tkV (ls : List (List Int)) : Int := (tkC ls).getD 0
def tkL (ls : List (List Int)) : List (List Int) := match tkC ls with
  | none => ls
  | some c => tkR ls c
theorem tk_none {ls : List (List Int)} (h : ∀ (j : Nat) (r : List Int), ls[j]? = some r → ¬ r.length = 1) : tkC ls = none := by
  unfold tkC
  rw [find_no _ _ fun j r hj => decide_eq_false (h j r hj)]; rfl
theorem tk_some {ls : List (List Int)} {i : Nat} {c : Int} (hi : ls[i]? = some [c]) (h : ∀ (j : Nat) (r : List Int), j < i → ls[j]? = some r → ¬ r.length = 1) : tkC ls = some c := by
  unfold tkC
  rw [find_at _ ls i [c] hi rfl fun j r hj hr => decide_eq_false (h j r hj hr)]; rfl
theorem tkR_take {ls : List (List Int)} {k : Nat} {l : List Int} {c : Int} (h : ls[k]? = some l) : tkR (ls.take (k + 1)) c = if c ∈ l then tkR (ls.take k) c else tkR (ls.take k) c ++ [l] := by
  unfold tkR
  rw [List.take_add_one, h, List.filter_append]
  by_cases hm : c ∈ l
  · rw [if_pos hm]; simp [hm]
  · rw [if_neg hm]; simp [hm]
theorem tkR_len (ls : List (List Int)) (c : Int) (k : Nat) : (tkR (ls.take k) c).length ≤ k := by
  unfold tkR
  have h1 := List.length_filter_le (fun r => !decide (c ∈ r)) (ls.take k)
  rw [List.length_take] at h1
  omega
end Go.Proofs.Ytcbhcclickjpnaa
namespace Go.Proofs.Ytcbhcclickjpnaa
open Go.RowKit Go.Joins

def risL (n : Int) (l : List Int) : Prop := (∀ x, x ∈ l → 0 ≤ x ∧ x < n) ∧ l.Pairwise (· < ·)
theorem right_row {n : Int} {l : List Int} : rightR n l = true ↔ risL n l := by
  unfold rightR
  rw [List.all_eq_true]
  constructor
  · intro h
    have h1 : ∀ k, k < l.length → 0 ≤ l.getD k 0 ∧ l.getD k 0 < n ∧ (k = 0 ∨ l.getD (k - 1) 0 < l.getD k 0) := fun k hk => by
      have h2 := h k (List.mem_range.2 hk)
      unfold okR at h2
      rw [Bool.and_eq_true, Bool.and_eq_true, Bool.or_eq_true, decide_eq_true_iff, decide_eq_true_iff, decide_eq_true_iff, decide_eq_true_iff] at h2
      exact ⟨h2.1.1, h2.1.2, h2.2⟩
    refine ⟨fun x hx => ?_, ?_⟩
    · obtain ⟨k, hk, rfl⟩ := List.mem_iff_getElem.1 hx
      have h2 := h1 k hk
      rw [List.getD_eq_getElem?_getD, List.getElem?_eq_getElem hk] at h2
      exact ⟨h2.1, h2.2.1⟩
    · have h3 : ∀ d i, i + d + 1 < l.length → l.getD i 0 < l.getD (i + d + 1) 0 := by
        intro d
        induction d with
        | zero =>
          intro i hi
          have h2 := (h1 (i + 0 + 1) hi).2.2
          rcases h2 with h2 | h2
          · omega
          · exact h2
        | succ d ih =>
          intro i hi
          have h2 := (h1 (i + (d + 1) + 1) hi).2.2
          have h4 := ih i (by omega)
          rcases h2 with h2 | h2
          · omega
          · have e : i + (d + 1) + 1 - 1 = i + d + 1 := by omega
            rw [e] at h2
            omega
      rw [List.pairwise_iff_getElem]
      intro i j hi hj hij
      have h4 := h3 (j - i - 1) i (by omega)
      have e : i + (j - i - 1) + 1 = j := by omega
      rw [e, List.getD_eq_getElem?_getD, List.getD_eq_getElem?_getD, List.getElem?_eq_getElem hi, List.getElem?_eq_getElem hj] at h4
      exact h4
  · intro h k hk
    have hk := List.mem_range.1 hk
    have h1 := h.1 _ (List.getElem_mem hk)
    unfold okR
    rw [Bool.and_eq_true, Bool.and_eq_true, Bool.or_eq_true, decide_eq_true_iff, decide_eq_true_iff, decide_eq_true_iff, decide_eq_true_iff]
    have e : l.getD k 0 = l[k] := by rw [List.getD_eq_getElem?_getD, List.getElem?_eq_getElem hk]; rfl
    rw [e]
    refine ⟨h1, ?_⟩
    by_cases h0 : k = 0
    · exact .inl h0
    · refine .inr ?_
      have hk1 : k - 1 < l.length := by omega
      have e1 : l.getD (k - 1) 0 = l[k - 1] := by rw [List.getD_eq_getElem?_getD, List.getElem?_eq_getElem hk1]; rfl
      rw [e1]
      exact List.pairwise_iff_getElem.1 h.2 (k - 1) k hk1 hk (by omega)
theorem right_iff {n : Int} {ls : List (List Int)} : rightM n ls = true ↔ 0 ≤ n ∧ n ≤ 4000 ∧ ∀ l, l ∈ ls → risL n l := by
  unfold rightM
  rw [Bool.and_eq_true, Bool.and_eq_true, decide_eq_true_iff, decide_eq_true_iff, List.all_eq_true]
  exact ⟨fun h => ⟨h.1.1, h.1.2, fun l hl => right_row.1 (h.2 l hl)⟩, fun h => ⟨⟨h.1, h.2.1⟩, fun l hl => right_row.2 (h.2.2 l hl)⟩⟩
theorem risL.filter {n : Int} {l : List Int} (h : risL n l) (p : Int → Bool) : risL n (l.filter p) :=
  ⟨fun x hx => h.1 x (List.mem_filter.1 hx).1, h.2.filter p⟩
theorem red_ris {n : Int} {m : Nat} : ∀ (f : Nat) (t : Int → Bool) (ls : List (List Int)), (∀ l, l ∈ ls → risL n l) → ∀ l, l ∈ (redP m f t ls).2 → risL n l
  | 0, t, ls, h => h
  | f + 1, t, ls, h => by
    unfold redP
    split
    · exact red_ris f _ _ fun l hl => h l (List.mem_filter.1 hl).1
    · split
      · exact red_ris f _ _ fun l hl => h l (List.mem_of_mem_eraseIdx hl)
      · split
        · refine red_ris f _ _ fun l hl => ?_
          obtain ⟨r, hr, rfl⟩ := List.mem_map.1 hl
          exact (h r hr).filter _
        · exact h
/-- The columns that are taken, by flags, and what is left. -/
def redL (n : Int) (ls : List (List Int)) : (Int → Bool) × List (List Int) := redP n.toNat (masR ls + 1) (fun _ => false) ls
def takL (n : Int) (ls : List (List Int)) : List Int := ((List.range n.toNat).filter fun c : Nat => (redL n ls).1 (c : Int)).map fun c : Nat => (c : Int)
theorem red_right {n : Int} {ls : List (List Int)} (h : rightM n ls = true) : rightM n (redL n ls).2 = true := by
  obtain ⟨h1, h2, h3⟩ := right_iff.1 h
  exact right_iff.2 ⟨h1, h2, red_ris _ _ _ h3⟩
theorem tak_len (n : Int) (ls : List (List Int)) : (takL n ls).length = crdT n.toNat (redL n ls).1 := by
  unfold takL crdT
  rw [List.length_map, List.countP_eq_length_filter]
end Go.Proofs.Ytcbhcclickjpnaa
namespace Go.Proofs.Ytcbhcclickjpnaa
open Go.RowKit Go.Joins

/-! ### The bound -/
def meetB (r used : List Int) : Bool := r.any fun x => decide (x ∈ used)
def bndU : List (List Int) → List Int → List Int
  | [], used => used
  | r :: ls, used => if meetB r used = true then bndU ls used else bndU ls (used ++ r)
def bndN : List (List Int) → List Int → Nat
  | [], _ => 0
  | r :: ls, used => if meetB r used = true then bndN ls used else bndN ls (used ++ r) + 1
def boundL (ls : List (List Int)) : Nat := bndN ls []
theorem bnd_snoc : ∀ (ls : List (List Int)) (used : List Int) (r : List Int), bndU (ls ++ [r]) used = if meetB r (bndU ls used) = true then bndU ls used else bndU ls used ++ r
  | [], used, r => by
    show bndU [r] used = _
    unfold bndU bndU
    rfl
  | q :: ls, used, r => by
    rw [List.cons_append]
    unfold bndU
    by_cases h : meetB q used = true
    · rw [if_pos h, if_pos h]; exact bnd_snoc ls used r
    · rw [if_neg h, if_neg h]; exact bnd_snoc ls (used ++ q) r
theorem bndN_snoc : ∀ (ls : List (List Int)) (used : List Int) (r : List Int), bndN (ls ++ [r]) used = if meetB r (bndU ls used) = true then bndN ls used else bndN ls used + 1
  | [], used, r => by
    show bndN [r] used = _
    unfold bndN bndU bndN
    rfl
  | q :: ls, used, r => by
    rw [List.cons_append]
    unfold bndN bndU
    by_cases h : meetB q used = true
    · rw [if_pos h, if_pos h, if_pos h]; exact bndN_snoc ls used r
    · rw [if_neg h, if_neg h, if_neg h, bndN_snoc ls (used ++ q) r]
      split <;> rfl
theorem bndN_le : ∀ (ls : List (List Int)) (used : List Int), bndN ls used ≤ ls.length
  | [], _ => Nat.zero_le _
  | r :: ls, used => by
    unfold bndN
    have h1 := bndN_le ls used
    have h2 := bndN_le ls (used ++ r)
    rw [List.length_cons]
    split <;> omega
theorem crd_more {n : Nat} {U V : Int → Bool} {c : Nat} (hUV : ∀ d : Nat, d < n → U d = true → V d = true) (hc : c < n) (hU : U c = false) (hV : V c = true) : crdT n U + 1 ≤ crdT n V := by
  have h1 := crd_less (T := V) hV n
  rw [if_pos hc] at h1
  have h2 : crdT n U ≤ crdT n (fun x => V x && !decide (x = (c : Int))) := crd_le fun d hd h => by
    have hne : ¬ (d : Int) = (c : Int) := fun e => by
      have : d = c := by omega
      subst this
      rw [hU] at h; cases h
    simp [hUV d hd h, hne]
  omega
theorem bnd_under {n : Nat} {T : Int → Bool} : ∀ (ls : List (List Int)) (used : List Int), (∀ r, r ∈ ls → ∀ c, c ∈ r → 0 ≤ c ∧ c < n) → SolT ls T → bndN ls used + crdT n (fun x => T x && decide (x ∈ used)) ≤ crdT n T
  | [], used, _, _ => by
    unfold bndN
    rw [Nat.zero_add]
    exact crd_le fun c _ h => by
      simp only [Bool.and_eq_true] at h
      exact h.1
  | r :: ls, used, hl, hT => by
    have hl' : ∀ r, r ∈ ls → ∀ c, c ∈ r → 0 ≤ c ∧ c < n := fun q hq => hl q (List.mem_cons_of_mem _ hq)
    have hT' : SolT ls T := fun q hq => hT q (List.mem_cons_of_mem _ hq)
    unfold bndN
    by_cases h : meetB r used = true
    · rw [if_pos h]
      exact bnd_under ls used hl' hT'
    · rw [if_neg h]
      have ih := bnd_under ls (used ++ r) hl' hT'
      obtain ⟨c, hc, hTc⟩ := hT r (List.mem_cons_self ..)
      obtain ⟨c0, cn⟩ := hl r (List.mem_cons_self ..) c hc
      obtain ⟨k, rfl⟩ : ∃ k : Nat, c = k := ⟨c.toNat, by omega⟩
      have hnu : ¬ (k : Int) ∈ used := fun hu => h (by
        unfold meetB
        rw [List.any_eq_true]
        exact ⟨_, hc, decide_eq_true hu⟩)
      have hm := crd_more (n := n) (U := fun x => T x && decide (x ∈ used)) (V := fun x => T x && decide (x ∈ used ++ r)) (c := k) (fun d _ h => by
        simp only [Bool.and_eq_true, decide_eq_true_iff] at h ⊢
        exact ⟨h.1, List.mem_append_left _ h.2⟩) (by omega) (by simp [hnu]) (by simp [hTc, hc])
      omega
/-- No columns that solve a covering are fewer than its bound. -/
theorem bound_under {n : Nat} {ls : List (List Int)} {T : Int → Bool} (hl : ∀ r, r ∈ ls → ∀ c, c ∈ r → 0 ≤ c ∧ c < n) (hT : SolT ls T) : boundL ls ≤ crdT n T := by
  have := bnd_under ls [] hl hT
  unfold boundL
  omega

/-! ### Greedy columns -/
def bareB (ls : List (List Int)) : Bool := ls.any fun r => decide (r.length = 0)
def cntC (ls : List (List Int)) (c : Nat) : Nat := ls.countP fun r => decide ((c : Int) ∈ r)
def mstC (ls : List (List Int)) : Nat → Nat
  | 0 => 0
  | k + 1 => if cntC ls (mstC ls k) < cntC ls k then k else mstC ls k
theorem mst_max (ls : List (List Int)) : ∀ k c, c < k → cntC ls c ≤ cntC ls (mstC ls k)
  | 0, c, h => absurd h (Nat.not_lt_zero _)
  | k + 1, c, h => by
    unfold mstC
    by_cases e : c = k
    · subst e
      split <;> omega
    · have := mst_max ls k c (by omega)
      split <;> omega
theorem mst_lt (ls : List (List Int)) : ∀ k, mstC ls k < k ∨ mstC ls k = 0
  | 0 => .inr rfl
  | k + 1 => by
    unfold mstC
    split
    · exact .inl (by omega)
    · rcases mst_lt ls k with h | h
      · exact .inl (by omega)
      · exact .inr h
/-- The flags behind the greedy choice of f rounds, and the rows that are left. -/
def grdP (n : Nat) : Nat → (Int → Bool) → List (List Int) → (Int → Bool)
  | 0, t, _ => t
  | f + 1, t, ls => if ls = [] then t else grdP n f (fun x => t x || decide (x = ((mstC ls n : Nat) : Int))) (tkR ls ((mstC ls n : Nat) : Int))
def grdT (n : Nat) (ls : List (List Int)) : Int → Bool := grdP n (ls.length + 1) (fun _ => false) ls
theorem bare_tk {ls : List (List Int)} (h : bareB ls = false) (c : Int) : bareB (tkR ls c) = false := by
  unfold bareB at h ⊢
  rw [List.any_eq_false] at h ⊢
  exact fun r hr => h r (List.mem_filter.1 hr).1
/-- A greedy round removes a row. -/
theorem grd_less {n : Nat} {ls : List (List Int)} (hl : ∀ r, r ∈ ls → ∀ c, c ∈ r → 0 ≤ c ∧ c < n) (hb : bareB ls = false) (hne : ls ≠ []) : (tkR ls ((mstC ls n : Nat) : Int)).length < ls.length ∧ mstC ls n < n := by
  obtain ⟨r, hr⟩ := List.exists_mem_of_ne_nil ls hne
  have hr0 : r ≠ [] := fun e => by
    unfold bareB at hb
    rw [List.any_eq_false] at hb
    exact hb r hr (by rw [e]; rfl)
  obtain ⟨c, hc⟩ := List.exists_mem_of_ne_nil r hr0
  obtain ⟨c0, cn⟩ := hl r hr c hc
  obtain ⟨k, rfl⟩ : ∃ k : Nat, c = k := ⟨c.toNat, by omega⟩
  have h1 : 0 < cntC ls k := by
    unfold cntC
    rw [List.countP_pos_iff]
    exact ⟨r, hr, decide_eq_true hc⟩
  have h2 := mst_max ls n k (by omega)
  refine ⟨?_, ?_⟩
  · have h3 : 0 < cntC ls (mstC ls n) := by omega
    unfold cntC at h3
    rw [List.countP_pos_iff] at h3
    obtain ⟨q, hq, hm⟩ := h3
    unfold tkR
    rw [List.length_filter_lt_length_iff_exists]
    exact ⟨q, hq, by simp only [hm]; decide⟩
  · rcases mst_lt ls n with h | h
    · exact h
    · omega
theorem tkR_low {n : Nat} {ls : List (List Int)} (hl : ∀ r, r ∈ ls → ∀ c, c ∈ r → 0 ≤ c ∧ c < n) (d : Int) : ∀ r, r ∈ tkR ls d → ∀ c, c ∈ r → 0 ≤ c ∧ c < n := fun r hr => hl r (List.mem_filter.1 hr).1
/-- With enough rounds greedy columns solve, with those that were there, all rows. -/
theorem grd_sol {n : Nat} {l0 : List (List Int)} : ∀ (f : Nat) (t : Int → Bool) (ls : List (List Int)), ls.length < f → (∀ r, r ∈ ls → ∀ c, c ∈ r → 0 ≤ c ∧ c < n) → bareB ls = false → (∀ r, r ∈ l0 → r ∈ ls ∨ ∃ c, c ∈ r ∧ t c = true) → SolT l0 (grdP n f t ls)
  | 0, t, ls, h, _, _, _ => absurd h (Nat.not_lt_zero _)
  | f + 1, t, ls, h, hl, hb, hI => by
    unfold grdP
    by_cases e : ls = []
    · rw [if_pos e]
      intro r hr
      rcases hI r hr with h1 | h1
      · rw [e] at h1; cases h1
      · exact h1
    · rw [if_neg e]
      have hlt := (grd_less hl hb e).1
      refine grd_sol f _ _ (by omega) (tkR_low hl _) (bare_tk hb _) fun r hr => ?_
      rcases hI r hr with h1 | ⟨c, hc, ht⟩
      · by_cases hm : ((mstC ls n : Nat) : Int) ∈ r
        · exact .inr ⟨_, hm, by simp⟩
        · refine .inl ?_
          unfold tkR
          rw [List.mem_filter]
          exact ⟨h1, by simp [hm]⟩
      · exact .inr ⟨c, hc, by simp [ht]⟩
theorem grd_solves {n : Nat} {ls : List (List Int)} (hl : ∀ r, r ∈ ls → ∀ c, c ∈ r → 0 ≤ c ∧ c < n) (hb : bareB ls = false) : SolT ls (grdT n ls) :=
  grd_sol _ _ ls (Nat.lt_succ_self _) hl hb fun _ h => .inl h
/-- Rounds that are not needed change nothing. -/
theorem grd_fuel {n : Nat} : ∀ (f g : Nat) (t : Int → Bool) (ls : List (List Int)), ls.length < f → ls.length < g → (∀ r, r ∈ ls → ∀ c, c ∈ r → 0 ≤ c ∧ c < n) → bareB ls = false → grdP n f t ls = grdP n g t ls
  | 0, _, _, _, h, _, _, _ => absurd h (Nat.not_lt_zero _)
  | _ + 1, 0, _, _, _, h, _, _ => absurd h (Nat.not_lt_zero _)
  | f + 1, g + 1, t, ls, h1, h2, hl, hb => by
    unfold grdP
    by_cases e : ls = []
    · rw [if_pos e, if_pos e]
    · rw [if_neg e, if_neg e]
      have hlt := (grd_less hl hb e).1
      exact grd_fuel f g _ _ (by omega) (by omega) (tkR_low hl _) (bare_tk hb _)

/-! ### Columns as a list, and as flags -/
/-- The columns of flags, rising. -/
def flgL (T : Int → Bool) (k : Nat) : List Int := ((List.range k).filter fun c : Nat => T (c : Int)).map fun c : Nat => (c : Int)
theorem flg_len (T : Int → Bool) (n : Nat) : (flgL T n).length = crdT n T := by
  unfold flgL crdT
  rw [List.length_map, List.countP_eq_length_filter]
theorem mem_flg {T : Int → Bool} {n : Nat} {x : Int} : x ∈ flgL T n ↔ ∃ c : Nat, x = c ∧ c < n ∧ T c = true := by
  unfold flgL
  rw [List.mem_map]
  constructor
  · rintro ⟨c, hc, rfl⟩
    rw [List.mem_filter, List.mem_range] at hc
    exact ⟨c, rfl, hc.1, hc.2⟩
  · rintro ⟨c, rfl, h1, h2⟩
    exact ⟨c, by rw [List.mem_filter, List.mem_range]; exact ⟨h1, h2⟩, rfl⟩
theorem flg_sol {n : Nat} {ls : List (List Int)} (hl : ∀ r, r ∈ ls → ∀ c, c ∈ r → 0 ≤ c ∧ c < n) {T : Int → Bool} (h : SolT ls T) : solvesM ls (flgL T n) = true := by
  rw [solves_all]
  intro r hr
  obtain ⟨c, hc, hT⟩ := h r hr
  obtain ⟨c0, cn⟩ := hl r hr c hc
  exact ⟨c, hc, mem_flg.2 ⟨c.toNat, by omega, by omega, by rw [Int.toNat_of_nonneg c0]; exact hT⟩⟩
theorem sol_of {ls : List (List Int)} {l : List Int} (h : solvesM ls l = true) : SolT ls fun x => decide (x ∈ l) := by
  rw [solves_all] at h
  intro r hr
  obtain ⟨c, h1, h2⟩ := h r hr
  exact ⟨c, h1, decide_eq_true h2⟩
/-- Columns count at most as long as they are told. -/
theorem crd_list (n : Nat) : ∀ l : List Int, crdT n (fun x => decide (x ∈ l)) ≤ l.length
  | [] => by
    have : crdT n (fun x => decide (x ∈ ([] : List Int))) = crdT n fun _ => false := by congr 1; try (funext x; simp)
    rw [this, crd_zero]
    exact Nat.le_refl _
  | y :: l => by
    have ih := crd_list n l
    rw [List.length_cons]
    by_cases h : ∃ c : Nat, y = c
    · obtain ⟨c, rfl⟩ := h
      have e : (fun x => decide (x ∈ (c : Int) :: l)) = fun x => decide (x ∈ l) || decide (x = (c : Int)) := by
        funext x
        rw [Bool.eq_iff_iff]
        simp [or_comm]
      rw [e]
      have := crd_with (T := fun x => decide (x ∈ l)) (c := c) n
      have h1 : (if c < n then 1 else 0) ≤ 1 := by split <;> omega
      omega
    · have : crdT n (fun x => decide (x ∈ y :: l)) ≤ crdT n (fun x => decide (x ∈ l)) := crd_le fun c _ hc => by
        simp only [List.mem_cons, decide_eq_true_iff] at hc ⊢
        rcases hc with e | e
        · exact absurd ⟨c, e.symm⟩ h
        · exact e
      omega
/-- The fewest: rising columns that solve, and no others are fewer. -/
def FewL (n : Nat) (ls : List (List Int)) (l : List Int) : Prop := risL n l ∧ solvesM ls l = true ∧ ∀ T, SolT ls T → l.length ≤ crdT n T
/-- The document's number is that of the fewest. -/
theorem few_best {n : Nat} {ls : List (List Int)} {l : List Int} (hl : ∀ r, r ∈ ls → ∀ c, c ∈ r → 0 ≤ c ∧ c < n) (h : FewL n ls l) : bestM n ls = (l.length : Int) := by
  obtain ⟨h1, h2, h3⟩ := h
  have hT := sol_of h2
  have hch := sol_num (n := n) hl hT
  have hlen := chL_num n (fun x => decide (x ∈ l))
  have hcl := crd_list n l
  unfold bestM
  rcases best_spec n ls (2 ^ n) with ⟨-, hno⟩ | ⟨ch, hlt, hs, he, hmin⟩
  · rw [hno _ (num_lt _ n)] at hch
    cases hch
  · have h4 := hmin _ (num_lt (fun x => decide (x ∈ l)) n) hch
    have h5 := h3 _ (sol_ch hs)
    have h6 := chL_len n ch
    rw [he] at h4 ⊢
    omega
end Go.Proofs.Ytcbhcclickjpnaa
namespace Go.Proofs.Ytcbhcclickjpnaa
open Go.RowKit Go.Joins

theorem ris_at {n : Int} {l : List Int} (h : risL n l) : ∀ (i : Nat) (hi : i < l.length), (i : Int) ≤ l[i]
  | 0, hi => (h.1 _ (List.getElem_mem hi)).1
  | i + 1, hi => by
    have ih := ris_at h i (by omega)
    have := List.pairwise_iff_getElem.1 h.2 i (i + 1) (by omega) hi (by omega)
    omega
theorem ris_len {n : Int} {l : List Int} (h : risL n l) : (l.length : Int) ≤ n ∨ l = [] := by
  by_cases e : l = []
  · exact .inr e
  · have hp : 0 < l.length := List.length_pos_iff.2 e
    have h1 := ris_at h (l.length - 1) (by omega)
    have h2 := (h.1 _ (List.getElem_mem (show l.length - 1 < l.length by omega))).2
    exact .inl (by omega)
theorem right_low15 {n : Int} {ls : List (List Int)} (h : rightM n ls = true) : ∀ r, r ∈ ls → ∀ c, c ∈ r → 0 ≤ c ∧ c < n := fun r hr c hc => ((right_iff.1 h).2.2 r hr).1 c hc
theorem right_lens {n : Int} {ls : List (List Int)} (h : rightM n ls = true) (hn : n ≤ 30) : ∀ r, r ∈ ls → r.length ≤ 30 := fun r hr => by
  rcases ris_len ((right_iff.1 h).2.2 r hr) with h1 | h1
  · omega
  · rw [h1]; decide
def BoundGood : Prop := ∀ (n : Int) (L : Value) (ls : List (List Int)) (w : World), MatAt w w.heap.size L ls → CapM w L → gr14 n ls = false → rightM n ls = true →
  Calls Try.prog 8 #[mtv n L] w fun e w' => e = .returned (.tuple #[.int .i64 (boundL ls : Nat), .int .i64 0]) ∧ Below w.heap.size w w'
def BoundBad : Prop := ∀ (n : Int) (L : Value) (ls : List (List Int)) (w : World), MatAt w w.heap.size L ls → CapM w L → gr14 n ls = false → rightM n ls = false →
  Calls Try.prog 8 #[mtv n L] w fun e w' => e = .returned (.tuple #[.int .i64 0, .int .i64 1]) ∧ Below w.heap.size w w'
def GreedyGood : Prop := ∀ (n : Nat) (L : Value) (ls : List (List Int)) (w : World), MatAt w w.heap.size L ls → CapM w L → gr14 n ls = false → rightM n ls = true → bareB ls = false →
  Calls Try.prog 9 #[mtv n L] w fun e w' => ∃ u, e = .returned (.tuple #[u, .int .i64 0]) ∧ IntsAt w' w'.heap.size u (flgL (grdT n ls) n) ∧ Below w.heap.size w w'
def GreedyBare : Prop := ∀ (n : Nat) (L : Value) (ls : List (List Int)) (w : World), MatAt w w.heap.size L ls → CapM w L → gr14 n ls = false → rightM n ls = true → bareB ls = true →
  Calls Try.prog 9 #[mtv n L] w fun e w' => ∃ A c, e = .returned (.tuple #[.slice A 0 c, .int .i64 7]) ∧ Below w.heap.size w w'
def GreedyBad : Prop := ∀ (n : Int) (L : Value) (ls : List (List Int)) (w : World), MatAt w w.heap.size L ls → CapM w L → gr14 n ls = false → rightM n ls = false →
  Calls Try.prog 9 #[mtv n L] w fun e w' => ∃ A c, e = .returned (.tuple #[.slice A 0 c, .int .i64 1]) ∧ Below w.heap.size w w'
/-- With enough steps the fewest are found. -/
def FewestGood : Prop := ∀ (n : Nat) (L : Value) (ls : List (List Int)) (st : Nat) (w : World), MatAt w w.heap.size L ls → CapM w L → gr14 n ls = false → rightM n ls = true → bareB ls = false → n ≤ 12 → 2 ^ (n + 1) ≤ st → st ≤ 100000 →
  Calls Try.prog 16 #[mtv n L, .int .i64 st] w fun e w' => ∃ u l, ∃ k : Nat, e = .returned (.tuple #[u, .int .i64 k, .int .i64 0]) ∧ k ≤ 2 ^ (n + 1) ∧ IntsAt w' w'.heap.size u l ∧ FewL n ls l ∧ Below w.heap.size w w'
def FewestBare : Prop := ∀ (n : Nat) (L : Value) (ls : List (List Int)) (st : Nat) (w : World), MatAt w w.heap.size L ls → CapM w L → gr14 n ls = false → rightM n ls = true → bareB ls = true →
  Calls Try.prog 16 #[mtv n L, .int .i64 st] w fun e w' => ∃ A c, e = .returned (.tuple #[.slice A 0 c, .int .i64 0, .int .i64 7]) ∧ Below w.heap.size w w'
def FewestBad : Prop := ∀ (n : Int) (L : Value) (ls : List (List Int)) (st : Nat) (w : World), MatAt w w.heap.size L ls → CapM w L → gr14 n ls = false → rightM n ls = false →
  Calls Try.prog 16 #[mtv n L, .int .i64 st] w fun e w' => ∃ A c, e = .returned (.tuple #[.slice A 0 c, .int .i64 0, .int .i64 1]) ∧ Below w.heap.size w w'
def Knows15 : Prop := ∀ w : World, Calls Try.prog 7 #[] w fun e w' => e = .returned (.bool true) ∧ Below w.heap.size w w'
set_option maxHeartbeats 4000000 in
set_option maxRecDepth 100000 in
theorem great15_any (n : Int) (L : Value) (ls : List (List Int)) (w : World) (hL : MatAt w w.heap.size L ls) :
    Calls Try.prog 6 #[mtv n L] w fun e w' => e = .returned (.bool (gr14 n ls)) ∧ Below w.heap.size w w' := by
  have hB0 := below_alloc1 w (mtb n L)
  have hbu : (w.alloc (mtb n L)).heap[w.heap.size]? = some (mtb n L) := heap_alloc_new _ _
  have HG := great13_any n L ls _ ((hL.below hB0).more hB0.size)
  have hdf : Hid (gr14 n ls = (greatM ls || decide (30 < ls.length) || (decide (30 < n) && decide (n ≤ 4000)))) := Lib.hid rfl
  generalize gr14 n ls = R at *
  obtain ⟨A, c, rfl, hlen, -⟩ := hL
  unfold mtb at hB0 hbu HG
  unfold mtv at *
  obtain ⟨u0, u1, -⟩ := now2 hbu rfl
  go_enter Try.func6, Try.ntmps6
  cases hg : greatM ls
  · rw [hg] at HG hdf
    by_cases h1 : 30 < ls.length
    · have hd1 : decide ((30 : Int) < (ls.length : Int)) = true := decide_eq_true (by omega)
      have hr : Hid (R = true) := Lib.hid (by rw [hdf.out, decide_eq_true h1]; rfl)
      clear hdf hg
      go_wp2_with fail
      refine HG.mono ?_
      rintro e w1 ⟨rfl, hb⟩
      have hB1 := hB0.trans (hb.mono hB0.size)
      replace hbu := keep_blk hb hbu
      clear u0 u1 hb HG hB0
      obtain ⟨u0, u1, -⟩ := now2 hbu rfl
      go_wp2
      go_ret
      exact ⟨by rw [hr.out]; rfl, hB1⟩
    · have hd1 : decide ((30 : Int) < (ls.length : Int)) = false := decide_eq_false (by omega)
      by_cases h2 : 30 < n
      · have hd2 : decide (30 < n) = true := decide_eq_true h2
        have hr : Hid (R = decide (n ≤ 4000)) := Lib.hid (by rw [hdf.out, decide_eq_false h1, hd2]; rfl)
        clear hdf hg
        go_wp2_with fail
        refine HG.mono ?_
        rintro e w1 ⟨rfl, hb⟩
        have hB1 := hB0.trans (hb.mono hB0.size)
        replace hbu := keep_blk hb hbu
        clear u0 u1 hb HG hB0
        obtain ⟨u0, u1, -⟩ := now2 hbu rfl
        go_wp2
        go_ret
        exact ⟨by rw [hr.out]; rfl, hB1⟩
      · have hd2 : decide (30 < n) = false := decide_eq_false h2
        have hr : Hid (R = false) := Lib.hid (by rw [hdf.out, decide_eq_false h1, hd2]; rfl)
        clear hdf hg
        go_wp2_with fail
        refine HG.mono ?_
        rintro e w1 ⟨rfl, hb⟩
        have hB1 := hB0.trans (hb.mono hB0.size)
        replace hbu := keep_blk hb hbu
        clear u0 u1 hb HG hB0
        obtain ⟨u0, u1, -⟩ := now2 hbu rfl
        go_wp2
        go_ret
        exact ⟨by rw [hr.out]; rfl, hB1⟩
  · rw [hg] at HG hdf
    have hr : Hid (R = true) := Lib.hid (by rw [hdf.out]; rfl)
    clear hdf hg
    go_wp2_with fail
    refine HG.mono ?_
    rintro e w1 ⟨rfl, hb⟩
    have hB1 := hB0.trans (hb.mono hB0.size)
    clear u0 u1 hb HG hB0 hbu
    go_wp2
    go_ret
    exact ⟨by rw [hr.out]; rfl, hB1⟩
end Go.Proofs.Ytcbhcclickjpnaa
namespace Go.Proofs.Ytcbhcclickjpnaa
open Go.RowKit Go.Joins

def RightV : Prop := ∀ (n : Int) (L : Value) (ls : List (List Int)) (w : World), MatAt w w.heap.size L ls → Calls Try.prog 21 #[mtv n L] w fun e w' => e = .returned (.bool (rightM n ls)) ∧ Below w.heap.size w w'
def SolvesV : Prop := ∀ (n : Int) (L u : Value) (ls : List (List Int)) (cols : List Int) (w : World), MatAt w w.heap.size L ls → IntsAt w w.heap.size u cols → Calls Try.prog 15 #[mtv n L, u] w fun e w' => e = .returned (.bool (rightM n ls && solvesM ls cols)) ∧ Below w.heap.size w w'
end Go.Proofs.Ytcbhcclickjpnaa
