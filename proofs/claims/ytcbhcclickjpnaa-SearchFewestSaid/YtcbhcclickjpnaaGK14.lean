/- What the package reduce copies and looks up: slices.Clone, copied, slices.Index, slices.Contains. -/
import Derived.Test.YtcbhcclickjpnaaGK11
import Derived.Test.YtcbhcclickjpnaaGK10
import Derived.Test.YtcbhcclickjpnaaGK13
namespace Go.Proofs.Ytcbhcclickjpnaa
open Go.RowKit Go.Joins

set_option maxHeartbeats 2000000 in
set_option maxRecDepth 100000 in
theorem cloneI14_any (w : World) (v : Value) (l : List Int) (h8 : l.length ≤ 100000) (hz : IntsAt w w.heap.size v l) :
    Calls Try.prog 82 #[v] w fun e w' => ∃ v', e = .returned v' ∧ w'.ownsRow w.heap.size 3 1 v' l.length (intI l) ∧ Below w.heap.size w w' := by
  have q22 : ∀ (w : World) (a : Option Addr) (n c n' c' : Nat), (binOp .eql 30 (.slice a n c) (.slice none n' c')).run Try.prog w = .ok (.bool a.isNone) w := fun w a n c n' c' => Lib.run_eql_slice_nil w _ _ a n c n' c' Try.underlying30
  have hzz := hz
  obtain ⟨A, c, rfl, hzl, hc⟩ := hz
  cases A with
  | none =>
    have h0 : l = [] := by
      cases l with
      | nil => rfl
      | cons x r => obtain ⟨b, off, e, _⟩ := hc (by simp); cases e
    subst h0
    clear hc hzz
    go_enter Try.func82, Try.ntmps82
    go_wp2
    go_ret
    exact ⟨_, rfl, World.ownsRow_nil _ _ _ _, Below.refl _ _⟩
  | some a =>
    have hB0 := below_alloc1 w (.cells #[] 3 (0, 0))
    obtain ⟨v', w1, hrun, hown, hb⟩ := append13 (l := l) 30 (own_nil13 w) (Nat.le_of_lt (by rw [World.size_alloc]; exact Nat.lt_succ_self _)) ((hzz.below hB0).more hB0.size) (by simp) h8
    rw [List.nil_append] at hown
    clear hc hzz
    go_enter Try.func82, Try.ntmps82
    go_wp2_with (at_builtin; refine wpList_appendR _ rfl _ _ 30 rfl _ _ v' w1 rfl rfl hrun ?_)
    go_ret
    exact ⟨v', rfl, hown, hB0.trans hb⟩
/-- Each value is a slice with room for what it holds. -/
def AllCap (vs : List Value) : Prop := ∀ v, v ∈ vs → ∃ A n c, v = .slice A n c ∧ n ≤ c
theorem AllCap.nil : AllCap [] := fun _ h => absurd h List.not_mem_nil
theorem AllCap.push {vs : List Value} {v : Value} (h : AllCap vs) (hv : ∃ A n c, v = .slice A n c ∧ n ≤ c) : AllCap (vs ++ [v]) := fun u hu => by
  rcases List.mem_append.1 hu with h1 | h1
  · exact h u h1
  · rw [List.mem_singleton.1 h1]; exact hv
theorem AllCap.set {vs : List Value} {v : Value} (h : AllCap vs) (hv : ∃ A n c, v = .slice A n c ∧ n ≤ c) (j : Nat) : AllCap (vs.set j v) := fun u hu => by
  rcases List.mem_or_eq_of_mem_set hu with h1 | h1
  · exact h u h1
  · rw [h1]; exact hv
theorem own_one14 {w : World} {B n : Nat} {e : TypeId} {v : Value} {xs : List Value} (h : w.ownsRow B e 1 v n xs) : ∃ A n' c, v = .slice A n' c ∧ n' ≤ c := by
  obtain ⟨A, c, rfl⟩ := own_form h
  exact ⟨A, n, c, rfl, own_cap14 h _ _ _ rfl⟩
theorem own_capM14 {w : World} {B n : Nat} {u : Value} {vs : List Value} (h : w.ownsRow B 30 1 u n vs) (hl : vs.length = n) (hc : AllCap vs) : CapM w u := by
  intro A m c e
  refine ⟨own_cap14 h A m c e, fun h0 => ?_⟩
  rcases h.2 with ⟨rfl, h1⟩ | ⟨g, cap, cur, rfl, hg, hgg, h1, h2, h3, h4⟩
  · injection e with _ e2 _
    omega
  · injection e with e1 e2 e3
    subst e1
    refine ⟨g, 0, rfl, size_of_block hgg, fun j hj => ?_⟩
    have hjl : j < vs.length := by omega
    obtain ⟨A', n', c', h5, h6⟩ := hc _ (List.getElem_mem hjl)
    refine ⟨A', n', c', ?_, h6⟩
    have h7 : vs[j]? = some (.slice A' n' c') := by rw [List.getElem?_eq_getElem hjl, h5]
    rw [Nat.zero_add, cell_of_block hgg]
    rw [← h4, List.getElem?_take] at h7
    split at h7
    · simpa using h7
    · cases h7
theorem CapM.cell14 {w : World} {A : Option Addr} {n c b off j : Nat} {u : Value} (h : CapM w (.slice A n c)) (hA : A = some ⟨b, off, none⟩) (hj : j < n) (hu : w.cell? ⟨b, off + j, none⟩ = some u) : ∃ A' n' c', u = .slice A' n' c' ∧ n' ≤ c' := by
  obtain ⟨-, h2⟩ := h A n c rfl
  obtain ⟨b', off', e, -, hc⟩ := h2 (by omega)
  rw [hA] at e
  injection e with e
  injection e with e1 e2
  subst e1
  subst e2
  obtain ⟨A', n', c', h3, h4⟩ := hc j hj
  rw [hu] at h3
  injection h3 with h3
  exact ⟨A', n', c', h3, h4⟩
/-- None of the values lies in a block of E. -/
def AllLow (E : Nat → Prop) (vs : List Value) : Prop := ∀ v, v ∈ vs → ∀ b off n c, v = .slice (some ⟨b, off, none⟩) n c → 0 < n → ¬ E b
theorem AllLow.nil (E : Nat → Prop) : AllLow E [] := fun _ h => absurd h List.not_mem_nil
theorem AllLow.set {E : Nat → Prop} {vs : List Value} {v : Value} (h : AllLow E vs) (hv : ∀ b off n c, v = .slice (some ⟨b, off, none⟩) n c → 0 < n → ¬ E b) (j : Nat) : AllLow E (vs.set j v) := fun u hu => by
  rcases List.mem_or_eq_of_mem_set hu with h1 | h1
  · exact h u h1
  · rw [h1]; exact hv
theorem IntsN.low14 {w : World} {N : Nat → Prop} {v : Value} {l : List Int} (h : IntsN w N v l) : ∀ b off n c, v = .slice (some ⟨b, off, none⟩) n c → 0 < n → N b := by
  obtain ⟨A, c0, rfl, -, hc⟩ := h
  intro b off n c e h0
  injection e with e1 e2 _
  obtain ⟨b', off', e', hN, -⟩ := hc (by omega)
  rw [e1] at e'
  injection e' with e'
  injection e' with e' _
  rw [e']; exact hN
theorem MatN.cell14 {w W : World} {N : Nat → Prop} {A : Option Addr} {m c0 : Nat} {ls : List (List Int)} {b off j : Nat} {u : Value} (h : MatN w N (.slice A m c0) ls) (hA : A = some ⟨b, off, none⟩) (hj : j < m) (hb : Below w.heap.size w W) (hu : W.cell? ⟨b, off + j, none⟩ = some u) : ∀ b off n c, u = .slice (some ⟨b, off, none⟩) n c → 0 < n → N b := by
  obtain ⟨A', c', e, -, hc⟩ := h
  injection e with e1 e2 _
  subst e1
  have hjl : j < ls.length := by omega
  obtain ⟨b', off', e', -, hcell⟩ := hc (by omega)
  rw [hA] at e'
  injection e' with e'
  injection e' with e1 e3
  subst e1
  subst e3
  obtain ⟨ov, z, hi⟩ := hcell j _ (List.getElem?_eq_getElem hjl)
  rw [(hb.cell (p := ⟨b, off + j, none⟩) (block_lt_of_cell z)).trans z] at hu
  injection hu with hu
  subst hu
  exact hi.low14
theorem AllLow.push {E : Nat → Prop} {vs : List Value} {v : Value} (h : AllLow E vs) (hv : ∀ b off n c, v = .slice (some ⟨b, off, none⟩) n c → 0 < n → ¬ E b) : AllLow E (vs ++ [v]) := fun u hu => by
  rcases List.mem_append.1 hu with h1 | h1
  · exact h u h1
  · rw [List.mem_singleton.1 h1]; exact hv
theorem MatN.below14 {w W : World} {N : Nat → Prop} {v : Value} {ls : List (List Int)} (h : MatN w N v ls) (hb : Below w.heap.size w W) : MatN W N v ls := by
  obtain ⟨A, c, e, hl, h⟩ := h
  refine ⟨A, c, e, hl, fun h0 => ?_⟩
  obtain ⟨b, off, eA, hN, hc⟩ := h h0
  refine ⟨b, off, eA, hN, fun j l hj => ?_⟩
  obtain ⟨ov, z, A2, c2, e2, hl2, h2⟩ := hc j l hj
  refine ⟨ov, (hb.cell (p := ⟨b, off + j, none⟩) (block_lt_of_cell z)).trans z, A2, c2, e2, hl2, fun h0 => ?_⟩
  obtain ⟨b2, off2, eA2, hN2, hc2⟩ := h2 h0
  exact ⟨b2, off2, eA2, hN2, fun i x hi => (hb.cell (p := ⟨b2, off2 + i, none⟩) (block_lt_of_cell (hc2 i x hi))).trans (hc2 i x hi)⟩
theorem MatN.imp14 {w : World} {N N' : Nat → Prop} {v : Value} {ls : List (List Int)} (h : MatN w N v ls) (hN' : ∀ b, N b → b < w.heap.size → N' b) : MatN w N' v ls := by
  obtain ⟨A, c, e, hl, h⟩ := h
  refine ⟨A, c, e, hl, fun h0 => ?_⟩
  obtain ⟨b, off, eA, hN, hc⟩ := h h0
  obtain ⟨o0, z0, -⟩ := hc 0 _ (List.getElem?_eq_getElem h0)
  refine ⟨b, off, eA, hN' b hN (block_lt_of_cell z0), fun j l hj => ?_⟩
  obtain ⟨ov, z, A2, c2, e2, hl2, h2⟩ := hc j l hj
  refine ⟨ov, z, A2, c2, e2, hl2, fun h0 => ?_⟩
  obtain ⟨b2, off2, eA2, hN2, hc2⟩ := h2 h0
  exact ⟨b2, off2, eA2, hN' b2 hN2 (block_lt_of_cell (hc2 0 _ (List.getElem?_eq_getElem h0))), hc2⟩
theorem matN_low14 {E : Nat → Prop} {w : World} {B : Nat} {u : Value} {K : List (List Int)} {vs : List Value} (hM : MatAt w w.heap.size u K) (ho : w.ownsRow B 30 1 u K.length vs) (hE : ∀ b, E b → b < B) (hlow : AllLow E vs) : MatN w (fun b => ¬ E b) u K := by
  obtain ⟨A, c, rfl, hl, hc⟩ := hM
  refine ⟨A, c, rfl, hl, fun h0 => ?_⟩
  obtain ⟨b, off, rfl, hB, hcell⟩ := hc h0
  rcases id ho.2 with ⟨e, h1⟩ | ⟨g, cap, cur, e, hg, hgg, h1, h2, h3, h4⟩
  · omega
  · injection e with e1 e2 e3
    injection e1 with e1
    injection e1 with e1 e4
    subst e1
    subst e4
    refine ⟨b, 0, rfl, fun hEb => by have := hE _ hEb; omega, fun j l hj => ?_⟩
    obtain ⟨ov, z, hi⟩ := hcell j l hj
    refine ⟨ov, z, ?_⟩
    have hjl : j < K.length := (List.getElem?_eq_some_iff.1 hj).1
    have hq := ho.cellAt j (by omega)
    rw [Nat.zero_add] at z
    rw [z] at hq
    have hm := List.mem_of_getElem? hq.symm
    obtain ⟨A2, c2, rfl, hl2, hc2⟩ := hi
    refine ⟨A2, c2, rfl, hl2, fun h0 => ?_⟩
    obtain ⟨b2, off2, rfl, -, h3⟩ := hc2 h0
    exact ⟨b2, off2, rfl, hlow _ hm _ _ _ _ rfl h0, h3⟩
set_option maxHeartbeats 2000000 in
set_option maxRecDepth 100000 in
theorem cloneM14_any (E : Nat → Prop) (w : World) (v : Value) (l : List (List Int)) (h8 : l.length ≤ 100000) (hzN : MatN w (fun b => ¬ E b) v l) (hcap : CapM w v) :
    Calls Try.prog 38 #[v] w fun e w' => ∃ v' vs, e = .returned v' ∧ w'.ownsRow w.heap.size 30 1 v' l.length vs ∧ vs.length = l.length ∧ RowsIn w' v' l vs ∧ AllCap vs ∧ AllLow E vs ∧ Below w.heap.size w w' := by
  have q22 : ∀ (w : World) (a : Option Addr) (n c n' c' : Nat), (binOp .eql 22 (.slice a n c) (.slice none n' c')).run Try.prog w = .ok (.bool a.isNone) w := fun w a n c n' c' => Lib.run_eql_slice_nil w _ _ a n c n' c' Try.underlying22
  have hz := hzN.here
  have hzz := hz
  obtain ⟨A, c, rfl, hzl, hc⟩ := hz
  cases A with
  | none =>
    have h0 : l = [] := by
      cases l with
      | nil => rfl
      | cons x r => obtain ⟨b, off, e, _⟩ := hc (by simp); cases e
    subst h0
    clear hc hzz hzN
    go_enter Try.func38, Try.ntmps38
    go_wp2
    go_ret
    exact ⟨_, [], rfl, World.ownsRow_nil _ _ _ _, rfl, RowsIn.nil _ _, AllCap.nil, AllLow.nil _, Below.refl _ _⟩
  | some a =>
    have hB0 := below_alloc1 w (.cells #[] 30 (0, 0))
    have hon : (w.alloc (.cells #[] 30 (0, 0))).ownsRow w.heap.size 30 1 (.slice (some ⟨w.heap.size, 0, none⟩) 0 0) ([] : List (List Int)).length [] := World.ownsRow_made w #[] 0 (Nat.le_refl _) (Nat.zero_le _) rfl
    obtain ⟨v', w1, vs, hrun, hown, hvl, hin, hb, hmem⟩ := appendMc (l := l) 22 hon rfl (RowsIn.nil _ _) (Nat.le_of_lt (by rw [World.size_alloc]; exact Nat.lt_succ_self _)) (hzz.below hB0) (by simp) h8
    rw [List.nil_append] at hown hin hvl
    have hac : AllCap vs := fun u hu => by
      rcases hmem u hu with h1 | ⟨a2, n2, c2, j, e, hj, hcell⟩
      · exact absurd h1 List.not_mem_nil
      · injection e with e1 e2 e3
        injection e1 with e1
        subst e1
        subst e2
        subst e3
        obtain ⟨b, off, e4, -, -⟩ := hc (by omega)
        injection e4 with e4
        subst e4
        rw [Addr.add_lit] at hcell
        exact (hcap.below hB0).cell14 rfl hj hcell
    have hlo : AllLow E vs := fun u hu => by
      rcases hmem u hu with h1 | ⟨a2, n2, c2, j, e, hj, hcell⟩
      · exact absurd h1 List.not_mem_nil
      · injection e with e1 e2 e3
        injection e1 with e1
        subst e1
        subst e2
        subst e3
        obtain ⟨b, off, e4, -, -⟩ := hc (by omega)
        injection e4 with e4
        subst e4
        rw [Addr.add_lit] at hcell
        exact hzN.cell14 rfl hj hB0 hcell
    clear hc hzz hzN hon hmem hcap
    go_enter Try.func38, Try.ntmps38
    go_wp2_with (at_builtin; refine wpList_appendR _ rfl _ _ 22 rfl _ _ v' w1 rfl rfl hrun ?_)
    go_ret
    exact ⟨v', vs, rfl, hown, hvl, hin, hac, hlo, hB0.trans hb⟩
theorem isX_at {l : List Int} {c : Int} {k : Nat} (h : l[k]? = some c) (hn : ∀ (j : Nat) (x : Int), j < k → l[j]? = some x → ¬ x = c) : firstI (fun x => decide (x = c)) l = k := firstI_at h (by
  rw [List.any_eq_false]
  intro x hx
  obtain ⟨j, hj⟩ := List.mem_iff_getElem?.1 hx
  rw [List.getElem?_take] at hj
  split at hj
  · rename_i hjk
    simpa using hn j x hjk hj
  · cases hj) (by simp)
theorem isX_none {l : List Int} {c : Int} (hn : ∀ (j : Nat) (x : Int), l[j]? = some x → ¬ x = c) : firstI (fun x => decide (x = c)) l = -1 := firstI_none (by
  rw [List.any_eq_false]
  intro x hx
  obtain ⟨j, hj⟩ := List.mem_iff_getElem?.1 hx
  simpa using hn j x hj)
set_option maxHeartbeats 1000000 in
set_option maxRecDepth 100000 in
theorem idxI14_any (v : Value) (l : List Int) (c : Int) (w : World) (hz : IntsAt w w.heap.size v l) :
    Calls Try.prog 40 #[v, .int .i64 c] w fun e w' => e = .returned (.int .i64 (firstI (fun x => decide (x = c)) l)) ∧ Below w.heap.size w w' := by
  obtain ⟨A, cp, rfl, hl, hc⟩ := hz
  have hyes : Hid (∀ (k : Nat), l[k]? = some c → (∀ (j : Nat) (x : Int), j < k → l[j]? = some x → ¬ x = c) → firstI (fun x => decide (x = c)) l = k) := Lib.hid (fun k h hn => isX_at h hn)
  have hno : Hid ((∀ (j : Nat) (x : Int), l[j]? = some x → ¬ x = c) → firstI (fun x => decide (x = c)) l = -1) := Lib.hid (fun hn => isX_none hn)
  generalize firstI (fun x => decide (x = c)) l = R at *
  go_enter Try.func40, Try.ntmps40
  go_wp2
  go_loop [5, 8] (fun _ t => ∃ k : Nat, k ≤ l.length ∧ t = .int .i64 k ∧ Hid (∀ (j : Nat) (x : Int), j < k → l[j]? = some x → ¬ x = c)) (fun _ t => l.length - (intOf t).toNat)
  case atStart => exact ⟨0, by omega, rfl, Lib.hid (fun j x h => absurd h (Nat.not_lt_zero _))⟩
  case round =>
    obtain ⟨k, hk, rfl, hH⟩ := hrel
    by_cases hlt : k < l.length
    · obtain ⟨b, off, rfl, hB, hcell⟩ := hc (by omega)
      obtain ⟨x, hx⟩ : ∃ x, l[k]? = some x := ⟨_, List.getElem?_eq_getElem hlt⟩
      have c0 := hcell k x hx
      have hxH := Lib.hid hx
      have k0 : (0 : Int) ≤ (k : Int) := by omega
      have k1 : (k : Int) < (l.length : Int) := by omega
      clear hcell hx hc
      by_cases e : x = c
      · subst e
        have hr := Lib.hid (hyes.out k hxH.out hH.out)
        clear hyes hno hH hxH
        go_wp2
        go_ret
        exact ⟨by rw [hr.out]; rfl, Below.refl _ _⟩
      · have hne : (c == x) = false := by rw [beq_eq_false_iff_ne]; exact fun h => e h.symm
        have hH2 : Hid (∀ (j : Nat) (y : Int), j < k + 1 → l[j]? = some y → ¬ y = c) := Lib.hid (fun j y hj hy => by
          by_cases ej : j = k
          · subst ej
            rw [hxH.out] at hy
            injection hy with hy
            rw [← hy]; exact e
          · exact hH.out j y (by omega) hy)
        clear hH hxH e
        go_wp2
        go_round
        case rel => exact ⟨k + 1, by omega, by go_num, hH2⟩
        case measure => simp [intOf]; omega
    · have e : k = l.length := by omega
      have hr := Lib.hid (hno.out fun j x hx => hH.out j x (by rw [e]; exact (List.getElem?_eq_some_iff.1 hx).1) hx)
      have hkd : ¬ (k : Int) < (l.length : Int) := by omega
      clear e hyes hno hH hc
      go_wp2
      go_ret
      exact ⟨by rw [hr.out]; rfl, Below.refl _ _⟩
set_option maxRecDepth 100000 in
theorem contI14_any (v : Value) (l : List Int) (c : Int) (w : World) (hz : IntsAt w w.heap.size v l) :
    Calls Try.prog 44 #[v, .int .i64 c] w fun e w' => e = .returned (.bool (decide (c ∈ l))) ∧ Below w.heap.size w w' := by
  have H := idxI14_any v l c w hz
  have hr := Lib.hid (firstI_ge (fun x => decide (x = c)) l)
  have hm : Hid ((l.any fun x => decide (x = c)) = decide (c ∈ l)) := Lib.hid (by
    rw [Bool.eq_iff_iff, List.any_eq_true, decide_eq_true_iff]
    constructor
    · rintro ⟨x, hx, e⟩
      rw [← of_decide_eq_true e]; exact hx
    · exact fun h => ⟨c, h, by simp⟩)
  obtain ⟨A, cp, rfl, -, -⟩ := hz
  generalize firstI (fun x => decide (x = c)) l = n at *
  go_enter Try.func44, Try.ntmps44
  go_wp2_with fail
  refine H.mono ?_
  rintro e w1 ⟨rfl, hb1⟩
  go_wp2
  go_ret
  exact ⟨by rw [← hm.out, ← hr.out]; rfl, hb1⟩
/-- The values vs, which the row V holds, read as the rows K; none of them lies in V's own block, nor in one of E. -/
def RowsX (E : Nat → Prop) (w : World) (V : Value) (K : List (List Int)) (vs : List Value) : Prop :=
  ∀ (j : Nat) (l : List Int), K[j]? = some l → ∃ v, vs[j]? = some v ∧ IntsN w (fun b => ¬ E b ∧ b < w.heap.size ∧ V.ownBlock ≠ some b) v l
theorem RowsIn.low14 {E : Nat → Prop} {w : World} {V : Value} {K : List (List Int)} {vs : List Value} (h : RowsIn w V K vs) (hlow : AllLow E vs) : RowsX E w V K vs := by
  intro j l hj
  obtain ⟨v, hv, A, c, e, hl, hc⟩ := h j l hj
  refine ⟨v, hv, A, c, e, hl, fun h0 => ?_⟩
  obtain ⟨b, off, eA, hb, hcell⟩ := hc h0
  exact ⟨b, off, eA, ⟨hlow v (List.mem_of_getElem? hv) b off _ c (by rw [e, eA]) h0, hb⟩, hcell⟩
theorem RowsX.nil (E : Nat → Prop) (w : World) (V : Value) : RowsX E w V [] [] := fun j l h => by simp at h
theorem RowsX.rows {E : Nat → Prop} {w : World} {V : Value} {K : List (List Int)} {vs : List Value} (h : RowsX E w V K vs) : RowsIn w V K vs := fun j l hj => by
  obtain ⟨v, hv, hi⟩ := h j l hj
  exact ⟨v, hv, hi.keep (fun _ _ => rfl) (fun _ h => h.2)⟩
theorem RowsX.below {E : Nat → Prop} {w w' : World} {V : Value} {K : List (List Int)} {vs : List Value} (h : RowsX E w V K vs) (hb : Below w.heap.size w w') : RowsX E w' V K vs := by
  intro j l hj
  obtain ⟨v, hv, hi⟩ := h j l hj
  exact ⟨v, hv, hi.keep (fun b hN => hb.block b hN.2.1) (fun b hN => ⟨hN.1, Nat.lt_of_lt_of_le hN.2.1 hb.size, hN.2.2⟩)⟩
theorem RowsX.set {E : Nat → Prop} {w : World} {V u : Value} {K : List (List Int)} {vs : List Value} {b j : Nat} (h : RowsX E w V K vs) (hE : E b) : RowsX E (w.setCell ⟨b, j, none⟩ u) V K vs := by
  intro i l hi
  obtain ⟨v, hv, hx⟩ := h i l hi
  exact ⟨v, hv, hx.keep (fun c hN => Below.heap_setCell _ _ _ _ (fun e => hN.1 (by rw [show c = b from e]; exact hE))) (fun c hN => ⟨hN.1, by simpa [World.setCell] using hN.2.1, hN.2.2⟩)⟩
theorem RowsX.push {E : Nat → Prop} {w w1 w2 : World} {V V' v : Value} {K : List (List Int)} {vs : List Value} {l : List Int} (h : RowsX E w V K vs) (hlen : vs.length = K.length) (hv : IntsN w (fun b => ¬ E b ∧ b < w.heap.size ∧ V.ownBlock ≠ some b) v l)
    (h1 : Below w.heap.size w w1) (hg : w1.grownBy w2 V.ownBlock) (hloc : V'.ownBlock = V.ownBlock ∨ V'.ownBlock = some w1.heap.size) : RowsX E w2 V' (K ++ [l]) (vs ++ [v]) := by
  have hk : ∀ b, (¬ E b ∧ b < w.heap.size ∧ V.ownBlock ≠ some b) → w2.heap[b]? = w.heap[b]? := fun b hN =>
    (hg.block b (Nat.lt_of_lt_of_le hN.2.1 h1.size) (fun e => hN.2.2 e.symm)).trans (h1.block b hN.2.1)
  have hN : ∀ b, (¬ E b ∧ b < w.heap.size ∧ V.ownBlock ≠ some b) → (¬ E b ∧ b < w2.heap.size ∧ V'.ownBlock ≠ some b) := fun b hN => by
    refine ⟨hN.1, Nat.lt_of_lt_of_le hN.2.1 (Nat.le_trans h1.size hg.size), fun e => ?_⟩
    rcases hloc with h2 | h2
    · exact hN.2.2 (h2.symm.trans e)
    · rw [h2] at e
      injection e with e
      have := h1.size
      have := hN.2.1
      omega
  intro j l' hj
  rcases Nat.lt_trichotomy j K.length with hlt | heq | hgt
  · rw [List.getElem?_append_left hlt] at hj
    obtain ⟨u, hu, hi⟩ := h j l' hj
    exact ⟨u, by rw [List.getElem?_append_left (by omega)]; exact hu, hi.keep hk hN⟩
  · subst heq
    rw [List.getElem?_append_right (Nat.le_refl _), Nat.sub_self] at hj
    injection hj with hj
    subst hj
    exact ⟨v, by rw [← hlen, List.getElem?_append_right (Nat.le_refl _), Nat.sub_self]; rfl, hv.keep hk hN⟩
  · rw [List.getElem?_eq_none (by simp; omega)] at hj
    cases hj
/-- What a callee has made for itself. -/
theorem own_intsN14 {w : World} {B : Nat} {l : List Int} {v : Value} (h : w.ownsRow B 3 1 v l.length (intI l)) : IntsN w (fun b => B ≤ b ∧ b < w.heap.size) v l := by
  obtain ⟨A, c, e, hl, hc⟩ := own_intI h
  refine ⟨A, c, e, hl, fun h0 => ?_⟩
  obtain ⟨b, off, eA, hb, hcell⟩ := hc h0
  refine ⟨b, off, eA, ⟨?_, hb⟩, hcell⟩
  rcases h.2 with ⟨-, h1⟩ | ⟨g, cap, cur, rfl, hg, -⟩
  · omega
  · injection e with e
    rw [eA] at e
    injection e with e
    injection e with e
    omega
set_option maxHeartbeats 4000000 in
set_option maxRecDepth 100000 in
/-- copied hands back rows of its own. -/
theorem copied14_any (n : Int) (V : Value) (ls : List (List Int)) (w : World) (hV : MatAt w w.heap.size V ls) (hls : ls.length ≤ 4000) (hlen : ∀ r, r ∈ ls → r.length ≤ 4000) :
    Calls Try.prog 95 #[mtv n V] w fun e w' => ∃ u vs, e = .returned (mtv n u) ∧ w'.ownsRow w.heap.size 30 1 u ls.length vs ∧ vs.length = ls.length ∧ RowsX (fun b => b < w.heap.size) w' u ls vs ∧ AllCap vs ∧ Below w.heap.size w w' := by
  have hB0 := two_below14 w (mtb n V) (.cells #[.int .i64 0, .slice none 0 0] 24 (0, 0))
  have ht := two_made14 w (mtb n V) (.cells #[.int .i64 0, .slice none 0 0] 24 (0, 0))
  have hsz : ((w.alloc (mtb n V)).alloc (.cells #[.int .i64 0, .slice none 0 0] 24 (0, 0))).heap.size = w.heap.size + 2 := by simp
  have hV2 := hV.below hB0
  obtain ⟨j0, hj0, jz0, jz1, jz2⟩ := info_parts Try.infoInts
  obtain ⟨A, c, rfl, hl, hc⟩ := hV2
  have hcH := Lib.hid hc
  have hlenH := Lib.hid hlen
  have hne : (30 : TypeId) ≠ 24 := by decide
  unfold mtv
  unfold mtb at hB0 ht hcH hsz
  clear hc hV hlen
  go_enter Try.func95, Try.ntmps95
  go_wp2
  generalize (w.alloc _).alloc _ = w0 at *
  generalize hgb : w.heap.size = gb at *
  have hgbH := Lib.hid hgb
  have hszH := Lib.hid hsz
  clear hgb hsz
  go_loopw [3, 5, 9] (fun V _ t wr => ∃ (k : Nat) (K : List (List Int)) (vs : List Value), k ≤ ls.length ∧ t = .int .i64 k ∧ Hid (K = ls.take k) ∧ Hid (vs.length = K.length) ∧ wr.ownsRow w0.heap.size 30 1 V K.length vs ∧ RowsX (fun b => b < w0.heap.size) wr V K vs ∧ Hid (AllCap vs) ∧ Below w0.heap.size w0 wr) (fun _ _ t _ => ls.length - (intOf t).toNat)
  case atStart => exact ⟨0, [], [], by omega, rfl, Lib.hid rfl, Lib.hid rfl, World.ownsRow_nil _ _ _ _, RowsX.nil _ _ _, Lib.hid AllCap.nil, Below.refl _ _⟩
  case round =>
    obtain ⟨k, K, vs, hk, rfl, hK, hvl, hown, hin, hac, hb⟩ := hrel
    obtain ⟨AV, cV, rfl⟩ := own_form hown
    have hbs := hb.size
    by_cases hkl : k < ls.length
    · obtain ⟨l, hl2⟩ : ∃ l, ls[k]? = some l := ⟨_, List.getElem?_eq_getElem hkl⟩
      obtain ⟨b, off, rfl, hB, hcell⟩ := hcH.out (by omega)
      obtain ⟨ov2, z2, hov2⟩ := hcell k l hl2
      have g0 := (hb.cell (p := ⟨b, off + k, none⟩) (by have := hszH.out; show b < w0.heap.size; omega)).trans z2
      have hov3 := (hov2.more (by have := hszH.out; omega : gb ≤ w0.heap.size)).below hb
      have hK2 : Hid (K ++ [l] = ls.take (k + 1)) := Lib.hid (by rw [List.take_add_one, hl2, hK.out]; rfl)
      have hKl : K.length ≤ 4000 := by rw [hK.out, List.length_take]; omega
      have HC := cloneI14_any wr ov2 l (by have := hlenH.out l (List.mem_of_getElem? hl2); omega) (hov3.more hbs)
      obtain ⟨A2, c2, rfl, -, -⟩ := hov3
      have k0 : (0 : Int) ≤ (k : Int) := by omega
      have k1 : (k : Int) < (ls.length : Int) := by omega
      clear hcell z2 hK hov2 hl2
      go_wp2_with fail
      refine HC.mono ?_
      rintro e w3 ⟨v3, rfl, hv3, hb3⟩
      have hown3 := owns_below hown hb3
      have hin3 := hin.below hb3
      have hb4 := hb.trans (hb3.mono hbs)
      have hIN3 : IntsN w3 (fun b => ¬ b < w0.heap.size ∧ b < w3.heap.size ∧ (Value.slice AV K.length cV).ownBlock ≠ some b) v3 l := (own_intsN14 hv3).keep (fun _ _ => rfl) (fun b hN => ⟨by omega, hN.2, fun e => by
        have := (hown.lt b e).2
        omega⟩)
      have hac2 := Lib.hid (hac.out.push (own_one14 hv3))
      obtain ⟨A3, c3, rfl⟩ := own_form hv3
      have hbs3 := hb4.size
      clear HC hv3 hown hin hb hb3 g0
      go_wp2_with (at_builtin; refine wpList_append_own_at _ rfl _ _ 22 rfl w0.heap.size 30 j0 (.slice none 0 0) 1 24 Try.underlying22 hj0 jz0 jz1 jz2 rfl (by decide) _ _ _ rfl (hown3.alloc _) ⟨w3.heap.size, 0, none⟩ 1 1 [.slice A3 l.length c3] rfl rfl one_new13 (fun u hu => by rw [List.mem_singleton.1 hu]; rfl) ?c3 ?c4 ?c5 ?_)
      case c3 => unfold maxLen; omega
      case c4 => omega
      case c5 => simp; omega
      intro v8 w8 ho8 hg8 _ hloc
      have hba := below_alloc1 w3 (.cells #[.slice A3 l.length c3] 30 (0, 0))
      have hin8 := hin3.push (V' := v8) hvl.out hIN3 hba hg8 (hloc.imp id (fun h => h.trans (by simp)))
      have hB8 := grown_below (hown3.alloc (.cells #[.slice A3 l.length c3] 30)) hg8 (hb4.alloc hbs3 _) (by omega) (by simp; omega)
      have ho9 : w8.ownsRow w0.heap.size 30 1 v8 (K ++ [l]).length (vs ++ [.slice A3 l.length c3]) := by rw [List.length_append]; exact ho8
      have hvl2 : Hid ((vs ++ [Value.slice A3 l.length c3]).length = (K ++ [l]).length) := Lib.hid (by rw [List.length_append, List.length_append, hvl.out]; rfl)
      clear ho8 hg8 hloc hba hin3 hIN3 hown3 hb4 hvl
      go_wp2
      go_roundw
      case rel => exact ⟨k + 1, K ++ [l], _, by omega, by go_num, hK2, hvl2, ho9, hin8, hac2, hB8⟩
      case measure => simp [intOf]; omega
    · have e : k = ls.length := by omega
      have hkd : ¬ (k : Int) < (ls.length : Int) := by omega
      have hKL : ls = K := by rw [hK.out, e, List.take_length]
      subst hKL
      have hr := keep_blk hb ht.2
      have hm := keep_blk hb ht.1
      obtain ⟨m0, m1, -⟩ := now2 hm rfl
      obtain ⟨r0, r1, rf⟩ := now2 hr rfl
      have hnb : (Value.slice AV ls.length cV).ownBlock ≠ some (gb + 1) := fun e => by have := (hown.lt _ e).1; have := hszH.out; omega
      have hEb : (fun b => b < w0.heap.size) (gb + 1) := by show gb + 1 < w0.heap.size; have := hszH.out; omega
      have hown2 := own_set (own_set hown hnb 0 (.int .i64 n)) hnb 1 (.slice AV ls.length cV)
      have hin2 := (hin.set (b := gb + 1) (j := 0) (u := .int .i64 n) hEb).set (b := gb + 1) (j := 1) (u := .slice AV ls.length cV) hEb
      have hr2 := put2 (x0 := .int .i64 n) (x1 := .slice AV ls.length cV) hr
      obtain ⟨q0, q1, -⟩ := now2 hr2 rfl
      have hB2 : Below gb w ((wr.setCell ⟨gb + 1, 0, none⟩ (.int .i64 n)).setCell ⟨gb + 1, 1, none⟩ (.slice AV ls.length cV)) := below2 (by omega) (hB0.trans (hb.mono (by have := hszH.out; omega)))
      have hv2 := hvl.out
      have hgz := hszH.out
      clear e hK hcH hlenH hin hown hr hm hvl
      go_wp2
      generalize (wr.setCell ⟨gb + 1, 0, none⟩ (.int .i64 n)).setCell ⟨gb + 1, 1, none⟩ (.slice AV ls.length cV) = wz at *
      refine bodyPost_ret (v := .agg #[.int .i64 n, .slice AV ls.length cV]) (by simp [results, Try.results95, go_sem, q0, q1]) rfl ?_
      have hgw := hgbH.out
      refine ⟨_, rfl, vs, own_more hown2 (by omega), hv2, fun j l hj => ?_, hac.out, by rw [hgbH.out]; exact hB2⟩
      obtain ⟨v, h1, h2⟩ := hin2 j l hj
      exact ⟨v, h1, h2.keep (fun _ _ => rfl) (fun b hN => ⟨fun hb => hN.1 (by omega), hN.2⟩)⟩
end Go.Proofs.Ytcbhcclickjpnaa
