/- Which tables are right, by the program: between, the lines' closures, ContainsFunc over numbers and over lines, rightLine, Right. Rows of the package spec: value, cubesRight, outsRight, for every list of rows. Right of the package spec, for every spec. The document's own answers of layer 4: Bit, Covered, Marked, size, Same. The document's own Rows of layer 13. -/
import Derived.Test.YtjjpobpcpgcbaaaGJ09
import Derived.Test.YtjjpobpcpgcbaaaGJ10
import Derived.Test.YtjjpobpcpgcbaaaGJ07
import Derived.Test.YtjjpobpcpgcbaaaGJ06
namespace Go.Proofs.Ytjjpobpcpgcbaaa
open Go.RowKit Go.Joins

def firstI {α : Type} (p : α → Bool) (l : List α) : Int := match l.findIdx? p with | some k => k | none => -1
theorem firstI_at {α : Type} {p : α → Bool} {l : List α} {k : Nat} {x : α} (h : l[k]? = some x) (hn : (l.take k).any p = false) (hp : p x = true) : firstI p l = k := by
  unfold firstI
  have hk : k < l.length := (List.getElem?_eq_some_iff.1 h).1
  have : l.findIdx? p = some k := by
    rw [List.findIdx?_eq_some_iff_getElem]
    refine ⟨hk, by rw [(List.getElem?_eq_some_iff.1 h).2]; exact hp, fun j hj => ?_⟩
    rw [List.any_eq_false] at hn
    have := hn (l[j]) (List.mem_iff_getElem.2 ⟨j, by simp; omega, by simp⟩)
    simpa using this
  rw [this]
theorem firstI_none {α : Type} {p : α → Bool} {l : List α} (h : l.any p = false) : firstI p l = -1 := by
  unfold firstI
  have : l.findIdx? p = none := by
    rw [List.findIdx?_eq_none_iff]
    intro x hx
    rw [List.any_eq_false] at h
    simpa using h x hx
  rw [this]
theorem firstI_ge {α : Type} (p : α → Bool) (l : List α) : decide (0 ≤ firstI p l) = l.any p := by
  cases h : l.any p
  · rw [firstI_none h]; rfl
  · unfold firstI
    cases hf : l.findIdx? p with
    | none =>
      rw [List.findIdx?_eq_none_iff] at hf
      rw [List.any_eq_true] at h
      obtain ⟨x, hx, hp⟩ := h
      rw [hf x hx] at hp
      cases hp
    | some k => simp
theorem any_take_succ {α : Type} {p : α → Bool} {l : List α} {k : Nat} {x : α} (h : l[k]? = some x) (hn : (l.take k).any p = false) (hp : p x = false) : (l.take (k + 1)).any p = false := by
  have hk : k < l.length := (List.getElem?_eq_some_iff.1 h).1
  rw [List.take_succ_eq_append_getElem hk, List.any_append, hn]
  have : l[k] = x := (List.getElem?_eq_some_iff.1 h).2
  simp [this, hp]
set_option maxHeartbeats 1000000 in
theorem indexInts_any (K : Nat) (p : Int → Bool) (A : Option Addr) (c : Nat) (o : List Int) (w : World)
    (hcf : ∀ (args : Array Value) (w1 : World), (Sem.run Try.prog (callFunc K args) w1) = .ok (.enter K args) w1)
    (hcl : ∀ x w1, Calls Try.prog K #[.int .i64 x] w1 fun e w' => e = .returned (.bool (p x)) ∧ w1 = w')
    (hlen : o.length ≤ 9223372036854775807) (hA : 0 < o.length → ∃ b off, A = some ⟨b, off, none⟩ ∧ b < w.heap.size ∧ ∀ j x, o[j]? = some x → w.cell? ⟨b, off + j, none⟩ = some (.int .i64 x)) :
    Calls Try.prog 55 #[.slice A o.length c, .func (.func K) #[] #[]] w fun e w' => e = .returned (.int .i64 (firstI p o)) ∧ w = w' := by
  have hat := Lib.hid (fun (j : Nat) (x : Int) (h : o[j]? = some x) (hn : (o.take j).any p = false) (hp : p x = true) => firstI_at h hn hp)
  have hno := Lib.hid (fun (h : o.any p = false) => firstI_none h)
  go_enter Try.func55, Try.ntmps55
  go_wp2
  go_loop [5, 8] (fun _ t => ∃ j : Nat, j ≤ o.length ∧ t = .int .i64 j ∧ Hid ((o.take j).any p = false)) (fun _ t => o.length - (intOf t).toNat)
  case atStart => exact ⟨0, by omega, rfl, Lib.hid (by simp)⟩
  case round =>
    obtain ⟨j, hj, rfl, hH⟩ := hrel
    by_cases hlt : j < o.length
    · obtain ⟨b, off, rfl, hB, hc⟩ := hA (by omega)
      obtain ⟨x, hx⟩ : ∃ x, o[j]? = some x := ⟨_, List.getElem?_eq_getElem hlt⟩
      have hcx := hc j x hx
      have hgx := Lib.hid hx
      have HX := hcl x
      clear hc hx hcl
      cases hp : p x
      · rw [hp] at HX
        have hp' := Lib.hid hp
        clear hp
        go_wp2_with fail
        refine (HX _).mono ?_
        rintro e w1 ⟨rfl, rfl⟩
        go_wp2
        go_round
        case rel => exact ⟨j + 1, by omega, by go_num, Lib.hid (any_take_succ hgx.out hH.out hp'.out)⟩
        case measure => simp [intOf]; omega
      · rw [hp] at HX
        have hr := Lib.hid (hat.out j x hgx.out hH.out hp)
        clear hp
        go_wp2_with fail
        refine (HX _).mono ?_
        rintro e w1 ⟨rfl, rfl⟩
        go_wp2
        go_ret
        exact ⟨by rw [hr.out]; rfl, rfl⟩
    · have e : j = o.length := by omega
      subst e
      have hr := Lib.hid (hno.out (by have := hH.out; rwa [List.take_length] at this))
      clear hA hcl hcf
      go_wp2
      go_ret
      exact ⟨by rw [hr.out]; rfl, rfl⟩
theorem containsInts_any (K : Nat) (p : Int → Bool) (O : Value) (o : List Int) (w : World)
    (hcf : ∀ (args : Array Value) (w1 : World), (Sem.run Try.prog (callFunc K args) w1) = .ok (.enter K args) w1)
    (hcl : ∀ x w1, Calls Try.prog K #[.int .i64 x] w1 fun e w' => e = .returned (.bool (p x)) ∧ w1 = w')
    (hO : IntsAt w w.heap.size O o) :
    Calls Try.prog 38 #[O, .func (.func K) #[] #[]] w fun e w' => e = .returned (.bool (o.any p)) ∧ w = w' := by
  obtain ⟨A, c, rfl, hlen, hA⟩ := hO
  have H := indexInts_any K p A c o w hcf hcl hlen hA
  have hr := Lib.hid (firstI_ge p o)
  clear hA hcl hcf
  generalize firstI p o = n at *
  go_enter Try.func38, Try.ntmps38
  go_wp2_with fail
  refine H.mono ?_
  rintro e w1 ⟨rfl, rfl⟩
  go_wp2
  go_ret
  exact ⟨by rw [← hr.out]; rfl, rfl⟩
theorem le0 (w : World) : w.heap.size ≤ w.heap.size := Nat.le_refl _
end Go.Proofs.Ytjjpobpcpgcbaaa
namespace Go.Proofs.Ytjjpobpcpgcbaaa
open Go.RowKit Go.Joins

theorem not_any_not {α : Type} (p : α → Bool) (l : List α) : (!(l.any fun x => !p x)) = l.all p := by
  rw [List.not_any_eq_all_not]; simp
end Go.Proofs.Ytjjpobpcpgcbaaa
namespace Go.Proofs.Ytjjpobpcpgcbaaa
open Go.RowKit Go.Joins

theorem spB_head {s : Sp} (h : headS s = false) : spB s = false := by unfold spB; rw [h]; rfl
theorem spB_all {s : Sp} (h : headS s = true) (ha : ∀ j, j < s.on.length → sideB s j = true) : spB s = true := by
  unfold spB; rw [h, Bool.true_and]; exact range_all.2 ha
theorem spB_not {s : Sp} {j : Nat} (hj : j < s.on.length) (h : sideB s j = false) : spB s = false := by
  unfold spB; rw [range_not hj h, Bool.and_false]
end Go.Proofs.Ytjjpobpcpgcbaaa
namespace Go.Proofs.Ytjjpobpcpgcbaaa
open Go.RowKit Go.Joins

theorem covB_step {rs : List Rw} {k : Nat} {x : Rw} (h : rs[k]? = some x) (p out : Nat) (hn : covB (rs.take k) p out = false) (hx : (x.o.getLsbD out && fits x.m x.v 8 p) = false) : covB (rs.take (k + 1)) p out = false := by
  unfold covB at *
  rw [any_append_one _ rs k x h, hn, hx]; rfl
theorem covB_yes {rs : List Rw} {k : Nat} {x : Rw} (h : rs[k]? = some x) (p out : Nat) (hx : (x.o.getLsbD out && fits x.m x.v 8 p) = true) : covB rs p out = true := by
  unfold covB
  rw [List.any_eq_true]
  exact ⟨x, List.mem_of_getElem? h, hx⟩
theorem markB_step {ls : List Ln} {k : Nat} {l : Ln} (h : ls[k]? = some l) (p out : Nat) (x : Int) (hn : markB (ls.take k) p out x = false) (hx : (decide (l.o.getD out 9 = x) && fits l.m l.v 8 p) = false) : markB (ls.take (k + 1)) p out x = false := by
  unfold markB at *
  rw [any_append_one _ ls k l h, hn, hx]; rfl
theorem markB_yes {ls : List Ln} {k : Nat} {l : Ln} (h : ls[k]? = some l) (p out : Nat) (x : Int) (hx : (decide (l.o.getD out 9 = x) && fits l.m l.v 8 p) = true) : markB ls p out x = true := by
  unfold markB
  rw [List.any_eq_true]
  exact ⟨l, List.mem_of_getElem? h, hx⟩
theorem pts_low (n : Nat) (hn : n ≤ 8) : (pts (bvOf fun p => decide (p < 2 ^ n))).length = 2 ^ n := by
  have h : ∀ k, k ≤ 8 → (pts (bvOf fun p => decide (p < 2 ^ k))).length = 2 ^ k := by decide +kernel
  exact h n hn
end Go.Proofs.Ytjjpobpcpgcbaaa
namespace Go.Proofs.Ytjjpobpcpgcbaaa
open Go.RowKit Go.Joins

/-! ### Plain -/
def hitC (rs : List Rw) (out p c : Nat) : Bool := match rs[c]? with
  | some x => x.o.getLsbD out && fits x.m x.v 8 p
  | none => false
def colsN (rs : List Rw) (out p k : Nat) : List Nat := (List.range k).filter (hitC rs out p)
/-- The columns of one point. -/
def colsR (rs : List Rw) (out p : Nat) : List Int := (colsN rs out p rs.length).map fun c : Nat => (c : Int)
theorem colsN_yes {rs : List Rw} {out p k : Nat} {x : Rw} (hx : rs[k]? = some x) (h : (x.o.getLsbD out && fits x.m x.v 8 p) = true) : colsN rs out p (k + 1) = colsN rs out p k ++ [k] := by
  unfold colsN
  rw [List.range_succ, List.filter_append]
  simp [hitC, hx, h]
theorem colsN_no {rs : List Rw} {out p k : Nat} {x : Rw} (hx : rs[k]? = some x) (h : (x.o.getLsbD out && fits x.m x.v 8 p) = false) : colsN rs out p (k + 1) = colsN rs out p k := by
  unfold colsN
  rw [List.range_succ, List.filter_append]
  simp [hitC, hx, h]
theorem colsN_len (rs : List Rw) (out p k : Nat) : (colsN rs out p k).length ≤ k := by
  unfold colsN
  exact Nat.le_trans (List.length_filter_le _ _) (by rw [List.length_range]; exact Nat.le_refl _)
def gotL (on : List (BitVec 256)) (rs : List Rw) (o i : Nat) : List (List Int) :=
  ((List.range o).flatMap fun q => (pts (on.getD q 0)).map fun p => colsR rs q p) ++ ((pts (on.getD o 0)).take i).map fun p => colsR rs o p
def Got (on : List (BitVec 256)) (rs : List Rw) (o i : Nat) (K : List (List Int)) : Prop := K.Nodup ∧ ∀ x, x ∈ K ↔ x ∈ gotL on rs o i
theorem got_point {on : List (BitVec 256)} {rs : List Rw} {o i p : Nat} {X : BitVec 256} (hX : on[o]? = some X) (hp : (pts X)[i]? = some p) : gotL on rs o (i + 1) = gotL on rs o i ++ [colsR rs o p] := by
  unfold gotL
  rw [show on.getD o 0 = X by simp [List.getD, hX], List.take_add_one, hp]
  simp
theorem got_next {on : List (BitVec 256)} {rs : List Rw} {o : Nat} {X : BitVec 256} (hX : on[o]? = some X) : gotL on rs o (pts X).length = gotL on rs (o + 1) 0 := by
  unfold gotL
  rw [show on.getD o 0 = X by simp [List.getD, hX], List.take_length, List.range_succ, List.flatMap_append]
  simp [List.getD, hX]
theorem Got.met {on : List (BitVec 256)} {rs : List Rw} {o i p : Nat} {X : BitVec 256} {K : List (List Int)} (h : Got on rs o i K) (hX : on[o]? = some X) (hp : (pts X)[i]? = some p) (hm : colsR rs o p ∈ K) : Got on rs o (i + 1) K := by
  refine ⟨h.1, fun x => ?_⟩
  rw [got_point hX hp, List.mem_append, List.mem_singleton, ← h.2]
  exact ⟨.inl, fun hx => hx.elim id (fun e => e ▸ hm)⟩
theorem Got.new {on : List (BitVec 256)} {rs : List Rw} {o i p : Nat} {X : BitVec 256} {K : List (List Int)} (h : Got on rs o i K) (hX : on[o]? = some X) (hp : (pts X)[i]? = some p) (hm : colsR rs o p ∉ K) : Got on rs o (i + 1) (K ++ [colsR rs o p]) := by
  refine ⟨?_, fun x => ?_⟩
  · rw [List.nodup_append]
    refine ⟨h.1, by simp, fun a ha b hb e => ?_⟩
    rw [List.mem_singleton.1 hb] at e
    exact hm (e ▸ ha)
  · rw [got_point hX hp, List.mem_append, List.mem_append, h.2]
theorem own_int13 {w : World} {B n : Nat} {v : Value} {o : List Nat} (h : w.ownsRow B 3 1 v n (intsV o)) : IntsAt w w.heap.size v (o.map fun c : Nat => (c : Int)) := by
  have hn : o.length = n := by have := h.1; unfold intsV at this; rw [List.length_map] at this; omega
  rcases h.2 with ⟨rfl, h0⟩ | ⟨g, cap, cur, rfl, hg, hgg, hnc, hcm, hcs, htake⟩
  · have : o = [] := List.eq_nil_of_length_eq_zero (by omega)
    subst this
    exact ⟨none, 0, rfl, by decide, fun h => absurd h (by decide)⟩
  · have hm : maxLen = 9223372036854775807 := rfl
    refine ⟨some ⟨g, 0, none⟩, cap, by rw [List.length_map, hn], by rw [List.length_map]; omega, fun _ => ⟨g, 0, rfl, size_of_block hgg, fun j x hx => ?_⟩⟩
    rw [cell_of_block hgg]
    have h2 : (intsV o)[j]? = some (Value.int .i64 x) := by
      rw [List.getElem?_map] at hx
      unfold intsV
      rw [List.getElem?_map]
      cases ho : o[j]? with
      | none => rw [ho] at hx; cases hx
      | some y => rw [ho] at hx; injection hx with hx; rw [← hx]; rfl
    rw [← htake, List.getElem?_take] at h2
    split at h2
    · simpa using h2
    · cases h2
theorem own_intsN {w w0 : World} {n : Nat} {V v : Value} {o : List Nat} (h : w.ownsRow w0.heap.size 3 1 v n (intsV o)) (hV : ∀ g, V.ownBlock = some g → g < w0.heap.size) : IntsN w (fun b => b < w.heap.size ∧ V.ownBlock ≠ some b) v (o.map fun c : Nat => (c : Int)) := by
  refine (own_int13 h).intsN fun b off m c e h0 hb => ⟨hb, fun e2 => ?_⟩
  have h1 := hV b e2
  rcases h.2 with ⟨rfl, -⟩ | ⟨g, cap, cur, rfl, hg, -⟩
  · cases e
  · injection e with e
    injection e with e
    injection e with e
    omega
theorem intsV_snoc (l : List Nat) (x : Nat) : intsV (l ++ [x]) = intsV l ++ [.int .i64 (x : Int)] := by unfold intsV; rw [List.map_append]; rfl
theorem pts_len13 (S : BitVec 256) : (pts S).length ≤ 256 := by
  unfold pts
  exact Nat.le_trans (List.length_filter_le _ _) (by rw [List.length_range]; exact Nat.le_refl _)
theorem pts_at13 (S : BitVec 256) {j p : Nat} (h : (pts S)[j]? = some p) : p < 256 := by
  have := List.mem_of_getElem? h
  unfold pts at this
  rw [List.mem_filter, List.mem_range] at this
  exact this.1
theorem any_mem13 (K : List (List Int)) (x : List Int) : (K.any fun y => decide (y = x)) = decide (x ∈ K) := by
  rw [Bool.eq_iff_iff, List.any_eq_true, decide_eq_true_iff]
  exact ⟨fun ⟨y, hy, e⟩ => of_decide_eq_true e ▸ hy, fun h => ⟨x, h, decide_eq_true rfl⟩⟩
def Apart (V U : Value) : Prop := ∀ g, V.ownBlock = some g → U.ownBlock ≠ some g
theorem own_cells13 {w : World} {base size n : Nat} {e : TypeId} {v : Value} {xs : List Value} (h : w.ownsRow base e size v n xs) (hn : 0 < n) :
    ∃ g c, v = .slice (some ⟨g, 0, none⟩) n c ∧ g < w.heap.size ∧ n ≤ 9223372036854775807 ∧ ∀ i x, xs[i]? = some x → w.cell? ⟨g, i, none⟩ = some x := by
  rcases h.2 with ⟨rfl, h0⟩ | ⟨g, cap, cur, rfl, hg, hgg, h1, h2, h3, h4⟩
  · omega
  · have hm : maxLen = 9223372036854775807 := rfl
    refine ⟨g, cap, rfl, size_of_block hgg, by omega, fun i x hx => ?_⟩
    rw [cell_of_block hgg]
    rw [← h4, List.getElem?_take] at hx
    split at hx
    · simpa using hx
    · cases hx
/-! ### Sorting by choosing, plain -/
def lenV : Value → Nat
  | .slice _ n _ => n
  | _ => 0
def behB (O : List (List Int)) (x : List Int) : Bool := match O.getLast? with
  | none => true
  | some y => aheadL y x
def Sel (K O : List (List Int)) : Prop := O.Pairwise (fun a b => aheadL a b = true) ∧ (∀ x, x ∈ O → x ∈ K) ∧ ∀ x, x ∈ K → x ∈ O ∨ ∀ y, y ∈ O → aheadL y x = true
theorem Sel.nil (K : List (List Int)) : Sel K [] := ⟨List.Pairwise.nil, fun x h => by simp at h, fun x _ => .inr fun y h => by simp at h⟩
theorem last_all {O : List (List Int)} (h : O.Pairwise (fun a b => aheadL a b = true)) {y : List Int} (hy : O.getLast? = some y) : ∀ x, x ∈ O → x = y ∨ aheadL x y = true := by
  obtain ⟨P, rfl⟩ := List.getLast?_eq_some_iff.1 hy
  intro x hx
  rw [List.pairwise_append] at h
  rcases List.mem_append.1 hx with hx | hx
  · exact .inr (h.2.2 x hx y (by simp))
  · exact .inl (List.mem_singleton.1 hx)
theorem Sel.beh {K O : List (List Int)} (h : Sel K O) {x : List Int} (hx : x ∈ K) : behB O x = true ↔ x ∉ O := by
  unfold behB
  cases hl : O.getLast? with
  | none =>
    rw [List.getLast?_eq_none_iff] at hl
    subst hl
    simp
  | some y =>
    have hy : y ∈ O := List.mem_of_getLast? hl
    show aheadL y x = true ↔ x ∉ O
    constructor
    · intro h1 h2
      rcases last_all h.1 hl x h2 with e | e
      · subst e; exact ahead_irr x h1
      · exact ahead_asym h1 e
    · intro h1
      rcases h.2.2 x hx with h2 | h2
      · exact absurd h2 h1
      · exact h2 y hy
def BestI (K O : List (List Int)) (i : Nat) (z : Int) : Prop :=
  (z = -1 ∧ ∀ (j : Nat) (y : List Int), j < i → K[j]? = some y → behB O y = false) ∨
  ∃ (m : Nat) (x : List Int), z = m ∧ K[m]? = some x ∧ behB O x = true ∧ ∀ (j : Nat) (y : List Int), j < i → K[j]? = some y → behB O y = true → ¬ aheadL y x = true
theorem BestI.zero (K O : List (List Int)) : BestI K O 0 (-1) := .inl ⟨rfl, fun _ _ h => absurd h (Nat.not_lt_zero _)⟩
theorem BestI.skip {K O : List (List Int)} {i : Nat} {z : Int} {x : List Int} (h : BestI K O i z) (hx : K[i]? = some x) (hb : behB O x = false) : BestI K O (i + 1) z := by
  rcases h with ⟨e, h⟩ | ⟨m, u, e, hu, hbu, h⟩
  · refine .inl ⟨e, fun j y hj hy => ?_⟩
    by_cases e2 : j = i
    · subst e2; rw [hx] at hy; injection hy with hy; rw [← hy]; exact hb
    · exact h j y (by omega) hy
  · refine .inr ⟨m, u, e, hu, hbu, fun j y hj hy hby => ?_⟩
    by_cases e2 : j = i
    · subst e2; rw [hx] at hy; injection hy with hy; rw [← hy, hb] at hby; cases hby
    · exact h j y (by omega) hy hby
theorem BestI.first {K O : List (List Int)} {i : Nat} {x : List Int} (h : BestI K O i (-1)) (hx : K[i]? = some x) (hb : behB O x = true) : BestI K O (i + 1) i := by
  rcases h with ⟨-, h⟩ | ⟨m, u, e, -⟩
  · refine .inr ⟨i, x, rfl, hx, hb, fun j y hj hy hby => ?_⟩
    by_cases e2 : j = i
    · subst e2; rw [hx] at hy; injection hy with hy; rw [← hy]; exact ahead_irr x
    · rw [h j y (by omega) hy] at hby; cases hby
  · omega
theorem BestI.turn {K O : List (List Int)} {i m : Nat} {x u : List Int} (h : BestI K O i (m : Int)) (hu : K[m]? = some u) (hx : K[i]? = some x) (hb : behB O x = true) (ha : aheadL x u = true) : BestI K O (i + 1) i := by
  rcases h with ⟨e, -⟩ | ⟨m', u', e, hu', hbu, h⟩
  · omega
  · have : m' = m := by omega
    subst this
    rw [hu] at hu'
    injection hu' with hu'
    subst hu'
    refine .inr ⟨i, x, rfl, hx, hb, fun j y hj hy hby h2 => ?_⟩
    by_cases e2 : j = i
    · subst e2; rw [hx] at hy; injection hy with hy; rw [← hy] at h2; exact ahead_irr x h2
    · exact h j y (by omega) hy hby (ahead_trans h2 ha)
theorem BestI.stay {K O : List (List Int)} {i m : Nat} {x u : List Int} (h : BestI K O i (m : Int)) (hu : K[m]? = some u) (hx : K[i]? = some x) (ha : aheadL x u = false) : BestI K O (i + 1) m := by
  rcases h with ⟨e, -⟩ | ⟨m', u', e, hu', hbu, h⟩
  · omega
  · have : m' = m := by omega
    subst this
    rw [hu] at hu'
    injection hu' with hu'
    subst hu'
    refine .inr ⟨m', u, rfl, hu, hbu, fun j y hj hy hby h2 => ?_⟩
    by_cases e2 : j = i
    · subst e2; rw [hx] at hy; injection hy with hy; rw [← hy, ha] at h2; cases h2
    · exact h j y (by omega) hy hby h2
theorem nodup_le13 {α : Type} [DecidableEq α] : ∀ (a b : List α), a.Nodup → (∀ x ∈ a, x ∈ b) → a.length ≤ b.length
  | [], _, _, _ => Nat.zero_le _
  | x :: a, b, hn, h => by
    rw [List.nodup_cons] at hn
    have hx := h x (List.mem_cons_self ..)
    have := nodup_le13 a (b.erase x) hn.2 fun y hy => by
      have hne : y ≠ x := fun e => hn.1 (e ▸ hy)
      exact (List.mem_erase_of_ne hne).2 (h y (List.mem_cons_of_mem _ hy))
    rw [List.length_erase_of_mem hx] at this
    have := List.length_pos_of_mem hx
    rw [List.length_cons]
    omega
theorem pw_nodup13 {O : List (List Int)} (h : O.Pairwise (fun a b => aheadL a b = true)) : O.Nodup := h.imp fun h e => by subst e; exact ahead_irr _ h
theorem BestI.found {K O : List (List Int)} {z : Int} (h : BestI K O K.length z) (hs : Sel K O) (hn : K.Nodup) (hl : O.length < K.length) : ∃ (m : Nat) (x : List Int), z = m ∧ K[m]? = some x ∧ Sel K (O ++ [x]) := by
  rcases h with ⟨-, h⟩ | ⟨m, x, e, hx, hb, h⟩
  · have := nodup_le13 K O hn fun x hx => by
      obtain ⟨j, hj, rfl⟩ := List.mem_iff_getElem.1 hx
      have h2 := h j _ hj (List.getElem?_eq_getElem hj)
      by_cases h3 : K[j] ∈ O
      · exact h3
      · rw [(hs.beh hx).2 h3] at h2; cases h2
    omega
  · have hxK := List.mem_of_getElem? hx
    have hxO := (hs.beh hxK).1 hb
    have hall : ∀ y, y ∈ O → aheadL y x = true := (hs.2.2 x hxK).resolve_left hxO
    refine ⟨m, x, e, hx, ?_, fun y hy => ?_, fun y hy => ?_⟩
    · rw [List.pairwise_append]
      refine ⟨hs.1, by simp, fun a ha b hb => ?_⟩
      rw [List.mem_singleton.1 hb]
      exact hall a ha
    · rcases List.mem_append.1 hy with hy | hy
      · exact hs.2.1 y hy
      · rw [List.mem_singleton.1 hy]; exact hxK
    · by_cases h3 : y ∈ O
      · exact .inl (List.mem_append_left _ h3)
      · by_cases h4 : y = x
        · exact .inl (List.mem_append_right _ (by simp [h4]))
        · obtain ⟨j, hj, rfl⟩ := List.mem_iff_getElem.1 hy
          have h5 := h j _ hj (List.getElem?_eq_getElem hj) ((hs.beh hy).2 h3)
          have h6 := (ahead_total h4).resolve_left h5
          refine .inr fun q hq => ?_
          rcases List.mem_append.1 hq with hq | hq
          · exact (hs.2.2 _ hy).resolve_left h3 q hq
          · rw [List.mem_singleton.1 hq]; exact h6
theorem Sel.done {K O : List (List Int)} (hs : Sel K O) (hl : K.length ≤ O.length) : ∀ x, x ∈ O ↔ x ∈ K := fun x => by
  refine ⟨hs.2.1 x, fun hx => ?_⟩
  by_cases h : x ∈ O
  · exact h
  · have := nodup_le13 (x :: O) K (List.nodup_cons.2 ⟨h, pw_nodup13 hs.1⟩) fun y hy => by
      rcases List.mem_cons.1 hy with e | hy
      · rw [e]; exact hx
      · exact hs.2.1 y hy
    rw [List.length_cons] at this
    omega
theorem beh_last {O : List (List Int)} {q : Nat} {y x : List Int} (hl : O.length = q + 1) (hy : O[q]? = some y) : behB O x = aheadL y x := by
  unfold behB
  rw [List.getLast?_eq_getElem?, hl, Nat.add_sub_cancel, hy]
end Go.Proofs.Ytjjpobpcpgcbaaa
