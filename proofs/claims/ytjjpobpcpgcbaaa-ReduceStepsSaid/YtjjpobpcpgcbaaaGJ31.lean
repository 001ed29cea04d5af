/- slices.Grow, slices.Concat; without of the package reduce. -/
import Derived.Test.YtjjpobpcpgcbaaaGJ30
import Derived.Lib.AppendZerosOnto
namespace Go.Proofs.Ytjjpobpcpgcbaaa
open Go.RowKit Go.Joins

theorem wpList_appendR2 (w : World) {ops : Array Oper} {rest : List Oper} {o : Oper} {a : Act} {Q : Exit → Act → World → Prop}
    (hg : o.guard = none) (s x : Operand) (t u : TypeId) (hop : o.op = .call { callee := .builtin .append, args := #[s, x], argTypes := #[t, u] }) (V v v' : Value) (w' : World) (hs : a.eval s = V) (hx : a.eval x = v)
    (hrun : (Builtin.append_ #[t, u] o.type #[V, v]).run Try.prog w = .ok v' w') (hK : wpList Try.prog ops Q rest (a.put o.dst v') w') : wpList Try.prog ops Q (o :: rest) a w := by
  refine wpList_plain hg fun K' hK' => ?_
  unfold Oper.wp execOp
  simp [hop, resolve, invoke, builtin, hs, hx, hrun, Result.andThen]
  exact hK' _ _ hK
set_option maxHeartbeats 2000000 in
set_option maxRecDepth 100000 in
theorem growI14_any (k : Nat) (w : World) (hk : k ≤ 100000) :
    Calls Try.prog 73 #[.slice none 0 0, .int .i64 k] w fun e w' => ∃ v, e = .returned v ∧ w'.ownsRow w.heap.size 3 1 v 0 [] ∧ Below w.heap.size w w' := by
  by_cases h0 : k = 0
  · subst h0
    go_enter Try.func73, Try.ntmps73
    go_wp2
    go_ret
    exact ⟨_, rfl, World.ownsRow_nil _ _ _ _, Below.refl _ _⟩
  · obtain ⟨i0, hi0, hz0, hz1, hz2⟩ := info_parts Try.infoInt14
    have hrz : ∀ ty, (Builtin.append_ #[38, 3] ty #[.slice none 0 0, .int .i64 (k : Int)]).run Try.prog w =
        .ok (.slice (some ⟨w.heap.size, 0, none⟩) (0 + k) (grownCap w (0 + k) 0 3)) (w.drew.alloc (.cells (([] : List Value).toArray ++ Builtin.zeroCells (Value.int .i64 0).cells k ++ Builtin.zeroCells (Value.int .i64 0).cells (grownCap w (0 + k) 0 3 - (0 + k))) 3)) := fun ty =>
      Lib.run_append_grow_zeros w 38 3 ty 3 i0 _ .i64 .i64 Try.underlying38 Try.underlying3 hi0 hz0 none 0 0 [] (by simp [Builtin.firstCells]) k (by omega) (by omega) (by omega) (by omega) (by rw [hz2]; omega) (by rw [hz2]; exact growslice_fits (by omega) (by omega))
    have hgr := grownCap_ge w (0 + k) 0 3
    have hgm := grownCap_le_maxLen w (0 + k) 0 3 (by unfold maxLen; omega)
    rw [Nat.zero_add] at hrz hgr hgm
    obtain ⟨G, hG⟩ : ∃ G, G = grownCap w k 0 3 := ⟨_, rfl⟩
    rw [← hG] at hrz hgr hgm
    obtain ⟨ROW, hROW⟩ : ∃ ROW : Array Value, ROW = ([] : List Value).toArray ++ Builtin.zeroCells (Value.int .i64 0).cells k ++ Builtin.zeroCells (Value.int .i64 0).cells (G - k) := ⟨_, rfl⟩
    rw [← hROW] at hrz
    have hRl : ROW.size = G * 1 := by
      have hz1c : (Value.int .i64 0).cells.size = 1 := by decide
      rw [hROW, Array.size_append, Array.size_append, size_zeroCells, size_zeroCells, hz1c]
      simp
      omega
    have hown : (w.drew.alloc (.cells ROW 3)).ownsRow w.heap.size 3 1 (.slice (some ⟨w.heap.size, 0, none⟩) 0 G) 0 [] := ⟨rfl, .inr ⟨w.heap.size, G, ROW, rfl, Nat.le_refl _, heap_alloc_new w.drew _, Nat.zero_le _, hgm, hRl, by simp⟩⟩
    have hB : Below w.heap.size w (w.drew.alloc (.cells ROW 3)) := ((Below.refl _ w).drew).alloc (Nat.le_refl _) _
    have hk1 : (0 : Int) < (k : Int) := by omega
    clear hROW hRl hG
    go_enter Try.func73, Try.ntmps73
    go_wp2_with (at_builtin; refine wpList_appendR2 _ rfl _ _ 38 3 rfl _ _ _ _ rfl rfl (hrz _) ?_)
    go_ret
    exact ⟨_, rfl, hown, hB⟩
theorem flat_take14 {ls : List (List Int)} {k : Nat} {l : List Int} (h : ls[k]? = some l) : (ls.take (k + 1)).flatten = (ls.take k).flatten ++ l := by
  rw [List.take_add_one, h, List.flatten_append]
  simp
theorem flat_len14 (ls : List (List Int)) (k : Nat) : (ls.take k).flatten.length = totK ls k := by
  rw [List.length_flatten]
  rfl
set_option maxHeartbeats 4000000 in
set_option maxRecDepth 100000 in
theorem concatI14_any (S : Value) (ls : List (List Int)) (w : World) (hS : MatAt w w.heap.size S ls) (htot : ∀ k, totK ls k ≤ 100000) :
    Calls Try.prog 61 #[S] w fun e w' => ∃ v, e = .returned v ∧ w'.ownsRow w.heap.size 3 1 v ls.flatten.length (intI ls.flatten) ∧ Below w.heap.size w w' := by
  have hG := growI14_any (totK ls ls.length) w (htot _)
  have htk := Lib.hid (fun k => htot k)
  have hts := Lib.hid (fun (k : Nat) (r : List Int) (h : ls[k]? = some r) => totK_succ h)
  have hft := Lib.hid (fun (k : Nat) (l : List Int) (h : ls[k]? = some l) => flat_take14 h)
  have hfl := Lib.hid (fun k => flat_len14 ls k)
  have h0 : Hid ((0 : Int) = (totK ls 0 : Nat)) := Lib.hid rfl
  obtain ⟨A, c, rfl, hl, hc⟩ := hS
  have hcH := Lib.hid hc
  clear hc htot
  go_enter Try.func61, Try.ntmps61
  go_wp2
  go_loopw [3, 5, 11] (fun s _ t wr => ∃ k : Nat, k ≤ ls.length ∧ t = .int .i64 k ∧ s = .int .i64 (totK ls k : Nat) ∧ w = wr) (fun _ _ t _ => ls.length - (intOf t).toNat)
  case atStart => exact ⟨0, by omega, rfl, by rw [← h0.out], rfl⟩
  case round =>
    obtain ⟨k, hk, rfl, rfl, rfl⟩ := hrel
    by_cases hlt : k < ls.length
    · obtain ⟨b, off, rfl, hB, hcc⟩ := hcH.out (by omega)
      obtain ⟨r, hrk⟩ : ∃ r, ls[k]? = some r := ⟨_, List.getElem?_eq_getElem hlt⟩
      obtain ⟨ov, z0, hov⟩ := hcc k r hrk
      obtain ⟨Ar, cr, rfl, hlr, hcr⟩ := hov
      have hs := Lib.hid (hts.out k r hrk)
      have h1 := htk.out k
      have h2 : totK ls k + r.length ≤ 100000 := by rw [← hs.out]; exact htk.out (k + 1)
      have k0 : (0 : Int) ≤ (k : Int) := by omega
      have k1 : (k : Int) < (ls.length : Int) := by omega
      generalize totK ls k = tk at *
      clear hcH hcc hrk hcr htk hts hft hfl h0 hG
      go_wp2
      go_roundw
      case rel => exact ⟨k + 1, by omega, by go_num, by rw [hs.out]; go_num, by first | rfl | trivial⟩
      case measure => simp [intOf]; omega
    · have e : k = ls.length := by omega
      subst e
      have hkd : ¬ (ls.length : Int) < (ls.length : Int) := by omega
      have h1 := htk.out ls.length
      clear h0
      go_wp2_with fail
      refine hG.mono ?_
      rintro e w2 ⟨v, rfl, hown, hb⟩
      obtain ⟨Av, cv, rfl⟩ := own_form hown
      have hown0 : w2.ownsRow w.heap.size 3 1 (.slice Av 0 cv) ([] : List Int).length (intI []) := hown
      clear hG hown
      go_wp2
      go_loopw [6, 8, 27] (fun V _ t wr => ∃ (k : Nat) (K : List Int), k ≤ ls.length ∧ t = .int .i64 k ∧ Hid (K = (ls.take k).flatten) ∧ wr.ownsRow w.heap.size 3 1 V K.length (intI K) ∧ Below w.heap.size w wr) (fun _ _ t _ => ls.length - (intOf t).toNat)
      case atStart => exact ⟨0, [], by omega, rfl, Lib.hid rfl, hown0, hb⟩
      case round =>
        clear hown0 hb
        obtain ⟨k, K, hk, rfl, hK, hown, hb⟩ := hrel
        obtain ⟨AV, cV, rfl⟩ := own_form hown
        have hbs := hb.size
        by_cases hlt : k < ls.length
        · obtain ⟨b, off, rfl, hB, hcc⟩ := hcH.out (by omega)
          obtain ⟨r, hrk⟩ : ∃ r, ls[k]? = some r := ⟨_, List.getElem?_eq_getElem hlt⟩
          obtain ⟨ov, z0, hov⟩ := hcc k r hrk
          have g0 := (hb.cell (p := ⟨b, off + k, none⟩) hB).trans z0
          have hov3 := (hov.below hb).more hbs
          have hK2 : Hid (K ++ r = (ls.take (k + 1)).flatten) := Lib.hid (by rw [hft.out k r hrk, hK.out])
          have hKl : K.length ≤ 100000 := by rw [hK.out, hfl.out]; exact htk.out k
          have hrl : r.length ≤ 100000 := by
            have h1 := htk.out (k + 1)
            rw [hts.out k r hrk] at h1
            omega
          obtain ⟨v', w3, hrun, ho3, hb3⟩ := append13 (l := r) 38 hown hbs hov3 hKl hrl
          obtain ⟨Ar, cr, rfl, -, -⟩ := hov
          have k0 : (0 : Int) ≤ (k : Int) := by omega
          have k1 : (k : Int) < (ls.length : Int) := by omega
          have hb4 := hb.trans hb3
          clear hcc hrk z0 hK hown hb hb3 hov3 hft hfl hts htk
          go_wp2_with (at_builtin; refine wpList_appendR _ rfl _ _ 38 rfl _ _ v' w3 rfl rfl hrun ?_)
          go_roundw
          case rel => exact ⟨k + 1, K ++ r, by omega, by go_num, hK2, ho3, hb4⟩
          case measure => simp [intOf]; omega
        · have e : k = ls.length := by omega
          have hkd : ¬ (k : Int) < (ls.length : Int) := by omega
          have hKL : Hid (K = ls.flatten) := Lib.hid (by rw [hK.out, e, List.take_length])
          clear e hK hcH hft hfl hts htk
          go_wp2
          go_ret
          exact ⟨_, rfl, by rw [← hKL.out, show (List.map List.length ls).sum = K.length by rw [hKL.out, List.length_flatten]]; exact hown, hb⟩
theorem rm_one14 {r : List Int} {i : Nat} {c : Int} (hr : r.Pairwise (· < ·)) (hi : r[i]? = some c) : r.take i ++ r.drop (i + 1) = otC14 c r := by
  have hil := (List.getElem?_eq_some_iff.1 hi).1
  have e : r = r.take i ++ (c :: r.drop (i + 1)) := by
    conv => lhs; rw [← List.take_append_drop i r]
    congr 1
    rw [List.drop_eq_getElem_cons hil]
    congr 1
    exact (List.getElem?_eq_some_iff.1 hi).2
  have h1 : (r.take i).filter (fun x => !decide (x = c)) = r.take i := by
    rw [List.filter_eq_self]
    intro x hx
    obtain ⟨j, hj⟩ := List.mem_iff_getElem?.1 hx
    rw [List.getElem?_take] at hj
    split at hj
    · rename_i hji
      have := rise_get14 hr hj hi hji
      simp; omega
    · cases hj
  have h2 : (r.drop (i + 1)).filter (fun x => !decide (x = c)) = r.drop (i + 1) := by
    rw [List.filter_eq_self]
    intro x hx
    obtain ⟨j, hj⟩ := List.mem_iff_getElem?.1 hx
    rw [List.getElem?_drop] at hj
    have := rise_get14 hr hi hj (by omega)
    simp; omega
  unfold otC14
  conv => rhs; rw [e]
  rw [List.filter_append, h1, List.filter_cons_of_neg (by simp), h2]
/-- The rows, those at the places T without c. -/
def wthK (ls : List (List Int)) (c : Int) (T : List Int) : List (List Int) := (List.range ls.length).map fun i : Nat => if (i : Int) ∈ T then otC14 c (ls.getD i []) else ls.getD i []
theorem wth_len (ls : List (List Int)) (c : Int) (T : List Int) : (wthK ls c T).length = ls.length := by unfold wthK; simp
theorem wth_get {ls : List (List Int)} {c : Int} {T : List Int} {i : Nat} {l : List Int} (h : ls[i]? = some l) : (wthK ls c T)[i]? = some (if (i : Int) ∈ T then otC14 c l else l) := by
  have hi := (List.getElem?_eq_some_iff.1 h).1
  unfold wthK
  rw [List.getElem?_map, List.getElem?_range hi]
  simp only [Option.map_some]
  rw [List.getD_eq_getElem?_getD, h]
  rfl
theorem wth_none (ls : List (List Int)) (c : Int) : wthK ls c [] = ls := by
  apply List.ext_getElem?
  intro i
  cases h : ls[i]? with
  | some l => rw [wth_get h, if_neg List.not_mem_nil]
  | none =>
    have : ls.length ≤ i := List.getElem?_eq_none_iff.1 h
    rw [List.getElem?_eq_none (by rw [wth_len]; exact this)]
theorem wth_all (ls : List (List Int)) (c : Int) : wthK ls c (whr ls c) = clR ls c := by
  apply List.ext_getElem?
  intro i
  unfold clR
  rw [List.getElem?_map]
  cases h : ls[i]? with
  | some l =>
    have hi := (List.getElem?_eq_some_iff.1 h).1
    have e : ls.getD i [] = l := by rw [List.getD_eq_getElem?_getD, h]; rfl
    rw [wth_get h]
    by_cases hm : (i : Int) ∈ whr ls c
    · rw [if_pos hm]; rfl
    · rw [if_neg hm]
      have hn : ¬ c ∈ l := fun hc => hm (mem_whr.2 ⟨hi, by rw [e]; exact hc⟩)
      have : l.filter (fun x => !decide (x = c)) = l := by
        rw [List.filter_eq_self]
        intro x hx
        have : x ≠ c := fun e => hn (e ▸ hx)
        simp [this]
      simp only [Option.map_some]
      rw [this]
  | none =>
    have : ls.length ≤ i := List.getElem?_eq_none_iff.1 h
    rw [List.getElem?_eq_none (by rw [wth_len]; exact this)]
    rfl
theorem wth_step {ls : List (List Int)} {c : Int} {T : List Int} {j x : Nat} {l : List Int} (hj : T[j]? = some (x : Int)) (h : ls[x]? = some l) : wthK ls c (T.take (j + 1)) = (wthK ls c (T.take j)).set x (otC14 c l) := by
  apply List.ext_getElem?
  intro i
  rw [List.getElem?_set]
  have hx := (List.getElem?_eq_some_iff.1 h).1
  have hm : ∀ i : Nat, (i : Int) ∈ T.take (j + 1) ↔ (i : Int) ∈ T.take j ∨ i = x := fun i => by
    rw [List.take_add_one, hj, List.mem_append]
    constructor
    · rintro (h1 | h1)
      · exact .inl h1
      · exact .inr (by have h2 : (i : Int) = x := (by simpa using h1); omega)
    · rintro (h1 | h1)
      · exact .inl h1
      · exact .inr (by simp [h1])
  by_cases e : x = i
  · subst e
    rw [if_pos rfl, if_pos (by rw [wth_len]; exact hx), wth_get h, if_pos ((hm x).2 (.inr rfl))]
  · rw [if_neg e]
    cases h2 : ls[i]? with
    | some l2 =>
      rw [wth_get h2, wth_get h2]
      by_cases hmi : (i : Int) ∈ T.take j
      · rw [if_pos hmi, if_pos ((hm i).2 (.inl hmi))]
      · rw [if_neg hmi, if_neg (fun h3 => (((hm i).1 h3).elim hmi (fun e2 => e e2.symm)))]
    | none =>
      have : ls.length ≤ i := List.getElem?_eq_none_iff.1 h2
      rw [List.getElem?_eq_none (by rw [wth_len]; exact this), List.getElem?_eq_none (by rw [wth_len]; exact this)]
theorem RowsIn.put14 {w : World} {n cap g x : Nat} {K : List (List Int)} {vs : List Value} {v : Value} {l : List Int} (h : RowsIn w (.slice (some ⟨g, 0, none⟩) n cap) K vs) (hv : IntsN w (fun b => b < w.heap.size ∧ (Value.slice (some ⟨g, 0, none⟩) n cap).ownBlock ≠ some b) v l) (hl : vs.length = K.length) :
    RowsIn (w.setCell ⟨g, x, none⟩ v) (.slice (some ⟨g, 0, none⟩) n cap) (K.set x l) (vs.set x v) := by
  have hk : ∀ b, (b < w.heap.size ∧ (Value.slice (some ⟨g, 0, none⟩) n cap).ownBlock ≠ some b) → (w.setCell ⟨g, x, none⟩ v).heap[b]? = w.heap[b]? := fun b hN => Below.heap_setCell _ _ _ _ (fun e => hN.2 (by rw [show b = g from e]; rfl))
  have hN : ∀ b, (b < w.heap.size ∧ (Value.slice (some ⟨g, 0, none⟩) n cap).ownBlock ≠ some b) → (b < (w.setCell ⟨g, x, none⟩ v).heap.size ∧ (Value.slice (some ⟨g, 0, none⟩) n cap).ownBlock ≠ some b) := fun b hN => ⟨by simpa [World.setCell] using hN.1, hN.2⟩
  intro j q hj
  rw [List.getElem?_set] at hj
  split at hj
  · rename_i e
    subst e
    split at hj
    · rename_i hx
      injection hj with hj
      subst hj
      exact ⟨v, by rw [List.getElem?_set_self (by omega)], hv.keep hk hN⟩
    · cases hj
  · rename_i e
    obtain ⟨u, hu, hi⟩ := h j q hj
    exact ⟨u, by rw [List.getElem?_set_ne e]; exact hu, hi.keep hk hN⟩
end Go.Proofs.Ytjjpobpcpgcbaaa
