/- slices.Grow and slices.Concat at rows of rows, told by their values. -/
import Derived.Test.YtcbhcclickjpnaaGK24
namespace Go.Proofs.Ytcbhcclickjpnaa
open Go.RowKit Go.Joins

/-- What a slice of slices holds: its values. -/
def ValsAt (w : World) (v : Value) (cvs : List Value) : Prop := (∀ u, u ∈ cvs → u.oneCell' = true) ∧ ∃ A c, v = .slice A cvs.length c ∧ (A = none → cvs = []) ∧
    ∀ a, A = some a → ∀ j u, cvs[j]? = some u → w.cell? (a.add j) = some u
theorem ValsAt.below {w w' : World} {v : Value} {cvs : List Value} (h : ValsAt w v cvs) (hb : Below w.heap.size w w') : ValsAt w' v cvs := by
  obtain ⟨h0, A, c, e, h1, h2⟩ := h
  refine ⟨h0, A, c, e, h1, fun a ha j u hj => ?_⟩
  have z := h2 a ha j u hj
  obtain ⟨b, off, hid⟩ := a
  have hl : (Addr.add ⟨b, off, hid⟩ j).block < w.heap.size := World.block_lt_of_cell? _ _ z
  rw [World.cell?_of_block (w := w) (a := Addr.add ⟨b, off, hid⟩ j) (hb.block _ hl)]
  exact z
theorem mat_vals15 {w : World} {B : Nat} {v : Value} {ls : List (List Int)} (h : MatAt w B v ls) (hcap : CapM w v) : ∃ cvs, ValsAt w v cvs ∧ cvs.length = ls.length ∧ AllCap cvs ∧ ∀ (j : Nat) (r : List Int), ls[j]? = some r → ∃ u, cvs[j]? = some u ∧ IntsAt w B u r := by
  obtain ⟨A, c, rfl, hl, hc⟩ := h
  cases hls : ls with
  | nil =>
    subst hls
    exact ⟨[], ⟨fun u hu => absurd hu List.not_mem_nil, A, c, rfl, fun _ => rfl, fun a _ j u hj => by simp at hj⟩, rfl, AllCap.nil, fun j r hj => by simp at hj⟩
  | cons r0 rs =>
    have h0 : 0 < ls.length := by rw [hls]; simp
    rw [← hls]
    obtain ⟨b, off, rfl, hb, hcc⟩ := hc h0
    obtain ⟨-, hcp⟩ := hcap _ _ _ rfl
    obtain ⟨b', off', e', -, hcp⟩ := hcp h0
    injection e' with e'
    injection e' with e1 e2
    subst e1
    subst e2
    have each : ∀ j, j < ls.length → ∃ u, w.cell? ⟨b, off + j, none⟩ = some u ∧ IntsAt w B u (ls.getD j []) ∧ ∃ A' n' c', u = .slice A' n' c' ∧ n' ≤ c' := by
      intro j hj
      obtain ⟨ov, z, hi⟩ := hcc j _ (List.getElem?_eq_getElem hj)
      obtain ⟨A', n', c', z2, hle⟩ := hcp j hj
      refine ⟨ov, z, by rw [List.getD_eq_getElem?_getD, List.getElem?_eq_getElem hj]; exact hi, A', n', c', ?_, hle⟩
      rw [z] at z2
      injection z2
    obtain ⟨F, hF⟩ := Go.Deep.choose_lt each
    have hus : ((List.range ls.length).map F).length = ls.length := by simp
    have hget : ∀ j u, ((List.range ls.length).map F)[j]? = some u → j < ls.length ∧ u = F j := by
      intro j u hu
      obtain ⟨h3, h4⟩ := List.getElem?_eq_some_iff.1 hu
      rw [hus] at h3
      refine ⟨h3, ?_⟩
      rw [← h4]
      simp
    refine ⟨(List.range ls.length).map F, ⟨fun u hu => ?_, some ⟨b, off, none⟩, c, by rw [hus], (fun e => by cases e), fun a ha j u hj => ?_⟩, hus, fun u hu => ?_, fun j r hj => ?_⟩
    · obtain ⟨j, hj⟩ := List.mem_iff_getElem?.1 hu
      obtain ⟨h3, rfl⟩ := hget j u hj
      obtain ⟨-, -, A', n', c', e, -⟩ := hF j h3
      rw [e]; rfl
    · obtain ⟨h3, rfl⟩ := hget j u hj
      injection ha with ha
      subst ha
      rw [Addr.add_lit]
      exact (hF j h3).1
    · obtain ⟨j, hj⟩ := List.mem_iff_getElem?.1 hu
      obtain ⟨h3, rfl⟩ := hget j u hj
      exact (hF j h3).2.2
    · have hj' := (List.getElem?_eq_some_iff.1 hj).1
      refine ⟨F j, by rw [List.getElem?_map, List.getElem?_range hj']; rfl, ?_⟩
      have := (hF j hj').2.1
      rwa [List.getD_eq_getElem?_getD, hj] at this
/-- 'append(o, v...)' of what the call owns. -/
theorem appendV15 {w : World} {B : Nat} {V v : Value} {xs l : List Value} (ty : TypeId) (hown : w.ownsRow B 30 1 V xs.length xs) (hB : B ≤ w.heap.size) (hz : ValsAt w v l) (h1 : xs.length ≤ 100000) (h2 : l.length ≤ 100000) :
    ∃ v' w', (Builtin.append_ #[22, 22] ty #[V, v]).run Try.prog w = .ok v' w' ∧ w'.ownsRow B 30 1 v' (xs ++ l).length (xs ++ l) ∧ w.grownBy w' V.ownBlock := by
  obtain ⟨j0, hj0, jz0, jz1, jz2⟩ := info_parts Try.infoInts
  obtain ⟨ho, A, c, rfl, hn, hc⟩ := hz
  cases A with
  | none =>
    have h0 := hn rfl
    subst h0
    refine ⟨V, w, ?_, by rw [List.append_nil]; exact hown, ⟨rfl, rfl, rfl, Nat.le_refl _, fun _ _ _ => rfl⟩⟩
    rcases hown.2 with ⟨rfl, h⟩ | ⟨g, cap, cur, rfl, _, _, hnc, _⟩
    · simp [Builtin.append_, run_underlying Try.underlying22, sizeOf, typeInfo, hj0, Builtin.lenOf, Builtin.firstCells]
    · simp [Builtin.append_, run_underlying Try.underlying22, sizeOf, typeInfo, hj0, Builtin.lenOf, Builtin.firstCells, hnc, storeCells]
  | some a =>
    obtain ⟨v', w', hrun, ho', hg, -, -⟩ := run_append_own_at (P := Try.prog) w B 22 ty 30 j0 (.slice none 0 0) 1 24 Try.underlying22 hj0 jz0 jz1 jz2 rfl (by decide) V xs.length xs hown a l.length c l (by rw [Nat.mul_one])
      (fun j u hu => hc a rfl j u hu) ho (by unfold maxLen; omega) (by omega) hB
    exact ⟨v', w', hrun, by rw [List.length_append]; exact ho', hg⟩
set_option maxHeartbeats 2000000 in
set_option maxRecDepth 100000 in
theorem growM15_any (k : Nat) (w : World) (hk : k ≤ 100000) :
    Calls Try.prog 96 #[.slice none 0 0, .int .i64 k] w fun e w' => ∃ v, e = .returned v ∧ w'.ownsRow w.heap.size 30 1 v 0 [] ∧ Below w.heap.size w w' := by
  by_cases h0 : k = 0
  · subst h0
    go_enter Try.func96, Try.ntmps96
    go_wp2
    go_ret
    exact ⟨_, rfl, World.ownsRow_nil _ _ _ _, Below.refl _ _⟩
  · obtain ⟨i0, hi0, hz0, hz1, hz2⟩ := info_parts Try.infoInts
    have hrz : ∀ ty, (Builtin.append_ #[22, 3] ty #[.slice none 0 0, .int .i64 (k : Int)]).run Try.prog w =
        .ok (.slice (some ⟨w.heap.size, 0, none⟩) (0 + k) (grownCap w (0 + k) 0 30)) (w.drew.alloc (.cells (([] : List Value).toArray ++ Builtin.zeroCells (Value.slice none 0 0).cells k ++ Builtin.zeroCells (Value.slice none 0 0).cells (grownCap w (0 + k) 0 30 - (0 + k))) 30)) := fun ty =>
      Lib.run_append_grow_zeros w 22 3 ty 30 i0 _ .i64 .i64 Try.underlying22 Try.underlying3 hi0 hz0 none 0 0 [] (by simp [Builtin.firstCells]) k (by omega) (by omega) (by omega) (by omega) (by rw [hz2]; omega) (by rw [hz2]; exact growslice_fits (by omega) (by omega))
    have hgr := grownCap_ge w (0 + k) 0 30
    have hgm := grownCap_le_maxLen w (0 + k) 0 30 (by unfold maxLen; omega)
    rw [Nat.zero_add] at hrz hgr hgm
    obtain ⟨G, hG⟩ : ∃ G, G = grownCap w k 0 30 := ⟨_, rfl⟩
    rw [← hG] at hrz hgr hgm
    obtain ⟨ROW, hROW⟩ : ∃ ROW : Array Value, ROW = ([] : List Value).toArray ++ Builtin.zeroCells (Value.slice none 0 0).cells k ++ Builtin.zeroCells (Value.slice none 0 0).cells (G - k) := ⟨_, rfl⟩
    rw [← hROW] at hrz
    have hRl : ROW.size = G * 1 := by
      have hz1c : (Value.slice none 0 0).cells.size = 1 := by decide
      rw [hROW, Array.size_append, Array.size_append, size_zeroCells, size_zeroCells, hz1c]
      simp
      omega
    have hown : (w.drew.alloc (.cells ROW 30)).ownsRow w.heap.size 30 1 (.slice (some ⟨w.heap.size, 0, none⟩) 0 G) 0 [] := ⟨rfl, .inr ⟨w.heap.size, G, ROW, rfl, Nat.le_refl _, heap_alloc_new w.drew _, Nat.zero_le _, hgm, hRl, by simp⟩⟩
    have hB : Below w.heap.size w (w.drew.alloc (.cells ROW 30)) := ((Below.refl _ w).drew).alloc (Nat.le_refl _) _
    have hk1 : (0 : Int) < (k : Int) := by omega
    clear hROW hRl hG
    go_enter Try.func96, Try.ntmps96
    go_wp2_with (at_builtin; refine wpList_appendR2 _ rfl _ _ 22 3 rfl _ _ _ _ rfl rfl (hrz _) ?_)
    go_ret
    exact ⟨_, rfl, hown, hB⟩
theorem vflat_take15 {ls : List (List Value)} {k : Nat} {l : List Value} (h : ls[k]? = some l) : (ls.take (k + 1)).flatten = (ls.take k).flatten ++ l := by
  rw [List.take_add_one, h, List.flatten_append]
  simp
set_option maxHeartbeats 4000000 in
set_option maxRecDepth 100000 in
theorem concatM15_any (b : Nat) (vs : List Value) (ms : List (List Value)) (w : World) (hlen : vs.length = ms.length) (hn : ms.length ≤ 1000) (hcell : ∀ (j : Nat) (v : Value), vs[j]? = some v → w.cell? ⟨b, j, none⟩ = some v) (hb : b < w.heap.size)
    (hm : ∀ (j : Nat) (v : Value) (m : List Value), vs[j]? = some v → ms[j]? = some m → ValsAt w v m) (htot : ∀ k, (ms.take k).flatten.length ≤ 100000) :
    Calls Try.prog 84 #[.slice (some ⟨b, 0, none⟩) ms.length ms.length] w fun e w' => ∃ v, e = .returned v ∧ w'.ownsRow w.heap.size 30 1 v ms.flatten.length ms.flatten ∧ Below w.heap.size w w' := by
  have hG := growM15_any (ms.take ms.length).flatten.length w (htot _)
  have htk := Lib.hid htot
  have hft := Lib.hid (fun (k : Nat) (l : List Value) (h : ms[k]? = some l) => vflat_take15 h)
  have h0 : Hid ((0 : Int) = ((ms.take 0).flatten.length : Nat)) := Lib.hid rfl
  have hcH := Lib.hid hcell
  have hmH := Lib.hid hm
  have hlH := Lib.hid hlen
  have hget : Hid (∀ k, k < ms.length → ∃ v m, vs[k]? = some v ∧ ms[k]? = some m) := Lib.hid (fun k hk => ⟨_, _, List.getElem?_eq_getElem (by omega), List.getElem?_eq_getElem hk⟩)
  clear hcell htot hm hlen
  go_enter Try.func84, Try.ntmps84
  go_wp2
  go_loopw [3, 5, 11] (fun s _ t wr => ∃ k q : Nat, k ≤ ms.length ∧ t = .int .i64 k ∧ s = .int .i64 (q : Nat) ∧ Hid (q = (ms.take k).flatten.length) ∧ w = wr) (fun _ _ t _ => ms.length - (intOf t).toNat)
  case atStart => exact ⟨0, 0, by omega, rfl, rfl, Lib.hid rfl, rfl⟩
  case round =>
    obtain ⟨k, q, hk, rfl, rfl, hq, rfl⟩ := hrel
    by_cases hlt : k < ms.length
    · obtain ⟨v, m, hv, hm2⟩ := hget.out k hlt
      have z := hcH.out k v hv
      obtain ⟨-, A, c, rfl, -, -⟩ := hmH.out k v m hv hm2
      have hq2 : Hid (q + m.length = (ms.take (k + 1)).flatten.length) := Lib.hid (by rw [hft.out k m hm2, List.length_append, hq.out])
      have h2 : q + m.length ≤ 100000 := by rw [hq2.out]; exact htk.out _
      have k0 : (0 : Int) ≤ (k : Int) := by omega
      have k1 : (k : Int) < (ms.length : Int) := by omega
      clear hcH hmH hv hm2 htk hft h0 hG hget hlH hq
      go_wp2
      go_roundw
      case rel => exact ⟨k + 1, q + m.length, by omega, by go_num, by go_num, hq2, by first | rfl | trivial⟩
      case measure => simp [intOf]; omega
    · have e : k = ms.length := by omega
      subst e
      have hkd : ¬ (ms.length : Int) < (ms.length : Int) := by omega
      have hqe := hq.out
      rw [← hqe] at hG
      have hq4 : q ≤ 100000 := by rw [hqe]; exact htk.out _
      clear h0 hqe hq
      go_wp2_with fail
      refine hG.mono ?_
      rintro e w2 ⟨v, rfl, hown, hb2⟩
      obtain ⟨Av, cv, rfl⟩ := own_form hown
      have hown0 : w2.ownsRow w.heap.size 30 1 (.slice Av 0 cv) ([] : List Value).length [] := hown
      clear hG hown
      go_wp2
      go_loopw [6, 8, 27] (fun V _ t wr => ∃ (k : Nat) (K : List Value), k ≤ ms.length ∧ t = .int .i64 k ∧ Hid (K = (ms.take k).flatten) ∧ wr.ownsRow w.heap.size 30 1 V K.length K ∧ Below w.heap.size w wr) (fun _ _ t _ => ms.length - (intOf t).toNat)
      case atStart => exact ⟨0, [], by omega, rfl, Lib.hid rfl, hown0, hb2⟩
      case round =>
        clear hown0 hb2
        obtain ⟨k, K, hk, rfl, hK, hown, hb2⟩ := hrel
        obtain ⟨AV, cV, rfl⟩ := own_form hown
        have hbs := hb2.size
        by_cases hlt : k < ms.length
        · obtain ⟨v, m, hv, hm2⟩ := hget.out k hlt
          have z := (hb2.cell (p := ⟨b, k, none⟩) hb).trans (hcH.out k v hv)
          have hva := (hmH.out k v m hv hm2).below hb2
          have hK2 : Hid (K ++ m = (ms.take (k + 1)).flatten) := Lib.hid (by rw [hft.out k m hm2, hK.out])
          have hKl : K.length ≤ 100000 := by rw [hK.out]; exact htk.out k
          have hml : m.length ≤ 100000 := by
            have h1 := htk.out (k + 1)
            rw [← hK2.out, List.length_append] at h1
            omega
          obtain ⟨v', w3, hrun, ho3, hg3⟩ := appendV15 22 hown hbs hva hKl hml
          obtain ⟨-, A, c, rfl, -, -⟩ := hva
          have hb4 := grown_below hown hg3 hb2 (Nat.le_refl _) hbs
          have k0 : (0 : Int) ≤ (k : Int) := by omega
          have k1 : (k : Int) < (ms.length : Int) := by omega
          clear hv hm2 hK hown hb2 hft htk hcH hmH hget hlH hg3
          go_wp2_with (at_builtin; refine wpList_appendR _ rfl _ _ 22 rfl _ _ v' w3 rfl rfl hrun ?_)
          go_roundw
          case rel => exact ⟨k + 1, K ++ m, by omega, by go_num, hK2, ho3, hb4⟩
          case measure => simp [intOf]; omega
        · have e : k = ms.length := by omega
          have hkd : ¬ (k : Int) < (ms.length : Int) := by omega
          have hKL : Hid (K = ms.flatten) := Lib.hid (by rw [hK.out, e, List.take_length])
          clear e hK hcH hmH hft htk hget hlH
          go_wp2
          go_ret
          exact ⟨_, rfl, by rw [← hKL.out, show (List.map List.length ms).sum = K.length by rw [hKL.out, List.length_flatten]]; exact hown, hb2⟩
end Go.Proofs.Ytcbhcclickjpnaa
