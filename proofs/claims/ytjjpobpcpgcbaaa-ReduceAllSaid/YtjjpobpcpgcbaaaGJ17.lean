/- The document's own Columns of layer 14. The document's own Rows of layer 14; 'append(o, v...)' of rows. -/
import Derived.Test.YtjjpobpcpgcbaaaGJ15
namespace Go.Proofs.Ytjjpobpcpgcbaaa
open Go.RowKit Go.Joins

def clL (ls : List (List Int)) (n : Nat) : List (List Int) := match clI ls n with
  | none => ls
  | some c => clR ls c
theorem cl_none {ls : List (List Int)} {n : Nat} (h : ∀ d, d < n → lssC ls n d = false) : clI ls n = none := by
  unfold clI
  refine find_no _ _ fun j y hj => ?_
  obtain ⟨h1, h2⟩ := List.getElem?_eq_some_iff.1 hj
  rw [List.getElem_range] at h2
  subst h2
  exact h _ (by simpa using h1)
theorem cl_some {ls : List (List Int)} {n c : Nat} (hc : c < n) (hy : lssC ls n c = true) (h : ∀ d, d < c → lssC ls n d = false) : clI ls n = some c := by
  unfold clI
  refine find_at _ _ c c (by rw [List.getElem?_range hc]) hy fun j y hj hr => ?_
  obtain ⟨h1, h2⟩ := List.getElem?_eq_some_iff.1 hr
  rw [List.getElem_range] at h2
  subst h2
  exact h _ hj
def otC14 (c : Int) (l : List Int) : List Int := l.filter fun x => !decide (x = c)
theorem otC14_take {l : List Int} {k : Nat} {x c : Int} (h : l[k]? = some x) : otC14 c (l.take (k + 1)) = if x = c then otC14 c (l.take k) else otC14 c (l.take k) ++ [x] := by
  unfold otC14
  rw [List.take_add_one, h, List.filter_append]
  by_cases hm : x = c
  · rw [if_pos hm]; simp [hm]
  · rw [if_neg hm]; simp [hm]
theorem otC14_len (c : Int) (l : List Int) (k : Nat) : (otC14 c (l.take k)).length ≤ k := by
  unfold otC14
  have h1 := List.length_filter_le (fun x => !decide (x = c)) (l.take k)
  rw [List.length_take] at h1
  omega
theorem clR_take {ls : List (List Int)} {k : Nat} {l : List Int} {c : Int} (h : ls[k]? = some l) : clR (ls.take (k + 1)) c = clR (ls.take k) c ++ [otC14 c l] := by
  unfold clR otC14
  rw [List.take_add_one, h, List.map_append]; rfl
theorem own_blk14 {w : World} {B size n : Nat} {e : TypeId} {v : Value} {xs : List Value} (h : w.ownsRow B e size v n xs) {g : Nat} (hg : v.ownBlock = some g) : ∃ cu, w.heap[g]? = some (.cells cu e (0, 0)) := by
  rcases h.2 with ⟨rfl, -⟩ | ⟨g', cap, cur, rfl, -, hb, -⟩
  · cases hg
  · injection hg with hg
    subst hg
    exact ⟨cur, hb⟩
theorem own_apart14 {w : World} {B B' size size' n n' : Nat} {e e' : TypeId} {v v' : Value} {xs xs' : List Value} (h : w.ownsRow B e size v n xs) (h' : w.ownsRow B' e' size' v' n' xs') (he : e ≠ e') {g : Nat} (h1 : v.ownBlock = some g) (h2 : v'.ownBlock = some g) : False := by
  obtain ⟨cu, q1⟩ := own_blk14 h h1
  obtain ⟨cu', q2⟩ := own_blk14 h' h2
  rw [q1] at q2
  injection q2 with q2
  injection q2 with _ q2 _
  exact he q2
set_option maxHeartbeats 8000000 in
set_option maxRecDepth 100000 in
theorem rcols14_any (v : Value) (ls : List (List Int)) (n : Nat) (hls : ls.length ≤ 1000) (hln : ∀ (j : Nat) (l : List Int), ls[j]? = some l → l.length ≤ 1000) (hn : n ≤ 100000) (hcap : CapOk v) (w : World) (hz : MatAt w w.heap.size v ls) :
    Calls Try.prog 16 #[v, .int .i64 n] w fun e w' => ∃ u, e = .returned (.tuple #[u, .bool (clI ls n).isSome]) ∧ MatAt w' w'.heap.size u (clL ls n) ∧ CapOk u ∧ Below w.heap.size w w' := by
  have HL := fun (d : Nat) W (h : Below w.heap.size w W) => rless14_any v ls n d hls hn W ((hz.below h).more h.size)
  have hmat := Lib.hid hz
  have hcapH := Lib.hid hcap
  clear hcap
  obtain ⟨A, cp, rfl, hl, hc⟩ := hz
  obtain ⟨i0, hi0, hz0, hz1, hz2⟩ := info_parts Try.infoInt
  obtain ⟨j0, hj0, jz0, jz1, jz2⟩ := info_parts Try.infoInts
  have hN : Hid ((∀ d, d < n → lssC ls n d = false) → (clI ls n).isSome = false ∧ clL ls n = ls) := Lib.hid (fun h => by
    have e := cl_none h
    unfold clL
    rw [e]
    exact ⟨rfl, rfl⟩)
  have hS : Hid (∀ c, c < n → lssC ls n c = true → (∀ d, d < c → lssC ls n d = false) → (clI ls n).isSome = true ∧ clL ls n = clR ls c) := Lib.hid (fun c h1 h2 h3 => by
    have e := cl_some h1 h2 h3
    unfold clL
    rw [e]
    exact ⟨rfl, rfl⟩)
  generalize (clI ls n).isSome = RB at *
  generalize clL ls n = RL at *
  go_enter Try.func16, Try.ntmps16
  go_wp2
  go_loopw [6, 7, 8, 9, 10] (fun t _ _ _ _ wr => ∃ c : Nat, c ≤ n ∧ t = .int .i64 c ∧ Hid (∀ d, d < c → lssC ls n d = false) ∧ Below w.heap.size w wr) (fun t _ _ _ _ _ => n - (intOf t).toNat)
  case atStart => exact ⟨0, by omega, rfl, Lib.hid (fun d h => absurd h (Nat.not_lt_zero _)), Below.refl _ _⟩
  case round =>
    obtain ⟨c, hcn, rfl, hH, hbw⟩ := hrel
    by_cases hlt : c < n
    · have hkd : decide ((c : Int) < (n : Int)) = true := decide_eq_true (by omega)
      have HL1 := HL c wr hbw
      cases hy : lssC ls n c
      · rw [hy] at HL1
        have hH2 : Hid (∀ d, d < c + 1 → lssC ls n d = false) := Lib.hid (fun d hd => by
          by_cases e : d = c
          · rw [e]; exact hy
          · exact hH.out d (by omega))
        clear HL hN hS hH hy hc hmat
        go_wp2_with fail
        refine HL1.mono ?_
        rintro e w2 ⟨rfl, hb2⟩
        have hb3 := hbw.trans (hb2.mono hbw.size)
        clear HL1
        go_wp2
        go_roundw
        case rel => exact ⟨c + 1, by omega, by go_num, hH2, hb3⟩
        case measure => simp [intOf]; omega
      · rw [hy] at HL1
        have hres := Lib.hid (hS.out c hlt hy hH.out)
        clear HL hN hS hH hy hmat
        go_wp2_with fail
        refine HL1.mono ?_
        rintro e w2 ⟨rfl, hb2⟩
        have hB2 := hbw.trans (hb2.mono hbw.size)
        have hsz2 := hB2.size
        clear HL1 hb2 hbw
        go_wp2
        go_loopw [7, 8, 9, 10] (fun V t _ _ wr => ∃ (i : Nat) (K : List (List Int)) (vs : List Value), i ≤ ls.length ∧ t = .int .i64 i ∧ Hid (K = clR (ls.take i) c) ∧ vs.length = K.length ∧ K.length ≤ i ∧ wr.ownsRow w2.heap.size 38 1 V K.length vs ∧ RowsIn wr V K vs ∧ Below w2.heap.size w2 wr) (fun _ t _ _ _ => ls.length - (intOf t).toNat)
        case atStart => exact ⟨0, [], [], by omega, rfl, Lib.hid rfl, rfl, by simp, World.ownsRow_nil _ _ _ _, RowsIn.nil _ _, Below.refl _ _⟩
        case round =>
          rename World => wi
          obtain ⟨i, K, vs, hi, rfl, hK, hvl, hKl, hown, hin, hb⟩ := hrel
          obtain ⟨AV, cV, rfl⟩ := own_form hown
          have hbs := hb.size
          have hBi := hB2.trans (hb.mono hsz2)
          by_cases hil : i < ls.length
          · obtain ⟨b, off, rfl, hB, hcell⟩ := hc (by omega)
            obtain ⟨l, hl2⟩ : ∃ l, ls[i]? = some l := ⟨_, List.getElem?_eq_getElem hil⟩
            have hll := hln i l hl2
            obtain ⟨ov, z0, hov⟩ := hcell i l hl2
            have hK2 : Hid (K ++ [otC14 c l] = clR (ls.take (i + 1)) c) := Lib.hid (by rw [clR_take hl2, hK.out])
            obtain ⟨Ao, co, rfl, hol, hoc⟩ := hov
            have hocH := Lib.hid hoc
            have z1 := (hBi.cell (p := ⟨b, off + i, none⟩) hB).trans z0
            clear hcell hl2 z0 hoc hc hK
            go_wp2
            go_loopw [9, 10] (fun s t wr => ∃ (k : Nat) (R : List Int), k ≤ l.length ∧ t = .int .i64 k ∧ Hid (R = otC14 c (l.take k)) ∧ wr.ownsRow wi.heap.size 3 1 s R.length (intI R) ∧ Below wi.heap.size wi wr) (fun _ t _ => l.length - (intOf t).toNat)
            case atStart => exact ⟨0, [], by omega, rfl, Lib.hid rfl, World.ownsRow_nil _ _ _ _, Below.refl _ _⟩
            case round =>
              obtain ⟨k, R, hk, rfl, hR, ho, hbk⟩ := hrel
              obtain ⟨Ar, cr, rfl⟩ := own_form ho
              have hbks := hbk.size
              have c0 := (hbk.cell (p := ⟨b, off + i, none⟩) (block_lt_of_cell z1)).trans z1
              have ii0 : (0 : Int) ≤ (i : Int) := by omega
              have ii1 : (i : Int) < (ls.length : Int) := by omega
              by_cases hkl : k < l.length
              · obtain ⟨bo, oo, hAo, hBo, hoc⟩ := hocH.out (by omega)
                subst hAo
                obtain ⟨x, hx⟩ : ∃ x, l[k]? = some x := ⟨_, List.getElem?_eq_getElem hkl⟩
                have c1 := ((hBi.trans (hbk.mono hBi.size)).cell (p := ⟨bo, oo + k, none⟩) hBo).trans (hoc k x hx)
                have hs := Lib.hid (otC14_take (c := (c : Int)) hx)
                have hRl : R.length ≤ k := by rw [hR.out]; exact otC14_len _ _ _
                clear hoc hocH hx
                by_cases hm : x = (c : Int)
                · have hR2 : Hid (R = otC14 c (l.take (k + 1))) := Lib.hid (by rw [hs.out, if_pos hm, hR.out])
                  have hxd : (x != (c : Int)) = false := by rw [hm]; simp
                  clear hs hR hm
                  go_wp2
                  go_roundw
                  case rel => exact ⟨k + 1, R, by omega, by go_num, hR2, ho, hbk⟩
                  case measure => simp [intOf]; omega
                · have hR2 : Hid (R ++ [x] = otC14 c (l.take (k + 1))) := Lib.hid (by rw [hs.out, if_neg hm, hR.out])
                  have hxd : (x != (c : Int)) = true := by rw [bne_iff_ne]; exact hm
                  clear hs hR
                  have hna := ho.alloc (.cells #[.int .i64 x] 3 (0, 0))
                  have hba := hbk.alloc hbks (.cells #[.int .i64 x] 3 (0, 0))
                  go_wp2_with (at_builtin; refine wpList_append_own_at _ rfl _ _ 38 rfl wi.heap.size 3 i0 (.int .i64 0) 1 8 Try.underlying38 hi0 hz0 hz1 hz2 rfl (by decide) _ _ _ rfl hna ⟨wr.heap.size, 0, none⟩ 1 1 [.int .i64 x] rfl rfl one_new13 (fun u hu => by rw [List.mem_singleton.1 hu]; rfl) ?c3 ?c4 ?c5 ?_)
                  case c3 => unfold maxLen; omega
                  case c4 => omega
                  case c5 => first | omega | (simp; omega)
                  intro V4 w9 hp9 hg9 _ _
                  have hB9 := grown_below hna hg9 hba (Nat.le_refl _) (by simp; omega)
                  have hn9 : w9.ownsRow wi.heap.size 3 1 V4 (R ++ [x]).length (intI (R ++ [x])) := by
                    have e : intI (R ++ [x]) = intI R ++ [.int .i64 x] := by unfold intI; rw [List.map_append]; rfl
                    rw [e, List.length_append]
                    exact hp9
                  clear hna hba hg9 hp9 ho hbk c0 c1
                  go_wp2
                  go_roundw
                  case rel => exact ⟨k + 1, R ++ [x], by omega, by go_num, hR2, hn9, hB9⟩
                  case measure => simp [intOf]; omega
              · have e : k = l.length := by omega
                have hkd2 : decide ((k : Int) < (l.length : Int)) = false := decide_eq_false (by omega)
                have hR2 : R = otC14 c l := by rw [hR.out, e, List.take_length]
                have hownk := owns_below hown hbk
                have hink := hin.below hbk
                have hI0 := own_intI ho
                have hIN : IntsN wr (fun q => q < wr.heap.size ∧ (Value.slice AV K.length cV).ownBlock ≠ some q) (.slice Ar R.length cr) (otC14 c l) := by
                  rw [← hR2]
                  exact hI0.intsN fun q o' n' c' e' _ hq => ⟨hq, fun e2 => own_apart14 hownk ho (by decide) e2 (by rw [e']; rfl)⟩
                have hbm := hb.trans (hbk.mono hbs)
                have hone := hIN.one
                have hbms := hbm.size
                clear e hR hR2 hI0 hocH ho hown hin hbk z1
                go_wp2_with (at_builtin; refine wpList_append_own_at _ rfl _ _ 22 rfl w2.heap.size 38 j0 (.slice none 0 0) 1 24 Try.underlying22 hj0 jz0 jz1 jz2 rfl (by decide) _ _ _ rfl (hownk.alloc _) ⟨wr.heap.size, 0, none⟩ 1 1 [.slice Ar R.length cr] rfl rfl one_new13 (fun u hu => by rw [List.mem_singleton.1 hu]; rfl) ?c3 ?c4 ?c5 ?_)
                case c3 => unfold maxLen; omega
                case c4 => omega
                case c5 => first | omega | (simp; omega)
                intro v8 w8 ho8 hg8 _ hloc
                have hba := below_alloc1 wr (.cells #[.slice Ar R.length cr] 38 (0, 0))
                have hin8 := hink.push (V' := v8) (by omega) hIN hba hg8 (hloc.imp id (fun h => h.trans (by simp)))
                have hB8 := grown_below (hownk.alloc (.cells #[.slice Ar R.length cr] 38)) hg8 (hbm.alloc hbms _) (by omega) (by simp; omega)
                have ho8' : w8.ownsRow w2.heap.size 38 1 v8 (K ++ [otC14 c l]).length (vs ++ [.slice Ar R.length cr]) := by
                  rw [List.length_append]
                  exact ho8
                clear hg8 hloc ho8 hownk hink hIN hba hbm
                go_wp2
                go_roundw
                case rel => exact ⟨i + 1, K ++ [otC14 c l], _, by omega, by go_num, hK2, by rw [List.length_append, List.length_append]; simp; omega, by rw [List.length_append]; simp; omega, ho8', hin8, hB8⟩
                case measure => simp [intOf]; omega
          · have e : i = ls.length := by omega
            have hkd2 : decide ((i : Int) < (ls.length : Int)) = false := decide_eq_false (by omega)
            have hM := hin.mat hown
            have hC := own_cap14 hown
            have hM2 : Hid (MatAt wi wi.heap.size (.slice AV K.length cV) RL) := Lib.hid (by rw [hres.out.2, ← List.take_length (l := ls), ← e, ← hK.out]; exact hM)
            clear e hK hM hin hown hc
            go_wp2
            go_ret2
            exact ⟨_, by rw [hres.out.1]; rfl, hM2.out, hC, hBi⟩
    · have e : c = n := by omega
      have hkd : decide ((c : Int) < (n : Int)) = false := decide_eq_false (by omega)
      have hres := Lib.hid (hN.out fun d hd => hH.out d (by omega))
      clear HL hN hS hH hc e
      go_wp2
      go_ret2
      exact ⟨_, by rw [hres.out.1]; rfl, by rw [hres.out.2]; exact (hmat.out.below hbw).more hbw.size, hcapH.out, hbw⟩
end Go.Proofs.Ytjjpobpcpgcbaaa
namespace Go.Proofs.Ytjjpobpcpgcbaaa
open Go.RowKit Go.Joins

theorem IntsAt.oneC {w : World} {B : Nat} {v : Value} {l : List Int} (h : IntsAt w B v l) : v.oneCell' = true := by
  obtain ⟨A, c, rfl, -⟩ := h
  rfl
set_option maxRecDepth 100000 in
theorem appendMc {w : World} {B : Nat} {V v : Value} {xs l : List (List Int)} {vs : List Value} (ty : TypeId) (hown : w.ownsRow B 38 1 V xs.length vs) (hvl : vs.length = xs.length) (hin : RowsIn w V xs vs) (hB : B ≤ w.heap.size) (hz : MatAt w B v l) (h1 : xs.length ≤ 100000) (h2 : l.length ≤ 100000) :
    ∃ v' w' vs', (Builtin.append_ #[22, 22] ty #[V, v]).run Try.prog w = .ok v' w' ∧ w'.ownsRow B 38 1 v' (xs ++ l).length vs' ∧ vs'.length = (xs ++ l).length ∧ RowsIn w' v' (xs ++ l) vs' ∧ Below B w w' ∧ (∀ u, u ∈ vs' → u ∈ vs ∨ ∃ a n c j, v = .slice (some a) n c ∧ j < n ∧ w.cell? (a.add j) = some u) := by
  obtain ⟨j0, hj0, jz0, jz1, jz2⟩ := info_parts Try.infoInts
  obtain ⟨A, c, rfl, hl, hc⟩ := hz
  cases A with
  | none =>
    have h0 : l = [] := by
      cases l with
      | nil => rfl
      | cons x r => obtain ⟨b, off, e, _⟩ := hc (by simp); cases e
    subst h0
    refine ⟨V, w, vs, ?_, by rw [List.append_nil]; exact hown, by rw [List.append_nil]; exact hvl, by rw [List.append_nil]; exact hin, Below.refl _ _, fun u hu => .inl hu⟩
    rcases hown.2 with ⟨rfl, h⟩ | ⟨g, cap, cur, rfl, _, _, hnc, _⟩
    · simp [Builtin.append_, run_underlying Try.underlying22, sizeOf, typeInfo, hj0, Builtin.lenOf, Builtin.firstCells]
    · simp [Builtin.append_, run_underlying Try.underlying22, sizeOf, typeInfo, hj0, Builtin.lenOf, Builtin.firstCells, hnc, storeCells]
  | some a =>
    have each : ∀ j, j < l.length → ∃ u, w.cell? (a.add j) = some u ∧ IntsAt w B u (l.getD j []) := by
      intro j hj
      obtain ⟨b, off, e, hb, hcell⟩ := hc (by omega)
      injection e with e
      subst e
      obtain ⟨x, hx⟩ : ∃ x, l[j]? = some x := ⟨_, List.getElem?_eq_getElem hj⟩
      obtain ⟨ov, c0, hi⟩ := hcell j x hx
      exact ⟨ov, by rw [Addr.add_lit]; exact c0, by rw [List.getD_eq_getElem?_getD, hx]; exact hi⟩
    obtain ⟨F, hF⟩ := Go.Deep.choose_lt each
    have hus : ((List.range l.length).map F).length = l.length := by simp
    have hget : ∀ j u, ((List.range l.length).map F)[j]? = some u → j < l.length ∧ u = F j := by
      intro j u hu
      obtain ⟨h3, h4⟩ := List.getElem?_eq_some_iff.1 hu
      rw [hus] at h3
      refine ⟨h3, ?_⟩
      rw [← h4]
      simp
    obtain ⟨v', w', hrun, ho, hg, -, hat⟩ := run_append_own_at (P := Try.prog) w B 22 ty 38 j0 (.slice none 0 0) 1 24 Try.underlying22 hj0 jz0 jz1 jz2 rfl (by decide) V xs.length vs hown a l.length c ((List.range l.length).map F) (by rw [hus, Nat.mul_one])
      (fun j u hu => by
        obtain ⟨h3, rfl⟩ := hget j u hu
        exact (hF j h3).1)
      (fun u hu => by
        obtain ⟨j, hj⟩ := List.mem_iff_getElem?.1 hu
        obtain ⟨h3, rfl⟩ := hget j u hj
        exact (hF j h3).2.oneC) (by unfold maxLen; omega) (by omega) hB
    have hb : Below B w w' := (Below.refl B w).grown hg hB (fun k hk => (hown.lt k hk).1)
    refine ⟨v', w', vs ++ (List.range l.length).map F, hrun, by rw [List.length_append]; exact ho, by rw [List.length_append, List.length_append, hus, hvl], ?_, hb, fun u hu => (List.mem_append.1 hu).imp id fun hu => ?_⟩
    · intro j x hj
      rcases Nat.lt_or_ge j xs.length with hlt | hge
      · rw [List.getElem?_append_left hlt] at hj
        obtain ⟨u, hu, hi⟩ := hin j x hj
        refine ⟨u, by rw [List.getElem?_append_left (by omega)]; exact hu, hi.keep (fun b hN => hg.block b hN.1 (fun e => hN.2 e.symm)) (fun b hN => ⟨Nat.lt_of_lt_of_le hN.1 hg.size, fun e => ?_⟩)⟩
        rcases hat with h3 | h3
        · exact hN.2 (h3.symm.trans e)
        · rw [h3] at e
          injection e with e
          have := hN.1
          omega
      · rw [List.getElem?_append_right hge] at hj
        have hlj := (List.getElem?_eq_some_iff.1 hj).1
        have hi := (hF _ hlj).2
        rw [show l.getD (j - xs.length) [] = x by rw [List.getD_eq_getElem?_getD, hj]; rfl] at hi
        refine ⟨F (j - xs.length), by rw [List.getElem?_append_right (by omega), hvl, List.getElem?_map, List.getElem?_range hlj]; rfl, ?_⟩
        have hi2 : IntsN w (fun b => b < B) (F (j - xs.length)) x := hi.intsN fun b _ _ _ _ _ hb' => hb'
        refine hi2.keep (fun b hN => hb.block b hN) (fun b hN => ⟨Nat.lt_of_lt_of_le hN (Nat.le_trans hB hg.size), fun e => ?_⟩)
        have := (ho.lt b e).1
        omega
    · obtain ⟨j, hj⟩ := List.mem_iff_getElem?.1 hu
      obtain ⟨h3, rfl⟩ := hget j u hj
      exact ⟨a, _, _, j, rfl, h3, (hF j h3).1⟩
theorem appendM {w : World} {B : Nat} {V v : Value} {xs l : List (List Int)} {vs : List Value} (ty : TypeId) (hown : w.ownsRow B 38 1 V xs.length vs) (hvl : vs.length = xs.length) (hin : RowsIn w V xs vs) (hB : B ≤ w.heap.size) (hz : MatAt w B v l) (h1 : xs.length ≤ 100000) (h2 : l.length ≤ 100000) :
    ∃ v' w' vs', (Builtin.append_ #[22, 22] ty #[V, v]).run Try.prog w = .ok v' w' ∧ w'.ownsRow B 38 1 v' (xs ++ l).length vs' ∧ vs'.length = (xs ++ l).length ∧ RowsIn w' v' (xs ++ l) vs' ∧ Below B w w' := by
  obtain ⟨v', w', vs', h3, h4, h5, h6, h7, -⟩ := appendMc ty hown hvl hin hB hz h1 h2
  exact ⟨v', w', vs', h3, h4, h5, h6, h7⟩
/-- The head and the rest of a matrix. -/
theorem MatAt.head14 {w : World} {B n c : Nat} {A : Option Addr} {ls : List (List Int)} (h : MatAt w B (.slice A n c) ls) (i : Nat) (hi : i ≤ ls.length) : MatAt w B (.slice A i c) (ls.take i) := by
  obtain ⟨A', c', e, hl, hc⟩ := h
  injection e with e1 e2 e3
  subst e1
  subst e3
  have hlen : (ls.take i).length = i := by rw [List.length_take]; omega
  refine ⟨A, c, by rw [hlen], by omega, fun h0 => ?_⟩
  obtain ⟨b, off, eA, hB, hcell⟩ := hc (by omega)
  refine ⟨b, off, eA, hB, fun j l hj => ?_⟩
  rw [List.getElem?_take] at hj
  split at hj
  · exact hcell j l hj
  · cases hj
theorem MatAt.rest14 {w : World} {B n c b off : Nat} {ls : List (List Int)} (h : MatAt w B (.slice (some ⟨b, off, none⟩) n c) ls) (i m c' : Nat) (hm : m = ls.length - i) : MatAt w B (.slice (some ⟨b, off + i, none⟩) m c') (ls.drop i) := by
  obtain ⟨A', c2, e, hl, hc⟩ := h
  injection e with e1 e2 e3
  subst e1
  have hlen : (ls.drop i).length = m := by rw [List.length_drop]; omega
  refine ⟨_, c', by rw [hlen], by omega, fun h0 => ?_⟩
  rw [List.length_drop] at h0
  obtain ⟨b', off', eA, hB, hcell⟩ := hc (by omega)
  injection eA with eA
  injection eA with eb eo
  subst eb
  subst eo
  refine ⟨b, off + i, rfl, hB, fun j l hj => ?_⟩
  rw [List.getElem?_drop] at hj
  rw [Nat.add_assoc]
  exact hcell (i + j) l hj
end Go.Proofs.Ytjjpobpcpgcbaaa
