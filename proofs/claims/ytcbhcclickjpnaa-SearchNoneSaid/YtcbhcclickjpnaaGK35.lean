/- The document's own Greedy of layer 15. SearchBounds, over what the package answers. A set that comes in reads as 256 bits. -/
import Derived.Test.YtcbhcclickjpnaaGK34
import Derived.Test.YtcbhcclickjpnaaGK05
import Derived.Test.YtcbhcclickjpnaaGK04
import Derived.Test.YtcbhcclickjpnaaRows
import Derived.Test.YtcbhcclickjpnaaGK01
import Derived.ProofKit
import Derived.OpenShut
import Derived.Lib.SmallJoins
namespace Go.Proofs.Ytcbhcclickjpnaa
open Go.RowKit Go.Joins

/-- Flags are written: what reads as numbers, and as rows, reads so. -/
theorem IntsAt.offB {w w' : World} {B B' b : Nat} {v : Value} {l : List Int} (h : IntsAt w B v l) (hk : ∀ k, k < w.heap.size → k ≠ b → w'.heap[k]? = w.heap[k]?) (hb : ∀ (o : Nat) (u : Value), w.cell? ⟨b, o, none⟩ = some u → ∃ q, u = .bool q) (hB : B ≤ B') : IntsAt w' B' v l := by
  obtain ⟨A, c, e, hl, h⟩ := h
  refine ⟨A, c, e, hl, fun h0 => ?_⟩
  obtain ⟨g, off, eA, hg, hc⟩ := h h0
  refine ⟨g, off, eA, Nat.lt_of_lt_of_le hg hB, fun j x hx => ?_⟩
  have h1 := hc j x hx
  have hne : g ≠ b := fun e => by
    rw [e] at h1
    obtain ⟨q, hq⟩ := hb _ _ h1
    cases hq
  rw [World.cell?_of_block (w := w) (a := ⟨g, off + j, none⟩) (hk g (block_lt_of_cell h1) hne)]
  exact h1
theorem MatAt.offB {w w' : World} {B B' b : Nat} {v : Value} {ls : List (List Int)} (h : MatAt w B v ls) (hk : ∀ k, k < w.heap.size → k ≠ b → w'.heap[k]? = w.heap[k]?) (hb : ∀ (o : Nat) (u : Value), w.cell? ⟨b, o, none⟩ = some u → ∃ q, u = .bool q) (hB : B ≤ B') : MatAt w' B' v ls := by
  obtain ⟨A, c, e, hl, h⟩ := h
  refine ⟨A, c, e, hl, fun h0 => ?_⟩
  obtain ⟨g, off, eA, hg, hc⟩ := h h0
  refine ⟨g, off, eA, Nat.lt_of_lt_of_le hg hB, fun j l hx => ?_⟩
  obtain ⟨ov, h1, hi⟩ := hc j l hx
  have hne : g ≠ b := fun e => by
    rw [e] at h1
    obtain ⟨q, hq⟩ := hb _ _ h1
    subst hq
    obtain ⟨_, _, hv, _⟩ := hi
    cases hv
  refine ⟨ov, ?_, hi.offB hk hb hB⟩
  rw [World.cell?_of_block (w := w) (a := ⟨g, off + j, none⟩) (hk g (block_lt_of_cell h1) hne)]
  exact h1
theorem bol_all {w : World} {b n : Nat} {f : Nat → Bool} (h : w.heap[b]? = some (bolO n f)) : ∀ (o : Nat) (u : Value), w.cell? ⟨b, o, none⟩ = some u → ∃ q, u = .bool q := by
  intro o u hu
  unfold bolO at h
  rw [cell_of_block h] at hu
  unfold bolA at hu
  by_cases ho : o < n
  · simp [ho] at hu
    exact ⟨_, hu.symm⟩
  · simp [ho] at hu
theorem flg_succ (T : Int → Bool) (k : Nat) : flgL T (k + 1) = if T (k : Int) = true then flgL T k ++ [(k : Int)] else flgL T k := by
  unfold flgL
  rw [List.range_succ, List.filter_append, List.map_append]
  by_cases h : T (k : Int) = true <;> simp [h]
theorem flg_le (T : Int → Bool) (k : Nat) : (flgL T k).length ≤ k := by
  unfold flgL
  rw [List.length_map]
  exact Nat.le_trans (List.length_filter_le _ _) (by rw [List.length_range]; exact Nat.le_refl _)
theorem grd_step {n : Nat} {T : Int → Bool} {K : List (List Int)} (hl : ∀ r, r ∈ K → ∀ c, c ∈ r → 0 ≤ c ∧ c < n) (hb : bareB K = false) (hne : K ≠ []) :
    grdP n ((tkR K ((mstC K n : Nat) : Int)).length + 1) (fun x => T x || decide (x = ((mstC K n : Nat) : Int))) (tkR K ((mstC K n : Nat) : Int)) = grdP n (K.length + 1) T K := by
  have hlt := (grd_less hl hb hne).1
  have e : grdP n (K.length + 1) T K = grdP n K.length (fun x => T x || decide (x = ((mstC K n : Nat) : Int))) (tkR K ((mstC K n : Nat) : Int)) := by
    rw [grdP, if_neg hne]
  rw [e]
  exact grd_fuel _ _ _ _ (Nat.lt_succ_self _) hlt (tkR_low hl _) (bare_tk hb _)
set_option maxHeartbeats 8000000 in
set_option maxRecDepth 100000 in
theorem rgreedy15_any (v : Value) (ls : List (List Int)) (n : Nat) (hn : n ≤ 100) (hls : ls.length ≤ 100) (hlow : ∀ r, r ∈ ls → ∀ c, c ∈ r → 0 ≤ c ∧ c < n) (hbare : bareB ls = false) (w : World) (hz : MatAt w w.heap.size v ls) :
    Calls Try.prog 14 #[v, .int .i64 n] w fun e w' => ∃ u, e = .returned u ∧ IntsAt w' w'.heap.size u (flgL (grdT n ls) n) ∧ Below w.heap.size w w' := by
  have hmk := fun w => make_bols n (by omega) w
  obtain ⟨j0, hj0, jz0, jz1, jz2⟩ := info_parts Try.infoInts
  obtain ⟨i0, hi0, hz0, hz1, hz2⟩ := info_parts Try.infoInt
  have hba0 := below_alloc1 w (bolO n fun _ => false)
  have ht0 := heap_alloc_new w (bolO n fun _ => false)
  have hM0 := (hz.below hba0).more hba0.size
  have hG0 : Hid (grdP n (ls.length + 1) (fun _ => false) ls = grdT n ls) := Lib.hid rfl
  have hlo0 := Lib.hid hlow
  have hbr0 := Lib.hid hbare
  have hfs := Lib.hid (fun k => flg_succ (grdT n ls) k)
  have hfl := Lib.hid (fun k => flg_le (grdT n ls) k)
  have hf0 : Hid (flgL (grdT n ls) 0 = []) := Lib.hid rfl
  have hmx0 : Hid (∀ K : List (List Int), mstC K 0 = 0) := Lib.hid (fun _ => rfl)
  have hmxs : Hid (∀ (K : List (List Int)) (k : Nat), mstC K (k + 1) = if cntC K (mstC K k) < cntC K k then k else mstC K k) := Lib.hid (fun _ _ => rfl)
  have hstp := Lib.hid (fun (K : List (List Int)) (c : Int) (k : Nat) (l : List Int) (h : K[k]? = some l) => tkR_take (c := c) h)
  have hlenK := Lib.hid (fun (K : List (List Int)) (c : Int) (k : Nat) => tkR_len K c k)
  have hgs := Lib.hid (fun (T : Int → Bool) (K : List (List Int)) hl hb hne => grd_step (n := n) (T := T) (K := K) hl hb hne)
  have hnil : Hid (∀ T : Int → Bool, grdP n 1 T [] = T) := Lib.hid (fun T => by rw [grdP, if_pos rfl])
  obtain ⟨A, cp, rfl, hl, hc⟩ := hz
  clear hlow hbare hl hc
  go_enter Try.func14, Try.ntmps14
  go_wp2
  go_loopw [0, 6, 7, 8, 9] (fun V _ _ _ _ wr => ∃ (T : Int → Bool) (K : List (List Int)), K.length ≤ ls.length ∧ Hid (grdP n (K.length + 1) T K = grdT n ls) ∧ Hid (∀ r, r ∈ K → ∀ c, c ∈ r → 0 ≤ c ∧ c < n) ∧ Hid (bareB K = false) ∧ MatAt wr wr.heap.size V K ∧
    wr.heap[w.heap.size]? = some (bolO n fun c => T (c : Int)) ∧ Below w.heap.size w wr) (fun V _ _ _ _ _ => lenV V)
  case atStart => exact ⟨fun _ => false, ls, Nat.le_refl _, hG0, hlo0, hbr0, hM0, ht0, hba0⟩
  case round =>
    clear hba0 ht0 hM0 hG0 hlo0 hbr0
    obtain ⟨T, K, hKl, hG, hlo, hba, hM, ht, hb⟩ := hrel
    obtain ⟨AV, cV, rfl, -, -⟩ := id hM
    by_cases hK0 : 0 < K.length
    · have hne : K ≠ [] := fun e => by rw [e] at hK0; exact absurd hK0 (Nat.lt_irrefl _)
      have hless := grd_less hlo.out hba.out hne
      have hbN := hless.2
      have hlt := hless.1
      have hG2 := Lib.hid ((hgs.out T K hlo.out hba.out hne).trans hG.out)
      have hlo2 := Lib.hid (tkR_low hlo.out ((mstC K n : Nat) : Int))
      have hba2 := Lib.hid (bare_tk hba.out ((mstC K n : Nat) : Int))
      have hw := Lib.hid hb.size
      have hMH := Lib.hid hM
      clear hG hlo hba hless hne hgs hnil
      go_wp2
      go_loopw [6, 7] (fun a t wj => ∃ c : Nat, c ≤ n ∧ t = .int .i64 c ∧ a = .int .i64 (mstC K c : Nat) ∧ Below wr.heap.size wr wj) (fun _ t _ => n - (intOf t).toNat)
      case atStart => exact ⟨0, by omega, rfl, by rw [hmx0.out]; rfl, Below.refl _ _⟩
      case round =>
        obtain ⟨c, hcn, rfl, rfl, hb2⟩ := hrel
        by_cases hcl : c < n
        · have HM1 := rmany15_any _ K c (by omega) wr ((hMH.out.below hb2).more hb2.size)
          have hst := Lib.hid (hmxs.out K c)
          have hcli : (c : Int) < (n : Int) := by omega
          generalize mstC K c = d at *
          have HM2 := fun w1 (h : Below wr.heap.size wr w1) => rmany15_any _ K d (by omega) w1 ((hMH.out.below (hb2.trans (h.mono hb2.size))).more (hb2.trans (h.mono hb2.size)).size)
          generalize cntC K c = p at *
          generalize cntC K d = q at *
          go_wp2_with fail
          refine HM1.mono ?_
          rintro e w1 ⟨rfl, hb3⟩
          have H2 := HM2 w1 hb3
          clear HM1 HM2
          go_wp2_with fail
          refine H2.mono ?_
          rintro e w2 ⟨rfl, hb4⟩
          have hB := hb2.trans ((hb3.trans (hb4.mono hb3.size)).mono hb2.size)
          clear H2 hb3 hb4
          by_cases hpq : q < p
          · have hd : Hid (mstC K (c + 1) = c) := Lib.hid (by rw [hst.out, if_pos hpq])
            have hpi : (q : Int) < (p : Int) := by omega
            clear hst
            go_wp2
            go_roundw
            case rel => exact ⟨c + 1, by omega, by go_num, by rw [hd.out], hB⟩
            case measure => simp [intOf]; omega
          · have hd : Hid (mstC K (c + 1) = d) := Lib.hid (by rw [hst.out, if_neg hpq])
            have hpi : ¬ (q : Int) < (p : Int) := by omega
            clear hst
            go_wp2
            go_roundw
            case rel => exact ⟨c + 1, by omega, by go_num, by rw [hd.out], hB⟩
            case measure => simp [intOf]; omega
        · have e : c = n := by omega
          subst e
          have hbw := hb.trans (hb2.mono hw.out)
          have ht2 := keep_blk hb2 ht
          have hM2 := (hMH.out.below hb2).more hb2.size
          obtain ⟨q0, q1⟩ := bol_cell ht2 hbN
          generalize hbest : mstC K c = best at *
          clear hbest
          have b0 : (0 : Int) ≤ (best : Int) := by omega
          have b1 : (best : Int) < (c : Int) := by omega
          have ht3 : (wr.setCell ⟨w.heap.size, best, none⟩ (.bool true)).heap[w.heap.size]? = some (bolO c fun d => (fun x => T x || decide (x = (best : Int))) (d : Int)) := by
            unfold bolO at ht2 ⊢
            rw [block_setCell ht2, bolA_set]
            have e : (fun j : Nat => if j = best then true else T (j : Int)) = fun d : Nat => (fun x => T x || decide (x = (best : Int))) (d : Int) := by
              funext d
              by_cases e : d = best
              · simp [e]
              · have : ¬ (d : Int) = (best : Int) := by omega
                simp [e, this]
            rw [e]
          have hM3 : MatAt (wr.setCell ⟨w.heap.size, best, none⟩ (.bool true)) (wr.setCell ⟨w.heap.size, best, none⟩ (.bool true)).heap.size _ K := hM2.offB (b := w.heap.size) (fun k _ hk => Below.heap_setCell _ _ _ _ hk) (bol_all ht2) (by simp)
          have hb3 := hbw.setCell (p := ⟨w.heap.size, best, none⟩) (Nat.le_refl _) (.bool true)
          clear ht2 hM2 hbw hb2 hMH ht hb hM hmxs hmx0
          go_wp2
          generalize wr.setCell _ _ = W2 at *
          have hM4 := Lib.hid hM3
          obtain ⟨A4, c4, e4, -, hc4⟩ := hM3
          injection e4 with e4 eN e4c
          clear eN
          subst e4
          subst e4c
          have hst1 := Lib.hid (hstp.out K best)
          have hle1 := Lib.hid (hlenK.out K best)
          clear hstp hlenK
          go_loopw [8, 9] (fun R t wj => ∃ (k : Nat) (Q : List (List Int)) (vs : List Value), k ≤ K.length ∧ t = .int .i64 k ∧ Hid (Q = tkR (K.take k) best) ∧ vs.length = Q.length ∧ wj.ownsRow W2.heap.size 30 1 R Q.length vs ∧ RowsIn wj R Q vs ∧ Below W2.heap.size W2 wj) (fun _ t _ => K.length - (intOf t).toNat)
          case atStart => exact ⟨0, [], [], by omega, rfl, Lib.hid rfl, rfl, World.ownsRow_nil _ _ _ _, RowsIn.nil _ _, Below.refl _ _⟩
          case round =>
            obtain ⟨k, Q, vs, hk, rfl, hQ, hvl, hown, hin, hbk⟩ := hrel
            obtain ⟨AQ, cQ, rfl⟩ := own_form hown
            have hbs := hbk.size
            by_cases hkl : k < K.length
            · obtain ⟨b, off, rfl, hB, hcell⟩ := hc4 (by omega)
              obtain ⟨l, hl2⟩ : ∃ l, K[k]? = some l := ⟨_, List.getElem?_eq_getElem hkl⟩
              obtain ⟨ov, z2, hov⟩ := hcell k l hl2
              have d0 := (hbk.cell (p := ⟨b, off + k, none⟩) hB).trans z2
              have HI := rin14_any ov l best wr ((hov.below hbk).more hbs)
              have hs := Lib.hid (hst1.out k l hl2)
              have hQl : Q.length ≤ k := by rw [hQ.out]; exact hle1.out k
              have hIN : IntsN wr (fun b => b < wr.heap.size ∧ (Value.slice AQ Q.length cQ).ownBlock ≠ some b) ov l := (hov.below hbk).intsN fun b off n c _ _ hb' => ⟨by omega, fun e => by have := (hown.lt b e).1; omega⟩
              obtain ⟨A5, c5, rfl, -, -⟩ := hov
              have k0 : (0 : Int) ≤ (k : Int) := by omega
              have k1 : (k : Int) < (K.length : Int) := by omega
              clear hcell hl2 hc4 z2 hst1 hle1
              by_cases hm : (best : Int) ∈ l
              · have hQ2 : Hid (Q = tkR (K.take (k + 1)) best) := Lib.hid (by rw [hs.out, if_pos hm, hQ.out])
                rw [decide_eq_true hm] at HI
                clear hs hm hQ hIN
                go_wp2_with fail
                refine HI.mono ?_
                rintro e w1 ⟨rfl, hb1⟩
                have hown3 := owns_below hown hb1
                have hin3 := hin.below hb1
                have hbk3 := hbk.trans (hb1.mono hbs)
                clear HI hown hin hb1 hbk
                go_wp2
                go_roundw
                case rel => exact ⟨k + 1, Q, vs, by omega, by go_num, hQ2, hvl, hown3, hin3, hbk3⟩
                case measure => simp [intOf]; omega
              · have hQ2 : Hid (Q ++ [l] = tkR (K.take (k + 1)) best) := Lib.hid (by rw [hs.out, if_neg hm, hQ.out])
                rw [decide_eq_false hm] at HI
                clear hs hm hQ
                go_wp2_with fail
                refine HI.mono ?_
                rintro e w1 ⟨rfl, hb1⟩
                have hown3 := owns_below hown hb1
                have hin3 := hin.below hb1
                have hIN3 : IntsN w1 (fun b => b < w1.heap.size ∧ (Value.slice AQ Q.length cQ).ownBlock ≠ some b) _ l := hIN.keep (fun b h => hb1.block b h.1) (fun b h => ⟨Nat.lt_of_lt_of_le h.1 hb1.size, h.2⟩)
                have hbk3 := hbk.trans (hb1.mono hbs)
                have d1 := (hb1.cell (p := ⟨b, off + k, none⟩) (by show b < wr.heap.size; omega)).trans d0
                have hbs3 := hbk3.size
                clear HI hown hin hb1 hbk hIN d0
                go_wp2_with (at_builtin; refine wpList_append_own_at _ rfl _ _ 22 rfl W2.heap.size 30 j0 (.slice none 0 0) 1 24 Try.underlying22 hj0 jz0 jz1 jz2 rfl (by decide) _ _ _ rfl (hown3.alloc _) ⟨w1.heap.size, 0, none⟩ 1 1 [.slice A5 l.length c5] rfl rfl one_new13 (fun u hu => by rw [List.mem_singleton.1 hu]; rfl) ?c3 ?c4 ?c5 ?_)
                case c3 => unfold maxLen; omega
                case c4 => omega
                case c5 => first | omega | (simp; omega)
                intro v8 w8 ho8 hg8 _ hloc
                have hba := below_alloc1 w1 (.cells #[.slice A5 l.length c5] 30 (0, 0))
                have hin8 := hin3.push (V' := v8) (by omega) hIN3 hba hg8 (hloc.imp id (fun h => h.trans (by simp)))
                have hB8 := grown_below (hown3.alloc (.cells #[.slice A5 l.length c5] 30)) hg8 (hbk3.alloc hbs3 _) (by omega) (by simp; omega)
                have ho8' : w8.ownsRow W2.heap.size 30 1 v8 (Q ++ [l]).length (vs ++ [.slice A5 l.length c5]) := by
                  rw [List.length_append]
                  exact ho8
                clear hg8 hloc ho8 hown3 hin3 hIN3 hba hbk3
                go_wp2
                go_roundw
                case rel => exact ⟨k + 1, Q ++ [l], _, by omega, by go_num, hQ2, by rw [List.length_append, List.length_append]; simp; omega, ho8', hin8, hB8⟩
                case measure => simp [intOf]; omega
            · have e : k = K.length := by omega
              have hkd : decide ((k : Int) < (K.length : Int)) = false := decide_eq_false (by omega)
              have hQ2 : Hid (Q = tkR K best) := Lib.hid (by rw [hQ.out, e, List.take_length])
              have hMQ := hin.mat hown
              have ht5 := keep_blk hbk ht3
              have hb5 := hb3.trans (hbk.mono hb3.size)
              have hQl : Q.length < K.length := by rw [hQ2.out]; exact hlt
              have hG3 : Hid (grdP c (Q.length + 1) (fun x => T x || decide (x = (best : Int))) Q = grdT c ls) := Lib.hid (by rw [hQ2.out]; exact hG2.out)
              have hlo3 : Hid (∀ r, r ∈ Q → ∀ d, d ∈ r → 0 ≤ d ∧ d < c) := Lib.hid (by rw [hQ2.out]; exact hlo2.out)
              have hba3 : Hid (bareB Q = false) := Lib.hid (by rw [hQ2.out]; exact hba2.out)
              clear hc4 hst1 hle1 hQ hin hown hQ2 e hbk hlt hG2 hlo2 hba2 ht3 hb3 hM4
              go_wp2
              go_roundw
              case rel => exact ⟨_, Q, by omega, hG3, hlo3, hba3, hMQ, ht5, hb5⟩
              case measure => simp [lenV]; omega
    · have e : K = [] := List.eq_nil_of_length_eq_zero (by omega)
      subst e
      have hT : T = grdT n ls := (hnil.out T).symm.trans hG.out
      subst hT
      have hwH := Lib.hid hb.size
      clear hG hlo hba hM hmx0 hmxs hstp hlenK hgs hnil hK0
      simp only [List.length_nil]
      go_wp2
      rename World => wi
      go_loopw [10, 11] (fun R t wj => ∃ k : Nat, k ≤ n ∧ t = .int .i64 k ∧ wj.ownsRow wi.heap.size 3 1 R (flgL (grdT n ls) k).length (intI (flgL (grdT n ls) k)) ∧ Below wi.heap.size wi wj) (fun _ t _ => n - (intOf t).toNat)
      case atStart => exact ⟨0, by omega, rfl, by rw [hf0.out]; exact World.ownsRow_nil _ _ _ _, Below.refl _ _⟩
      case round =>
        obtain ⟨k, hk, rfl, hown, hb2⟩ := hrel
        have hbw := hb.trans (hb2.mono hwH.out)
        have ht2 := keep_blk hb2 ht
        by_cases hkn : k < n
        · obtain ⟨q0, q1⟩ := bol_cell ht2 hkn
          have k0 : (0 : Int) ≤ (k : Int) := by omega
          have k1 : (k : Int) < (n : Int) := by omega
          have hst := Lib.hid (hfs.out k)
          have hlk := hfl.out k
          have hs := hb2.size
          generalize hR : flgL (grdT n ls) k = R at *
          cases hq : grdT n ls (k : Int)
          · have h2 : Hid (flgL (grdT n ls) (k + 1) = R) := Lib.hid (by rw [hst.out, hq]; simp)
            rw [hq] at q0
            clear hst hq hR
            go_wp2
            go_roundw
            case rel => exact ⟨k + 1, by omega, by go_num, by rw [h2.out]; exact hown, hb2⟩
            case measure => simp [intOf]; omega
          · have h2 : Hid (flgL (grdT n ls) (k + 1) = R ++ [(k : Int)]) := Lib.hid (by rw [hst.out, hq]; simp)
            rw [hq] at q0
            clear hst hq hR
            go_wp2_with (at_builtin; refine wpList_append_own_at _ rfl _ _ 30 rfl wi.heap.size 3 i0 (.int .i64 0) 1 8 Try.underlying30 hi0 hz0 hz1 hz2 rfl (by decide) _ _ _ rfl (hown.alloc _) ⟨wr.heap.size, 0, none⟩ 1 1 [.int .i64 (k : Int)] rfl rfl one_new13 (fun u hu => by rw [List.mem_singleton.1 hu]; rfl) ?c3 ?c4 ?c5 ?_)
            case c3 => unfold maxLen; omega
            case c4 => omega
            case c5 => simp; omega
            intro v8 w8 ho8 hg8 _ _
            have hB8 := grown_below (hown.alloc (.cells #[.int .i64 (k : Int)] 3)) hg8 (hb2.alloc hb2.size _) (Nat.le_refl _) (by simp; omega)
            have ho8' := ho8
            rw [show intI R ++ [.int .i64 (k : Int)] = intI (R ++ [(k : Int)]) by unfold intI; rw [List.map_append]; rfl, show R.length + 1 = (R ++ [(k : Int)]).length by simp, ← h2.out] at ho8'
            clear hg8 hown ho8 h2
            go_wp2
            go_roundw
            case rel => exact ⟨k + 1, by omega, by go_num, ho8', hB8⟩
            case measure => simp [intOf]; omega
        · have e : k = n := by omega
          subst e
          have hI := own_intI hown
          obtain ⟨AR, cR, rfl⟩ := own_form hown
          clear hown ht2 hfs hfl hf0
          go_wp2
          go_ret
          exact ⟨_, rfl, hI, hbw⟩
end Go.Proofs.Ytcbhcclickjpnaa
namespace Go.Proofs.Ytcbhcclickjpnaa
open Go.RowKit Go.Joins

set_option maxHeartbeats 8000000 in
set_option maxRecDepth 100000 in
theorem bounds15_great (HK : Knows15) (n : Int) (L : Value) (ls : List (List Int)) (w : World) (hL : MatAt w w.heap.size L ls) (hg : gr14 n ls = true) :
    Calls Try.prog 3 #[mtv n L] w fun e w' => e = .returned (.bool true) ∧ Below w.heap.size w w' := by
  have hB0 := below_alloc1 w (mtb n L)
  have hbu : (w.alloc (mtb n L)).heap[w.heap.size]? = some (mtb n L) := heap_alloc_new _ _
  have HG := great15_any n L ls _ ((hL.below hB0).more hB0.size)
  rw [hg] at HG
  obtain ⟨A, c, rfl, hlen, -⟩ := hL
  unfold mtb at hB0 hbu HG
  unfold mtv at *
  obtain ⟨u0, u1, -⟩ := now2 hbu rfl
  clear hg
  go_enter Try.func3, Try.ntmps3
  go_wp2_with fail
  refine HG.mono ?_
  rintro e w1 ⟨rfl, hb⟩
  have hB1 := hB0.trans (hb.mono hB0.size)
  clear HG hb
  go_wp2_with fail
  refine (HK _).mono ?_
  rintro e w2 ⟨rfl, hb⟩
  go_wp2
  go_ret
  exact ⟨rfl, hB1.trans (hb.mono hB1.size)⟩
set_option maxHeartbeats 8000000 in
set_option maxRecDepth 100000 in
theorem bounds15_bad (HK : Knows15) (HB0 : BoundBad) (HG0 : GreedyBad) (n : Int) (L : Value) (ls : List (List Int)) (w : World) (hL : MatAt w w.heap.size L ls) (hcap : CapM w L) (hg : gr14 n ls = false) (hr : rightM n ls = false) :
    Calls Try.prog 3 #[mtv n L] w fun e w' => e = .returned (.bool true) ∧ Below w.heap.size w w' := by
  have hB0 := below_alloc1 w (mtb n L)
  have hbu : (w.alloc (mtb n L)).heap[w.heap.size]? = some (mtb n L) := heap_alloc_new _ _
  have HG := great15_any n L ls _ ((hL.below hB0).more hB0.size)
  have C1 := fun W (hb : Below w.heap.size w W) => HB0 n L ls W ((hL.below hb).more hb.size) (hcap.below hb) hg hr
  have C2 := fun W (hb : Below w.heap.size w W) => HG0 n L ls W ((hL.below hb).more hb.size) (hcap.below hb) hg hr
  have C3 := fun W (hb : Below w.heap.size w W) => rright13_any W L n ls ((hL.below hb).more hb.size)
  rw [hr] at C3
  rw [hg] at HG
  obtain ⟨A, c, rfl, hlen, -⟩ := hL
  unfold mtb at hB0 hbu HG
  unfold mtv at *
  obtain ⟨u0, u1, -⟩ := now2 hbu rfl
  clear hg hr
  go_enter Try.func3, Try.ntmps3
  go_wp2_with fail
  refine HG.mono ?_
  rintro e w1 ⟨rfl, hb⟩
  have hB1 := hB0.trans (hb.mono hB0.size)
  replace hbu := keep_blk hb hbu
  clear u0 u1 HG hb hB0
  obtain ⟨u0, u1, -⟩ := now2 hbu rfl
  have D := C1 _ hB1
  go_wp2_with fail
  refine D.mono ?_
  rintro e w2 ⟨rfl, hb⟩
  have hB2 := hB1.trans (hb.mono hB1.size)
  replace hbu := keep_blk hb hbu
  clear u0 u1 D C1 hb hB1
  obtain ⟨u0, u1, -⟩ := now2 hbu rfl
  have D := C2 _ hB2
  go_wp2_with fail
  refine D.mono ?_
  rintro e w3 ⟨A', c', rfl, hb⟩
  have hB3 := hB2.trans (hb.mono hB2.size)
  replace hbu := keep_blk hb hbu
  clear u0 u1 D C2 hb hB2
  obtain ⟨u0, u1, -⟩ := now2 hbu rfl
  have D := C3 _ hB3
  go_wp2_with fail
  refine D.mono ?_
  rintro e w4 ⟨rfl, hb⟩
  have hB4 := hB3.trans (hb.mono hB3.size)
  clear u0 u1 D C3 hb hB3 hbu
  go_wp2_with fail
  refine (HK _).mono ?_
  rintro e w5 ⟨rfl, hb⟩
  go_wp2
  go_ret
  exact ⟨rfl, hB4.trans (hb.mono hB4.size)⟩
set_option maxHeartbeats 8000000 in
set_option maxRecDepth 100000 in
theorem bounds15_bare (HK : Knows15) (HB : BoundGood) (HG1 : GreedyBare) (n : Nat) (L : Value) (ls : List (List Int)) (w : World) (hL : MatAt w w.heap.size L ls) (hcap : CapM w L) (hg : gr14 n ls = false) (hr : rightM n ls = true) (hbr : bareB ls = true) :
    Calls Try.prog 3 #[mtv n L] w fun e w' => e = .returned (.bool true) ∧ Below w.heap.size w w' := by
  have hn30 : n ≤ 30 := by have h1 := (gr14_no hg).2.2; have h2 := (right_iff.1 hr).2.1; omega
  have hB0 := below_alloc1 w (mtb n L)
  have hbu : (w.alloc (mtb n L)).heap[w.heap.size]? = some (mtb n L) := heap_alloc_new _ _
  have HG := great15_any n L ls _ ((hL.below hB0).more hB0.size)
  have C1 := fun W (hb : Below w.heap.size w W) => HB n L ls W ((hL.below hb).more hb.size) (hcap.below hb) hg hr
  have C2 := fun W (hb : Below w.heap.size w W) => HG1 n L ls W ((hL.below hb).more hb.size) (hcap.below hb) hg hr hbr
  have C3 := fun W (hb : Below w.heap.size w W) => rright13_any W L n ls ((hL.below hb).more hb.size)
  have C4 := fun W (hb : Below w.heap.size w W) => rbound15_any L ls (gr14_no hg).2.1 (right_lens hr (by omega)) W ((hL.below hb).more hb.size)
  have C5 := fun W (hb : Below w.heap.size w W) => rbare15_any L ls W ((hL.below hb).more hb.size)
  rw [hr] at C3
  rw [hbr] at C5
  rw [hg] at HG
  generalize boundL ls = bd at *
  have hbd : ((bd : Int) != (bd : Int)) = false := by simp
  obtain ⟨A, c, rfl, hlen, -⟩ := hL
  unfold mtb at hB0 hbu HG
  unfold mtv at *
  obtain ⟨u0, u1, -⟩ := now2 hbu rfl
  clear hg hr hbr
  go_enter Try.func3, Try.ntmps3
  go_wp2_with fail
  refine HG.mono ?_
  rintro e w1 ⟨rfl, hb⟩
  have hB1 := hB0.trans (hb.mono hB0.size)
  replace hbu := keep_blk hb hbu
  clear u0 u1 HG hb hB0
  obtain ⟨u0, u1, -⟩ := now2 hbu rfl
  have D := C1 _ hB1
  go_wp2_with fail
  refine D.mono ?_
  rintro e w2 ⟨rfl, hb⟩
  have hB2 := hB1.trans (hb.mono hB1.size)
  replace hbu := keep_blk hb hbu
  clear u0 u1 D C1 hb hB1
  obtain ⟨u0, u1, -⟩ := now2 hbu rfl
  have D := C2 _ hB2
  go_wp2_with fail
  refine D.mono ?_
  rintro e w3 ⟨A', c', rfl, hb⟩
  have hB3 := hB2.trans (hb.mono hB2.size)
  replace hbu := keep_blk hb hbu
  clear u0 u1 D C2 hb hB2
  obtain ⟨u0, u1, -⟩ := now2 hbu rfl
  have D := C3 _ hB3
  go_wp2_with fail
  refine D.mono ?_
  rintro e w4 ⟨rfl, hb⟩
  have hB4 := hB3.trans (hb.mono hB3.size)
  replace hbu := keep_blk hb hbu
  clear u0 u1 D C3 hb hB3
  obtain ⟨u0, u1, -⟩ := now2 hbu rfl
  have D := C4 _ hB4
  go_wp2_with fail
  refine D.mono ?_
  rintro e w5 ⟨rfl, hb⟩
  have hB5 := hB4.trans (hb.mono hB4.size)
  replace hbu := keep_blk hb hbu
  clear u0 u1 D C4 hb hB4
  obtain ⟨u0, u1, -⟩ := now2 hbu rfl
  have D := C5 _ hB5
  go_wp2_with fail
  refine D.mono ?_
  rintro e w6 ⟨rfl, hb⟩
  have hB6 := hB5.trans (hb.mono hB5.size)
  clear u0 u1 D C5 hb hB5 hbu
  go_wp2_with fail
  refine (HK _).mono ?_
  rintro e w7 ⟨rfl, hb⟩
  go_wp2
  go_ret
  exact ⟨rfl, hB6.trans (hb.mono hB6.size)⟩
set_option maxHeartbeats 8000000 in
set_option maxRecDepth 100000 in
theorem bounds15_good (HK : Knows15) (HB : BoundGood) (HG2 : GreedyGood) (HS : SolvesV) (n : Nat) (L : Value) (ls : List (List Int)) (w : World) (hL : MatAt w w.heap.size L ls) (hcap : CapM w L) (hg : gr14 n ls = false) (hr : rightM n ls = true) (hbr : bareB ls = false) :
    Calls Try.prog 3 #[mtv n L] w fun e w' => e = .returned (.bool true) ∧ Below w.heap.size w w' := by
  have hn30 : n ≤ 30 := by have h1 := (gr14_no hg).2.2; have h2 := (right_iff.1 hr).2.1; omega
  have hB0 := below_alloc1 w (mtb n L)
  have hbu : (w.alloc (mtb n L)).heap[w.heap.size]? = some (mtb n L) := heap_alloc_new _ _
  have HG := great15_any n L ls _ ((hL.below hB0).more hB0.size)
  have C1 := fun W (hb : Below w.heap.size w W) => HB n L ls W ((hL.below hb).more hb.size) (hcap.below hb) hg hr
  have C2 := fun W (hb : Below w.heap.size w W) => HG2 n L ls W ((hL.below hb).more hb.size) (hcap.below hb) hg hr hbr
  have C3 := fun W (hb : Below w.heap.size w W) => rright13_any W L n ls ((hL.below hb).more hb.size)
  have C4 := fun W (hb : Below w.heap.size w W) => rbound15_any L ls (gr14_no hg).2.1 (right_lens hr (by omega)) W ((hL.below hb).more hb.size)
  have C5 := fun W (hb : Below w.heap.size w W) => rbare15_any L ls W ((hL.below hb).more hb.size)
  have C6 := fun W (hb : Below w.heap.size w W) => rgreedy15_any L ls n (by omega) (Nat.le_trans (gr14_no hg).2.1 (by decide)) (right_low15 hr) hbr W ((hL.below hb).more hb.size)
  have C7 := fun u W (hb : Below w.heap.size w W) hu => HS n L u ls (flgL (grdT n ls) n) W ((hL.below hb).more hb.size) hu
  have hsol := flg_sol (right_low15 hr) (grd_solves (right_low15 hr) hbr)
  rw [hr, hsol] at C7
  rw [hr] at C3
  rw [hbr] at C5
  rw [hg] at HG
  generalize flgL (grdT n ls) n = G at *
  generalize boundL ls = bd at *
  have hbd : ((bd : Int) != (bd : Int)) = false := by simp
  obtain ⟨A, c, rfl, hlen, -⟩ := hL
  unfold mtb at hB0 hbu HG
  unfold mtv at *
  obtain ⟨u0, u1, -⟩ := now2 hbu rfl
  clear hg hr hbr hsol
  go_enter Try.func3, Try.ntmps3
  go_wp2_with fail
  refine HG.mono ?_
  rintro e w1 ⟨rfl, hb⟩
  have hB1 := hB0.trans (hb.mono hB0.size)
  replace hbu := keep_blk hb hbu
  clear u0 u1 HG hb hB0
  obtain ⟨u0, u1, -⟩ := now2 hbu rfl
  have D := C1 _ hB1
  go_wp2_with fail
  refine D.mono ?_
  rintro e w2 ⟨rfl, hb⟩
  have hB2 := hB1.trans (hb.mono hB1.size)
  replace hbu := keep_blk hb hbu
  clear u0 u1 D C1 hb hB1
  obtain ⟨u0, u1, -⟩ := now2 hbu rfl
  have D := C2 _ hB2
  go_wp2_with fail
  refine D.mono ?_
  rintro e w3 ⟨u, rfl, hu, hb⟩
  have hB3 := hB2.trans (hb.mono hB2.size)
  replace hbu := keep_blk hb hbu
  obtain ⟨Au, cu, rfl, -, -⟩ := id hu
  clear u0 u1 D C2 hb hB2
  obtain ⟨u0, u1, -⟩ := now2 hbu rfl
  have D := C3 _ hB3
  go_wp2_with fail
  refine D.mono ?_
  rintro e w4 ⟨rfl, hb⟩
  have hB4 := hB3.trans (hb.mono hB3.size)
  replace hbu := keep_blk hb hbu
  replace hu := (hu.below hb).more hb.size
  clear u0 u1 D C3 hb hB3
  obtain ⟨u0, u1, -⟩ := now2 hbu rfl
  have D := C4 _ hB4
  go_wp2_with fail
  refine D.mono ?_
  rintro e w5 ⟨rfl, hb⟩
  have hB5 := hB4.trans (hb.mono hB4.size)
  replace hbu := keep_blk hb hbu
  replace hu := (hu.below hb).more hb.size
  clear u0 u1 D C4 hb hB4
  obtain ⟨u0, u1, -⟩ := now2 hbu rfl
  have D := C5 _ hB5
  go_wp2_with fail
  refine D.mono ?_
  rintro e w6 ⟨rfl, hb⟩
  have hB6 := hB5.trans (hb.mono hB5.size)
  replace hbu := keep_blk hb hbu
  replace hu := (hu.below hb).more hb.size
  clear u0 u1 D C5 hb hB5
  obtain ⟨u0, u1, -⟩ := now2 hbu rfl
  have D := C6 _ hB6
  go_wp2_with fail
  refine D.mono ?_
  rintro e w7 ⟨v, rfl, hv, hb⟩
  have hB7 := hB6.trans (hb.mono hB6.size)
  replace hbu := keep_blk hb hbu
  replace hu := (hu.below hb).more hb.size
  obtain ⟨Av, cv, rfl, -, -⟩ := id hv
  clear u0 u1 D C6 hb hB6
  obtain ⟨u0, u1, -⟩ := now2 hbu rfl
  have D := rsame13_any w7 _ _ _ _ hu hv
  rw [decide_eq_true rfl] at D
  go_wp2_with fail
  refine D.mono ?_
  rintro e w8 ⟨rfl, hb⟩
  have hB8 := hB7.trans (hb.mono hB7.size)
  replace hbu := keep_blk hb hbu
  replace hu := (hu.below hb).more hb.size
  clear u0 u1 D hb hB7 hv
  obtain ⟨u0, u1, -⟩ := now2 hbu rfl
  have D := C7 _ _ hB8 hu
  go_wp2_with fail
  refine D.mono ?_
  rintro e w9 ⟨rfl, hb⟩
  have hB9 := hB8.trans (hb.mono hB8.size)
  clear u0 u1 D C7 hb hB8 hu hbu
  go_wp2_with fail
  refine (HK _).mono ?_
  rintro e w10 ⟨rfl, hb⟩
  go_wp2
  go_ret
  exact ⟨rfl, hB9.trans (hb.mono hB9.size)⟩
theorem searchBounds_any (HK : Knows15) (HB : BoundGood) (HB0 : BoundBad) (HG2 : GreedyGood) (HG1 : GreedyBare) (HG0 : GreedyBad) (HS : SolvesV) (n : Int) (L : Value) (ls : List (List Int)) (w : World) (hL : MatAt w w.heap.size L ls) (hcap : CapM w L) :
    Calls Try.prog 3 #[mtv n L] w fun e w' => e = .returned (.bool true) ∧ Below w.heap.size w w' := by
  cases hg : gr14 n ls
  · cases hr : rightM n ls
    · exact bounds15_bad HK HB0 HG0 n L ls w hL hcap hg hr
    · obtain ⟨k, rfl⟩ : ∃ k : Nat, n = k := ⟨n.toNat, by have := (right_iff.1 hr).1; omega⟩
      cases hbr : bareB ls
      · exact bounds15_good HK HB HG2 HS k L ls w hL hcap hg hr hbr
      · exact bounds15_bare HK HB HG1 k L ls w hL hcap hg hr hbr
  · exact bounds15_great HK n L ls w hL hg
end Go.Proofs.Ytcbhcclickjpnaa
namespace Go.Proofs.Ytcbhcclickjpnaa
open Go.ChangeShapes Go.WideShapes Go.ChangeAt Go.RowKit Go.Joins

theorem Try.own : ownKnob Try.prog.godebug = none := by kernel_rfl
theorem Try.laidOut : laidOutB Try.prog = true := by kernel_rfl
end Go.Proofs.Ytcbhcclickjpnaa
