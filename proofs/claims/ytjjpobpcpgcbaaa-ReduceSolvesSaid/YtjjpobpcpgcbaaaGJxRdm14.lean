/- Reduce of the package reduce, as it is called. -/
import Derived.Test.YtjjpobpcpgcbaaaGJ35
import Derived.Deep.LoopGhost
import Derived.WalkMore
namespace Go.Proofs.Ytjjpobpcpgcbaaa
open Go.RowKit Go.Joins

set_option maxHeartbeats 16000000 in
set_option maxRecDepth 100000 in
theorem reduce_good14 (n : Nat) (V : Value) (ls : List (List Int)) (w : World) (hz : MatAt w w.heap.size V ls) (hcap : CapM w V) (hls : ls.length ≤ 4000) (hr : rightM n ls = true) :
    Calls Try.prog 17 #[mtv n V] w fun e w' => ∃ u r, e = .returned (.tuple #[u, mtv n r, .int .i64 0]) ∧ IntsAt w' w'.heap.size u (takL n ls) ∧ MatAt w' w'.heap.size r (redL n ls).2 ∧ CapM w' r ∧ Below w.heap.size w w' := by
  have hmf : ∀ (fn : Fn) (first cap : Array Value) (w : World), (Instr.makeFunc fn first cap).run Try.prog w = .ok (.func fn first cap) w := fun _ _ _ _ => rfl
  have hB0 := two_below14 w (mtb n V) (.cells #[.int .i64 0, .slice none 0 0] 24 (0, 0))
  have ht := two_made14 w (mtb n V) (.cells #[.int .i64 0, .slice none 0 0] 24 (0, 0))
  have hsz : ((w.alloc (mtb n V)).alloc (.cells #[.int .i64 0, .slice none 0 0] 24 (0, 0))).heap.size = w.heap.size + 2 := by simp
  have HR := cright13 n V ls _ ((hz.below hB0).more hB0.size)
  obtain ⟨hn0, hn4, hri⟩ := right_iff.1 hr
  rw [hr] at HR
  have hzN : MatN w (fun b => b < w.heap.size) V ls := hz.toN (fun _ h => h)
  have hF0 := RedF.start14 (n := n) hri hls
  have hend : Hid (takL n ls = ((List.range n).filter fun c : Nat => (redP n (masR ls + 1) (fun _ => false) ls).1 (c : Int)).map (fun c : Nat => (c : Int)) ∧ (redL n ls).2 = (redP n (masR ls + 1) (fun _ => false) ls).2) := Lib.hid (by
    unfold takL redL
    rw [Int.toNat_natCast]
    exact ⟨rfl, rfl⟩)
  generalize redP n (masR ls + 1) (fun _ => false) ls = P at *
  generalize takL n ls = TL at *
  generalize (redL n ls).2 = RL at *
  obtain ⟨A, cp, rfl, hl, -⟩ := hz
  unfold mtv at *
  unfold mtb at hB0 ht hsz HR
  have hcapH := Lib.hid hcap
  have hzNH := Lib.hid hzN
  clear hri hr hcap hzN
  go_enter Try.func17, Try.ntmps17
  go_wp2_with fail
  go_step3
  go_wp2_with fail
  generalize (w.alloc _).alloc _ = w0 at *
  refine HR.mono ?_
  rintro e w1 ⟨rfl, hb1⟩
  have hB1 : Below w.heap.size w w1 := hB0.trans (hb1.mono (by omega))
  have hs1 : w.heap.size + 2 ≤ w1.heap.size := by have := hb1.size; omega
  have hbx := keep_blk hb1 ht.1
  have hrr := keep_blk hb1 ht.2
  clear HR hb1 hB0 ht
  have hb2 := two_below14 w1 (.cells #[.slice none 0 0] 38 (0, 0)) (.cells #[.func (.func 33) #[] #[.pointer (some ⟨w1.heap.size, 0, none⟩)], .func (.func 34) #[] #[], .func (.func 29) #[] #[]] 30 (0, 0))
  have ht2 := two_made14 w1 (.cells #[.slice none 0 0] 38 (0, 0)) (.cells #[.func (.func 33) #[] #[.pointer (some ⟨w1.heap.size, 0, none⟩)], .func (.func 34) #[] #[], .func (.func 29) #[] #[]] 30 (0, 0))
  have hB2 := hB1.trans (hb2.mono (by omega))
  have hW0 : RedW w (.cells #[.func (.func 33) #[] #[.pointer (some ⟨w1.heap.size, 0, none⟩)], .func (.func 34) #[] #[], .func (.func 29) #[] #[]] 30 (0, 0)) w.heap.size w1.heap.size n (.slice A ls.length cp) (.slice none 0 0) ls [] ((w1.alloc (.cells #[.slice none 0 0] 38 (0, 0))).alloc (.cells #[.func (.func 33) #[] #[.pointer (some ⟨w1.heap.size, 0, none⟩)], .func (.func 34) #[] #[], .func (.func 29) #[] #[]] 30 (0, 0))) :=
    ⟨(hzNH.out.imp14 (fun b h _ h2 => h2.elim (fun h3 => by omega) (fun h3 => by cases h3))).below14 hB2, hcapH.out.below hB2, keep_blk hb2 hbx, keep_blk hb2 hrr, ht2.1, ht2.2, World.ownsRow_nil _ _ _ _, hB2⟩
  have hsw : w.heap.size ≤ w1.heap.size := by omega
  clear hb2 ht2 hB2 hB1 hbx hrr hsz
  go_wp2
  go_step3
  go_wp2
  have hF0H := Lib.hid hF0
  clear hF0
  generalize (w1.alloc _).alloc _ = w2 at *
  generalize hfo : (Obj.cells #[.func (.func 33) #[] #[.pointer (some ⟨w1.heap.size, 0, none⟩)], .func (.func 34) #[] #[], .func (.func 29) #[] #[]] 30 (0, 0)) = fo at *
  generalize htq : w1.heap.size = tq at *
  generalize hgb : w.heap.size = gb at *
  have hgbH := Lib.hid hgb
  have hfoH := Lib.hid hfo
  clear hgb hfo htq
  go_loopg [8, 9, 10] (masR ls + 1) (fun g _ _ _ wr => ∃ (U T : Value) (l : List (List Int)) (K : List Int), masR l < g ∧ Hid (RedF P n l K) ∧ RedW w fo gb tq n U T l K wr)
  case atStart => exact ⟨_, _, ls, [], Nat.lt_succ_self _, hF0H, hW0⟩
  case round =>
    clear hF0H hW0
    obtain ⟨U, T, l, K, hm, hF, hW⟩ := hrel
    generalize gk = go at *
    have hm0 := Lib.hid hm
    clear hm
    go_wp2
    go_loopg [8, 9, 10, 19] 4 (fun g _ _ _ t wr => ∃ (i : Nat) (T : Value), i + g = 4 ∧ i ≤ 3 ∧ t = .int .i64 i ∧ Hid ((1 ≤ i → tkC l = none) ∧ (2 ≤ i → rwI l = none) ∧ (3 ≤ i → clI l n = none)) ∧ RedW w fo gb tq n U T l K wr)
    case atStart => exact ⟨0, T, rfl, by omega, rfl, Lib.hid ⟨fun h => by omega, fun h => by omega, fun h => by omega⟩, hW⟩
    case round =>
      clear hW T
      obtain ⟨i, T, hg, hi, rfl, hH, hW⟩ := hrel
      have hln := hF.out.len
      have hw := hW.ways
      rw [← hfoH.out] at hw
      have hfoc : fo.isCells = true := by rw [← hfoH.out]; rfl
      obtain ⟨y0, y1, yf⟩ := now2 hW.box rfl
      have h4 : i = 0 ∨ i = 1 ∨ i = 2 ∨ i = 3 := by omega
      obtain ⟨AU, cU, rfl, -, -⟩ := id hW.mat
      rcases h4 with rfl | rfl | rfl | rfl
      · have f0 : wr.cell? ⟨tq + 1, 0, none⟩ = some (.func (.func 33) #[] #[.pointer (some ⟨tq, 0, none⟩)]) := by rw [cell_of_block hw]; rfl
        have H := hW.one14 hs1 hfoc (fun h => h.elim (fun h => by omega) (own_ne hW.own hw (by decide))) (by omega) (by omega)
        unfold mtv at H
        cases hc : tkC l with
        | none =>
          rw [hc, show K ++ (none : Option Int).toList = K from List.append_nil _, show (none : Option Int).isSome = false from rfl] at H
          have hH2 : Hid ((1 ≥ 1 → tkC l = none) ∧ (2 ≤ 1 → rwI l = none) ∧ (3 ≤ 1 → clI l n = none)) := Lib.hid (by
            first
              | exact ⟨fun _ => hc, fun h => absurd h (by decide), fun h => absurd h (by decide)⟩
              | exact ⟨fun _ => hH.out.1 (by omega), fun _ => hc, fun h => absurd h (by decide)⟩
              | exact ⟨fun _ => hH.out.1 (by omega), fun _ => hH.out.2.1 (by omega), fun _ => hc⟩)
          generalize tkL l = XL at H
          clear hc hH
          go_wp2_with fail
          refine H.mono ?_
          rintro e w3 ⟨u, T2, rfl, hW3, hu, hcu⟩
          skip
          obtain ⟨Au, cu, rfl, -, -⟩ := id hu
          have hba := below_alloc1 w3 (.cells #[.int .i64 n, .slice Au XL.length cu] 24 (0, 0))
          have hW4 := hW3.below14 hba
          clear H hW3 hu hcu hba f0 y0 y1 yf hw
          go_wp2
          go_roundg 3
          case rel => exact ⟨1, T2, by omega, by omega, by go_num, hH2, hW4⟩
          case measure => omega
        | some c =>
          have hFt := hF.out.take14 hc
          have hFH := Lib.hid hFt.1
          have hmH := Lib.hid hFt.2
          clear hFt
          rw [hc, show K ++ (some c : Option Int).toList = K ++ [c] from rfl, show (some c : Option Int).isSome = true from rfl, show tkL l = tkR l c by unfold tkL; rw [hc]] at H
          generalize K ++ [c] = K2 at *
          generalize tkR l c = XL at *
          clear hc hH
          go_wp2_with fail
          refine H.mono ?_
          rintro e w3 ⟨u, T2, rfl, hW3, hu, hcu⟩
          skip
          obtain ⟨Au, cu, rfl, -, -⟩ := id hu
          have hba := below_alloc1 w3 (.cells #[.int .i64 n, .slice Au XL.length cu] 24 (0, 0))
          have hx := heap_alloc_new w3 (.cells #[.int .i64 n, .slice Au XL.length cu] 24 (0, 0))
          have hW4 := hW3.below14 hba
          have hW5 := hW4.put14 hs1 (hu.below14 hba) (hcu.below hba)
          have hbox := hW4.box
          clear H hW3 hu hcu hba f0 y0 y1 yf hw hW4
          obtain ⟨x0, x1, -⟩ := now2 hx rfl
          obtain ⟨y0, y1, yf⟩ := now2 hbox rfl
          clear hx hbox
          go_wp2
          go_roundg (go - 1)
          case rel => exact ⟨_, T2, XL, K2, by have := hmH.out; have := hm0.out; omega, hFH, hW5⟩
          case measure => have := hm0.out; omega
      · have f0 : wr.cell? ⟨tq + 1, 1, none⟩ = some (.func (.func 34) #[] #[]) := by rw [cell_of_block hw]; rfl
        have H := removeRowsN14_any (fun b => (b = gb ∨ b = gb + 1 ∨ b = tq ∨ b = tq + 1) ∨ T.ownBlock = some b) n _ l wr hW.lt14 hW.mat hW.cap (by omega) (by omega) hF.out.ris
        unfold mtv at H
        cases hc : rwI l with
        | none =>
          rw [hc, show (none : Option Nat).isSome = false from rfl] at H
          have hH2 : Hid ((2 ≥ 1 → tkC l = none) ∧ (2 ≤ 2 → rwI l = none) ∧ (3 ≤ 2 → clI l n = none)) := Lib.hid (by
            first
              | exact ⟨fun _ => hc, fun h => absurd h (by decide), fun h => absurd h (by decide)⟩
              | exact ⟨fun _ => hH.out.1 (by omega), fun _ => hc, fun h => absurd h (by decide)⟩
              | exact ⟨fun _ => hH.out.1 (by omega), fun _ => hH.out.2.1 (by omega), fun _ => hc⟩)
          generalize splR l = XL at H
          clear hc hH
          go_wp2_with fail
          refine H.mono ?_
          rintro e w3 ⟨u, rfl, hu, hcu, hb3⟩
          have hW3 := hW.below14 hb3
          obtain ⟨Au, cu, rfl, -, -⟩ := id hu
          have hba := below_alloc1 w3 (.cells #[.int .i64 n, .slice Au XL.length cu] 24 (0, 0))
          have hW4 := hW3.below14 hba
          clear H hW3 hu hcu hba f0 y0 y1 yf hw
          go_wp2
          go_roundg 2
          case rel => exact ⟨2, T, by omega, by omega, by go_num, hH2, hW4⟩
          case measure => omega
        | some c =>
          have hFt := hF.out.rows14 (hH.out.1 (by omega)) hc
          have hFH := Lib.hid hFt.1
          have hmH := Lib.hid hFt.2
          clear hFt
          rw [hc, show (some c : Option Nat).isSome = true from rfl] at H
          generalize splR l = XL at *
          clear hc hH
          go_wp2_with fail
          refine H.mono ?_
          rintro e w3 ⟨u, rfl, hu, hcu, hb3⟩
          have hW3 := hW.below14 hb3
          obtain ⟨Au, cu, rfl, -, -⟩ := id hu
          have hba := below_alloc1 w3 (.cells #[.int .i64 n, .slice Au XL.length cu] 24 (0, 0))
          have hx := heap_alloc_new w3 (.cells #[.int .i64 n, .slice Au XL.length cu] 24 (0, 0))
          have hW4 := hW3.below14 hba
          have hW5 := hW4.put14 hs1 (hu.below14 hba) (hcu.below hba)
          have hbox := hW4.box
          clear H hW3 hu hcu hba f0 y0 y1 yf hw hW4
          obtain ⟨x0, x1, -⟩ := now2 hx rfl
          obtain ⟨y0, y1, yf⟩ := now2 hbox rfl
          clear hx hbox
          go_wp2
          go_roundg (go - 1)
          case rel => exact ⟨_, T, XL, K, by have := hmH.out; have := hm0.out; omega, hFH, hW5⟩
          case measure => have := hm0.out; omega
      · have f0 : wr.cell? ⟨tq + 1, 2, none⟩ = some (.func (.func 29) #[] #[]) := by rw [cell_of_block hw]; rfl
        have H := removeColumnN14_any (fun b => (b = gb ∨ b = gb + 1 ∨ b = tq ∨ b = tq + 1) ∨ T.ownBlock = some b) n _ l wr hW.lt14 hW.mat hW.cap (by omega) (by omega) hF.out.ris
        unfold mtv at H
        cases hc : clI l n with
        | none =>
          rw [hc, show (none : Option Nat).isSome = false from rfl] at H
          have hH2 : Hid ((3 ≥ 1 → tkC l = none) ∧ (2 ≤ 3 → rwI l = none) ∧ (3 ≤ 3 → clI l n = none)) := Lib.hid (by
            first
              | exact ⟨fun _ => hc, fun h => absurd h (by decide), fun h => absurd h (by decide)⟩
              | exact ⟨fun _ => hH.out.1 (by omega), fun _ => hc, fun h => absurd h (by decide)⟩
              | exact ⟨fun _ => hH.out.1 (by omega), fun _ => hH.out.2.1 (by omega), fun _ => hc⟩)
          generalize clL l n = XL at H
          clear hc hH
          go_wp2_with fail
          refine H.mono ?_
          rintro e w3 ⟨u, rfl, hu, hcu, hb3⟩
          have hW3 := hW.below14 hb3
          obtain ⟨Au, cu, rfl, -, -⟩ := id hu
          have hba := below_alloc1 w3 (.cells #[.int .i64 n, .slice Au XL.length cu] 24 (0, 0))
          have hW4 := hW3.below14 hba
          clear H hW3 hu hcu hba f0 y0 y1 yf hw
          go_wp2
          go_roundg 1
          case rel => exact ⟨3, T, by omega, by omega, by go_num, hH2, hW4⟩
          case measure => omega
        | some c =>
          have hFt := hF.out.cols14 (hH.out.1 (by omega)) (hH.out.2.1 (by omega)) hc
          have hFH := Lib.hid hFt.1
          have hmH := Lib.hid hFt.2
          clear hFt
          rw [hc, show (some c : Option Nat).isSome = true from rfl, show clL l n = clR l (c : Int) by unfold clL; rw [hc]] at H
          generalize clR l (c : Int) = XL at *
          clear hc hH
          go_wp2_with fail
          refine H.mono ?_
          rintro e w3 ⟨u, rfl, hu, hcu, hb3⟩
          have hW3 := hW.below14 hb3
          obtain ⟨Au, cu, rfl, -, -⟩ := id hu
          have hba := below_alloc1 w3 (.cells #[.int .i64 n, .slice Au XL.length cu] 24 (0, 0))
          have hx := heap_alloc_new w3 (.cells #[.int .i64 n, .slice Au XL.length cu] 24 (0, 0))
          have hW4 := hW3.below14 hba
          have hW5 := hW4.put14 hs1 (hu.below14 hba) (hcu.below hba)
          have hbox := hW4.box
          clear H hW3 hu hcu hba f0 y0 y1 yf hw hW4
          obtain ⟨x0, x1, -⟩ := now2 hx rfl
          obtain ⟨y0, y1, yf⟩ := now2 hbox rfl
          clear hx hbox
          go_wp2
          go_roundg (go - 1)
          case rel => exact ⟨_, T, XL, K, by have := hmH.out; have := hm0.out; omega, hFH, hW5⟩
          case measure => have := hm0.out; omega
      · have hd := hF.out.done14 (hH.out.1 (by omega)) (hH.out.2.1 (by omega)) (hH.out.2.2 (by omega))
        have hdH : Hid (TL = K.mergeSort (fun x y => decide (x ≤ y)) ∧ RL = l) := Lib.hid ⟨by rw [hend.out.1, hd.2], by rw [hend.out.2, hd.1]⟩
        have hlenr : ∀ r, r ∈ l → r.length ≤ 4000 := fun r h => by have := row_len14 (hF.out.ris r h); omega
        have HS := sort14_any hW.own (by omega)
        have t0 : wr.cell? ⟨tq, 0, none⟩ = some T := by rw [cell_of_block hW.tak]; rfl
        clear hd hH
        go_wp2_with fail
        refine HS.mono ?_
        rintro e w3 ⟨rfl, ho3, hg3⟩
        generalize K.mergeSort (fun x y => decide (x ≤ y)) = K2 at *
        have nb : ∀ {c : Nat} {cs : Array Value} {X : TypeId}, wr.heap[c]? = some (.cells cs X (0, 0)) → (3 : TypeId) ≠ X → w3.heap[c]? = some (.cells cs X (0, 0)) := fun hc hX => (hg3.block _ (size_of_block hc) (fun e => own_ne hW.own hc hX e.symm)).trans hc
        have hbox3 := nb hW.box (by decide)
        have hres3 := nb hW.res (by decide)
        have htak3 := nb hW.tak (by decide)
        have hk3 : KeepC (fun b => (b = gb ∨ b = gb + 1 ∨ b = tq ∨ b = tq + 1) ∨ T.ownBlock = some b) wr w3 := keepC_by14 hg3 (fun g hg => Or.inr hg)
        have hM3 := hk3.mat hW.mat
        have hgs := size_of_block hbox3
        have hB3 : Below gb w w3 := hW.bel.grown hg3 (by have := size_of_block hW.box; omega) (fun k hk => (hW.own.lt k hk).1)
        have HC := copied14_any n _ l w3.drew (hM3.here.below (Below.refl _ _).drew) (by omega) hlenr
        unfold mtv at HC
        have hres4 : w3.drew.heap[gb + 1]? = _ := hres3
        have hbox4 : w3.drew.heap[gb]? = _ := hbox3
        have htak4 : w3.drew.heap[tq]? = _ := htak3
        have ho4 : w3.drew.ownsRow gb 3 1 T K2.length (intI K2) := owns_below ho3 (Below.refl _ _).drew
        have hB4 : Below gb w w3.drew := hB3.drew
        have hrl := size_of_block hres4
        have htl := size_of_block htak4
        clear HS t0 y0 y1 yf hw hW ho3 hg3 nb hk3 hM3 hB3 hlenr hend hF hfoH hzNH hcapH hm0 hbox3 hres3 htak3 hgs
        go_upto_region 13 with (fail)
        have t0 : w3.drew.cell? ⟨tq, 0, none⟩ = some T := by rw [cell_of_block htak4]; rfl
        obtain ⟨y0, y1, -⟩ := now2 hbox4 rfl
        go_region_with (refine HC.mono ?_; rintro e w6 ⟨u, vs, rfl, ho, hvl, hi, hac, hb6⟩; replace hres4 := keep_blk hb6 hres4; replace htak4 := keep_blk hb6 htak4; replace hbox4 := keep_blk hb6 hbox4; replace ho4 := owns_below ho4 hb6; clear y0 y1 t0; have t0 : w6.cell? ⟨tq, 0, none⟩ = some T := (by rw [cell_of_block htak4]; rfl); obtain ⟨y0, y1, -⟩ := now2 hbox4 rfl; obtain ⟨r0, r1, rf⟩ := now2 hres4 rfl; obtain ⟨Au, cu, rfl⟩ := own_form ho; replace hB4 := hB4.trans (hb6.mono (by omega)); clear HC; go_frame)
        all_goals
          have hF := fin_copied14 (g := gb + 1) (x := .int .i64 n) ho hvl hi hac (by omega)
          have hr3 := put2 (x0 := .int .i64 n) (x1 := .slice Au l.length cu) hres4
          obtain ⟨q0, q1, -⟩ := now2 hr3 rfl
          have nr := own_ne ho4 hres4 (by decide)
          have hoz := own_set (own_set ho4 nr 0 (.int .i64 n)) nr 1 (.slice Au l.length cu)
          have hBz := below2 (x0 := .int .i64 n) (x1 := .slice Au l.length cu) (by omega : gb ≤ gb + 1) hB4
          have hIH := Lib.hid (own_intsN14 hoz).here
          clear hr3 hoz nr ho4 hres4 htak4 hbox4 hB4 hb6 ho hi hac hvl t0 y0 y1 r0 r1 rf
          go_wp2
          try rw [Exit.noGoto_ret]
          refine bodyPost_ret (v := .tuple #[T, .agg #[.int .i64 n, .slice Au l.length cu], .int .i64 0]) (by simp [results, Try.results17, go_sem, q0, q1]) rfl ?_
          exact ⟨_, _, rfl, by rw [hdH.out.1]; exact hIH.out, by rw [hdH.out.2]; exact hF.1, hF.2, by rw [hgbH.out]; exact hBz⟩
end Go.Proofs.Ytjjpobpcpgcbaaa
