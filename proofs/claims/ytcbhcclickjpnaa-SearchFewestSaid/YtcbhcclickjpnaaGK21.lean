/- Reduce of the package reduce, as it is called. ReduceAll, over what the package answers. ReduceSteps, over what the package answers. The contracts of package reduce. Bound and Greedy of the package search. -/
import Derived.Test.YtcbhcclickjpnaaGK19
import Derived.Test.YtcbhcclickjpnaaGK04
import Derived.Test.YtcbhcclickjpnaaGK11
import Derived.Test.YtcbhcclickjpnaaGK01
import Derived.Test.YtcbhcclickjpnaaGK10
import Derived.Test.YtcbhcclickjpnaaGK05
import Derived.Test.YtcbhcclickjpnaaGK20
import Derived.Deep.LoopGhost
import Derived.WalkMore
namespace Go.Proofs.Ytcbhcclickjpnaa
open Go.RowKit Go.Joins

set_option maxHeartbeats 16000000 in
set_option maxRecDepth 100000 in
theorem reduce_good14 (n : Nat) (V : Value) (ls : List (List Int)) (w : World) (hz : MatAt w w.heap.size V ls) (hcap : CapM w V) (hls : ls.length ≤ 4000) (hr : rightM n ls = true) :
    Calls Try.prog 76 #[mtv n V] w fun e w' => ∃ u r, e = .returned (.tuple #[u, mtv n r, .int .i64 0]) ∧ IntsAt w' w'.heap.size u (takL n ls) ∧ MatAt w' w'.heap.size r (redL n ls).2 ∧ CapM w' r ∧ Below w.heap.size w w' := by
  have hmf : ∀ (fn : Fn) (first cap : Array Value) (w : World), (Instr.makeFunc fn first cap).run Try.prog w = .ok (.func fn first cap) w := fun _ _ _ _ => rfl
  have hB0 := two_below14 w (mtb n V) (.cells #[.int .i64 0, .slice none 0 0] 24 (0, 0))
  have ht := two_made14 w (mtb n V) (.cells #[.int .i64 0, .slice none 0 0] 24 (0, 0))
  have hsz : ((w.alloc (mtb n V)).alloc (.cells #[.int .i64 0, .slice none 0 0] 24 (0, 0))).heap.size = w.heap.size + 2 := by simp
  have HR := cright13 n V ls _ ((hz.below hB0).more hB0.size)
  obtain ⟨hn0, hn4, hri⟩ := right_iff.1 hr
  rw [hr] at HR
  have hzN : MatN w (fun b => b < w.heap.size) V ls := hz.toN (fun _ h => h)
  have hF0 := RedF.start14 (n := n) hri hls
  have hend : Hid (takL n ls = ((List.range n).filter fun c : Nat => (redP n (masR ls + 1) (fun _ => false) ls).1 (c : Int)).map (fun c : Nat => (c : Int)) ∧ (redL n ls).2 = (redP n (masR ls + 1) (fun _ => false) ls).2) := Lib.hid (by
    unfold takL redL
    rw [Int.toNat_natCast]
    exact ⟨rfl, rfl⟩)
  generalize redP n (masR ls + 1) (fun _ => false) ls = P at *
  generalize takL n ls = TL at *
  generalize (redL n ls).2 = RL at *
  obtain ⟨A, cp, rfl, hl, -⟩ := hz
  unfold mtv at *
  unfold mtb at hB0 ht hsz HR
  have hcapH := Lib.hid hcap
  have hzNH := Lib.hid hzN
  clear hri hr hcap hzN
  go_enter Try.func76, Try.ntmps76
  go_wp2_with fail
  go_step3
  go_wp2_with fail
  generalize (w.alloc _).alloc _ = w0 at *
  refine HR.mono ?_
  rintro e w1 ⟨rfl, hb1⟩
  have hB1 : Below w.heap.size w w1 := hB0.trans (hb1.mono (by omega))
  have hs1 : w.heap.size + 2 ≤ w1.heap.size := by have := hb1.size; omega
  have hbx := keep_blk hb1 ht.1
  have hrr := keep_blk hb1 ht.2
  clear HR hb1 hB0 ht
  have hb2 := two_below14 w1 (.cells #[.slice none 0 0] 30 (0, 0)) (.cells #[.func (.func 91) #[] #[.pointer (some ⟨w1.heap.size, 0, none⟩)], .func (.func 93) #[] #[], .func (.func 94) #[] #[]] 114 (0, 0))
  have ht2 := two_made14 w1 (.cells #[.slice none 0 0] 30 (0, 0)) (.cells #[.func (.func 91) #[] #[.pointer (some ⟨w1.heap.size, 0, none⟩)], .func (.func 93) #[] #[], .func (.func 94) #[] #[]] 114 (0, 0))
  have hB2 := hB1.trans (hb2.mono (by omega))
  have hW0 : RedW w (.cells #[.func (.func 91) #[] #[.pointer (some ⟨w1.heap.size, 0, none⟩)], .func (.func 93) #[] #[], .func (.func 94) #[] #[]] 114 (0, 0)) w.heap.size w1.heap.size n (.slice A ls.length cp) (.slice none 0 0) ls [] ((w1.alloc (.cells #[.slice none 0 0] 30 (0, 0))).alloc (.cells #[.func (.func 91) #[] #[.pointer (some ⟨w1.heap.size, 0, none⟩)], .func (.func 93) #[] #[], .func (.func 94) #[] #[]] 114 (0, 0))) :=
    ⟨(hzNH.out.imp14 (fun b h _ h2 => h2.elim (fun h3 => by omega) (fun h3 => by cases h3))).below14 hB2, hcapH.out.below hB2, keep_blk hb2 hbx, keep_blk hb2 hrr, ht2.1, ht2.2, World.ownsRow_nil _ _ _ _, hB2⟩
  have hsw : w.heap.size ≤ w1.heap.size := by omega
  clear hb2 ht2 hB2 hB1 hbx hrr hsz
  go_wp2
  go_step3
  go_wp2
  have hF0H := Lib.hid hF0
  clear hF0
  generalize (w1.alloc _).alloc _ = w2 at *
  generalize hfo : (Obj.cells #[.func (.func 91) #[] #[.pointer (some ⟨w1.heap.size, 0, none⟩)], .func (.func 93) #[] #[], .func (.func 94) #[] #[]] 114 (0, 0)) = fo at *
  generalize htq : w1.heap.size = tq at *
  generalize hgb : w.heap.size = gb at *
  have hgbH := Lib.hid hgb
  have hfoH := Lib.hid hfo
  clear hgb hfo htq
  go_loopg [8, 9, 10] (masR ls + 1) (fun g _ _ _ wr => ∃ (U T : Value) (l : List (List Int)) (K : List Int), masR l < g ∧ Hid (RedF P n l K) ∧ RedW w fo gb tq n U T l K wr)
  case atStart => exact ⟨_, _, ls, [], Nat.lt_succ_self _, hF0H, hW0⟩
  case round =>
    clear hF0H hW0
    obtain ⟨U, T, l, K, hm, hF, hW⟩ := hrel
    generalize gk = go at *
    have hm0 := Lib.hid hm
    clear hm
    go_wp2
    go_loopg [8, 9, 10, 19] 4 (fun g _ _ _ t wr => ∃ (i : Nat) (T : Value), i + g = 4 ∧ i ≤ 3 ∧ t = .int .i64 i ∧ Hid ((1 ≤ i → tkC l = none) ∧ (2 ≤ i → rwI l = none) ∧ (3 ≤ i → clI l n = none)) ∧ RedW w fo gb tq n U T l K wr)
    case atStart => exact ⟨0, T, rfl, by omega, rfl, Lib.hid ⟨fun h => by omega, fun h => by omega, fun h => by omega⟩, hW⟩
    case round =>
      clear hW T
      obtain ⟨i, T, hg, hi, rfl, hH, hW⟩ := hrel
      have hln := hF.out.len
      have hw := hW.ways
      rw [← hfoH.out] at hw
      have hfoc : fo.isCells = true := by rw [← hfoH.out]; rfl
      obtain ⟨y0, y1, yf⟩ := now2 hW.box rfl
      have h4 : i = 0 ∨ i = 1 ∨ i = 2 ∨ i = 3 := by omega
      obtain ⟨AU, cU, rfl, -, -⟩ := id hW.mat
      rcases h4 with rfl | rfl | rfl | rfl
      · have f0 : wr.cell? ⟨tq + 1, 0, none⟩ = some (.func (.func 91) #[] #[.pointer (some ⟨tq, 0, none⟩)]) := by rw [cell_of_block hw]; rfl
        have H := hW.one14 hs1 hfoc (fun h => h.elim (fun h => by omega) (own_ne hW.own hw (by decide))) (by omega) (by omega)
        unfold mtv at H
        cases hc : tkC l with
        | none =>
          rw [hc, show K ++ (none : Option Int).toList = K from List.append_nil _, show (none : Option Int).isSome = false from rfl] at H
          have hH2 : Hid ((1 ≥ 1 → tkC l = none) ∧ (2 ≤ 1 → rwI l = none) ∧ (3 ≤ 1 → clI l n = none)) := Lib.hid (by
            first
              | exact ⟨fun _ => hc, fun h => absurd h (by decide), fun h => absurd h (by decide)⟩
              | exact ⟨fun _ => hH.out.1 (by omega), fun _ => hc, fun h => absurd h (by decide)⟩
              | exact ⟨fun _ => hH.out.1 (by omega), fun _ => hH.out.2.1 (by omega), fun _ => hc⟩)
          generalize tkL l = XL at H
          clear hc hH
          go_wp2_with fail
          refine H.mono ?_
          rintro e w3 ⟨u, T2, rfl, hW3, hu, hcu⟩
          skip
          obtain ⟨Au, cu, rfl, -, -⟩ := id hu
          have hba := below_alloc1 w3 (.cells #[.int .i64 n, .slice Au XL.length cu] 24 (0, 0))
          have hW4 := hW3.below14 hba
          clear H hW3 hu hcu hba f0 y0 y1 yf hw
          go_wp2
          go_roundg 3
          case rel => exact ⟨1, T2, by omega, by omega, by go_num, hH2, hW4⟩
          case measure => omega
        | some c =>
          have hFt := hF.out.take14 hc
          have hFH := Lib.hid hFt.1
          have hmH := Lib.hid hFt.2
          clear hFt
          rw [hc, show K ++ (some c : Option Int).toList = K ++ [c] from rfl, show (some c : Option Int).isSome = true from rfl, show tkL l = tkR l c by unfold tkL; rw [hc]] at H
          generalize K ++ [c] = K2 at *
          generalize tkR l c = XL at *
          clear hc hH
          go_wp2_with fail
          refine H.mono ?_
          rintro e w3 ⟨u, T2, rfl, hW3, hu, hcu⟩
          skip
          obtain ⟨Au, cu, rfl, -, -⟩ := id hu
          have hba := below_alloc1 w3 (.cells #[.int .i64 n, .slice Au XL.length cu] 24 (0, 0))
          have hx := heap_alloc_new w3 (.cells #[.int .i64 n, .slice Au XL.length cu] 24 (0, 0))
          have hW4 := hW3.below14 hba
          have hW5 := hW4.put14 hs1 (hu.below14 hba) (hcu.below hba)
          have hbox := hW4.box
          clear H hW3 hu hcu hba f0 y0 y1 yf hw hW4
          obtain ⟨x0, x1, -⟩ := now2 hx rfl
          obtain ⟨y0, y1, yf⟩ := now2 hbox rfl
          clear hx hbox
          go_wp2
          go_roundg (go - 1)
          case rel => exact ⟨_, T2, XL, K2, by have := hmH.out; have := hm0.out; omega, hFH, hW5⟩
          case measure => have := hm0.out; omega
      · have f0 : wr.cell? ⟨tq + 1, 1, none⟩ = some (.func (.func 93) #[] #[]) := by rw [cell_of_block hw]; rfl
        have H := removeRowsN14_any (fun b => (b = gb ∨ b = gb + 1 ∨ b = tq ∨ b = tq + 1) ∨ T.ownBlock = some b) n _ l wr hW.lt14 hW.mat hW.cap (by omega) (by omega) hF.out.ris
        unfold mtv at H
        cases hc : rwI l with
        | none =>
          rw [hc, show (none : Option Nat).isSome = false from rfl] at H
          have hH2 : Hid ((2 ≥ 1 → tkC l = none) ∧ (2 ≤ 2 → rwI l = none) ∧ (3 ≤ 2 → clI l n = none)) := Lib.hid (by
            first
              | exact ⟨fun _ => hc, fun h => absurd h (by decide), fun h => absurd h (by decide)⟩
              | exact ⟨fun _ => hH.out.1 (by omega), fun _ => hc, fun h => absurd h (by decide)⟩
              | exact ⟨fun _ => hH.out.1 (by omega), fun _ => hH.out.2.1 (by omega), fun _ => hc⟩)
          generalize splR l = XL at H
          clear hc hH
          go_wp2_with fail
          refine H.mono ?_
          rintro e w3 ⟨u, rfl, hu, hcu, hb3⟩
          have hW3 := hW.below14 hb3
          obtain ⟨Au, cu, rfl, -, -⟩ := id hu
          have hba := below_alloc1 w3 (.cells #[.int .i64 n, .slice Au XL.length cu] 24 (0, 0))
          have hW4 := hW3.below14 hba
          clear H hW3 hu hcu hba f0 y0 y1 yf hw
          go_wp2
          go_roundg 2
          case rel => exact ⟨2, T, by omega, by omega, by go_num, hH2, hW4⟩
          case measure => omega
        | some c =>
          have hFt := hF.out.rows14 (hH.out.1 (by omega)) hc
          have hFH := Lib.hid hFt.1
          have hmH := Lib.hid hFt.2
          clear hFt
          rw [hc, show (some c : Option Nat).isSome = true from rfl] at H
          generalize splR l = XL at *
          clear hc hH
          go_wp2_with fail
          refine H.mono ?_
          rintro e w3 ⟨u, rfl, hu, hcu, hb3⟩
          have hW3 := hW.below14 hb3
          obtain ⟨Au, cu, rfl, -, -⟩ := id hu
          have hba := below_alloc1 w3 (.cells #[.int .i64 n, .slice Au XL.length cu] 24 (0, 0))
          have hx := heap_alloc_new w3 (.cells #[.int .i64 n, .slice Au XL.length cu] 24 (0, 0))
          have hW4 := hW3.below14 hba
          have hW5 := hW4.put14 hs1 (hu.below14 hba) (hcu.below hba)
          have hbox := hW4.box
          clear H hW3 hu hcu hba f0 y0 y1 yf hw hW4
          obtain ⟨x0, x1, -⟩ := now2 hx rfl
          obtain ⟨y0, y1, yf⟩ := now2 hbox rfl
          clear hx hbox
          go_wp2
          go_roundg (go - 1)
          case rel => exact ⟨_, T, XL, K, by have := hmH.out; have := hm0.out; omega, hFH, hW5⟩
          case measure => have := hm0.out; omega
      · have f0 : wr.cell? ⟨tq + 1, 2, none⟩ = some (.func (.func 94) #[] #[]) := by rw [cell_of_block hw]; rfl
        have H := removeColumnN14_any (fun b => (b = gb ∨ b = gb + 1 ∨ b = tq ∨ b = tq + 1) ∨ T.ownBlock = some b) n _ l wr hW.lt14 hW.mat hW.cap (by omega) (by omega) hF.out.ris
        unfold mtv at H
        cases hc : clI l n with
        | none =>
          rw [hc, show (none : Option Nat).isSome = false from rfl] at H
          have hH2 : Hid ((3 ≥ 1 → tkC l = none) ∧ (2 ≤ 3 → rwI l = none) ∧ (3 ≤ 3 → clI l n = none)) := Lib.hid (by
            first
              | exact ⟨fun _ => hc, fun h => absurd h (by decide), fun h => absurd h (by decide)⟩
              | exact ⟨fun _ => hH.out.1 (by omega), fun _ => hc, fun h => absurd h (by decide)⟩
              | exact ⟨fun _ => hH.out.1 (by omega), fun _ => hH.out.2.1 (by omega), fun _ => hc⟩)
          generalize clL l n = XL at H
          clear hc hH
          go_wp2_with fail
          refine H.mono ?_
          rintro e w3 ⟨u, rfl, hu, hcu, hb3⟩
          have hW3 := hW.below14 hb3
          obtain ⟨Au, cu, rfl, -, -⟩ := id hu
          have hba := below_alloc1 w3 (.cells #[.int .i64 n, .slice Au XL.length cu] 24 (0, 0))
          have hW4 := hW3.below14 hba
          clear H hW3 hu hcu hba f0 y0 y1 yf hw
          go_wp2
          go_roundg 1
          case rel => exact ⟨3, T, by omega, by omega, by go_num, hH2, hW4⟩
          case measure => omega
        | some c =>
          have hFt := hF.out.cols14 (hH.out.1 (by omega)) (hH.out.2.1 (by omega)) hc
          have hFH := Lib.hid hFt.1
          have hmH := Lib.hid hFt.2
          clear hFt
          rw [hc, show (some c : Option Nat).isSome = true from rfl, show clL l n = clR l (c : Int) by unfold clL; rw [hc]] at H
          generalize clR l (c : Int) = XL at *
          clear hc hH
          go_wp2_with fail
          refine H.mono ?_
          rintro e w3 ⟨u, rfl, hu, hcu, hb3⟩
          have hW3 := hW.below14 hb3
          obtain ⟨Au, cu, rfl, -, -⟩ := id hu
          have hba := below_alloc1 w3 (.cells #[.int .i64 n, .slice Au XL.length cu] 24 (0, 0))
          have hx := heap_alloc_new w3 (.cells #[.int .i64 n, .slice Au XL.length cu] 24 (0, 0))
          have hW4 := hW3.below14 hba
          have hW5 := hW4.put14 hs1 (hu.below14 hba) (hcu.below hba)
          have hbox := hW4.box
          clear H hW3 hu hcu hba f0 y0 y1 yf hw hW4
          obtain ⟨x0, x1, -⟩ := now2 hx rfl
          obtain ⟨y0, y1, yf⟩ := now2 hbox rfl
          clear hx hbox
          go_wp2
          go_roundg (go - 1)
          case rel => exact ⟨_, T, XL, K, by have := hmH.out; have := hm0.out; omega, hFH, hW5⟩
          case measure => have := hm0.out; omega
      · have hd := hF.out.done14 (hH.out.1 (by omega)) (hH.out.2.1 (by omega)) (hH.out.2.2 (by omega))
        have hdH : Hid (TL = K.mergeSort (fun x y => decide (x ≤ y)) ∧ RL = l) := Lib.hid ⟨by rw [hend.out.1, hd.2], by rw [hend.out.2, hd.1]⟩
        have hlenr : ∀ r, r ∈ l → r.length ≤ 4000 := fun r h => by have := row_len14 (hF.out.ris r h); omega
        have HS := sort14_any hW.own (by omega)
        have t0 : wr.cell? ⟨tq, 0, none⟩ = some T := by rw [cell_of_block hW.tak]; rfl
        clear hd hH
        go_wp2_with fail
        refine HS.mono ?_
        rintro e w3 ⟨rfl, ho3, hg3⟩
        generalize K.mergeSort (fun x y => decide (x ≤ y)) = K2 at *
        have nb : ∀ {c : Nat} {cs : Array Value} {X : TypeId}, wr.heap[c]? = some (.cells cs X (0, 0)) → (3 : TypeId) ≠ X → w3.heap[c]? = some (.cells cs X (0, 0)) := fun hc hX => (hg3.block _ (size_of_block hc) (fun e => own_ne hW.own hc hX e.symm)).trans hc
        have hbox3 := nb hW.box (by decide)
        have hres3 := nb hW.res (by decide)
        have htak3 := nb hW.tak (by decide)
        have hk3 : KeepC (fun b => (b = gb ∨ b = gb + 1 ∨ b = tq ∨ b = tq + 1) ∨ T.ownBlock = some b) wr w3 := keepC_by14 hg3 (fun g hg => Or.inr hg)
        have hM3 := hk3.mat hW.mat
        have hgs := size_of_block hbox3
        have hB3 : Below gb w w3 := hW.bel.grown hg3 (by have := size_of_block hW.box; omega) (fun k hk => (hW.own.lt k hk).1)
        have HC := copied14_any n _ l w3.drew (hM3.here.below (Below.refl _ _).drew) (by omega) hlenr
        unfold mtv at HC
        have hres4 : w3.drew.heap[gb + 1]? = _ := hres3
        have hbox4 : w3.drew.heap[gb]? = _ := hbox3
        have htak4 : w3.drew.heap[tq]? = _ := htak3
        have ho4 : w3.drew.ownsRow gb 3 1 T K2.length (intI K2) := owns_below ho3 (Below.refl _ _).drew
        have hB4 : Below gb w w3.drew := hB3.drew
        have hrl := size_of_block hres4
        have htl := size_of_block htak4
        clear HS t0 y0 y1 yf hw hW ho3 hg3 nb hk3 hM3 hB3 hlenr hend hF hfoH hzNH hcapH hm0 hbox3 hres3 htak3 hgs
        go_upto_region 13 with (fail)
        have t0 : w3.drew.cell? ⟨tq, 0, none⟩ = some T := by rw [cell_of_block htak4]; rfl
        obtain ⟨y0, y1, -⟩ := now2 hbox4 rfl
        go_region_with (refine HC.mono ?_; rintro e w6 ⟨u, vs, rfl, ho, hvl, hi, hac, hb6⟩; replace hres4 := keep_blk hb6 hres4; replace htak4 := keep_blk hb6 htak4; replace hbox4 := keep_blk hb6 hbox4; replace ho4 := owns_below ho4 hb6; clear y0 y1 t0; have t0 : w6.cell? ⟨tq, 0, none⟩ = some T := (by rw [cell_of_block htak4]; rfl); obtain ⟨y0, y1, -⟩ := now2 hbox4 rfl; obtain ⟨r0, r1, rf⟩ := now2 hres4 rfl; obtain ⟨Au, cu, rfl⟩ := own_form ho; replace hB4 := hB4.trans (hb6.mono (by omega)); clear HC; go_frame)
        all_goals
          have hF := fin_copied14 (g := gb + 1) (x := .int .i64 n) ho hvl hi hac (by omega)
          have hr3 := put2 (x0 := .int .i64 n) (x1 := .slice Au l.length cu) hres4
          obtain ⟨q0, q1, -⟩ := now2 hr3 rfl
          have nr := own_ne ho4 hres4 (by decide)
          have hoz := own_set (own_set ho4 nr 0 (.int .i64 n)) nr 1 (.slice Au l.length cu)
          have hBz := below2 (x0 := .int .i64 n) (x1 := .slice Au l.length cu) (by omega : gb ≤ gb + 1) hB4
          have hIH := Lib.hid (own_intsN14 hoz).here
          clear hr3 hoz nr ho4 hres4 htak4 hbox4 hB4 hb6 ho hi hac hvl t0 y0 y1 r0 r1 rf
          go_wp2
          try rw [Exit.noGoto_ret]
          refine bodyPost_ret (v := .tuple #[T, .agg #[.int .i64 n, .slice Au l.length cu], .int .i64 0]) (by simp [results, Try.results76, go_sem, q0, q1]) rfl ?_
          exact ⟨_, _, rfl, by rw [hdH.out.1]; exact hIH.out, by rw [hdH.out.2]; exact hF.1, hF.2, by rw [hgbH.out]; exact hBz⟩
end Go.Proofs.Ytcbhcclickjpnaa
namespace Go.Proofs.Ytcbhcclickjpnaa
open Go.RowKit Go.Joins

end Go.Proofs.Ytcbhcclickjpnaa
namespace Go.Proofs.Ytcbhcclickjpnaa
open Go.RowKit Go.Joins

end Go.Proofs.Ytcbhcclickjpnaa
namespace Go.Proofs.Ytcbhcclickjpnaa
open Go.RowKit Go.Joins

theorem gr14_small {n : Int} {ls : List (List Int)} (h : gr14 n ls = false) : ls.length ≤ 4000 ∧ ∀ r, r ∈ ls → r.length ≤ 4000 := by
  obtain ⟨h1, h2, -⟩ := gr14_no h
  refine ⟨by omega, fun r hr => ?_⟩
  unfold greatM at h1
  rw [Bool.or_eq_false_iff, List.any_eq_false] at h1
  have := h1.1 r hr
  simp at this
  omega
end Go.Proofs.Ytcbhcclickjpnaa
namespace Go.Proofs.Ytcbhcclickjpnaa
open Go.RowKit Go.Joins

set_option maxRecDepth 100000 in
theorem bou1_any15 (w : World) (bx bt m c : Nat) (F : Nat → Bool) (hx : w.heap[bx]? = some (.cells #[.slice (some ⟨bt, 0, none⟩) m m] 44 (0, 0))) (ht : w.heap[bt]? = some (bolO m F)) (hc : c < m) :
    Calls Try.prog 23 #[.int .i64 c, .pointer (some ⟨bx, 0, none⟩)] w fun e w' => e = .returned (.bool (F c)) ∧ Below w.heap.size w w' := by
  obtain ⟨q0, q1⟩ := bol_cell ht hc
  have x0 : w.cell? ⟨bx, 0, none⟩ = some (.slice (some ⟨bt, 0, none⟩) m m) := by rw [cell_of_block hx]; rfl
  have c0 : (0 : Int) ≤ (c : Int) := by omega
  have c1 : (c : Int) < (m : Int) := by omega
  clear hx ht
  go_enter Try.func23, Try.ntmps23
  go_wp2
  go_ret
  exact ⟨rfl, Below.refl _ _⟩
theorem bol_ext15 {n : Nat} {f g : Nat → Bool} (h : ∀ j, j < n → f j = g j) : bolO n f = bolO n g := by
  unfold bolO bolA
  congr 2
  exact List.map_congr_left fun j hj => by rw [h j (List.mem_range.1 hj)]
theorem bol_put15 {w : World} {bt n p : Nat} {f : Nat → Bool} (h : w.heap[bt]? = some (bolO n f)) (u : Bool) : (w.setCell ⟨bt, p, none⟩ (.bool u)).heap[bt]? = some (bolO n fun j => if j = p then u else f j) := by
  unfold bolO at *
  rw [block_setCell h, bolA_set]
set_option maxHeartbeats 2000000 in
set_option maxRecDepth 100000 in
theorem bound15_good (n : Nat) (V : Value) (ls : List (List Int)) (w : World) (hV : MatAt w w.heap.size V ls) (hls : ls.length ≤ 4000) (hr : rightM n ls = true) :
    Calls Try.prog 8 #[mtv n V] w fun e w' => e = .returned (.tuple #[.int .i64 (boundL ls : Nat), .int .i64 0]) ∧ Below w.heap.size w w' := by
  obtain ⟨hn0, hn4, hri⟩ := right_iff.1 hr
  have hB0 := below_alloc1 w (mtb n V)
  have hbu : (w.alloc (mtb n V)).heap[w.heap.size]? = some (mtb n V) := heap_alloc_new _ _
  have hmf : ∀ (fn : Fn) (first cap : Array Value) (w : World), (Instr.makeFunc fn first cap).run Try.prog w = .ok (.func fn first cap) w := fun _ _ _ _ => rfl
  have hmk := fun w => make_bols n (by omega) w
  have HR := cright13 n V ls (w.alloc (mtb n V)) ((hV.below hB0).more hB0.size)
  rw [hr] at HR
  have hriH := Lib.hid hri
  obtain ⟨A, c, rfl, hl, hc⟩ := hV
  have hcH := Lib.hid hc
  clear hr hri hc hn0
  unfold mtv at *
  unfold mtb at *
  obtain ⟨m0, m1, -⟩ := now2 hbu rfl
  go_enter Try.func8, Try.ntmps8
  go_wp2_with fail
  refine HR.mono ?_
  rintro e w1 ⟨rfl, hb1⟩
  have hB1 := hB0.trans (hb1.mono hB0.size)
  have hbu1 := keep_blk hb1 hbu
  clear m0 m1 HR hb1 hB0
  have hB3 := (hB1.alloc hB1.size (bolO n fun _ => false)).alloc (hB1.alloc hB1.size (bolO n fun _ => false)).size (.cells #[.slice (some ⟨w1.heap.size, 0, none⟩) n n] 44 (0, 0))
  have hbu3 := keep_alloc (x := .cells #[.slice (some ⟨w1.heap.size, 0, none⟩) n n] 44 (0, 0)) (keep_alloc (x := bolO n fun _ => false) hbu1)
  have hbt3 := keep_alloc (x := .cells #[.slice (some ⟨w1.heap.size, 0, none⟩) n n] 44 (0, 0)) (heap_alloc_new w1 (bolO n fun _ => false))
  have hbx3 := heap_alloc_new (w1.alloc (bolO n fun _ => false)) (.cells #[.slice (some ⟨w1.heap.size, 0, none⟩) n n] 44 (0, 0))
  rw [World.size_alloc] at hbx3
  have hbt4 : ((w1.alloc (bolO n fun _ => false)).alloc (.cells #[.slice (some ⟨w1.heap.size, 0, none⟩) n n] 44 (0, 0))).heap[w1.heap.size]? = some (bolO n fun c => decide ((c : Int) ∈ bndU (ls.take 0) [])) := by
    rw [hbt3]
    exact congrArg some (bol_ext15 fun j _ => by rw [List.take_zero]; unfold bndU; simp)
  obtain ⟨m0, m1, -⟩ := now2 hbu1 rfl
  obtain ⟨n0, n1, -⟩ := now2 hbu3 rfl
  have hw1 := size_of_block hbu1
  clear hbt3
  go_wp2
  generalize hG : (w1.alloc _).alloc _ = W3 at *
  generalize hq : w1.heap.size = q at *
  clear hG hq
  go_loopw [4, 7, 9, 19] (fun s _ _ t wr => ∃ k : Nat, k ≤ ls.length ∧ t = .int .i64 k ∧ s = .int .i64 (bndN (ls.take k) [] : Nat) ∧ wr.heap[q]? = some (bolO n fun c => decide ((c : Int) ∈ bndU (ls.take k) [])) ∧ wr.heap[q + 1]? = some (.cells #[.slice (some ⟨q, 0, none⟩) n n] 44 (0, 0)) ∧ Below w.heap.size w wr) (fun _ _ _ t _ => ls.length - (intOf t).toNat)
  case atStart => exact ⟨0, by omega, rfl, rfl, hbt4, hbx3, hB3⟩
  case round =>
    clear hB3 hbu3 hbt4 hbx3 m0 m1 n0 n1 hbu1 hbu hB1
    obtain ⟨k, hk, rfl, rfl, ht, hx, hb⟩ := hrel
    by_cases hlt : k < ls.length
    · obtain ⟨b, off, rfl, hB, hcc⟩ := hcH.out (by omega)
      obtain ⟨r, hrk⟩ : ∃ r, ls[k]? = some r := ⟨_, List.getElem?_eq_getElem hlt⟩
      obtain ⟨ov, z0, hov⟩ := hcc k r hrk
      have z1 := (hb.cell (p := ⟨b, off + k, none⟩) hB).trans z0
      have hris := hriH.out r (List.mem_of_getElem? hrk)
      have htk : ls.take (k + 1) = ls.take k ++ [r] := by rw [List.take_add_one, hrk]; rfl
      have HC := containsI_any 23 #[.pointer (some ⟨q + 1, 0, none⟩)] (fun c => decide ((c.toNat : Int) ∈ bndU (ls.take k) [])) ov r wr (fun _ _ => by kernel_rfl)
        (fun c wx hcm hbx => by
          obtain ⟨h0, h1⟩ := hris.1 c hcm
          have := bou1_any15 wx (q + 1) q n c.toNat _ (keep_blk hbx hx) (keep_blk hbx ht) (by omega)
          rwa [Int.toNat_of_nonneg h0] at this ⊢) ((hov.below hb).more hb.size)
      have hmeet : Hid ((r.any fun c => decide ((c.toNat : Int) ∈ bndU (ls.take k) [])) = meetB r (bndU (ls.take k) [])) := Lib.hid (by
        unfold meetB
        rw [Bool.eq_iff_iff, List.any_eq_true, List.any_eq_true]
        exact exists_congr fun c => and_congr_right fun hcm => by rw [Int.toNat_of_nonneg (hris.1 c hcm).1])
      rw [hmeet.out] at HC
      have hnk : bndN (ls.take k) [] ≤ 4000 := by
        have := bndN_le (ls.take k) []
        rw [List.length_take] at this
        omega
      have hU := Lib.hid (bnd_snoc (ls.take k) [] r)
      have hN := Lib.hid (bndN_snoc (ls.take k) [] r)
      rw [← htk] at hU hN
      obtain ⟨Ar, cr, rfl, hlr, hcr⟩ := hov
      have k0 : (0 : Int) ≤ (k : Int) := by omega
      have k1 : (k : Int) < (ls.length : Int) := by omega
      have hlow := Lib.hid hris.1
      have htH := Lib.hid ht
      have hxH := Lib.hid hx
      clear hcH hcc hrk z0 hriH hris htk hmeet hmk ht hx
      cases hm : meetB r (bndU (ls.take k) [])
      · rw [hm] at HC hU hN
        clear hm
        have hN2 : Hid (bndN (ls.take (k + 1)) [] = bndN (ls.take k) [] + 1) := Lib.hid (by rw [hN.out]; rfl)
        have hU2 : Hid (bndU (ls.take (k + 1)) [] = bndU (ls.take k) [] ++ r) := Lib.hid (by rw [hU.out]; rfl)
        clear hN hU
        generalize bndU (ls.take k) [] = us at *
        generalize bndN (ls.take k) [] = ns at *
        go_wp2_with fail
        refine HC.mono ?_
        rintro e w4 ⟨rfl, hb4⟩
        have ht4 := keep_blk hb4 htH.out
        have hx4 := keep_blk hb4 hxH.out
        have hB4 := hb.trans (hb4.mono hb.size)
        have ht5 : w4.heap[q]? = some (bolO n fun c => decide ((c : Int) ∈ us ++ r.take 0)) := by
          rw [ht4]
          exact congrArg some (bol_ext15 fun j _ => by rw [List.take_zero, List.append_nil])
        clear HC htH hxH z1 hb4 ht4
        go_wp2
        go_loopw [9, 30] (fun _ t wi => ∃ j : Nat, j ≤ r.length ∧ t = .int .i64 j ∧ wi.heap[q]? = some (bolO n fun c => decide ((c : Int) ∈ us ++ r.take j)) ∧ wi.heap[q + 1]? = some (.cells #[.slice (some ⟨q, 0, none⟩) n n] 44 (0, 0)) ∧ Below w.heap.size w wi) (fun _ t _ => r.length - (intOf t).toNat)
        case atStart => exact ⟨0, by omega, rfl, ht5, hx4, hB4⟩
        case round =>
          clear ht5 hx4 hB4 hb
          obtain ⟨j, hj, rfl, ht, hx, hb⟩ := hrel
          by_cases hlt2 : j < r.length
          · obtain ⟨br, offr, rfl, hBr, hccr⟩ := hcr (by omega)
            obtain ⟨x, hxx⟩ : ∃ x, r[j]? = some x := ⟨_, List.getElem?_eq_getElem hlt2⟩
            obtain ⟨x0, x1⟩ := hlow.out x (List.mem_of_getElem? hxx)
            obtain ⟨y, rfl⟩ := Int.eq_ofNat_of_zero_le x0
            have d0 := (hb.cell (p := ⟨br, offr + j, none⟩) hBr).trans (hccr j _ hxx)
            have hyn : y < n := by omega
            obtain ⟨y0, yf⟩ := bol_cell ht hyn
            have b0 : wr.cell? ⟨q + 1, 0, none⟩ = some (.slice (some ⟨q, 0, none⟩) n n) := by rw [cell_of_block hx]; rfl
            have hg2 : (wr.setCell ⟨q, y, none⟩ (.bool true)).heap[q]? = some (bolO n fun c => decide ((c : Int) ∈ us ++ r.take (j + 1))) := by
              refine (bol_put15 ht _).trans (congrArg some (bol_ext15 fun z _ => ?_))
              rw [List.take_add_one, hxx]
              by_cases e : z = y
              · subst e; simp
              · have e2 : ¬ (z : Int) = (y : Int) := by omega
                rw [if_neg e]
                simp [e2]
            have hx2 := keep_set (a := ⟨q, y, none⟩) (u := .bool true) (by show q + 1 ≠ q; omega) hx
            have hb2 := hb.setCell (p := ⟨q, y, none⟩) (by show w.heap.size ≤ q; omega) (.bool true)
            have j0 : (0 : Int) ≤ (j : Int) := by omega
            have j1 : (j : Int) < (r.length : Int) := by omega
            have w0 : (0 : Int) ≤ (y : Int) := by omega
            have w1 : (y : Int) < (n : Int) := by omega
            clear hlow hcr hccr hxx ht hx hb x0 x1
            go_wp2
            go_roundw
            case rel => exact ⟨j + 1, by omega, by go_num, hg2, hx2, hb2⟩
            case measure => simp [intOf]; omega
          · have e : j = r.length := by omega
            have hjd : ¬ (j : Int) < (r.length : Int) := by omega
            have ht2 : wr.heap[q]? = some (bolO n fun c => decide ((c : Int) ∈ bndU (ls.take (k + 1)) [])) := by
              rw [ht, e, List.take_length, hU2.out]
            clear e hlow hcr ht
            go_wp2
            go_roundw
            case rel => exact ⟨k + 1, by omega, by go_num, by rw [hN2.out]; go_num, ht2, hx, hb⟩
            case measure => simp [intOf]; omega
      · rw [hm] at HC hU hN
        clear hm
        have hN2 : Hid (bndN (ls.take (k + 1)) [] = bndN (ls.take k) []) := Lib.hid (by rw [hN.out]; rfl)
        have hU2 : Hid (bndU (ls.take (k + 1)) [] = bndU (ls.take k) []) := Lib.hid (by rw [hU.out]; rfl)
        clear hN hU hlow hcr
        go_wp2_with fail
        refine HC.mono ?_
        rintro e w4 ⟨rfl, hb4⟩
        have ht4 : w4.heap[q]? = some (bolO n fun c => decide ((c : Int) ∈ bndU (ls.take (k + 1)) [])) := by
          rw [hU2.out]
          exact keep_blk hb4 htH.out
        have hx4 := keep_blk hb4 hxH.out
        have hB4 := hb.trans (hb4.mono hb.size)
        clear HC htH hxH z1 hb4 hb
        go_wp2
        go_roundw
        case rel => exact ⟨k + 1, by omega, by go_num, by rw [hN2.out], ht4, hx4, hB4⟩
        case measure => simp [intOf]; omega
    · have e : k = ls.length := by omega
      have hkd : ¬ (k : Int) < (ls.length : Int) := by omega
      have hr : Hid (bndN (ls.take k) [] = boundL ls) := Lib.hid (by rw [e, List.take_length]; rfl)
      clear e ht hx hcH hriH hmk
      generalize bndN (ls.take k) [] = rs at *
      go_wp2
      go_ret2
      exact ⟨by rw [← hr.out]; rfl, hb⟩
set_option maxRecDepth 100000 in
theorem bound15_bad (n : Int) (V : Value) (ls : List (List Int)) (w : World) (hV : MatAt w w.heap.size V ls) (hr : rightM n ls = false) :
    Calls Try.prog 8 #[mtv n V] w fun e w' => e = .returned (.tuple #[.int .i64 0, .int .i64 1]) ∧ Below w.heap.size w w' := by
  have hB0 := below_alloc1 w (mtb n V)
  have hbu : (w.alloc (mtb n V)).heap[w.heap.size]? = some (mtb n V) := heap_alloc_new _ _
  have HR := cright13 n V ls (w.alloc (mtb n V)) ((hV.below hB0).more hB0.size)
  rw [hr] at HR
  obtain ⟨A, c, rfl, -, -⟩ := hV
  clear hr
  unfold mtv at *
  unfold mtb at *
  obtain ⟨m0, m1, -⟩ := now2 hbu rfl
  go_enter Try.func8, Try.ntmps8
  go_wp2_with fail
  refine HR.mono ?_
  rintro e w1 ⟨rfl, hb1⟩
  go_wp2
  go_ret2
  exact ⟨rfl, hB0.trans (hb1.mono hB0.size)⟩
/-- A covering that is refused. -/
theorem greedy15_no (n : Int) (V : Value) (ls : List (List Int)) (w : World) (hV : MatAt w w.heap.size V ls) (e0 : Int) (hr : refI n ls = e0) (h0 : e0 ≠ 0) :
    Calls Try.prog 9 #[mtv n V] w fun e w' => ∃ A c, e = .returned (.tuple #[.slice A 0 c, .int .i64 e0]) ∧ Below w.heap.size w w' := by
  have hB0 := below_alloc1 w (mtb n V)
  have hbu : (w.alloc (mtb n V)).heap[w.heap.size]? = some (mtb n V) := heap_alloc_new _ _
  have HR := refused15_any n V ls (w.alloc (mtb n V)) ((hV.below hB0).more hB0.size)
  rw [hr] at HR
  have hd : (e0 != 0) = true := by simp [h0]
  obtain ⟨A, c, rfl, -, -⟩ := hV
  clear hr h0
  unfold mtv at *
  unfold mtb at *
  obtain ⟨m0, m1, -⟩ := now2 hbu rfl
  go_enter Try.func9, Try.ntmps9
  go_wp2_with fail
  refine HR.mono ?_
  rintro e w1 ⟨rfl, hb1⟩
  go_wp2
  go_ret2
  exact ⟨_, _, rfl, hB0.trans (hb1.mono hB0.size)⟩
set_option maxRecDepth 100000 in
theorem greedy15_yes (n : Nat) (V : Value) (ls : List (List Int)) (w : World) (hV : MatAt w w.heap.size V ls) (hcap : CapM w V) (hls : ls.length ≤ 4000) (hr : rightM n ls = true) (hb : bareB ls = false) :
    Calls Try.prog 9 #[mtv n V] w fun e w' => ∃ u, e = .returned (.tuple #[u, .int .i64 0]) ∧ IntsAt w' w'.heap.size u (flgL (grdT n ls) n) ∧ Below w.heap.size w w' := by
  obtain ⟨hn0, hn4, hri⟩ := right_iff.1 hr
  have hB0 := below_alloc1 w (mtb n V)
  have hbu : (w.alloc (mtb n V)).heap[w.heap.size]? = some (mtb n V) := heap_alloc_new _ _
  have HR := refused15_any n V ls (w.alloc (mtb n V)) ((hV.below hB0).more hB0.size)
  rw [show refI n ls = 0 by unfold refI; rw [hr, hb]; rfl] at HR
  have HG := fun X (h : Below (w.alloc (mtb n V)).heap.size (w.alloc (mtb n V)) X) => greedy15_any n V ls X ((hV.below (hB0.trans (h.mono hB0.size))).more (hB0.trans (h.mono hB0.size)).size) (hcap.below (hB0.trans (h.mono hB0.size))) (by omega) hls hri hb
  generalize hG : flgL (grdT n ls) n = G at *
  obtain ⟨A, c, rfl, -, -⟩ := hV
  clear hr hb hri hcap hG
  unfold mtv at *
  unfold mtb at *
  obtain ⟨m0, m1, -⟩ := now2 hbu rfl
  go_enter Try.func9, Try.ntmps9
  go_wp2_with fail
  refine HR.mono ?_
  rintro e w1 ⟨rfl, hb1⟩
  have H2 := HG w1 hb1
  have hB1 := hB0.trans (hb1.mono hB0.size)
  have hbu1 := keep_blk hb1 hbu
  clear HG HR m0 m1 hbu
  obtain ⟨m0, m1, -⟩ := now2 hbu1 rfl
  go_wp2_with fail
  refine H2.mono ?_
  rintro e w2 ⟨v, rfl, hown, hb2⟩
  have hi := own_intI hown
  have hB2 := hB1.trans (hb2.mono hB1.size)
  obtain ⟨Av, cv, rfl⟩ := own_form hown
  clear hown
  go_wp2
  go_ret2
  exact ⟨_, rfl, hi, hB2⟩
theorem cboundgood15 : BoundGood := fun n L ls w hL _ hg hr => by
  obtain ⟨h0, -, -⟩ := right_iff.1 hr
  obtain ⟨N, rfl⟩ : ∃ N : Nat, n = N := ⟨n.toNat, by omega⟩
  exact bound15_good N L ls w hL (gr14_small hg).1 hr
theorem cboundbad15 : BoundBad := fun n L ls w hL _ _ hr => bound15_bad n L ls w hL hr
theorem cgreedygood15 : GreedyGood := fun n L ls w hL hc hg hr hb => greedy15_yes n L ls w hL hc (gr14_small hg).1 hr hb
theorem cgreedybare15 : GreedyBare := fun n L ls w hL _ _ hr hb => greedy15_no n L ls w hL 7 (by unfold refI; rw [hr, hb]; rfl) (by decide)
theorem cgreedybad15 : GreedyBad := fun n L ls w hL _ _ hr => greedy15_no n L ls w hL 1 (by unfold refI; rw [hr]; rfl) (by decide)
end Go.Proofs.Ytcbhcclickjpnaa
