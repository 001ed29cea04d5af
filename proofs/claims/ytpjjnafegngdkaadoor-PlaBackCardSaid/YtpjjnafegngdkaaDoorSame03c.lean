/- Same of the document's own answers of layer 3, for any two tables. -/
import Derived.Test.YtpjjnafegngdkaaDoorSame03b
import Derived.Deep.RegionHeld3
import Derived.Deep.CutRange
namespace Go.Proofs.YtpjjnafegngdkaaDoor
open Go.RowKit Go.Joins

theorem After.cellA {w : World} (x : After w) {a : Addr} {v : Value} (hb : a.block < w.heap.size) (h : w.cell? a = some v) : x.1.cell? a = some v := (x.2.cell hb).trans h
theorem below2a {w a : World} (h : Below a.heap.size a w) (o1 o2 : Obj) : Below a.heap.size a ((w.alloc o1).alloc o2) := h.trans ((below_alloc2 w o1 o2).mono h.size)
set_option maxHeartbeats 4000000 in
set_option maxRecDepth 100000 in
theorem rsame_loop (k i n : Int) (L : Value) (ls : List Ln) (L' : Value) (ls' : List Ln) (w : World) (hL : LinesAt w w.heap.size L ls) (hL' : LinesAt w w.heap.size L' ls') (hl : ls.length = ls'.length) :
    Calls Tryd.prog 11 #[tv k i n L, tv k i n L'] w fun e w' => e = .returned (.bool (lsEq ls ls')) ∧ Below w.heap.size w w' := by
  have hne := Lib.hid (fun (j : Nat) (x y : Ln) (ha : ls[j]? = some x) (hb : ls'[j]? = some y) (h : x ≠ y) => lsEq_no (ne_of_at ha hb h))
  obtain ⟨A, c, rfl, hlen, hA⟩ := hL
  obtain ⟨A', c', rfl, hlen', hA'⟩ := hL'
  have hl' := Lib.hid hl
  have hd : (((ls.length : Nat) : Int) != ((ls'.length : Nat) : Int)) = false := by simp [hl]
  clear hl
  unfold tv
  go_enter Tryd.func11, Tryd.ntmps11
  go_wp2
  clear hd
  go_loopw [5, 6, 7, 8] (fun t _ _ _ wr => ∃ j : Nat, j ≤ ls.length ∧ t = .int .i64 j ∧ Hid (ls.take j = ls'.take j) ∧ Below w.heap.size w wr ∧ wr.heap[w.heap.size]? = some (tb k i n (.slice A ls.length c)) ∧ wr.heap[w.heap.size + 1]? = some (tb k i n (.slice A' ls'.length c'))) (fun t _ _ _ _ => ls.length - (intOf t).toNat)
  case atStart => exact ⟨0, by omega, rfl, Lib.hid (by simp), below_alloc2 _ _ _, heap_alloc2_old _ _ _, heap_alloc2_new _ _ _⟩
  case round =>
    obtain ⟨j, hj, rfl, hH, hb, ht, ht'⟩ := hrel
    obtain ⟨-, -, -, q3⟩ := tb_now ht
    obtain ⟨-, -, -, q3'⟩ := tb_now ht'
    by_cases hlt : j < ls.length
    · have hlt' : j < ls'.length := by have := hl'.out; omega
      obtain ⟨b, off, rfl, hB, hc⟩ := hA (by omega)
      obtain ⟨b', off', rfl, hB', hc'⟩ := hA' (by omega)
      obtain ⟨x, hx⟩ : ∃ x, ls[j]? = some x := ⟨_, List.getElem?_eq_getElem hlt⟩
      obtain ⟨y, hy⟩ : ∃ y, ls'[j]? = some y := ⟨_, List.getElem?_eq_getElem hlt'⟩
      have gx := Lib.hid hx
      have gy := Lib.hid hy
      obtain ⟨ov, x0, x1, x2, hO⟩ := hc j x hx
      obtain ⟨ov', y0, y1, y2, hO'⟩ := hc' j y hy
      obtain ⟨A2, q2, rfl, hol, hO⟩ := hO
      obtain ⟨A2', q2', rfl, hol', hO'⟩ := hO'
      have hz := hb.size
      have d0 := fun X : After wr => X.cellA (a := ⟨b, off + j * 3, none⟩) (Nat.lt_of_lt_of_le hB hz) ((hb.cell (p := ⟨b, off + j * 3, none⟩) hB).trans x0)
      have d1 := fun X : After wr => X.cellA (a := ⟨b, off + j * 3 + 1, none⟩) (Nat.lt_of_lt_of_le hB hz) ((hb.cell (p := ⟨b, off + j * 3 + 1, none⟩) hB).trans x1)
      have d2 := fun X : After wr => X.cellA (a := ⟨b, off + j * 3 + 2, none⟩) (Nat.lt_of_lt_of_le hB hz) ((hb.cell (p := ⟨b, off + j * 3 + 2, none⟩) hB).trans x2)
      have d0' := fun X : After wr => X.cellA (a := ⟨b', off' + j * 3, none⟩) (Nat.lt_of_lt_of_le hB' hz) ((hb.cell (p := ⟨b', off' + j * 3, none⟩) hB').trans y0)
      have d1' := fun X : After wr => X.cellA (a := ⟨b', off' + j * 3 + 1, none⟩) (Nat.lt_of_lt_of_le hB' hz) ((hb.cell (p := ⟨b', off' + j * 3 + 1, none⟩) hB').trans y1)
      have d2' := fun X : After wr => X.cellA (a := ⟨b', off' + j * 3 + 2, none⟩) (Nat.lt_of_lt_of_le hB' hz) ((hb.cell (p := ⟨b', off' + j * 3 + 2, none⟩) hB').trans y2)
      have p3 := fun X : After wr => After.cell X q3
      have p3' := fun X : After wr => After.cell X q3'
      have b1 : (0 : Int) ≤ (j : Int) := by omega
      have b2 : (j : Int) < (ls.length : Int) := by omega
      have b3 : (j : Int) < (ls'.length : Int) := by omega
      clear hc hc' hx hy hA hA' x0 x1 x2 y0 y1 y2
      unfold bvv at *

      have n1 := World.new_ne wr ⟨b, off + j * 3, none⟩ (d0 ⟨wr, Below.refl _ _⟩)
      have n2 := World.new_ne wr ⟨b, off + j * 3 + 1, none⟩ (d1 ⟨wr, Below.refl _ _⟩)
      have n3 := World.new_ne wr ⟨b, off + j * 3 + 2, none⟩ (d2 ⟨wr, Below.refl _ _⟩)
      have m1 := World.new_ne wr ⟨b', off' + j * 3, none⟩ (d0' ⟨wr, Below.refl _ _⟩)
      have m2 := World.new_ne wr ⟨b', off' + j * 3 + 1, none⟩ (d1' ⟨wr, Below.refl _ _⟩)
      have m3 := World.new_ne wr ⟨b', off' + j * 3 + 2, none⟩ (d2' ⟨wr, Below.refl _ _⟩)
      have r1 := World.new_ne wr _ q3
      have r2 := World.new_ne wr _ q3'
      have e0 := d0 ⟨wr, Below.refl _ _⟩
      have e1 := d1 ⟨wr, Below.refl _ _⟩
      have e2 := d2 ⟨wr, Below.refl _ _⟩
      have e0' := d0' ⟨wr, Below.refl _ _⟩
      have e1' := d1' ⟨wr, Below.refl _ _⟩
      have e2' := d2' ⟨wr, Below.refl _ _⟩
      clear d0 d1 d2 d0' d1' d2' p3 p3'
      go_upto_region 6 with (fail)
      go_cut [6, 7] from 37 to 85 (fun s6 s7 wc => ∃ b6 b7 : Nat, s6 = .pointer (some ⟨b6, 0, none⟩) ∧ s7 = .pointer (some ⟨b7, 0, none⟩) ∧ wc.heap[b6]? = some (.cells #[.int .u8 x.m.toNat, .int .u8 x.v.toNat, .slice A2 x.o.length q2] 39 (0, 0)) ∧ wc.heap[b7]? = some (.cells #[.int .u8 y.m.toNat, .int .u8 y.v.toNat, .slice A2' y.o.length q2'] 39 (0, 0)) ∧
        wc.heap[w.heap.size]? = some (tb k i n (.slice (some ⟨b, off, none⟩) ls.length c)) ∧ wc.heap[w.heap.size + 1]? = some (tb k i n (.slice (some ⟨b', off', none⟩) ls'.length c')) ∧ Below w.heap.size w wc)
      case first =>
        go_region_held3 (fun w' => w'.cell? ⟨w.heap.size, 3, none⟩ = some (.slice (some ⟨b, off, none⟩) ls.length c) ∧ w'.cell? ⟨w.heap.size + 1, 3, none⟩ = some (.slice (some ⟨b', off', none⟩) ls'.length c') ∧ w'.cell? ⟨b, off + j * 3, none⟩ = some (.int .u8 x.m.toNat) ∧ w'.cell? ⟨b, off + j * 3 + 1, none⟩ = some (.int .u8 x.v.toNat) ∧ w'.cell? ⟨b, off + j * 3 + 2, none⟩ = some (.slice A2 x.o.length q2) ∧ w'.cell? ⟨b', off' + j * 3, none⟩ = some (.int .u8 y.m.toNat) ∧ w'.cell? ⟨b', off' + j * 3 + 1, none⟩ = some (.int .u8 y.v.toNat) ∧ w'.cell? ⟨b', off' + j * 3 + 2, none⟩ = some (.slice A2' y.o.length q2')) (go_keep) (fail)
        all_goals
          go_wp2_with fail
          go_meet
          first
            | exact ⟨_, _, rfl, rfl, heap_alloc2_old _ _ _, heap_alloc2_new _ _ _, keep_alloc (keep_alloc ht), keep_alloc (keep_alloc ht'), (below2a hb _ _).drew⟩
            | exact ⟨_, _, rfl, rfl, heap_alloc2_new _ _ _, heap_alloc2_old _ _ _, keep_alloc (keep_alloc ht), keep_alloc (keep_alloc ht'), (below2a hb _ _).drew⟩
      case rest =>
        clear n1 n2 n3 m1 m2 m3 r1 r2 e0 e1 e2 e0' e1' e2' q3 q3' hz b1 b2 b3 hb ht ht'
        obtain ⟨b6, b7, rfl, rfl, u, u', ht, ht', hb⟩ := hcut
        obtain ⟨d0, d1, d2, -⟩ := now3 u rfl
        obtain ⟨d0', d1', d2', -⟩ := now3 u' rfl
        by_cases hm : x.m = y.m
        · by_cases hv : x.v = y.v
          · by_cases ho : x.o.length = y.o.length
            · rw [hm] at d0
              rw [hv] at d1
              rw [ho] at d2
              have hoe := Lib.hid ho
              have hme := Lib.hid hm
              have hve := Lib.hid hv
              have iH := Lib.hid (fun h : 0 < y.o.length => hO (by omega))
              have iH' := Lib.hid hO'
              have u2 := Lib.hid u
              rw [hm, hv, ho] at u
              clear hm hv ho hO hO' hol u2
              go_wp2
              go_loopw [8] (fun s ws => ∃ q : Nat, q ≤ y.o.length ∧ s = .int .i64 q ∧ Hid (x.o.take q = y.o.take q) ∧ Below w.heap.size w ws ∧ ws.heap[w.heap.size]? = some (tb k i n (.slice (some ⟨b, off, none⟩) ls.length c)) ∧ ws.heap[w.heap.size + 1]? = some (tb k i n (.slice (some ⟨b', off', none⟩) ls'.length c')) ∧ ws.heap[b6]? = some (.cells #[.int .u8 y.m.toNat, .int .u8 y.v.toNat, .slice A2 y.o.length q2] 39 (0, 0)) ∧ ws.heap[b7]? = some (.cells #[.int .u8 y.m.toNat, .int .u8 y.v.toNat, .slice A2' y.o.length q2'] 39 (0, 0))) (fun s _ => y.o.length - (intOf s).toNat)
              case atStart => exact ⟨0, by omega, rfl, Lib.hid (by simp), hb, ht, ht', u, u'⟩
              case round =>
                clear hb ht ht' u u' d0 d1 d2 d0' d1' d2'
                obtain ⟨q, hq, rfl, hQ, hbs, hs, hs', us, us'⟩ := hrel
                obtain ⟨-, -, e2, -⟩ := now3 us rfl
                obtain ⟨-, -, e2', -⟩ := now3 us' rfl
                by_cases hqt : q < y.o.length
                · obtain ⟨g, go, rfl, gB, gc⟩ := iH.out (by omega)
                  obtain ⟨g', go', rfl, gB', gc'⟩ := iH'.out (by omega)
                  obtain ⟨s, hsx⟩ : ∃ s, x.o[q]? = some s := ⟨_, List.getElem?_eq_getElem (by have := hoe.out; omega)⟩
                  obtain ⟨r, hry⟩ : ∃ r, y.o[q]? = some r := ⟨_, List.getElem?_eq_getElem hqt⟩
                  have f := (hbs.cell (p := ⟨g, go + q, none⟩) gB).trans (gc q s hsx)
                  have f' := (hbs.cell (p := ⟨g', go' + q, none⟩) gB').trans (gc' q r hry)
                  have sx := Lib.hid hsx
                  have ry := Lib.hid hry
                  have b4 : (0 : Int) ≤ (q : Int) := by omega
                  have b5 : (q : Int) < (y.o.length : Int) := by omega
                  have hbsz := hbs.size
                  clear gc gc' hsx hry
                  by_cases hsr : s = r
                  · subst hsr
                    go_wp2
                    go_quiet (fail)
                    go_wp2
                    go_roundw
                    case rel => exact ⟨q + 1, by omega, by go_num, Lib.hid (take_eq_succ sx.out ry.out hQ.out), hbs.trans ((below_draws _ _ _).mono hbsz), hs, hs', us, us'⟩
                    case measure => simp [intOf]; omega
                  · have hr := Lib.hid (hne.out j x y gx.out gy.out (fun e => ne_of_at sx.out ry.out hsr (by rw [e])))
                    have hd2 : ((s : Int) == r) = false := by simpa using hsr
                    go_wp2
                    go_quiet (fail)
                    go_wp2
                    go_ret
                    exact ⟨by rw [hr.out]; rfl, hbs.trans ((below_draws _ _ _).mono hbsz)⟩
                · have e : q = y.o.length := by omega
                  have he : Hid (x = y) := Lib.hid (by
                    have := hQ.out
                    rw [e, List.take_length, ← hoe.out, List.take_length] at this
                    have h1 := hme.out
                    have h2 := hve.out
                    clear e2 e2' hs hs' us us'
                    obtain ⟨xm, xv, xo⟩ := x
                    obtain ⟨ym, yv, yo⟩ := y
                    dsimp only at this h1 h2
                    rw [this, h1, h2])
                  clear e2 e2'
                  obtain ⟨-, -, e2, -⟩ := now3 us rfl
                  clear iH iH'
                  go_wp2
                  go_roundw
                  case rel => exact ⟨j + 1, by omega, by go_num, Lib.hid (take_eq_succ (gx.out.trans (by rw [he.out])) gy.out hH.out), hbs, hs, hs'⟩
                  case measure => simp [intOf]; omega
            · rw [hm] at d0
              rw [hv] at d1
              have hr := Lib.hid (hne.out j x y gx.out gy.out (fun e => ho (by rw [e])))
              have hd2 : (((x.o.length : Nat) : Int) != ((y.o.length : Nat) : Int)) = true := by rw [bne_iff_ne]; omega
              clear hm hv ho hO hO'
              go_wp2
              go_ret
              exact ⟨by rw [hr.out]; rfl, hb⟩
          · rw [hm] at d0
            have hr := Lib.hid (hne.out j x y gx.out gy.out (fun e => hv (by rw [e])))
            have hd2 := toNat_ne hv
            clear hm hv hO hO'
            go_wp2
            go_ret
            exact ⟨by rw [hr.out]; rfl, hb⟩
        · have hr := Lib.hid (hne.out j x y gx.out gy.out (fun e => hm (by rw [e])))
          have hd2 := toNat_ne hm
          clear hm hO hO'
          go_wp2
          go_ret
          exact ⟨by rw [hr.out]; rfl, hb⟩
    · have e : j = ls.length := by omega
      have hr : Hid (lsEq ls ls' = true) := Lib.hid (by
        have := hH.out
        rw [e, List.take_length, hl'.out, List.take_length] at this
        exact (lsEq_iff _ _).2 this)
      subst e
      clear hA hA'
      go_wp2
      go_ret
      exact ⟨by rw [hr.out]; rfl, hb⟩
end Go.Proofs.YtpjjnafegngdkaaDoor
