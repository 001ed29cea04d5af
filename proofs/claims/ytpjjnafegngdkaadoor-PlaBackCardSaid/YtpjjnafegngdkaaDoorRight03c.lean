/- Right of the document's own answers of layer 3, for every table. -/
import Derived.Test.YtpjjnafegngdkaaDoorSame03d
import Derived.Test.YtpjjnafegngdkaaDoorRef02d
namespace Go.Proofs.YtpjjnafegngdkaaDoor
open Go.RowKit Go.Joins

theorem all_take_succ {α : Type} {p : α → Bool} {l : List α} {k : Nat} {x : α} (h : l[k]? = some x) (hn : (l.take k).all p = true) (hp : p x = true) : (l.take (k + 1)).all p = true := by
  have hk : k < l.length := (List.getElem?_eq_some_iff.1 h).1
  rw [List.take_succ_eq_append_getElem hk, List.all_append, hn]
  have : l[k] = x := (List.getElem?_eq_some_iff.1 h).2
  simp [this, hp]
theorem all_not {α : Type} {p : α → Bool} {l : List α} {k : Nat} {x : α} (h : l[k]? = some x) (hp : p x = false) : l.all p = false := by
  rw [List.all_eq_false]
  exact ⟨x, List.mem_of_getElem? h, by simp [hp]⟩
set_option maxHeartbeats 4000000 in
set_option maxRecDepth 100000 in
theorem rright_bad (k i n : Int) (L : Value) (ls : List Ln) (w : World) (hL : LinesAt w w.heap.size L ls) (h : headB ⟨k, i, n, ls⟩ = false ∨ 64 < ls.length) :
    Calls Tryd.prog 8 #[tv k i n L] w fun e w' => e = .returned (.bool false) ∧ Below w.heap.size w w' := by
  have hB := below_alloc1 w (tb k i n L)
  obtain ⟨A, c, rfl, hlen, -⟩ := hL
  have hh : k < 0 ∨ (0 ≤ k ∧ 3 < k) ∨ ((0 ≤ k ∧ k ≤ 3) ∧ i < 0) ∨ ((0 ≤ k ∧ k ≤ 3) ∧ 0 ≤ i ∧ 8 < i) ∨ ((0 ≤ k ∧ k ≤ 3) ∧ (0 ≤ i ∧ i ≤ 8) ∧ n < 1) ∨ ((0 ≤ k ∧ k ≤ 3) ∧ (0 ≤ i ∧ i ≤ 8) ∧ 1 ≤ n ∧ 4 < n) ∨ ((0 ≤ k ∧ k ≤ 3) ∧ (0 ≤ i ∧ i ≤ 8) ∧ (1 ≤ n ∧ n ≤ 4) ∧ 64 < (ls.length : Int)) := by
    rcases h with h | h
    · unfold headB at h
      simp at h
      omega
    · omega
  unfold tv
  unfold tb at *
  clear h
  rcases hh with h | ⟨h1, h⟩ | ⟨⟨h1, h2⟩, h⟩ | ⟨⟨h1, h2⟩, h3, h⟩ | ⟨⟨h1, h2⟩, ⟨h3, h4⟩, h⟩ | ⟨⟨h1, h2⟩, ⟨h3, h4⟩, h5, h⟩ | ⟨⟨h1, h2⟩, ⟨h3, h4⟩, ⟨h5, h6⟩, h⟩
  all_goals
    go_enter Tryd.func8, Tryd.ntmps8
    go_wp2
    go_ret
    exact ⟨rfl, hB⟩
set_option maxHeartbeats 4000000 in
set_option maxRecDepth 100000 in
theorem rright_good (k i n : Int) (L : Value) (ls : List Ln) (w : World) (hL : LinesAt w w.heap.size L ls) (hk : 0 ≤ k ∧ k ≤ 3) (hi : 0 ≤ i ∧ i ≤ 8) (hn : 1 ≤ n ∧ n ≤ 4) (h64 : ls.length ≤ 64) :
    Calls Tryd.prog 8 #[tv k i n L] w fun e w' => e = .returned (.bool (ls.all fun l => lineB l i n)) ∧ Below w.heap.size w w' := by
  have hno := Lib.hid (fun (j : Nat) (x : Ln) (h : ls[j]? = some x) (hp : lineB x i n = false) => all_not (p := fun l => lineB l i n) h hp)
  obtain ⟨A, c, rfl, hlen, hA⟩ := hL
  have hB := below_alloc1 w (tb k i n (.slice A ls.length c))
  have ht := heap_alloc_new w (tb k i n (.slice A ls.length c))
  have hgs := Lib.hid hB
  obtain ⟨k1, k2⟩ := hk
  obtain ⟨i1, i2⟩ := hi
  obtain ⟨n1, n2⟩ := hn
  unfold tv
  unfold tb at ht hB
  go_enter Tryd.func8, Tryd.ntmps8
  go_wp2
  go_loopw [3, 4, 5] (fun t _ _ wr => ∃ j : Nat, j ≤ ls.length ∧ t = .int .i64 j ∧ Hid ((ls.take j).all (fun l => lineB l i n) = true) ∧ Below w.heap.size w wr ∧ wr.heap[w.heap.size]? = some (tb k i n (.slice A ls.length c))) (fun t _ _ _ => ls.length - (intOf t).toNat)
  case atStart => exact ⟨0, by omega, rfl, Lib.hid (by simp), hB, ht⟩
  case round =>
    clear hB ht
    obtain ⟨j, hj, rfl, hH, hb, ht⟩ := hrel
    obtain ⟨-, q1, q2, q3⟩ := tb_now ht
    by_cases hlt : j < ls.length
    · obtain ⟨b, off, rfl, hBb, hc⟩ := hA (by omega)
      obtain ⟨x, hx⟩ : ∃ x, ls[j]? = some x := ⟨_, List.getElem?_eq_getElem hlt⟩
      have gx := Lib.hid hx
      obtain ⟨ov, x0, x1, x2, hO⟩ := hc j x hx
      obtain ⟨A2, c2, rfl, hol, hO⟩ := hO
      have hz := hb.size
      have d0 := (hb.cell (p := ⟨b, off + j * 3, none⟩) hBb).trans x0
      have d1 := (hb.cell (p := ⟨b, off + j * 3 + 1, none⟩) hBb).trans x1
      have d2 := (hb.cell (p := ⟨b, off + j * 3 + 2, none⟩) hBb).trans x2
      have HR := fun w => rright_any x.m x.v i w
      have htb := size_of_block ht
      have r1 : ∀ o, (wr.alloc o).cell? ⟨w.heap.size, 1, none⟩ = some (.int .i64 i) := fun o => (World.cell?_alloc_lt _ _ _ htb).trans q1
      clear hc hx hA x0 x1 x2
      unfold cv bvv at *
      have hlB : Hid (lineB x i n = (rightB x.m x.v i && decide ((x.o.length : Int) = n) && x.o.all okOut)) := Lib.hid rfl
      cases hrb : rightB x.m x.v i
      · rw [hrb] at HR hlB
        have hr := Lib.hid (hno.out j x gx.out (by rw [hlB.out]; rfl))
        clear hrb hO
        go_wp2_with fail
        refine (HR _).mono ?_
        rintro e w1 ⟨rfl, hb1⟩
        have hB1 := (hb.alloc hb.size _).trans (hb1.mono (by simp; omega))
        clear hb1 HR
        go_wp2
        go_ret
        exact ⟨by rw [hr.out]; rfl, hB1⟩
      · rw [hrb] at HR hlB
        clear hrb
        go_wp2_with fail
        refine (HR _).mono ?_
        rintro e w1 ⟨rfl, hb1⟩
        have hB1 := (hb.alloc hb.size _).trans (hb1.mono (by simp; omega))
        have ht1 := keep_blk hb1 (keep_alloc ht)
        have hl1 := keep_blk hb1 (heap_alloc_new _ _)
        generalize wr.heap.size = bl at *
        obtain ⟨-, -, s2, s3⟩ := tb_now ht1
        obtain ⟨-, -, u2, -⟩ := now3 hl1 rfl
        clear hb1 HR q1 q2 q3 d0 d1 d2 r1 ht htb hb
        by_cases hon : (x.o.length : Int) = n
        · have hlB2 : Hid (lineB x i n = x.o.all okOut) := Lib.hid (by rw [hlB.out]; simp [hon])
          have hd : (((x.o.length : Nat) : Int) != n) = false := by simp [hon]
          have hO' := Lib.hid hO
          clear hon hlB hO
          go_wp2
          clear hd
          go_loopw [5] (fun s ws => ∃ q : Nat, q ≤ x.o.length ∧ s = .int .i64 q ∧ Hid ((x.o.take q).all okOut = true) ∧ Below w.heap.size w ws ∧ ws.heap[w.heap.size]? = some (tb k i n (.slice (some ⟨b, off, none⟩) ls.length c)) ∧ ws.heap[bl]? = some (.cells #[.int .u8 x.m.toNat, .int .u8 x.v.toNat, .slice A2 x.o.length c2] 39 (0, 0))) (fun s _ => x.o.length - (intOf s).toNat)
          case atStart => exact ⟨0, by omega, rfl, Lib.hid (by simp), hB1, ht1, hl1⟩
          case round =>
            clear hB1 ht1 hl1
            obtain ⟨q, hq, rfl, hQ, hbs, hs, us⟩ := hrel
            obtain ⟨-, -, u2, -⟩ := now3 us rfl
            by_cases hqt : q < x.o.length
            · obtain ⟨g, go, rfl, gB, gc⟩ := hO'.out (by omega)
              obtain ⟨s, hsx⟩ : ∃ s, x.o[q]? = some s := ⟨_, List.getElem?_eq_getElem hqt⟩
              have f := (hbs.cell (p := ⟨g, go + q, none⟩) gB).trans (gc q s hsx)
              have sx := Lib.hid hsx
              clear gc hsx
              have hs3 : s = 0 ∨ s = 1 ∨ s = 2 ∨ (((s : Int) != 0) = true ∧ ((s : Int) != 1) = true ∧ ((s : Int) != 2) = true) := by
                simp only [bne_iff_ne]; omega
              have step := Lib.hid (fun hp => all_take_succ (p := okOut) sx.out hQ.out hp)
              rcases hs3 with rfl | rfl | rfl | ⟨t0, t1, t2⟩
              · go_wp2
                go_roundw
                case rel => exact ⟨q + 1, by omega, by go_num, Lib.hid (step.out rfl), hbs, hs, us⟩
                case measure => simp [intOf]; omega
              · go_wp2
                go_roundw
                case rel => exact ⟨q + 1, by omega, by go_num, Lib.hid (step.out rfl), hbs, hs, us⟩
                case measure => simp [intOf]; omega
              · go_wp2
                go_roundw
                case rel => exact ⟨q + 1, by omega, by go_num, Lib.hid (step.out rfl), hbs, hs, us⟩
                case measure => simp [intOf]; omega
              · have hr := Lib.hid (hno.out j x gx.out (by
                  rw [hlB2.out]
                  refine all_not sx.out ?_
                  unfold okOut
                  simp only [bne_iff_ne] at t0 t1 t2
                  rw [Bool.and_eq_false_iff]
                  simp only [decide_eq_false_iff_not]
                  omega))
                clear step
                go_wp2
                go_ret
                exact ⟨by rw [hr.out]; rfl, hbs⟩
            · have e : q = x.o.length := by omega
              have he : Hid (lineB x i n = true) := Lib.hid (by
                have := hQ.out
                rw [e, List.take_length] at this
                rw [hlB2.out, this])
              go_wp2
              go_roundw
              case rel => exact ⟨j + 1, by omega, by go_num, Lib.hid (all_take_succ (p := fun l => lineB l i n) gx.out hH.out he.out), hbs, hs⟩
              case measure => simp [intOf]; omega
        · have hr := Lib.hid (hno.out j x gx.out (by rw [hlB.out]; simp [hon]))
          have hd : (((x.o.length : Nat) : Int) != n) = true := by rw [bne_iff_ne]; exact hon
          clear hon hlB hO
          go_wp2
          go_ret
          exact ⟨by rw [hr.out]; rfl, hB1⟩
    · have e : j = ls.length := by omega
      have hr : Hid ((ls.all fun l => lineB l i n) = true) := Lib.hid (by
        have := hH.out
        rwa [e, List.take_length] at this)
      subst e
      clear hA
      go_wp2
      go_ret
      exact ⟨by rw [hr.out]; rfl, hb⟩
theorem rright3_any (k i n : Int) (L : Value) (ls : List Ln) (w : World) (hL : LinesAt w w.heap.size L ls) :
    Calls Tryd.prog 8 #[tv k i n L] w fun e w' => e = .returned (.bool (rightT ⟨k, i, n, ls⟩)) ∧ Below w.heap.size w w' := by
  by_cases hh : headB ⟨k, i, n, ls⟩ = true
  · by_cases h64 : ls.length ≤ 64
    · obtain ⟨a, b, c⟩ := (headB_iff _).1 hh
      have e : rightT ⟨k, i, n, ls⟩ = ls.all fun l => lineB l i n := by unfold rightT; rw [hh]; simp [h64]
      rw [e]
      exact rright_good k i n L ls w hL a b c h64
    · have e : rightT ⟨k, i, n, ls⟩ = false := by unfold rightT; simp [h64]
      rw [e]
      exact rright_bad k i n L ls w hL (Or.inr (by omega))
  · have hh' : headB ⟨k, i, n, ls⟩ = false := by simpa using hh
    have e : rightT ⟨k, i, n, ls⟩ = false := by unfold rightT; rw [hh']; rfl
    rw [e]
    exact rright_bad k i n L ls w hL (Or.inl hh')
end Go.Proofs.YtpjjnafegngdkaaDoor
