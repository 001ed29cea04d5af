/- holders of the package reduce: an iterator that reads cells between two rounds. -/
import Derived.Test.YtjjpobpcpgcbaaaGJ22
namespace Go.Proofs.Ytjjpobpcpgcbaaa
open Go.RowKit Go.Joins

attribute [local go_sem] Oper.semAt_some

/-- Is list x another one, that has all numbers of r? -/
def hldB (ls : List (List Int)) (r : List Int) (k : Nat) (x : Int) : Bool := decide (x ≠ (k : Int)) && subR r (ls.getD x.toNat [])
theorem hld_no {ls : List (List Int)} {r l : List Int} {k : Nat} {i : Nat} {x : Int} (hx : l[i]? = some x) (h : hldB ls r k x = false) : (l.take (i + 1)).filter (hldB ls r k) = (l.take i).filter (hldB ls r k) := by
  rw [List.take_add_one, hx, List.filter_append]
  simp [h]
theorem hld_yes {ls : List (List Int)} {r l : List Int} {k : Nat} {i : Nat} {x : Int} (hx : l[i]? = some x) (h : hldB ls r k x = true) : (l.take (i + 1)).filter (hldB ls r k) = (l.take i).filter (hldB ls r k) ++ [x] := by
  rw [List.take_add_one, hx, List.filter_append]
  simp [h]
theorem hld_len (ls : List (List Int)) (r l : List Int) (k i : Nat) : ((l.take i).filter (hldB ls r k)).length ≤ l.length := by
  have h1 := List.length_filter_le (hldB ls r k) (l.take i)
  rw [List.length_take] at h1
  omega
/-- What may come: a list that is there, another one than k, that has all numbers of r. -/
def HoldT (ls : List (List Int)) (r : List Int) (k : Nat) : Type := { x : Int // 0 ≤ x ∧ x < ls.length ∧ hldB ls r k x = true }
def HoldT.i {ls : List (List Int)} {r : List Int} {k : Nat} (x : HoldT ls r k) : Int := x.1
theorem grown_of_below14 {w w' : World} (h : Below w.heap.size w w') : w.grownBy w' none := ⟨h.os, h.tape, h.output, h.size, fun b hb _ => h.block b hb⟩
theorem not_old14 {D : Nat → Prop} {w W : World} (hD : ∀ b, D b → b < w.heap.size) (hb : w.heap.size ≤ W.heap.size) : ∀ b, ¬ D b ∨ W.heap.size ≤ b → ¬ D b := by
  rintro b (h | h)
  · exact h
  · intro hd
    have := hD b hd
    omega
set_option maxHeartbeats 4000000 in
set_option maxRecDepth 100000 in
theorem holds14_in (n : Nat) (l : Nat) (D : Nat → Prop) (b1 b2 b3 : Nat) (V H : Value) (ls hv : List (List Int)) (k : Nat) (r : List Int) (hn : 1 ≤ n) (hk : ls[k]? = some r)
    (hr : ∀ x, x ∈ r → 0 ≤ x ∧ x < hv.length) (hls : ls.length ≤ 100000) (hris : ∀ q, q ∈ ls → q.Pairwise (· < ·)) (hfew : ∀ q, FewOk ls hv r q → ∀ x, x ∈ q → 0 ≤ x ∧ x < ls.length)
    (J Jx : List (HoldT ls r k) → World → Prop) (W : World) (hD : ∀ b, D b → b < W.heap.size)
    (hJ : AbidesFrom W.heap.size J)
    (hY : ∀ pre x W1, J pre W1 → pre.length < 9223372036854775808 → YieldAt Fence.wide (n - 1) Try.prog l #[.int .i64 x.i] W1 fun e W' =>
      (e = .returned (.bool true) ∧ J (pre ++ [x]) W' ∧ KeepC D W1 W') ∨ (e = .returned (.bool false) ∧ Jx (pre ++ [x]) W'))
    (h1 : W.cell? ⟨b1, 0, none⟩ = some V) (h2 : W.cell? ⟨b2, 0, none⟩ = some H) (h3 : W.cell? ⟨b3, 0, none⟩ = some (.int .i64 k)) (d1 : ¬ D b1) (_d2 : ¬ D b2) (d3 : ¬ D b3)
    (hV : MatN W (fun b => ¬ D b) V ls) (hH : MatN W (fun b => ¬ D b) H hv) (h0 : J [] W) :
    CallsIn Fence.wide n Try.prog 57 (#[.func (.yield l) #[] #[]] ++ #[.pointer (some ⟨b1, 0, none⟩), .pointer (some ⟨b2, 0, none⟩), .pointer (some ⟨b3, 0, none⟩)]) W fun e W' => (∃ v, e = .returned v) ∧
      ((∃ xs : List (HoldT ls r k), (∃ q, FewOk ls hv r q ∧ xs.map HoldT.i = q.filter (hldB ls r k)) ∧ J xs W') ∨ (∃ pre : List (HoldT ls r k), True ∧ Jx pre W')) := by
  have HF := fewest14_any (fun b => ¬ D b) V H ls hv k r W hV.here hH hk hr hls
  have hkl : k < ls.length := (List.getElem?_eq_some_iff.1 hk).1
  have hgr : ls.getD k [] = r := by rw [List.getD_eq_getElem?_getD, hk]; rfl
  have hVV := hV
  obtain ⟨AV, cV, rfl, hlV, hcV⟩ := hV
  obtain ⟨bv, ov, rfl, dv, hcv⟩ := hcV (by omega)
  obtain ⟨AH, cH, rfl, -, -⟩ := id hH
  have hrH := Lib.hid hr
  have hlsH := Lib.hid hls
  clear hr hls hcV hH
  refine callsIn_of_wp Try.func57 rfl trivial ?_ rfl
  simp only [Try.ntmps57, List.size_toArray, List.length_cons, List.length_nil, Nat.reduceAdd, Nat.reduceSub, Array.replicate_succ, Array.replicate_zero, List.push_toArray, List.append_toArray, List.nil_append, List.cons_append]
  gi_wp2_with fail
  refine ⟨trivial, (callsIn_wide.2 HF).mono ?_⟩
  rintro e w1 ⟨vq, q, rfl, hq, hI, hb⟩
  have hI' : IntsN w1 (fun b => ¬ D b) vq q := hI.keep (fun _ _ => rfl) (not_old14 hD (Nat.le_refl _))
  have hq2 := Lib.hid (hfew q hq)
  have hqH := Lib.hid hq
  have hJ0 := hJ [] W w1 none h0 (grown_of_below14 hb) (fun r e => by cases e)
  have hkc : KeepC D W w1 := KeepC.of_below hb
  have hs1 := hb.size
  have hIq := hI'
  obtain ⟨Aq, cq, rfl, hlq, hcq⟩ := hI'
  have hst : Hid (∀ (i : Nat) (x : Int), q[i]? = some x → hldB ls r k x = false → (q.take (i + 1)).filter (hldB ls r k) = (q.take i).filter (hldB ls r k)) := Lib.hid (fun i x => hld_no)
  have hst2 : Hid (∀ (i : Nat) (x : Int), q[i]? = some x → hldB ls r k x = true → (q.take (i + 1)).filter (hldB ls r k) = (q.take i).filter (hldB ls r k) ++ [x]) := Lib.hid (fun i x => hld_yes)
  have hln : Hid (∀ i, ((q.take i).filter (hldB ls r k)).length ≤ q.length) := Lib.hid (fun i => hld_len ls r q k i)
  have hall : Hid ((q.take q.length).filter (hldB ls r k) = q.filter (hldB ls r k)) := Lib.hid (by rw [List.take_length])
  clear hI hq hb HF h0 hfew
  gi_wp2
  gi_loopw [6, 12] (fun _ i wr => ∃ (j : Nat) (pre : List (HoldT ls r k)), j ≤ q.length ∧ i = .int .i64 j ∧ Hid (pre.map HoldT.i = (q.take j).filter (hldB ls r k)) ∧ J pre wr ∧ KeepC D w1 wr)
    (fun _ i _ => q.length - (intOf i).toNat)
  case atStart => exact ⟨0, [], Nat.zero_le _, rfl, Lib.hid rfl, hJ0, KeepC.refl _ _⟩
  case round =>
    obtain ⟨j, pre, hj, rfl, hpj, hJs, hkr⟩ := hrel
    have hkW := hkc.trans hkr
    have hsr := hkW.size
    by_cases hlt : j < q.length
    · obtain ⟨x, hx⟩ : ∃ x, q[j]? = some x := ⟨_, List.getElem?_eq_getElem hlt⟩
      obtain ⟨bq, oq, rfl, dq, hcq⟩ := hcq (by omega)
      have z0 := hkr.cell (hcq j x hx) dq
      obtain ⟨x0, x1⟩ := hq2.out x (List.mem_of_getElem? hx)
      obtain ⟨y, rfl⟩ := Int.eq_ofNat_of_zero_le x0
      have hyl : y < ls.length := by omega
      have hxH := Lib.hid hx
      obtain ⟨ly, hly⟩ : ∃ q, ls[y]? = some q := ⟨_, List.getElem?_eq_getElem hyl⟩
      obtain ⟨o1, p1, hi1⟩ := hcv y ly hly
      obtain ⟨o2, p2, hi2⟩ := hcv k r hk
      have e1 := hkW.cell p1 dv
      have e2 := hkW.cell p2 dv
      have c1 := hkW.cell h1 d1
      have c3 := hkW.cell h3 d3
      have i1 := hkW.ints hi1
      have i2 := hkW.ints hi2
      have HA := fun X : After wr => hasall14_any o1 o2 ly r X.1 (((i1.here).below X.2).more X.2.size) (((i2.here).below X.2).more X.2.size) (hris _ (List.mem_of_getElem? hly)) (hris r (List.mem_of_getElem? hk))
      obtain ⟨A1, cc1, rfl, -, -⟩ := id hi1
      obtain ⟨A2, cc2, rfl, -, -⟩ := id hi2
      have f1 := fun X : After wr => After.cell X e1
      have f2 := fun X : After wr => After.cell X e2
      have f3 := fun X : After wr => After.cell X c1
      have f4 := fun X : After wr => After.cell X c3
      have gy : Hid (ls.getD (y : Int).toNat [] = ly) := Lib.hid (by rw [List.getD_eq_getElem?_getD, Int.toNat_natCast, hly]; rfl)
      have y0 : (0 : Int) ≤ (y : Int) := by omega
      have y1 : (y : Int) < (ls.length : Int) := by omega
      have k0 : (0 : Int) ≤ (k : Int) := by omega
      have k1 : (k : Int) < (ls.length : Int) := by omega
      have j0 : (0 : Int) ≤ (j : Int) := by omega
      have j1 : (j : Int) < (q.length : Int) := by omega
      have hkl2 := Lib.hid hkl
      clear hcq hx p1 p2 e1 e2 c1 c3 i1 i2 hi1 hi2 h1 h2 h3 hris hkl hq2 hcv x1 hyl hly
      gi_wp2_with fail
      by_cases hyk : y = k
      · have hB : hldB ls r k (y : Int) = false := by
          unfold hldB
          rw [hyk, decide_eq_false (by simp)]; rfl
        have hs := Lib.hid (hst.out j y hxH.out hB)
        have hne : ((y : Int) != (k : Int)) = false := by rw [hyk]; simp
        clear hB hyk HA hst hst2 hln hall
        refine wpIn_region_after (lets_wide _) (by kernel_rfl) (by kernel_rfl) (by kernel_rfl) ?_
        repeat (first | go_big_quiet_step (fail))
        refine wpQuiet_nil ?_
        intro z
        have hJz := hJ _ wr z.1 none hJs (grown_of_below14 z.2) (fun r e => by cases e)
        have hkz := hkr.trans (KeepC.of_below z.2)
        clear f1 f2 f3 f4 z0
        gi_wp2
        go_roundw
        case rel => exact ⟨j + 1, pre, by omega, by go_num, Lib.hid (by rw [hs.out]; exact hpj.out), hJz, hkz⟩
        case measure => simp [intOf]; omega
      · have hne : ((y : Int) != (k : Int)) = true := by rw [bne_iff_ne]; omega
        cases hsb : subR r ly
        · have hB : hldB ls r k (y : Int) = false := by
            unfold hldB
            rw [gy.out, hsb, Bool.and_false]
          have hs := Lib.hid (hst.out j y hxH.out hB)
          rw [hsb] at HA
          clear hB hyk hst hst2 hln hall hsb
          refine wpIn_region_after (lets_wide _) (by kernel_rfl) (by kernel_rfl) (by kernel_rfl) ?_
          repeat (first | go_big_quiet_step ((go_at_call 59; exact Calls.after_of (HA _))))
          refine wpQuiet_nil ?_
          intro z
          have hJz := hJ _ wr z.1 none hJs (grown_of_below14 z.2) (fun r e => by cases e)
          have hkz := hkr.trans (KeepC.of_below z.2)
          clear f1 f2 f3 f4 z0 HA
          gi_wp2
          go_roundw
          case rel => exact ⟨j + 1, pre, by omega, by go_num, Lib.hid (by rw [hs.out]; exact hpj.out), hJz, hkz⟩
          case measure => simp [intOf]; omega
        · have hB : hldB ls r k (y : Int) = true := by
            unfold hldB
            rw [gy.out, hsb, decide_eq_true (show (y : Int) ≠ k by omega)]; rfl
          have hs := Lib.hid (hst2.out j y hxH.out hB)
          have hl2 : pre.length ≤ q.length := by
            have h1 := hln.out j
            rw [← hpj.out, List.length_map] at h1
            exact h1
          obtain ⟨xx, hxx⟩ : ∃ xx : HoldT ls r k, xx.i = (y : Int) := ⟨⟨y, y0, y1, hB⟩, rfl⟩
          rw [hsb] at HA
          clear hB hyk hst hst2 hln hall hsb
          refine wpIn_region_mid 17 _ rfl (lets_wide _) (by kernel_rfl) (by kernel_rfl) (by kernel_rfl) ?_
          simp only [List.take_succ_cons, List.take_zero, List.drop_succ_cons, List.drop_zero]
          repeat (first | go_big_quiet_step ((go_at_call 59; exact Calls.after_of (HA _))))
          refine wpQuiet_nil ⟨by rfl, ?_⟩
          intro z K hK
          have hJz := hJ _ wr z.1 none hJs (grown_of_below14 z.2) (fun r e => by cases e)
          have hkz := hkr.trans (KeepC.of_below z.2)
          obtain ⟨fn, tmps, assign, body, hy, hR⟩ := hY _ xx z.1 hJz (by omega)
          rw [hxx] at hy
          have hxx2 := Lib.hid hxx
          clear hxx
          clear f1 f2 f3 f4 z0 HA hY
          gi_wp2
          refine hR.mono ?_
          rintro e W3 (⟨rfl, hJ3, hk3⟩ | ⟨rfl, hJx3⟩)
          · refine hK.out _ _ ?_
            clear hK
            repeat (first | go_big_quiet_step (fail))
            refine wpQuiet_nil ?_
            gi_wp2
            go_roundw
            case rel => exact ⟨j + 1, pre ++ [xx], by omega, by go_num, Lib.hid (by rw [hs.out, List.map_append, hpj.out, ← hxx2.out]; rfl), hJ3, hkz.trans hk3⟩
            case measure => simp [intOf]; omega
          · refine hK.out _ _ ?_
            clear hK
            repeat (first | go_big_quiet_step (fail))
            refine wpQuiet_nil ?_
            gi_wp2
            refine bodyPost_ret (results_none rfl _ _ _) rfl ?_
            exact ⟨⟨_, rfl⟩, .inr ⟨_, trivial, hJx3⟩⟩
    · have e : j = q.length := by omega
      have hjd : ¬ (j : Int) < (q.length : Int) := by omega
      have hJf : Hid (pre.map HoldT.i = q.filter (hldB ls r k)) := Lib.hid (by rw [← hall.out, ← e]; exact hpj.out)
      clear e hst hst2 hln hall
      gi_wp2
      go_end0
      exact ⟨⟨_, rfl⟩, .inl ⟨_, ⟨q, hqH.out, hJf.out⟩, hJs⟩⟩
/-- The iterator value that holders hands back, made in w. -/
theorem holds14_stops (n : Nat) (D : Nat → Prop) (b1 b2 b3 : Nat) (V H : Value) (ls hv : List (List Int)) (k : Nat) (r : List Int) (w : World) (hn : 1 ≤ n) (hk : ls[k]? = some r)
    (hr : ∀ x, x ∈ r → 0 ≤ x ∧ x < hv.length) (hls : ls.length ≤ 100000) (hris : ∀ q, q ∈ ls → q.Pairwise (· < ·)) (hfew : ∀ q, FewOk ls hv r q → ∀ x, x ∈ q → 0 ≤ x ∧ x < ls.length)
    (hD : ∀ b, D b → b < w.heap.size)
    (h1 : w.cell? ⟨b1, 0, none⟩ = some V) (h2 : w.cell? ⟨b2, 0, none⟩ = some H) (h3 : w.cell? ⟨b3, 0, none⟩ = some (.int .i64 k)) (d1 : ¬ D b1) (d2 : ¬ D b2) (d3 : ¬ D b3)
    (hV : MatN w (fun b => ¬ D b) V ls) (hH : MatN w (fun b => ¬ D b) H hv) :
    SeqStopsK Fence.wide n Try.prog 57 #[.pointer (some ⟨b1, 0, none⟩), .pointer (some ⟨b2, 0, none⟩), .pointer (some ⟨b3, 0, none⟩)] (fun x : HoldT ls r k => #[.int .i64 x.i]) (KeepC D)
      (fun xs => ∃ q, FewOk ls hv r q ∧ xs.map HoldT.i = q.filter (hldB ls r k)) (fun _ => True) 9223372036854775808 w := fun l J Jx W hW hJ _ hY h0 =>
  have hk' : KeepC D w W := KeepC.of_below hW
  holds14_in n l D b1 b2 b3 V H ls hv k r hn hk hr hls hris hfew J Jx W (fun b hb => Nat.lt_of_lt_of_le (hD b hb) hW.size) hJ hY (hk'.cell h1 d1) (hk'.cell h2 d2) (hk'.cell h3 d3) d1 d2 d3 (hk'.mat hV) (hk'.mat hH) h0
theorem holders14_any (V H : Value) (k : Int) (w : World) (hV : ∃ A n c, V = .slice A n c) (hH : ∃ A n c, H = .slice A n c) :
    Calls Try.prog 49 #[V, H, .int .i64 k] w fun e w' => e = .returned (.func (.func 57) #[] #[.pointer (some ⟨w.heap.size, 0, none⟩), .pointer (some ⟨w.heap.size + 1, 0, none⟩), .pointer (some ⟨w.heap.size + 1 + 1, 0, none⟩)]) ∧
      w' = ((w.alloc (.cells #[V] 22)).alloc (.cells #[H] 22)).alloc (.cells #[.int .i64 k] 3) := by
  have hmf : ∀ (fn : Fn) (first cap : Array Value) (w : World), (Instr.makeFunc fn first cap).run Try.prog w = .ok (.func fn first cap) w := fun _ _ _ _ => rfl
  obtain ⟨A, n, c, rfl⟩ := hV
  obtain ⟨A2, n2, c2, rfl⟩ := hH
  go_enter Try.func49, Try.ntmps49
  go_wp2
  go_ret
  exact ⟨rfl, rfl⟩
end Go.Proofs.Ytjjpobpcpgcbaaa
