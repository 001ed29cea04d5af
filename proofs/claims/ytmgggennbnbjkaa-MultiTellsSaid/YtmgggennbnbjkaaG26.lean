/- The document's own All and Same of layer 10. -/
import Derived.Test.YtmgggennbnbjkaaG19
namespace Go.Proofs.Ytmgggennbnbjkaa
open Go.RowKit Go.Joins

theorem prim_hit {s : Sp} (h4 : s.on.length ≤ 8) {i k : Nat} {x y : Rw} (hx : (rwL (rowIn s))[i]? = some x) (hy : (rwL (rowIn s))[k]? = some y) (hne : k ≠ i) (h : rhB y x = true) : primR s x = false := by
  rw [Bool.eq_false_iff]
  intro hp
  rw [(prime_at h4 hx).1 hp k y hy hne] at h; cases h
/-- No other one of the first k holds it. -/
def NoneH (L : List Rw) (i : Nat) (x : Rw) (k : Nat) : Prop := ∀ q y, q < k → L[q]? = some y → q ≠ i → rhB y x = false
set_option maxHeartbeats 8000000 in
set_option maxRecDepth 100000 in
theorem rall10_any (n : Nat) (A C : Value) (on may : List (BitVec 256)) (w : World) (hA : SetsAt w w.heap.size A on) (hC : SetsAt w w.heap.size C may) (hn : n ≤ 8) (ho8 : on.length ≤ 8) (hm8 : may.length ≤ 8) :
    Calls Try.prog 19 #[spv n A C] w fun e w' => ∃ v, e = .returned v ∧ RwsAt w' w'.heap.size v (rwL (primR ⟨n, on, may⟩)) ∧ Below w.heap.size w w' := by
  obtain ⟨i0, hi0, hz0, hz1, hz2⟩ := info_parts Try.infoRow10
  have hB := below_alloc1 w (spb n A C)
  have hb0 := heap_alloc_new w (spb n A C)
  have HR := rrows10_any n A C on may (w.alloc (spb n A C)) ((hA.below hB).more hB.size) ((hC.below hB).more hB.size) hn ho8 hm8
  have HH := fun a b w => rhold10_any a b w
  have hlen := rwL_len (rowIn ⟨n, on, may⟩)
  have hhit := Lib.hid (fun (i k : Nat) (x y : Rw) hx hy hne h => prim_hit (s := ⟨n, on, may⟩) ho8 (i := i) (k := k) (x := x) (y := y) hx hy hne h)
  have hat := Lib.hid (fun (i : Nat) (x : Rw) hx => (prime_at (s := ⟨n, on, may⟩) ho8 (i := i) (x := x) hx).2)
  have hfin : Hid ((rwL (rowIn ⟨n, on, may⟩)).filter (primR ⟨n, on, may⟩) = rwL (primR ⟨n, on, may⟩)) := Lib.hid (rwL_filter fun x hx => prim_in hx)
  generalize rwL (rowIn ⟨n, on, may⟩) = L at *
  generalize primR ⟨n, on, may⟩ = PR at *
  obtain ⟨s0, s1, s2, -⟩ := now3 hb0 rfl
  obtain ⟨A, ac, rfl, la, -⟩ := hA
  obtain ⟨C, cc, rfl, lc, -⟩ := hC
  unfold spv spb at *
  go_enter Try.func19, Try.ntmps19
  go_wp2_with fail
  refine HR.mono ?_
  rintro e w1 ⟨v, rfl, hL, hb⟩
  have hB1 := hB.trans (hb.mono hB.size)
  obtain ⟨A', c', rfl, -, hc⟩ := hL
  clear HR hB hb hb0 s0 s1 s2
  have hs1 := hB1.size
  go_wp2
  go_loopw [4, 5] (fun s t wr => ∃ (i : Nat) (K : List Rw), i ≤ L.length ∧ t = .int .i64 i ∧ Hid (K = (L.take i).filter PR) ∧ K.length ≤ i ∧ wr.ownsRow w1.heap.size 28 3 s K.length (rzV K) ∧ Below w1.heap.size w1 wr) (fun _ t _ => L.length - (intOf t).toNat)
  case atStart => exact ⟨0, [], by omega, rfl, Lib.hid (by simp), by decide, World.ownsRow_nil _ _ _ _, Below.refl _ _⟩
  case round =>
    obtain ⟨i, K, hi, rfl, hK, hKl, hown, hb⟩ := hrel
    by_cases hil : i < L.length
    · obtain ⟨bl, off, rfl, hBl, hcl⟩ := hc (by omega)
      obtain ⟨x, hx⟩ : ∃ x, L[i]? = some x := ⟨_, List.getElem?_eq_getElem hil⟩
      have i0' : (0 : Int) ≤ (i : Int) := by omega
      have i1' : (i : Int) < (L.length : Int) := by omega
      go_wp2
      go_loopw [6, 7] (fun s t wj => ∃ (k : Nat) (p : Bool), k ≤ L.length ∧ t = .int .i64 k ∧ s = .bool p ∧ Hid ((p = true → NoneH L i x k) ∧ (p = false → PR x = false)) ∧ Below wr.heap.size wr wj) (fun _ t _ => L.length - (intOf t).toNat)
      case atStart => exact ⟨0, true, by omega, rfl, rfl, Lib.hid ⟨fun _ q y h => absurd h (Nat.not_lt_zero _), fun h => by cases h⟩, Below.refl _ _⟩
      case round =>
        have hwr := hb
        obtain ⟨k, p, hk, rfl, rfl, hp, hb2⟩ := hrel
        by_cases hkl : k < L.length
        · obtain ⟨y, hy⟩ : ∃ y, L[k]? = some y := ⟨_, List.getElem?_eq_getElem hkl⟩
          have hbw := hwr.trans (hb2.mono hwr.size)
          obtain ⟨x0, x1, x2⟩ := hcl i x hx
          obtain ⟨y0, y1, y2⟩ := hcl k y hy
          have d0 := (hbw.cell (p := ⟨bl, off + i * 3, none⟩) hBl).trans x0
          have d1 := (hbw.cell (p := ⟨bl, off + i * 3 + 1, none⟩) hBl).trans x1
          have d2 := (hbw.cell (p := ⟨bl, off + i * 3 + 2, none⟩) hBl).trans x2
          have e0 := (hbw.cell (p := ⟨bl, off + k * 3, none⟩) hBl).trans y0
          have e1 := (hbw.cell (p := ⟨bl, off + k * 3 + 1, none⟩) hBl).trans y1
          have e2 := (hbw.cell (p := ⟨bl, off + k * 3 + 2, none⟩) hBl).trans y2
          have HHx := fun w => HH y x w
          have hh := Lib.hid (fun hne => hhit.out i k x y hx hy hne)
          have hyH := Lib.hid hy
          have k0 : (0 : Int) ≤ (k : Int) := by omega
          have k1 : (k : Int) < (L.length : Int) := by omega
          clear hcl hc HH hhit hat hx hy x0 x1 x2 y0 y1 y2 hown hK hKl
          by_cases hki : k = i
          · subst hki
            have hne : ((k : Int) != (k : Int)) = false := by simp
            have hp2 : Hid ((p = true → NoneH L k x (k + 1)) ∧ (p = false → PR x = false)) := Lib.hid ⟨fun h q y h1 h2 h3 => hp.out.1 h q y (by omega) h2 h3, hp.out.2⟩
            clear hp hh HHx
            go_upto_region 10 with (fail)
            refine wp_region_after (by kernel_rfl) (by kernel_rfl) ?_
            repeat (first | go_big_quiet_step (fail))
            refine wpQuiet_nil ?_
            intro z
            have hbz := hb2.trans (z.2.mono hb2.size)
            clear d0 d1 d2 e0 e1 e2
            go_wp2
            go_roundw
            case rel => exact ⟨k + 1, p, by omega, by go_num, rfl, hp2, hbz⟩
            case measure => simp [intOf]; omega
          · have hne : ((k : Int) != (i : Int)) = true := by rw [bne_iff_ne]; omega
            unfold rwv bvv at HHx
            unfold bvv at d0 d1 d2 e0 e1 e2
            cases hr : rhB y x
            · rw [hr] at HHx
              have hp2 : Hid ((p = true → NoneH L i x (k + 1)) ∧ (p = false → PR x = false)) := Lib.hid ⟨fun h q z h1 h2 h3 => by
                by_cases e : q = k
                · subst e
                  have h4 := hyH.out
                  rw [h2] at h4
                  injection h4 with h4
                  rw [h4]; exact hr
                · exact hp.out.1 h q z (by omega) h2 h3, hp.out.2⟩
              clear hp hh hr hyH hki
              go_upto_region 10 with (fail)
              have D0 := fun x : After wr => After.cell x d0
              have D1 := fun x : After wr => After.cell x d1
              have D2 := fun x : After wr => After.cell x d2
              have E0 := fun x : After wr => After.cell x e0
              have E1 := fun x : After wr => After.cell x e1
              have E2 := fun x : After wr => After.cell x e2
              clear d0 d1 d2 e0 e1 e2
              refine wp_region_after (by kernel_rfl) (by kernel_rfl) ?_
              repeat (first | go_big_quiet_step ((go_at_call 14; exact Calls.after_of (HHx _))))
              refine wpQuiet_nil ?_
              intro z
              have hbz := hb2.trans (z.2.mono hb2.size)
              clear D0 D1 D2 E0 E1 E2 HHx
              go_wp2
              go_roundw
              case rel => exact ⟨k + 1, p, by omega, by go_num, rfl, hp2, hbz⟩
              case measure => simp [intOf]; omega
            · rw [hr] at HHx
              have hp2 : Hid ((false = true → NoneH L i x (k + 1)) ∧ (false = false → PR x = false)) := Lib.hid ⟨fun h => (by cases h), fun _ => hh.out hki hr⟩
              clear hp hh hr hyH hki
              go_upto_region 10 with (fail)
              have D0 := fun x : After wr => After.cell x d0
              have D1 := fun x : After wr => After.cell x d1
              have D2 := fun x : After wr => After.cell x d2
              have E0 := fun x : After wr => After.cell x e0
              have E1 := fun x : After wr => After.cell x e1
              have E2 := fun x : After wr => After.cell x e2
              clear d0 d1 d2 e0 e1 e2
              refine wp_region_after (by kernel_rfl) (by kernel_rfl) ?_
              repeat (first | go_big_quiet_step ((go_at_call 14; exact Calls.after_of (HHx _))))
              refine wpQuiet_nil ?_
              intro z
              have hbz := hb2.trans (z.2.mono hb2.size)
              clear D0 D1 D2 E0 E1 E2 HHx
              go_wp2
              go_roundw
              case rel => exact ⟨k + 1, false, by omega, by go_num, rfl, hp2, hbz⟩
              case measure => simp [intOf]; omega
        · have e : k = L.length := by omega
          subst e
          have ho2 := owns_below hown hb2
          have hbw := hwr.trans (hb2.mono hwr.size)
          have hs2 := hbw.size
          obtain ⟨x0, x1, x2⟩ := hcl i x hx
          have d0 := (hbw.cell (p := ⟨bl, off + i * 3, none⟩) hBl).trans x0
          have d1 := (hbw.cell (p := ⟨bl, off + i * 3 + 1, none⟩) hBl).trans x1
          have d2 := (hbw.cell (p := ⟨bl, off + i * 3 + 2, none⟩) hBl).trans x2
          have hpx : Hid (PR x = p) := Lib.hid (by
            cases p
            · exact hp.out.2 rfl
            · exact hat.out i x hx (fun q y hy hne => hp.out.1 rfl q y (List.getElem?_eq_some_iff.1 hy).1 hy hne))
          have hst : Hid ((L.take (i + 1)).filter PR = K ++ (if p = true then [x] else [])) := Lib.hid (by
            rw [List.take_add_one, hx, List.filter_append, ← hK.out]
            congr 1
            simp only [Option.toList_some, List.filter_cons, List.filter_nil, hpx.out])
          have hkd : decide ((L.length : Int) < (L.length : Int)) = false := decide_eq_false (by omega)
          clear hcl hc HH hhit hat hx x0 x1 x2 hown hK hp hpx hwr hb hb2
          cases p
          · have hK2 : Hid (K = (L.take (i + 1)).filter PR) := Lib.hid (by rw [hst.out]; simp)
            clear hst
            go_wp2
            go_roundw
            case rel => exact ⟨i + 1, K, by omega, by go_num, hK2, by omega, ho2, hbw⟩
            case measure => simp [intOf]; omega
          · have hK2 : Hid (K ++ [x] = (L.take (i + 1)).filter PR) := Lib.hid (by rw [hst.out]; rfl)
            unfold bvv at d0 d1 d2
            clear hst
            go_wp2_with (at_builtin; go_loud (refine wpList_append_own _ rfl _ _ 38 rfl w1.heap.size 28 i0 (.agg #[.int .u8 0, .int .u8 0, .int .u8 0]) 3 3 Try.underlying38 hi0 hz0 hz1 hz2 rfl (by decide) _ _ _ rfl (ho2.alloc _) ⟨wr.heap.size, 0, none⟩ 1 1 [.int .u8 x.m.toNat, .int .u8 x.v.toNat, .int .u8 x.o.toNat] rfl rfl ?c1 ?c2 ?c3 ?c4 ?c5 ?_))
            case c1 => exact World.news_of_block (cs := #[.int .u8 x.m.toNat, .int .u8 x.v.toNat, .int .u8 x.o.toNat]) (t := 28) (fr := (0, 0)) (heap_alloc_new wr _)
            case c2 => intro u hu; simp at hu; rcases hu with rfl | rfl | rfl <;> rfl
            case c3 => unfold maxLen; omega
            case c4 => omega
            case c5 => simp; omega
            intro v' w8 ho8' hg8 _
            have hB8 := grown_below (ho2.alloc (.cells #[.int .u8 x.m.toNat, .int .u8 x.v.toNat, .int .u8 x.o.toNat] 28)) hg8 (hbw.alloc hbw.size _) (Nat.le_refl _) (by simp; omega)
            have ho9 : w8.ownsRow w1.heap.size 28 3 v' (K ++ [x]).length (rzV (K ++ [x])) := by
              rw [rzV_snoc, List.length_append]
              exact ho8'
            clear hg8 ho8' ho2 hbw
            go_wp2
            go_roundw
            case rel => exact ⟨i + 1, K ++ [x], by omega, by go_num, hK2, by rw [List.length_append]; simp; omega, ho9, hB8⟩
            case measure => simp [intOf]; omega
    · have e : i = L.length := by omega
      subst e
      have hKe : K = rwL PR := by rw [hK.out, List.take_length, hfin.out]
      have hBr := hB1.trans (hb.mono hs1)
      have hR := own_rz hown
      rw [hKe] at hR
      clear hK hhit hat hfin HH hc
      go_wp2
      go_ret
      exact ⟨_, rfl, hR, hBr⟩
set_option maxHeartbeats 2000000 in
set_option maxRecDepth 100000 in
theorem rsame10_any (w : World) (v u : Value) (xs ys : List Rw) (hx : RwsAt w w.heap.size v xs) (hy : RwsAt w w.heap.size u ys) :
    Calls Try.prog 18 #[v, u] w fun e w' => ∃ b, e = .returned (.bool b) ∧ (b = true ↔ xs = ys) ∧ Below w.heap.size w w' := by
  obtain ⟨A, c, rfl, hlx, hcx⟩ := hx
  obtain ⟨A2, c2, rfl, hly, hcy⟩ := hy
  by_cases hl : xs.length = ys.length
  · have hd : (((xs.length : Nat) : Int) != ((ys.length : Nat) : Int)) = false := by rw [hl]; simp
    have hlH := Lib.hid hl
    clear hl
    go_enter Try.func18, Try.ntmps18
    go_wp2
    clear hd
    go_loopw [5] (fun t wr => ∃ k : Nat, k ≤ xs.length ∧ t = .int .i64 k ∧ Hid (xs.take k = ys.take k) ∧ Below w.heap.size w wr) (fun t _ => xs.length - (intOf t).toNat)
    case atStart => exact ⟨0, by omega, rfl, Lib.hid (by simp), Below.refl _ _⟩
    case round =>
      obtain ⟨k, hk, rfl, hH, hb⟩ := hrel
      by_cases hlt : k < xs.length
      · have hlt' : k < ys.length := by have := hlH.out; omega
        obtain ⟨b, off, rfl, hB, hc⟩ := hcx (by omega)
        obtain ⟨b', off', rfl, hB', hc'⟩ := hcy (by omega)
        obtain ⟨x, hx⟩ : ∃ x, xs[k]? = some x := ⟨_, List.getElem?_eq_getElem hlt⟩
        obtain ⟨y, hy⟩ : ∃ y, ys[k]? = some y := ⟨_, List.getElem?_eq_getElem hlt'⟩
        obtain ⟨x0, x1, x2⟩ := hc k x hx
        obtain ⟨y0, y1, y2⟩ := hc' k y hy
        have q0 := fun X : After wr => After.cell X ((hb.cell (p := ⟨b, off + k * 3, none⟩) hB).trans x0)
        have q1 := fun X : After wr => After.cell X ((hb.cell (p := ⟨b, off + k * 3 + 1, none⟩) hB).trans x1)
        have q4 := fun X : After wr => After.cell X ((hb.cell (p := ⟨b, off + k * 3 + 2, none⟩) hB).trans x2)
        have q2 := fun X : After wr => After.cell X ((hb.cell (p := ⟨b', off' + k * 3, none⟩) hB').trans y0)
        have q3 := fun X : After wr => After.cell X ((hb.cell (p := ⟨b', off' + k * 3 + 1, none⟩) hB').trans y1)
        have q5 := fun X : After wr => After.cell X ((hb.cell (p := ⟨b', off' + k * 3 + 2, none⟩) hB').trans y2)
        have b1 : (0 : Int) ≤ (k : Int) := by omega
        have b2 : (k : Int) < (xs.length : Int) := by omega
        have b3 : (k : Int) < (ys.length : Int) := by omega
        have hxH := Lib.hid hx
        have hyH := Lib.hid hy
        clear hc hc' hcx hcy hx hy x0 x1 y0 y1 x2 y2
        obtain ⟨xm, xv, xo⟩ := x
        obtain ⟨ym, yv, yo⟩ := y
        unfold bvv at q0 q1 q2 q3 q4 q5
        by_cases hxy : xm = ym ∧ xv = yv ∧ xo = yo
        · obtain ⟨rfl, rfl, rfl⟩ := hxy
          have hst : Hid (xs.take (k + 1) = ys.take (k + 1)) := Lib.hid (by rw [List.take_add_one, List.take_add_one, hH.out, hxH.out, hyH.out])
          clear hH
          go_wp2_with fail
          refine wp_region_after (by kernel_rfl) (by kernel_rfl) ?_
          repeat (first | go_big_quiet_step (fail))
          refine wpQuiet_nil ?_
          intro z
          have hbz := hb.trans (z.2.mono hb.size)
          clear q0 q1 q2 q3 q4 q5
          go_wp2
          go_roundw
          case rel => exact ⟨k + 1, by omega, by go_num, hst, hbz⟩
          case measure => simp [intOf]; omega
        · have hno : Hid (¬ xs = ys) := Lib.hid (fun e => by
            have e1 := hxH.out
            rw [e, hyH.out] at e1
            injection e1 with e1
            injection e1 with e2 e3 e4
            exact hxy ⟨e2.symm, e3.symm, e4.symm⟩)
          clear hH hxH hyH
          by_cases hm : xm = ym
          · subst hm
            by_cases hv : xv = yv
            · subst hv
              have hn : ¬ (xo.toNat : Int) = yo.toNat := fun e => hxy ⟨rfl, rfl, BitVec.eq_of_toNat_eq (by omega)⟩
              have hn2 : ¬ xo = yo := fun e => hxy ⟨rfl, rfl, e⟩
              clear hxy
              go_wp2_with fail
              refine wp_region_after (by kernel_rfl) (by kernel_rfl) ?_
              repeat (first | go_big_quiet_step (fail))
              refine wpQuiet_nil ?_
              intro z
              have hbz := hb.trans (z.2.mono hb.size)
              clear q0 q1 q2 q3 q4 q5
              go_wp2
              go_ret
              exact ⟨false, rfl, ⟨fun h => (by cases h), fun h => absurd h hno.out⟩, hbz⟩
            have hn : ¬ (xv.toNat : Int) = yv.toNat := fun e => hv (BitVec.eq_of_toNat_eq (by omega))
            clear hxy
            go_wp2_with fail
            refine wp_region_after (by kernel_rfl) (by kernel_rfl) ?_
            repeat (first | go_big_quiet_step (fail))
            refine wpQuiet_nil ?_
            intro z
            have hbz := hb.trans (z.2.mono hb.size)
            clear q0 q1 q2 q3 q4 q5
            go_wp2
            go_ret
            exact ⟨false, rfl, ⟨fun h => (by cases h), fun h => absurd h hno.out⟩, hbz⟩
          · have hn : ¬ (xm.toNat : Int) = ym.toNat := fun e => hm (BitVec.eq_of_toNat_eq (by omega))
            clear hxy
            go_wp2_with fail
            refine wp_region_after (by kernel_rfl) (by kernel_rfl) ?_
            repeat (first | go_big_quiet_step (fail))
            refine wpQuiet_nil ?_
            intro z
            have hbz := hb.trans (z.2.mono hb.size)
            clear q0 q1 q2 q3 q4 q5
            go_wp2
            go_ret
            exact ⟨false, rfl, ⟨fun h => (by cases h), fun h => absurd h hno.out⟩, hbz⟩
      · have e : k = xs.length := by omega
        subst e
        have hyes : Hid (xs = ys) := Lib.hid (by
          have := hH.out
          rwa [List.take_length, List.take_of_length_le (by have := hlH.out; omega)] at this)
        clear hcx hcy hH
        go_wp2
        go_ret
        exact ⟨true, rfl, ⟨fun _ => hyes.out, fun _ => rfl⟩, hb⟩
  · have hd : (((xs.length : Nat) : Int) != ((ys.length : Nat) : Int)) = true := by rw [bne_iff_ne]; intro e; exact hl (by exact_mod_cast e)
    have hno : Hid (¬ xs = ys) := Lib.hid (fun e => hl (by rw [e]))
    clear hl hcx hcy
    go_enter Try.func18, Try.ntmps18
    go_wp2
    go_ret
    exact ⟨false, rfl, ⟨fun h => (by cases h), fun h => absurd h hno.out⟩, Below.refl _ _⟩
end Go.Proofs.Ytmgggennbnbjkaa
