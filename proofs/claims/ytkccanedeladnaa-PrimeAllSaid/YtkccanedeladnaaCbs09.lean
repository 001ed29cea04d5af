/- A slice of cubes in memory; the document's own All and Same of layer 9. -/
import Derived.Test.YtkccanedeladnaaRhp09
import Derived.Deep.AppendLies
namespace Go.Proofs.Ytkccanedeladnaa
open Go.RowKit Go.Joins

/-- The slice v reads as the cubes cs; what it reads lies below block B. -/
def CbsAt (w : World) (B : Nat) (v : Value) (cs : List Cb) : Prop :=
  ∃ A c, v = .slice A cs.length c ∧ cs.length ≤ 9223372036854775807 ∧
    (0 < cs.length → ∃ b off, A = some ⟨b, off, none⟩ ∧ b < B ∧ ∀ j x, cs[j]? = some x → w.cell? ⟨b, off + j * 2, none⟩ = some (bvv x.m) ∧ w.cell? ⟨b, off + j * 2 + 1, none⟩ = some (bvv x.v))
theorem CbsAt.below {w w' : World} {B : Nat} {v : Value} {cs : List Cb} (h : CbsAt w B v cs) (hb : Below B w w') : CbsAt w' B v cs := by
  obtain ⟨A, c, e, hl, h⟩ := h
  refine ⟨A, c, e, hl, fun h0 => ?_⟩
  obtain ⟨b, off, eA, hB, hc⟩ := h h0
  refine ⟨b, off, eA, hB, fun j X hx => ?_⟩
  obtain ⟨a0, a1⟩ := hc j X hx
  exact ⟨(hb.cell (p := ⟨b, off + j * 2, none⟩) hB).trans a0, (hb.cell (p := ⟨b, off + j * 2 + 1, none⟩) hB).trans a1⟩
theorem CbsAt.more {w : World} {B B' : Nat} {v : Value} {cs : List Cb} (h : CbsAt w B v cs) (hB : B ≤ B') : CbsAt w B' v cs := by
  obtain ⟨A, c, e, hl, h⟩ := h
  refine ⟨A, c, e, hl, fun h0 => ?_⟩
  obtain ⟨b, off, eA, hb, hc⟩ := h h0
  exact ⟨b, off, eA, by omega, hc⟩
theorem cbs_nil (w : World) (B : Nat) : CbsAt w B (.slice none 0 0) [] := ⟨none, 0, rfl, by decide, fun h => absurd h (by simp)⟩
def cbsV (cs : List Cb) : List Value := cs.flatMap fun x => [bvv x.m, bvv x.v]
theorem cbsV_snoc (cs : List Cb) (x : Cb) : cbsV (cs ++ [x]) = cbsV cs ++ [bvv x.m, bvv x.v] := by unfold cbsV; simp
theorem cbsV_at : ∀ (cs : List Cb) (j : Nat) (x : Cb), cs[j]? = some x → (cbsV cs)[j * 2]? = some (bvv x.m) ∧ (cbsV cs)[j * 2 + 1]? = some (bvv x.v)
  | [], _, _, h => by simp at h
  | a :: cs, 0, x, h => by
    simp at h
    subst h
    exact ⟨rfl, rfl⟩
  | a :: cs, j + 1, x, h => by
    obtain ⟨x1, y⟩ := cbsV_at cs j x (by simpa using h)
    have e : cbsV (a :: cs) = bvv a.m :: bvv a.v :: cbsV cs := rfl
    rw [e, show (j + 1) * 2 = j * 2 + 2 by omega]
    exact ⟨x1, y⟩
theorem own_cellq {w : World} {base size n : Nat} {e : TypeId} {v : Value} {xs : List Value} (h : w.ownsRow base e size v n xs) (hn : 0 < n) :
    ∃ g c, v = .slice (some ⟨g, 0, none⟩) n c ∧ base ≤ g ∧ g < w.heap.size ∧ n ≤ 9223372036854775807 ∧ ∀ i x, xs[i]? = some x → w.cell? ⟨g, i, none⟩ = some x := by
  obtain ⟨g, cap, rfl⟩ := ownsRow_form h hn
  have hl := h.lt g rfl
  refine ⟨g, cap, rfl, hl.1, hl.2, ?_, fun i x hx => ?_⟩
  · rcases h.2 with ⟨-, h0⟩ | ⟨g', cap', cur, e', hg, hgg, h1, h2, h3, h4⟩
    · omega
    · injection e' with _ _ ec
      subst ec
      unfold maxLen at *
      omega
  · have hi := (List.getElem?_eq_some_iff.1 hx).1
    rw [h.cellAt i (by rw [← h.1]; exact hi)]
    exact hx
theorem own_cbs {w : World} {bd : Nat} {v : Value} {cs : List Cb} (h : w.ownsRow bd 34 2 v cs.length (cbsV cs)) : CbsAt w w.heap.size v cs := by
  rcases Nat.eq_zero_or_pos cs.length with h0 | h0
  · obtain ⟨A, c, rfl⟩ := own_form h
    exact ⟨A, c, rfl, by omega, fun h => by omega⟩
  · obtain ⟨g, c, rfl, -, hg, hlen, hc⟩ := own_cellq h h0
    refine ⟨_, c, rfl, hlen, fun _ => ⟨g, 0, rfl, hg, fun j x hx => ?_⟩⟩
    obtain ⟨a, b⟩ := cbsV_at cs j x hx
    rw [Nat.zero_add]
    exact ⟨hc _ _ a, hc _ _ b⟩
theorem Try.infoCube9 : (Try.prog.info? 34).map (fun i => (i.zero, i.size, i.bytes)) = some (some (.agg #[.int .u8 0, .int .u8 0]), 2, 2) := by kernel_rfl
theorem prmU_key (S : BitVec 256) (n : Int) (M V : BitVec 8) : (prmU S n (256 * M.toNat + (V.toNat + 1))).map cbK = (prmU S n (256 * M.toNat + V.toNat)).map cbK ++ (if primB S n M V = true then [⟨M, V⟩] else []) := by
  rw [show 256 * M.toNat + (V.toNat + 1) = keyC M V + 1 from rfl, prmU_succ, kM_key, kV_key, List.map_append]
  show _ = (prmU S n (keyC M V)).map cbK ++ _
  congr 1
  cases primB S n M V
  · rfl
  · show [cbK (keyC M V)] = _
    unfold cbK
    rw [kM_key, kV_key]
    rfl
set_option maxHeartbeats 4000000 in
set_option maxRecDepth 100000 in
theorem rall9_any (S : BitVec 256) (n : Nat) (hn : n ≤ 8) (w : World) :
    Calls Try.prog 9 #[sv S, .int .i64 n] w fun e w' => ∃ v, e = .returned v ∧ CbsAt w' w'.heap.size v (prims S n) ∧ Below w.heap.size w w' := by
  obtain ⟨i0, hi0, hz0, hz1, hz2⟩ := info_parts Try.infoCube9
  have HP := fun m v w => rprime9_any m v S n w
  have hp2 : ∀ k, Hid (2 ^ (k + 1) = 2 ^ k * 2) := fun k => Lib.hid (Nat.pow_succ 2 k)
  have hple : ∀ k, k ≤ n → Hid (2 ^ k ≤ 256) := fun k hk => Lib.hid (Nat.le_trans (Nat.pow_le_pow_right (by decide) (by omega : k ≤ 8)) (by decide : (2 : Nat) ^ 8 ≤ 256))
  have hB := below_alloc1 w (.cells (sa S) 24)
  have hb0 := heap_alloc_new w (.cells (sa S) 24)
  have hkey := Lib.hid (prmU_key S n)
  have hmask := Lib.hid (fun m => prmU_mask (S := S) (m := m) hn)
  have hall := Lib.hid (prmU_all (S := S) hn)
  have hlen := Lib.hid (prmU_len S n)
  unfold sv sa at *
  unfold wv at *
  go_enter Try.func9, Try.ntmps9
  go_wp2
  generalize (w.alloc _) = W at *
  have hWs := hB.size
  go_loopw [5, 6] (fun p t wr => ∃ k : Nat, k ≤ n ∧ t = .int .i64 k ∧ p = .int .i64 ((2 ^ k : Nat) : Int) ∧ W = wr) (fun _ t _ => n - (intOf t).toNat)
  case atStart => exact ⟨0, by omega, rfl, rfl, rfl⟩
  case round =>
    obtain ⟨k, hk, rfl, rfl, rfl⟩ := hrel
    by_cases hki : k < n
    · have hp := hp2 k
      have h24 := hple (k + 1) (by omega)
      have hkd : decide ((k : Int) < (n : Int)) = true := decide_eq_true (by omega)
      clear hp2 hple HP hkey hmask hall
      generalize hq : 2 ^ (k + 1) = q at *
      generalize 2 ^ k = p at *
      have hpq := hp.out
      have hqH := Lib.hid hq
      have h24' := h24.out
      clear hq h24
      go_wp2
      go_roundw
      case rel => exact ⟨k + 1, by omega, by go_num, by rw [hqH.out, hp.out]; go_num, trivial⟩
      case measure => simp [intOf]; omega
    · obtain rfl : k = n := by omega
      have hkd : decide ((k : Int) < (k : Int)) = false := decide_eq_false (by omega)
      have hPl := (hple k (by omega)).out
      generalize hP : 2 ^ k = P at *
      have hPH := Lib.hid hP
      clear hP hp2 hple
      go_wp2
      clear hkd
      go_loopw [7, 8] (fun s t wr => ∃ (a : Nat) (L : List Cb), a ≤ P ∧ t = .int .i64 a ∧ Hid (L = (prmU S k (256 * a)).map cbK) ∧ wr.ownsRow W.heap.size 34 2 s L.length (cbsV L) ∧ Below W.heap.size W wr) (fun _ t _ => P - (intOf t).toNat)
      case atStart => exact ⟨0, [], by omega, rfl, Lib.hid (by simp [prmU]), World.ownsRow_nil _ _ _ _, Below.refl _ _⟩
      case round =>
        obtain ⟨a, L, ha, rfl, hL, hown, hb⟩ := hrel
        by_cases hap : a < P
        · go_wp2
          go_loopw [7, 9] (fun s t wj => ∃ (b : Nat) (L : List Cb), b ≤ P ∧ t = .int .i64 b ∧ Hid (L = (prmU S k (256 * a + b)).map cbK) ∧ wj.ownsRow W.heap.size 34 2 s L.length (cbsV L) ∧ Below W.heap.size W wj) (fun _ t _ => P - (intOf t).toNat)
          case atStart => exact ⟨0, L, by omega, rfl, hL, hown, hb⟩
          case round =>
            clear hL hown hb
            obtain ⟨b, L, hbp, rfl, hL, hown, hb⟩ := hrel
            by_cases hbl : b < P
            · obtain ⟨M, rfl⟩ : ∃ M : BitVec 8, a = M.toNat := ⟨BitVec.ofNat 8 a, by rw [BitVec.toNat_ofNat]; omega⟩
              obtain ⟨V, rfl⟩ : ∃ V : BitVec 8, b = V.toNat := ⟨BitVec.ofNat 8 b, by rw [BitVec.toNat_ofNat]; omega⟩
              have hst := Lib.hid (hkey.out M V)
              rw [← hL.out] at hst
              have hLl : L.length ≤ 65536 := by rw [hL.out, List.length_map]; have := hlen.out (256 * M.toNat + V.toNat); have := M.isLt; have := V.isLt; omega
              have HPr := fun w => HP M V w
              have hbr := keep_blk hb hb0
              obtain ⟨q0, q1, q2, q3⟩ := al4 hbr rfl
              have hx := heap_alloc_new wr (.cells #[.int .u8 M.toNat, .int .u8 V.toNat] 34)
              have hA := below_alloc1 wr (.cells #[.int .u8 M.toNat, .int .u8 V.toNat] 34)
              unfold cv bvv at HPr
              clear HP hkey hmask hall hlen
              go_wp2_with fail
              refine (HPr _).mono ?_
              rintro e w5 ⟨rfl, hb5⟩
              have hx5 := keep_blk hb5 hx
              have hA5 := hA.trans (hb5.mono hA.size)
              have hb6 := hb.trans (hA5.mono hb.size)
              have ho5 := owns_below hown hA5
              obtain ⟨d0, d1, -⟩ := now2 hx5 rfl
              clear HPr hb5 hx hA hA5 hown hb hbr q0 q1 q2 q3
              have hs6 := hb6.size
              generalize primB S k M V = pr at *
              cases pr
              · have hL2 : Hid (L = (prmU S k (256 * M.toNat + (V.toNat + 1))).map cbK) := Lib.hid (by rw [hst.out]; simp)
                clear hst hL
                go_wp2
                go_roundw
                case rel => exact ⟨V.toNat + 1, L, by omega, by go_num, hL2, ho5, hb6⟩
                case measure => simp [intOf]; omega
              · have hL2 : Hid (L ++ [⟨M, V⟩] = (prmU S k (256 * M.toNat + (V.toNat + 1))).map cbK) := Lib.hid (by rw [hst.out]; rfl)
                clear hst hL
                go_wp2_with (at_builtin; go_loud (refine wpList_append_own _ rfl _ _ 27 rfl W.heap.size 34 i0 (.agg #[.int .u8 0, .int .u8 0]) 2 2 Try.underlying27 hi0 hz0 hz1 hz2 rfl (by decide) _ _ _ rfl (ho5.alloc _) ⟨w5.heap.size, 0, none⟩ 1 1 [.int .u8 M.toNat, .int .u8 V.toNat] rfl rfl ?c1 ?c2 ?c3 ?c4 ?c5 ?_))
                case c1 => exact World.news_of_block (cs := #[.int .u8 M.toNat, .int .u8 V.toNat]) (t := 34) (fr := (0, 0)) (heap_alloc_new w5 _)
                case c2 => intro u hu; simp at hu; rcases hu with rfl | rfl <;> rfl
                case c3 => unfold maxLen; omega
                case c4 => omega
                case c5 => simp; omega
                intro v' w8 ho8 hg8 _
                have hB8 := grown_below (ho5.alloc (.cells #[.int .u8 M.toNat, .int .u8 V.toNat] 34)) hg8 (hb6.alloc hb6.size _) (Nat.le_refl _) (by simp; omega)
                have ho9 : w8.ownsRow W.heap.size 34 2 v' (L ++ [(⟨M, V⟩ : Cb)]).length (cbsV (L ++ [(⟨M, V⟩ : Cb)])) := by
                  rw [cbsV_snoc, List.length_append]
                  exact ho8
                clear hg8 ho8 ho5 hb6
                go_wp2
                go_roundw
                case rel => exact ⟨V.toNat + 1, L ++ [(⟨M, V⟩ : Cb)], by omega, by go_num, hL2, ho9, hB8⟩
                case measure => simp [intOf]; omega
            · have e : b = P := by omega
              subst e
              have hL2 : Hid (L = (prmU S k (256 * (a + 1))).map cbK) := Lib.hid (by rw [hL.out, hmask.out])
              clear hL hmask hkey hall HP
              go_wp2
              go_roundw
              case rel => exact ⟨a + 1, L, by omega, by go_num, hL2, hown, hb⟩
              case measure => simp [intOf]; omega
        · have e : a = P := by omega
          subst e
          have hL2 : L = prims S k := by
            unfold prims prmL
            rw [← hall.out, ← hL.out]
          have hBr := hB.trans (hb.mono hWs)
          have hC := own_cbs hown
          rw [hL2] at hC
          clear hL hmask hkey hall HP
          go_wp2
          go_ret
          exact ⟨_, rfl, hC, hBr⟩
set_option maxHeartbeats 2000000 in
set_option maxRecDepth 100000 in
theorem rsame9_any (w : World) (v u : Value) (xs ys : List Cb) (hx : CbsAt w w.heap.size v xs) (hy : CbsAt w w.heap.size u ys) :
    Calls Try.prog 8 #[v, u] w fun e w' => ∃ b, e = .returned (.bool b) ∧ (b = true ↔ xs = ys) ∧ Below w.heap.size w w' := by
  obtain ⟨A, c, rfl, hlx, hcx⟩ := hx
  obtain ⟨A2, c2, rfl, hly, hcy⟩ := hy
  by_cases hl : xs.length = ys.length
  · have hd : (((xs.length : Nat) : Int) != ((ys.length : Nat) : Int)) = false := by rw [hl]; simp
    have hlH := Lib.hid hl
    clear hl
    go_enter Try.func8, Try.ntmps8
    go_wp2
    clear hd
    go_loopw [5] (fun t wr => ∃ k : Nat, k ≤ xs.length ∧ t = .int .i64 k ∧ Hid (xs.take k = ys.take k) ∧ Below w.heap.size w wr) (fun t _ => xs.length - (intOf t).toNat)
    case atStart => exact ⟨0, by omega, rfl, Lib.hid (by simp), Below.refl _ _⟩
    case round =>
      obtain ⟨k, hk, rfl, hH, hb⟩ := hrel
      by_cases hlt : k < xs.length
      · have hlt' : k < ys.length := by have := hlH.out; omega
        obtain ⟨b, off, rfl, hB, hc⟩ := hcx (by omega)
        obtain ⟨b', off', rfl, hB', hc'⟩ := hcy (by omega)
        obtain ⟨x, hx⟩ : ∃ x, xs[k]? = some x := ⟨_, List.getElem?_eq_getElem hlt⟩
        obtain ⟨y, hy⟩ : ∃ y, ys[k]? = some y := ⟨_, List.getElem?_eq_getElem hlt'⟩
        obtain ⟨x0, x1⟩ := hc k x hx
        obtain ⟨y0, y1⟩ := hc' k y hy
        have q0 := fun X : After wr => After.cell X ((hb.cell (p := ⟨b, off + k * 2, none⟩) hB).trans x0)
        have q1 := fun X : After wr => After.cell X ((hb.cell (p := ⟨b, off + k * 2 + 1, none⟩) hB).trans x1)
        have q2 := fun X : After wr => After.cell X ((hb.cell (p := ⟨b', off' + k * 2, none⟩) hB').trans y0)
        have q3 := fun X : After wr => After.cell X ((hb.cell (p := ⟨b', off' + k * 2 + 1, none⟩) hB').trans y1)
        have b1 : (0 : Int) ≤ (k : Int) := by omega
        have b2 : (k : Int) < (xs.length : Int) := by omega
        have b3 : (k : Int) < (ys.length : Int) := by omega
        have hxH := Lib.hid hx
        have hyH := Lib.hid hy
        clear hc hc' hcx hcy hx hy x0 x1 y0 y1
        obtain ⟨xm, xv⟩ := x
        obtain ⟨ym, yv⟩ := y
        unfold bvv at q0 q1 q2 q3
        by_cases hxy : xm = ym ∧ xv = yv
        · obtain ⟨rfl, rfl⟩ := hxy
          have hst : Hid (xs.take (k + 1) = ys.take (k + 1)) := Lib.hid (by rw [List.take_add_one, List.take_add_one, hH.out, hxH.out, hyH.out])
          clear hH
          go_wp2_with fail
          refine wp_region_after (by kernel_rfl) (by kernel_rfl) ?_
          repeat (first | go_big_quiet_step (fail))
          refine wpQuiet_nil ?_
          intro z
          have hbz := hb.trans (z.2.mono hb.size)
          clear q0 q1 q2 q3
          go_wp2
          go_roundw
          case rel => exact ⟨k + 1, by omega, by go_num, hst, hbz⟩
          case measure => simp [intOf]; omega
        · have hno : Hid (¬ xs = ys) := Lib.hid (fun e => by
            have e1 := hxH.out
            rw [e, hyH.out] at e1
            injection e1 with e1
            injection e1 with e2 e3
            exact hxy ⟨e2.symm, e3.symm⟩)
          clear hH hxH hyH
          by_cases hm : xm = ym
          · subst hm
            have hn : ¬ (xv.toNat : Int) = yv.toNat := fun e => hxy ⟨rfl, BitVec.eq_of_toNat_eq (by omega)⟩
            have hn2 : ¬ xv = yv := fun e => hxy ⟨rfl, e⟩
            clear hxy
            go_wp2_with fail
            refine wp_region_after (by kernel_rfl) (by kernel_rfl) ?_
            repeat (first | go_big_quiet_step (fail))
            refine wpQuiet_nil ?_
            intro z
            have hbz := hb.trans (z.2.mono hb.size)
            clear q0 q1 q2 q3
            go_wp2
            go_ret
            exact ⟨false, rfl, ⟨fun h => (by cases h), fun h => absurd h hno.out⟩, hbz⟩
          · have hn : ¬ (xm.toNat : Int) = ym.toNat := fun e => hm (BitVec.eq_of_toNat_eq (by omega))
            clear hxy
            go_wp2_with fail
            refine wp_region_after (by kernel_rfl) (by kernel_rfl) ?_
            repeat (first | go_big_quiet_step (fail))
            refine wpQuiet_nil ?_
            intro z
            have hbz := hb.trans (z.2.mono hb.size)
            clear q0 q1 q2 q3
            go_wp2
            go_ret
            exact ⟨false, rfl, ⟨fun h => (by cases h), fun h => absurd h hno.out⟩, hbz⟩
      · have e : k = xs.length := by omega
        subst e
        have hyes : Hid (xs = ys) := Lib.hid (by
          have := hH.out
          rwa [List.take_length, List.take_of_length_le (by have := hlH.out; omega)] at this)
        clear hcx hcy hH
        go_wp2
        go_ret
        exact ⟨true, rfl, ⟨fun _ => hyes.out, fun _ => rfl⟩, hb⟩
  · have hd : (((xs.length : Nat) : Int) != ((ys.length : Nat) : Int)) = true := by rw [bne_iff_ne]; intro e; exact hl (by exact_mod_cast e)
    have hno : Hid (¬ xs = ys) := Lib.hid (fun e => hl (by rw [e]))
    clear hl hcx hcy
    go_enter Try.func8, Try.ntmps8
    go_wp2
    go_ret
    exact ⟨false, rfl, ⟨fun h => (by cases h), fun h => absurd h hno.out⟩, Below.refl _ _⟩
end Go.Proofs.Ytkccanedeladnaa
