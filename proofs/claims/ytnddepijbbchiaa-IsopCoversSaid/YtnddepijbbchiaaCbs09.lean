/- A slice of cubes in memory; the document's own All and Same of layer 9. -/
import Derived.Test.YtnddepijbbchiaaRhp09
import Derived.Deep.AppendLies
namespace Go.Proofs.Ytnddepijbbchiaa
open Go.RowKit Go.Joins

/-- The slice v reads as the cubes cs; what it reads lies below block B. -/
def CbsAt (w : World) (B : Nat) (v : Value) (cs : List Cb) : Prop :=
  ∃ A c, v = .slice A cs.length c ∧ cs.length ≤ 9223372036854775807 ∧
    (0 < cs.length → ∃ b off, A = some ⟨b, off, none⟩ ∧ b < B ∧ ∀ j x, cs[j]? = some x → w.cell? ⟨b, off + j * 2, none⟩ = some (bvv x.m) ∧ w.cell? ⟨b, off + j * 2 + 1, none⟩ = some (bvv x.v))
theorem CbsAt.below {w w' : World} {B : Nat} {v : Value} {cs : List Cb} (h : CbsAt w B v cs) (hb : Below B w w') : CbsAt w' B v cs := by
  obtain ⟨A, c, e, hl, h⟩ := h
  refine ⟨A, c, e, hl, fun h0 => ?_⟩
  obtain ⟨b, off, eA, hB, hc⟩ := h h0
  refine ⟨b, off, eA, hB, fun j X hx => ?_⟩
  obtain ⟨a0, a1⟩ := hc j X hx
  exact ⟨(hb.cell (p := ⟨b, off + j * 2, none⟩) hB).trans a0, (hb.cell (p := ⟨b, off + j * 2 + 1, none⟩) hB).trans a1⟩
theorem CbsAt.more {w : World} {B B' : Nat} {v : Value} {cs : List Cb} (h : CbsAt w B v cs) (hB : B ≤ B') : CbsAt w B' v cs := by
  obtain ⟨A, c, e, hl, h⟩ := h
  refine ⟨A, c, e, hl, fun h0 => ?_⟩
  obtain ⟨b, off, eA, hb, hc⟩ := h h0
  exact ⟨b, off, eA, by omega, hc⟩
theorem cbs_nil (w : World) (B : Nat) : CbsAt w B (.slice none 0 0) [] := ⟨none, 0, rfl, by decide, fun h => absurd h (by simp)⟩
def cbsV (cs : List Cb) : List Value := cs.flatMap fun x => [bvv x.m, bvv x.v]
theorem cbsV_snoc (cs : List Cb) (x : Cb) : cbsV (cs ++ [x]) = cbsV cs ++ [bvv x.m, bvv x.v] := by unfold cbsV; simp
theorem cbsV_at : ∀ (cs : List Cb) (j : Nat) (x : Cb), cs[j]? = some x → (cbsV cs)[j * 2]? = some (bvv x.m) ∧ (cbsV cs)[j * 2 + 1]? = some (bvv x.v)
  | [], _, _, h => by simp at h
  | a :: cs, 0, x, h => by
    simp at h
    subst h
    exact ⟨rfl, rfl⟩
  | a :: cs, j + 1, x, h => by
    obtain ⟨x1, y⟩ := cbsV_at cs j x (by simpa using h)
    have e : cbsV (a :: cs) = bvv a.m :: bvv a.v :: cbsV cs := rfl
    rw [e, show (j + 1) * 2 = j * 2 + 2 by omega]
    exact ⟨x1, y⟩
theorem own_cellq {w : World} {base size n : Nat} {e : TypeId} {v : Value} {xs : List Value} (h : w.ownsRow base e size v n xs) (hn : 0 < n) :
    ∃ g c, v = .slice (some ⟨g, 0, none⟩) n c ∧ base ≤ g ∧ g < w.heap.size ∧ n ≤ 9223372036854775807 ∧ ∀ i x, xs[i]? = some x → w.cell? ⟨g, i, none⟩ = some x := by
  obtain ⟨g, cap, rfl⟩ := ownsRow_form h hn
  have hl := h.lt g rfl
  refine ⟨g, cap, rfl, hl.1, hl.2, ?_, fun i x hx => ?_⟩
  · rcases h.2 with ⟨-, h0⟩ | ⟨g', cap', cur, e', hg, hgg, h1, h2, h3, h4⟩
    · omega
    · injection e' with _ _ ec
      subst ec
      unfold maxLen at *
      omega
  · have hi := (List.getElem?_eq_some_iff.1 hx).1
    rw [h.cellAt i (by rw [← h.1]; exact hi)]
    exact hx
theorem own_cbs {w : World} {bd : Nat} {v : Value} {cs : List Cb} (h : w.ownsRow bd 44 2 v cs.length (cbsV cs)) : CbsAt w w.heap.size v cs := by
  rcases Nat.eq_zero_or_pos cs.length with h0 | h0
  · obtain ⟨A, c, rfl⟩ := own_form h
    exact ⟨A, c, rfl, by omega, fun h => by omega⟩
  · obtain ⟨g, c, rfl, -, hg, hlen, hc⟩ := own_cellq h h0
    refine ⟨_, c, rfl, hlen, fun _ => ⟨g, 0, rfl, hg, fun j x hx => ?_⟩⟩
    obtain ⟨a, b⟩ := cbsV_at cs j x hx
    rw [Nat.zero_add]
    exact ⟨hc _ _ a, hc _ _ b⟩
theorem Try.infoCube9 : (Try.prog.info? 44).map (fun i => (i.zero, i.size, i.bytes)) = some (some (.agg #[.int .u8 0, .int .u8 0]), 2, 2) := by kernel_rfl
theorem prmU_key (S : BitVec 256) (n : Int) (M V : BitVec 8) : (prmU S n (256 * M.toNat + (V.toNat + 1))).map cbK = (prmU S n (256 * M.toNat + V.toNat)).map cbK ++ (if primB S n M V = true then [⟨M, V⟩] else []) := by
  rw [show 256 * M.toNat + (V.toNat + 1) = keyC M V + 1 from rfl, prmU_succ, kM_key, kV_key, List.map_append]
  show _ = (prmU S n (keyC M V)).map cbK ++ _
  congr 1
  cases primB S n M V
  · rfl
  · show [cbK (keyC M V)] = _
    unfold cbK
    rw [kM_key, kV_key]
    rfl
set_option maxHeartbeats 2000000 in
set_option maxRecDepth 100000 in
theorem rsame9_any (w : World) (v u : Value) (xs ys : List Cb) (hx : CbsAt w w.heap.size v xs) (hy : CbsAt w w.heap.size u ys) :
    Calls Try.prog 15 #[v, u] w fun e w' => ∃ b, e = .returned (.bool b) ∧ (b = true ↔ xs = ys) ∧ Below w.heap.size w w' := by
  obtain ⟨A, c, rfl, hlx, hcx⟩ := hx
  obtain ⟨A2, c2, rfl, hly, hcy⟩ := hy
  by_cases hl : xs.length = ys.length
  · have hd : (((xs.length : Nat) : Int) != ((ys.length : Nat) : Int)) = false := by rw [hl]; simp
    have hlH := Lib.hid hl
    clear hl
    go_enter Try.func15, Try.ntmps15
    go_wp2
    clear hd
    go_loopw [5] (fun t wr => ∃ k : Nat, k ≤ xs.length ∧ t = .int .i64 k ∧ Hid (xs.take k = ys.take k) ∧ Below w.heap.size w wr) (fun t _ => xs.length - (intOf t).toNat)
    case atStart => exact ⟨0, by omega, rfl, Lib.hid (by simp), Below.refl _ _⟩
    case round =>
      obtain ⟨k, hk, rfl, hH, hb⟩ := hrel
      by_cases hlt : k < xs.length
      · have hlt' : k < ys.length := by have := hlH.out; omega
        obtain ⟨b, off, rfl, hB, hc⟩ := hcx (by omega)
        obtain ⟨b', off', rfl, hB', hc'⟩ := hcy (by omega)
        obtain ⟨x, hx⟩ : ∃ x, xs[k]? = some x := ⟨_, List.getElem?_eq_getElem hlt⟩
        obtain ⟨y, hy⟩ : ∃ y, ys[k]? = some y := ⟨_, List.getElem?_eq_getElem hlt'⟩
        obtain ⟨x0, x1⟩ := hc k x hx
        obtain ⟨y0, y1⟩ := hc' k y hy
        have q0 := fun X : After wr => After.cell X ((hb.cell (p := ⟨b, off + k * 2, none⟩) hB).trans x0)
        have q1 := fun X : After wr => After.cell X ((hb.cell (p := ⟨b, off + k * 2 + 1, none⟩) hB).trans x1)
        have q2 := fun X : After wr => After.cell X ((hb.cell (p := ⟨b', off' + k * 2, none⟩) hB').trans y0)
        have q3 := fun X : After wr => After.cell X ((hb.cell (p := ⟨b', off' + k * 2 + 1, none⟩) hB').trans y1)
        have b1 : (0 : Int) ≤ (k : Int) := by omega
        have b2 : (k : Int) < (xs.length : Int) := by omega
        have b3 : (k : Int) < (ys.length : Int) := by omega
        have hxH := Lib.hid hx
        have hyH := Lib.hid hy
        clear hc hc' hcx hcy hx hy x0 x1 y0 y1
        obtain ⟨xm, xv⟩ := x
        obtain ⟨ym, yv⟩ := y
        unfold bvv at q0 q1 q2 q3
        by_cases hxy : xm = ym ∧ xv = yv
        · obtain ⟨rfl, rfl⟩ := hxy
          have hst : Hid (xs.take (k + 1) = ys.take (k + 1)) := Lib.hid (by rw [List.take_add_one, List.take_add_one, hH.out, hxH.out, hyH.out])
          clear hH
          go_wp2_with fail
          refine wp_region_after (by kernel_rfl) (by kernel_rfl) ?_
          repeat (first | go_big_quiet_step (fail))
          refine wpQuiet_nil ?_
          intro z
          have hbz := hb.trans (z.2.mono hb.size)
          clear q0 q1 q2 q3
          go_wp2
          go_roundw
          case rel => exact ⟨k + 1, by omega, by go_num, hst, hbz⟩
          case measure => simp [intOf]; omega
        · have hno : Hid (¬ xs = ys) := Lib.hid (fun e => by
            have e1 := hxH.out
            rw [e, hyH.out] at e1
            injection e1 with e1
            injection e1 with e2 e3
            exact hxy ⟨e2.symm, e3.symm⟩)
          clear hH hxH hyH
          by_cases hm : xm = ym
          · subst hm
            have hn : ¬ (xv.toNat : Int) = yv.toNat := fun e => hxy ⟨rfl, BitVec.eq_of_toNat_eq (by omega)⟩
            have hn2 : ¬ xv = yv := fun e => hxy ⟨rfl, e⟩
            clear hxy
            go_wp2_with fail
            refine wp_region_after (by kernel_rfl) (by kernel_rfl) ?_
            repeat (first | go_big_quiet_step (fail))
            refine wpQuiet_nil ?_
            intro z
            have hbz := hb.trans (z.2.mono hb.size)
            clear q0 q1 q2 q3
            go_wp2
            go_ret
            exact ⟨false, rfl, ⟨fun h => (by cases h), fun h => absurd h hno.out⟩, hbz⟩
          · have hn : ¬ (xm.toNat : Int) = ym.toNat := fun e => hm (BitVec.eq_of_toNat_eq (by omega))
            clear hxy
            go_wp2_with fail
            refine wp_region_after (by kernel_rfl) (by kernel_rfl) ?_
            repeat (first | go_big_quiet_step (fail))
            refine wpQuiet_nil ?_
            intro z
            have hbz := hb.trans (z.2.mono hb.size)
            clear q0 q1 q2 q3
            go_wp2
            go_ret
            exact ⟨false, rfl, ⟨fun h => (by cases h), fun h => absurd h hno.out⟩, hbz⟩
      · have e : k = xs.length := by omega
        subst e
        have hyes : Hid (xs = ys) := Lib.hid (by
          have := hH.out
          rwa [List.take_length, List.take_of_length_le (by have := hlH.out; omega)] at this)
        clear hcx hcy hH
        go_wp2
        go_ret
        exact ⟨true, rfl, ⟨fun _ => hyes.out, fun _ => rfl⟩, hb⟩
  · have hd : (((xs.length : Nat) : Int) != ((ys.length : Nat) : Int)) = true := by rw [bne_iff_ne]; intro e; exact hl (by exact_mod_cast e)
    have hno : Hid (¬ xs = ys) := Lib.hid (fun e => hl (by rw [e]))
    clear hl hcx hcy
    go_enter Try.func15, Try.ntmps15
    go_wp2
    go_ret
    exact ⟨false, rfl, ⟨fun h => (by cases h), fun h => absurd h hno.out⟩, Below.refl _ _⟩
end Go.Proofs.Ytnddepijbbchiaa
