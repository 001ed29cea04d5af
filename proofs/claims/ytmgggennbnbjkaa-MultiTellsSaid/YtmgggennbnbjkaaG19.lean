/- A slice of cubes in memory; the document's own All and Same of layer 9. The document's own Holds of rows, power, Rows of layer 10. The document's own Rows of layer 10. -/
import Derived.Test.YtmgggennbnbjkaaG15
import Derived.Test.YtmgggennbnbjkaaG18
import Derived.Deep.AppendLies
namespace Go.Proofs.Ytmgggennbnbjkaa
open Go.RowKit Go.Joins

/-- The slice v reads as the cubes cs; what it reads lies below block B. -/
def CbsAt (w : World) (B : Nat) (v : Value) (cs : List Cb) : Prop :=
  ∃ A c, v = .slice A cs.length c ∧ cs.length ≤ 9223372036854775807 ∧
    (0 < cs.length → ∃ b off, A = some ⟨b, off, none⟩ ∧ b < B ∧ ∀ j x, cs[j]? = some x → w.cell? ⟨b, off + j * 2, none⟩ = some (bvv x.m) ∧ w.cell? ⟨b, off + j * 2 + 1, none⟩ = some (bvv x.v))
theorem CbsAt.below {w w' : World} {B : Nat} {v : Value} {cs : List Cb} (h : CbsAt w B v cs) (hb : Below B w w') : CbsAt w' B v cs := by
  obtain ⟨A, c, e, hl, h⟩ := h
  refine ⟨A, c, e, hl, fun h0 => ?_⟩
  obtain ⟨b, off, eA, hB, hc⟩ := h h0
  refine ⟨b, off, eA, hB, fun j X hx => ?_⟩
  obtain ⟨a0, a1⟩ := hc j X hx
  exact ⟨(hb.cell (p := ⟨b, off + j * 2, none⟩) hB).trans a0, (hb.cell (p := ⟨b, off + j * 2 + 1, none⟩) hB).trans a1⟩
theorem CbsAt.more {w : World} {B B' : Nat} {v : Value} {cs : List Cb} (h : CbsAt w B v cs) (hB : B ≤ B') : CbsAt w B' v cs := by
  obtain ⟨A, c, e, hl, h⟩ := h
  refine ⟨A, c, e, hl, fun h0 => ?_⟩
  obtain ⟨b, off, eA, hb, hc⟩ := h h0
  exact ⟨b, off, eA, by omega, hc⟩
theorem cbs_nil (w : World) (B : Nat) : CbsAt w B (.slice none 0 0) [] := ⟨none, 0, rfl, by decide, fun h => absurd h (by simp)⟩
def cbsV (cs : List Cb) : List Value := cs.flatMap fun x => [bvv x.m, bvv x.v]
theorem cbsV_snoc (cs : List Cb) (x : Cb) : cbsV (cs ++ [x]) = cbsV cs ++ [bvv x.m, bvv x.v] := by unfold cbsV; simp
theorem cbsV_at : ∀ (cs : List Cb) (j : Nat) (x : Cb), cs[j]? = some x → (cbsV cs)[j * 2]? = some (bvv x.m) ∧ (cbsV cs)[j * 2 + 1]? = some (bvv x.v)
  | [], _, _, h => by simp at h
  | a :: cs, 0, x, h => by
    simp at h
    subst h
    exact ⟨rfl, rfl⟩
  | a :: cs, j + 1, x, h => by
    obtain ⟨x1, y⟩ := cbsV_at cs j x (by simpa using h)
    have e : cbsV (a :: cs) = bvv a.m :: bvv a.v :: cbsV cs := rfl
    rw [e, show (j + 1) * 2 = j * 2 + 2 by omega]
    exact ⟨x1, y⟩
theorem own_cellq {w : World} {base size n : Nat} {e : TypeId} {v : Value} {xs : List Value} (h : w.ownsRow base e size v n xs) (hn : 0 < n) :
    ∃ g c, v = .slice (some ⟨g, 0, none⟩) n c ∧ base ≤ g ∧ g < w.heap.size ∧ n ≤ 9223372036854775807 ∧ ∀ i x, xs[i]? = some x → w.cell? ⟨g, i, none⟩ = some x := by
  obtain ⟨g, cap, rfl⟩ := ownsRow_form h hn
  have hl := h.lt g rfl
  refine ⟨g, cap, rfl, hl.1, hl.2, ?_, fun i x hx => ?_⟩
  · rcases h.2 with ⟨-, h0⟩ | ⟨g', cap', cur, e', hg, hgg, h1, h2, h3, h4⟩
    · omega
    · injection e' with _ _ ec
      subst ec
      unfold maxLen at *
      omega
  · have hi := (List.getElem?_eq_some_iff.1 hx).1
    rw [h.cellAt i (by rw [← h.1]; exact hi)]
    exact hx
theorem own_cbs {w : World} {bd : Nat} {v : Value} {cs : List Cb} (h : w.ownsRow bd 26 2 v cs.length (cbsV cs)) : CbsAt w w.heap.size v cs := by
  rcases Nat.eq_zero_or_pos cs.length with h0 | h0
  · obtain ⟨A, c, rfl⟩ := own_form h
    exact ⟨A, c, rfl, by omega, fun h => by omega⟩
  · obtain ⟨g, c, rfl, -, hg, hlen, hc⟩ := own_cellq h h0
    refine ⟨_, c, rfl, hlen, fun _ => ⟨g, 0, rfl, hg, fun j x hx => ?_⟩⟩
    obtain ⟨a, b⟩ := cbsV_at cs j x hx
    rw [Nat.zero_add]
    exact ⟨hc _ _ a, hc _ _ b⟩
theorem Try.infoCube9 : (Try.prog.info? 26).map (fun i => (i.zero, i.size, i.bytes)) = some (some (.agg #[.int .u8 0, .int .u8 0]), 2, 2) := by kernel_rfl
theorem prmU_key (S : BitVec 256) (n : Int) (M V : BitVec 8) : (prmU S n (256 * M.toNat + (V.toNat + 1))).map cbK = (prmU S n (256 * M.toNat + V.toNat)).map cbK ++ (if primB S n M V = true then [⟨M, V⟩] else []) := by
  rw [show 256 * M.toNat + (V.toNat + 1) = keyC M V + 1 from rfl, prmU_succ, kM_key, kV_key, List.map_append]
  show _ = (prmU S n (keyC M V)).map cbK ++ _
  congr 1
  cases primB S n M V
  · rfl
  · show [cbK (keyC M V)] = _
    unfold cbK
    rw [kM_key, kV_key]
    rfl
end Go.Proofs.Ytmgggennbnbjkaa
namespace Go.Proofs.Ytmgggennbnbjkaa
open Go.RowKit Go.Joins

theorem rh_hit {a b : Rw} {j : Nat} (h1 : b.o.getLsbD j = true) (h2 : a.o.getLsbD j = false) : rhB a b = false := by
  rw [Bool.eq_false_iff]
  intro h
  rw [(rhB_iff.1 h).1 j h1] at h2; cases h2
theorem rh_end {a b : Rw} (h : ∀ j, j < 8 → b.o.getLsbD j = true → a.o.getLsbD j = true) : rhB a b = holdsB a.m a.v b.m b.v := by
  rw [Bool.eq_iff_iff, rhB_iff]
  refine ⟨fun h => h.2, fun hh => ⟨fun j hj => ?_, hh⟩⟩
  rcases Nat.lt_or_ge j 8 with k | k
  · exact h j k hj
  · rw [BitVec.getLsbD_of_ge _ j k] at hj; cases hj
set_option maxHeartbeats 2000000 in
set_option maxRecDepth 100000 in
theorem rhold10_any (a b : Rw) (w : World) :
    Calls Try.prog 14 #[rwv a, rwv b] w fun e w' => e = .returned (.bool (rhB a b)) ∧ Below w.heap.size w w' := by
  have hB0 := below_alloc2 w (.cells #[bvv a.m, bvv a.v, bvv a.o] 28 (0, 0)) (.cells #[bvv b.m, bvv b.v, bvv b.o] 28 (0, 0))
  have ha0 := heap_alloc2_old w (.cells #[bvv a.m, bvv a.v, bvv a.o] 28 (0, 0)) (.cells #[bvv b.m, bvv b.v, bvv b.o] 28 (0, 0))
  have hb0 := heap_alloc2_new w (.cells #[bvv a.m, bvv a.v, bvv a.o] 28 (0, 0)) (.cells #[bvv b.m, bvv b.v, bvv b.o] 28 (0, 0))
  have hhit := Lib.hid (fun (j : Nat) h1 h2 => rh_hit (a := a) (b := b) (j := j) h1 h2)
  have hend := Lib.hid (fun h => rh_end (a := a) (b := b) h)
  have HBa := fun (q : Nat) (hq : q < 8) w => bit8_any a.o q hq w
  have HBb := fun (q : Nat) (hq : q < 8) w => bit8_any b.o q hq w
  have HC := fun w => rholds2_any a.m a.v b.m b.v w
  generalize rhB a b = R at *
  unfold rwv cv at *
  unfold bvv at *
  go_enter Try.func14, Try.ntmps14
  go_wp2
  generalize (w.alloc _).alloc _ = W at *
  go_loopw [5] (fun t wr => ∃ j : Nat, j ≤ 8 ∧ t = .int .i64 j ∧ Hid (∀ q, q < j → b.o.getLsbD q = true → a.o.getLsbD q = true) ∧ W = wr) (fun t _ => 8 - (intOf t).toNat)
  case atStart => exact ⟨0, by omega, rfl, Lib.hid (fun q hq => absurd hq (Nat.not_lt_zero _)), rfl⟩
  case round =>
    obtain ⟨j, hj, rfl, hH, rfl⟩ := hrel
    obtain ⟨a0, a1, a2, -⟩ := now3 ha0 rfl
    obtain ⟨b0, b1, b2, -⟩ := now3 hb0 rfl
    by_cases hlt : j < 8
    · have HBaj := fun w => HBa j hlt w
      have HBbj := fun w => HBb j hlt w
      have hh := Lib.hid (hhit.out j)
      clear HBa HBb HC ha0 hb0 hhit
      cases hb : b.o.getLsbD j
      · rw [hb] at HBbj
        have hH2 : Hid (∀ q, q < j + 1 → b.o.getLsbD q = true → a.o.getLsbD q = true) := Lib.hid (fun q h1 h2 => by
          by_cases e : q = j
          · subst e; rw [hb] at h2; cases h2
          · exact hH.out q (by omega) h2)
        clear hb hH hh hend
        go_wp2_with fail
        refine (HBbj _).mono ?_
        rintro e w1 ⟨rfl, rfl⟩
        go_wp2
        go_roundw
        case rel => exact ⟨j + 1, by omega, by go_num, hH2, trivial⟩
        case measure => simp [intOf]; omega
      · rw [hb] at HBbj
        cases ha : a.o.getLsbD j
        · rw [ha] at HBaj
          have hR := Lib.hid (hh.out hb ha)
          clear hb ha hH hh hend
          go_wp2_with fail
          refine (HBbj _).mono ?_
          rintro e w1 ⟨rfl, rfl⟩
          go_wp2_with fail
          refine (HBaj _).mono ?_
          rintro e w1 ⟨rfl, rfl⟩
          go_wp2
          go_ret
          exact ⟨by rw [hR.out]; rfl, hB0⟩
        · rw [ha] at HBaj
          have hH2 : Hid (∀ q, q < j + 1 → b.o.getLsbD q = true → a.o.getLsbD q = true) := Lib.hid (fun q h1 h2 => by
            by_cases e : q = j
            · subst e; exact ha
            · exact hH.out q (by omega) h2)
          clear hb ha hH hh hend
          go_wp2_with fail
          refine (HBbj _).mono ?_
          rintro e w1 ⟨rfl, rfl⟩
          go_wp2_with fail
          refine (HBaj _).mono ?_
          rintro e w1 ⟨rfl, rfl⟩
          go_wp2
          go_roundw
          case rel => exact ⟨j + 1, by omega, by go_num, hH2, trivial⟩
          case measure => simp [intOf]; omega
    · have hR := Lib.hid (hend.out (fun q hq => hH.out q (by omega)))
      clear hend hhit hH HBa HBb ha0 hb0
      generalize holdsB a.m a.v b.m b.v = q at *
      go_wp2_with fail
      refine (HC _).mono ?_
      rintro e w1 ⟨rfl, hb1⟩
      clear HC
      go_wp2
      go_ret
      exact ⟨by rw [hR.out]; rfl, hB0.trans (hb1.mono hB0.size)⟩
set_option maxHeartbeats 1000000 in
theorem rpower10_any (n : Nat) (hn : n ≤ 8) (w : World) :
    Calls Try.prog 63 #[.int .i64 n] w fun e w' => e = .returned (.int .i64 ((2 ^ n : Nat) : Int)) ∧ w = w' := by
  have hp2 : ∀ k, Hid (2 ^ (k + 1) = 2 ^ k * 2) := fun k => Lib.hid (Nat.pow_succ 2 k)
  have hple : ∀ k, k ≤ n → Hid (2 ^ k ≤ 256) := fun k hk => Lib.hid (Nat.le_trans (Nat.pow_le_pow_right (by decide) (by omega : k ≤ 8)) (by decide : (2 : Nat) ^ 8 ≤ 256))
  go_enter Try.func63, Try.ntmps63
  go_wp2
  go_loopw [3, 4] (fun p t wr => ∃ k : Nat, k ≤ n ∧ t = .int .i64 k ∧ p = .int .i64 ((2 ^ k : Nat) : Int) ∧ w = wr) (fun _ t _ => n - (intOf t).toNat)
  case atStart => exact ⟨0, by omega, rfl, rfl, rfl⟩
  case round =>
    obtain ⟨k, hk, rfl, rfl, rfl⟩ := hrel
    by_cases hki : k < n
    · have hp := hp2 k
      have h24 := (hple (k + 1) (by omega)).out
      clear hp2 hple
      generalize hq : 2 ^ (k + 1) = q at *
      generalize 2 ^ k = p at *
      have hpq := hp.out
      have hqH := Lib.hid hq
      clear hq
      go_wp2
      go_roundw
      case rel => exact ⟨k + 1, by omega, by go_num, by rw [hqH.out, hp.out]; go_num, trivial⟩
      case measure => simp [intOf]; omega
    · obtain rfl : k = n := by omega
      clear hp2 hple
      generalize hP : 2 ^ k = p at *
      have hPH := Lib.hid hP
      clear hP
      go_wp2
      go_ret
      exact ⟨by rw [hPH.out]; rfl, rfl⟩
end Go.Proofs.Ytmgggennbnbjkaa
namespace Go.Proofs.Ytmgggennbnbjkaa
open Go.RowKit Go.Joins

def rzV (rs : List Rw) : List Value := rs.flatMap fun x => [bvv x.m, bvv x.v, bvv x.o]
theorem rzV_snoc (rs : List Rw) (x : Rw) : rzV (rs ++ [x]) = rzV rs ++ [bvv x.m, bvv x.v, bvv x.o] := by unfold rzV; simp
theorem rzV_at : ∀ (rs : List Rw) (j : Nat) (x : Rw), rs[j]? = some x → (rzV rs)[j * 3]? = some (bvv x.m) ∧ (rzV rs)[j * 3 + 1]? = some (bvv x.v) ∧ (rzV rs)[j * 3 + 2]? = some (bvv x.o)
  | [], _, _, h => by simp at h
  | a :: rs, 0, x, h => by
    simp at h
    subst h
    exact ⟨rfl, rfl, rfl⟩
  | a :: rs, j + 1, x, h => by
    obtain ⟨x1, y, z⟩ := rzV_at rs j x (by simpa using h)
    have e : rzV (a :: rs) = bvv a.m :: bvv a.v :: bvv a.o :: rzV rs := rfl
    rw [e, show (j + 1) * 3 = j * 3 + 3 by omega]
    exact ⟨x1, y, z⟩
theorem own_rz {w : World} {bd : Nat} {v : Value} {rs : List Rw} (h : w.ownsRow bd 28 3 v rs.length (rzV rs)) : RwsAt w w.heap.size v rs := by
  rcases Nat.eq_zero_or_pos rs.length with h0 | h0
  · obtain ⟨A, c, rfl⟩ := own_form h
    exact ⟨A, c, rfl, by omega, fun h => by omega⟩
  · obtain ⟨g, c, rfl, -, hg, hlen, hc⟩ := own_cellq h h0
    refine ⟨_, c, rfl, hlen, fun _ => ⟨g, 0, rfl, hg, fun j x hx => ?_⟩⟩
    obtain ⟨a, b, d⟩ := rzV_at rs j x hx
    rw [Nat.zero_add]
    exact ⟨hc _ _ a, hc _ _ b, hc _ _ d⟩
theorem Try.infoRow10 : (Try.prog.info? 28).map (fun i => (i.zero, i.size, i.bytes)) = some (some (.agg #[.int .u8 0, .int .u8 0, .int .u8 0]), 3, 3) := by kernel_rfl
theorem rwU_keyz (P : Rw → Bool) (M V O : BitVec 8) : (rwU P (65536 * O.toNat + (256 * M.toNat + (V.toNat + 1)))).map rwK = (rwU P (65536 * O.toNat + (256 * M.toNat + V.toNat))).map rwK ++ (if P ⟨M, V, O⟩ = true then [⟨M, V, O⟩] else []) :=
  rwU_key P ⟨M, V, O⟩
set_option maxHeartbeats 8000000 in
set_option maxRecDepth 100000 in
theorem rrows10_any (n : Nat) (A C : Value) (on may : List (BitVec 256)) (w : World) (hA : SetsAt w w.heap.size A on) (hC : SetsAt w w.heap.size C may) (hn : n ≤ 8) (ho8 : on.length ≤ 8) (hm8 : may.length ≤ 8) :
    Calls Try.prog 41 #[spv n A C] w fun e w' => ∃ v, e = .returned v ∧ RwsAt w' w'.heap.size v (rwL (rowIn ⟨n, on, may⟩)) ∧ Below w.heap.size w w' := by
  obtain ⟨i0, hi0, hz0, hz1, hz2⟩ := info_parts Try.infoRow10
  have hB := below_alloc1 w (spb n A C)
  have hb0 := heap_alloc_new w (spb n A C)
  have HI := fun x w1 (hb : Below w.heap.size w w1) => rin10_any n A C on may x w1 ((hA.below hb).more hb.size) ((hC.below hb).more hb.size) hm8
  have HP := fun w => rpower10_any n hn w
  have HQ := fun w => rpower10_any on.length ho8 w
  have hP2 : 2 ^ n ≤ 256 := Nat.le_trans (Nat.pow_le_pow_right (by decide) hn) (by decide : (2 : Nat) ^ 8 ≤ 256)
  have hQ2 : 2 ^ on.length ≤ 256 := Nat.le_trans (Nat.pow_le_pow_right (by decide) ho8) (by decide : (2 : Nat) ^ 8 ≤ 256)
  have hQ1 : 1 ≤ 2 ^ on.length := Nat.one_le_two_pow
  have hkey := Lib.hid (rwU_keyz (rowIn ⟨n, on, may⟩))
  have hst := Lib.hid (rwU_start (s := ⟨n, on, may⟩) (n := n) rfl)
  have hmk := Lib.hid (fun (o m : Nat) (h1 : o < 256) (h2 : m < 256) => rwU_mask (s := ⟨n, on, may⟩) (n := n) rfl hn h1 h2)
  have hou := Lib.hid (fun (o : Nat) (h1 : o < 256) => rwU_outs (s := ⟨n, on, may⟩) (n := n) rfl hn h1)
  have hen := Lib.hid (rwU_end (s := ⟨n, on, may⟩) (n := n) rfl ho8)
  have hen : Hid ((rwU (rowIn ⟨n, on, may⟩) (65536 * 2 ^ on.length)).map rwK = rwL (rowIn ⟨n, on, may⟩)) := Lib.hid (by unfold rwL; rw [← hen.out])
  have hlen := Lib.hid (rwU_len (rowIn ⟨n, on, may⟩))
  generalize rwL (rowIn ⟨n, on, may⟩) = RL at *
  generalize hPe : 2 ^ n = P at *
  generalize hQe : 2 ^ on.length = Q at *
  clear hPe hQe
  obtain ⟨A, ac, rfl, la, -⟩ := hA
  obtain ⟨C, cc, rfl, lc, -⟩ := hC
  unfold spv spb at *
  go_enter Try.func41, Try.ntmps41
  go_wp2
  generalize (w.alloc _) = W at *
  have hWs := hB.size
  go_loopw [3, 4] (fun s t wr => ∃ (o : Nat) (L : List Rw), 1 ≤ o ∧ o ≤ Q ∧ t = .int .i64 o ∧ Hid (L = (rwU (rowIn ⟨n, on, may⟩) (65536 * o)).map rwK) ∧ wr.ownsRow W.heap.size 28 3 s L.length (rzV L) ∧ Below W.heap.size W wr) (fun _ t _ => Q - (intOf t).toNat)
  case atStart => exact ⟨1, [], by omega, by omega, rfl, Lib.hid (by rw [show 65536 * 1 = 65536 from rfl, hst.out]; rfl), World.ownsRow_nil _ _ _ _, Below.refl _ _⟩
  case round =>
    obtain ⟨o, L, ho1, hoQ, rfl, hL, hown, hb⟩ := hrel
    have hbr := keep_blk hb hb0
    obtain ⟨s0, s1, s2, -⟩ := now3 hbr rfl
    by_cases hol : o < Q
    · have hkd : decide ((o : Int) < (Q : Int)) = true := decide_eq_true (by omega)
      go_wp2_with fail
      refine (HQ _).mono ?_
      rintro e w1 ⟨rfl, rfl⟩
      go_wp2
      clear hkd
      go_loopw [3, 5] (fun s t wj => ∃ (m : Nat) (L : List Rw), m ≤ P ∧ t = .int .i64 m ∧ Hid (L = (rwU (rowIn ⟨n, on, may⟩) (65536 * o + 256 * m)).map rwK) ∧ wj.ownsRow W.heap.size 28 3 s L.length (rzV L) ∧ Below W.heap.size W wj) (fun _ t _ => P - (intOf t).toNat)
      case atStart => exact ⟨0, L, by omega, rfl, hL, hown, hb⟩
      case round =>
        clear hL hown hb hbr s0 s1 s2
        obtain ⟨m, L, hm, rfl, hL, hown, hb⟩ := hrel
        have hbr := keep_blk hb hb0
        obtain ⟨s0, s1, s2, -⟩ := now3 hbr rfl
        by_cases hml : m < P
        · have hkd : decide ((m : Int) < (P : Int)) = true := decide_eq_true (by omega)
          go_wp2_with fail
          refine (HP _).mono ?_
          rintro e w1 ⟨rfl, rfl⟩
          go_wp2
          clear hkd
          go_loopw [3, 6] (fun s t wj => ∃ (v : Nat) (L : List Rw), v ≤ P ∧ t = .int .i64 v ∧ Hid (L = (rwU (rowIn ⟨n, on, may⟩) (65536 * o + (256 * m + v))).map rwK) ∧ wj.ownsRow W.heap.size 28 3 s L.length (rzV L) ∧ Below W.heap.size W wj) (fun _ t _ => P - (intOf t).toNat)
          case atStart => exact ⟨0, L, by omega, rfl, hL, hown, hb⟩
          case round =>
            clear hL hown hb hbr s0 s1 s2
            obtain ⟨v, L, hv, rfl, hL, hown, hb⟩ := hrel
            have hbr := keep_blk hb hb0
            obtain ⟨s0, s1, s2, -⟩ := now3 hbr rfl
            by_cases hvl : v < P
            · have hkd : decide ((v : Int) < (P : Int)) = true := decide_eq_true (by omega)
              obtain ⟨O, rfl⟩ : ∃ M : BitVec 8, o = M.toNat := ⟨BitVec.ofNat 8 o, by rw [BitVec.toNat_ofNat]; omega⟩
              obtain ⟨M, rfl⟩ : ∃ M : BitVec 8, m = M.toNat := ⟨BitVec.ofNat 8 m, by rw [BitVec.toNat_ofNat]; omega⟩
              obtain ⟨V, rfl⟩ : ∃ V : BitVec 8, v = V.toNat := ⟨BitVec.ofNat 8 v, by rw [BitVec.toNat_ofNat]; omega⟩
              have hst := Lib.hid (hkey.out M V O)
              rw [← hL.out] at hst
              have hLl : L.length ≤ 16777216 := by rw [hL.out, List.length_map]; have := hlen.out (65536 * O.toNat + (256 * M.toNat + V.toNat)); have := M.isLt; have := V.isLt; have := O.isLt; omega
              have HIx := fun w1 hb => HI ⟨M, V, O⟩ w1 hb
              have hx := heap_alloc_new wr (.cells #[.int .u8 M.toNat, .int .u8 V.toNat, .int .u8 O.toNat] 28)
              have hA := below_alloc1 wr (.cells #[.int .u8 M.toNat, .int .u8 V.toNat, .int .u8 O.toNat] 28)
              have hsa := keep_blk hA hbr
              obtain ⟨q0, q1, q2, -⟩ := now3 hsa rfl
              obtain ⟨x0, x1, x2, -⟩ := now3 hx rfl
              have hBw := hB.trans ((hb.trans (hA.mono hb.size)).mono hWs)
              have HIy := HIx _ hBw
              unfold rwv bvv at HIy
              clear HI HIx hkey hmk hou hen hlen HQ
              go_wp2_with (go_at_call 63; refine (HP _).mono ?_; rintro e w1 ⟨rfl, rfl⟩)
              refine HIy.mono ?_
              rintro e w5 ⟨rfl, hb5⟩
              have hx5 := keep_blk hb5 hx
              have hA5 := hA.trans (hb5.mono hA.size)
              have hb6 := hb.trans (hA5.mono hb.size)
              have ho5 := owns_below hown hA5
              have hs6 := hb6.size
              clear HIy hb5 hx hA hA5 hown hb hbr hsa q0 q1 q2 x0 x1 x2 hBw s0 s1 s2 HP hkd
              obtain ⟨x0, x1, x2, -⟩ := now3 hx5 rfl
              generalize rowIn ⟨n, on, may⟩ ⟨M, V, O⟩ = pr at *
              cases pr
              · have hL2 : Hid (L = (rwU (rowIn ⟨n, on, may⟩) (65536 * O.toNat + (256 * M.toNat + (V.toNat + 1)))).map rwK) := Lib.hid (by rw [hst.out]; simp)
                clear hst hL
                go_wp2
                go_roundw
                case rel => exact ⟨V.toNat + 1, L, by omega, by go_num, hL2, ho5, hb6⟩
                case measure => simp [intOf]; omega
              · have hL2 : Hid (L ++ [⟨M, V, O⟩] = (rwU (rowIn ⟨n, on, may⟩) (65536 * O.toNat + (256 * M.toNat + (V.toNat + 1)))).map rwK) := Lib.hid (by rw [hst.out]; rfl)
                clear hst hL
                go_wp2_with (at_builtin; go_loud (refine wpList_append_own _ rfl _ _ 38 rfl W.heap.size 28 i0 (.agg #[.int .u8 0, .int .u8 0, .int .u8 0]) 3 3 Try.underlying38 hi0 hz0 hz1 hz2 rfl (by decide) _ _ _ rfl (ho5.alloc _) ⟨w5.heap.size, 0, none⟩ 1 1 [.int .u8 M.toNat, .int .u8 V.toNat, .int .u8 O.toNat] rfl rfl ?c1 ?c2 ?c3 ?c4 ?c5 ?_))
                case c1 => exact World.news_of_block (cs := #[.int .u8 M.toNat, .int .u8 V.toNat, .int .u8 O.toNat]) (t := 28) (fr := (0, 0)) (heap_alloc_new w5 _)
                case c2 => intro u hu; simp at hu; rcases hu with rfl | rfl | rfl <;> rfl
                case c3 => unfold maxLen; omega
                case c4 => omega
                case c5 => simp; omega
                intro v' w8 ho8 hg8 _
                have hB8 := grown_below (ho5.alloc (.cells #[.int .u8 M.toNat, .int .u8 V.toNat, .int .u8 O.toNat] 28)) hg8 (hb6.alloc hb6.size _) (Nat.le_refl _) (by simp; omega)
                have ho9 : w8.ownsRow W.heap.size 28 3 v' (L ++ [(⟨M, V, O⟩ : Rw)]).length (rzV (L ++ [(⟨M, V, O⟩ : Rw)])) := by
                  rw [rzV_snoc, List.length_append]
                  exact ho8
                clear hg8 ho8 ho5 hb6
                go_wp2
                go_roundw
                case rel => exact ⟨V.toNat + 1, L ++ [(⟨M, V, O⟩ : Rw)], by omega, by go_num, hL2, ho9, hB8⟩
                case measure => simp [intOf]; omega
            · have e : v = P := by omega
              subst e
              have hL2 : Hid (L = (rwU (rowIn ⟨n, on, may⟩) (65536 * o + 256 * (m + 1))).map rwK) := Lib.hid (by rw [hL.out, hmk.out o m (by omega) (by omega)])
              have hkd : decide ((v : Int) < (v : Int)) = false := decide_eq_false (by omega)
              clear hL hmk hkey hou hen HI HQ hlen hst
              go_wp2_with (go_at_call 63; refine (HP _).mono ?_; rintro e w1 ⟨rfl, rfl⟩)
              go_roundw
              case rel => exact ⟨m + 1, L, by omega, by go_num, hL2, hown, hb⟩
              case measure => simp [intOf]; omega
        · have e : m = P := by omega
          subst e
          have hL2 : Hid (L = (rwU (rowIn ⟨n, on, may⟩) (65536 * (o + 1))).map rwK) := Lib.hid (by rw [hL.out, hou.out o (by omega)])
          have hkd : decide ((m : Int) < (m : Int)) = false := decide_eq_false (by omega)
          clear hL hmk hkey hou hen HI HQ hlen hst
          go_wp2_with (go_at_call 63; refine (HP _).mono ?_; rintro e w1 ⟨rfl, rfl⟩)
          go_roundw
          case rel => exact ⟨o + 1, L, by omega, by omega, by go_num, hL2, hown, hb⟩
          case measure => simp [intOf]; omega
    · have e : o = Q := by omega
      subst e
      have hL2 : L = RL := by rw [hL.out, hen.out]
      have hBr := hB.trans (hb.mono hWs)
      have hkd : decide ((o : Int) < (o : Int)) = false := decide_eq_false (by omega)
      have hR := own_rz hown
      rw [hL2] at hR
      clear hL hmk hkey hou hen HI HP hlen hst
      go_wp2_with (go_at_call 63; refine (HQ _).mono ?_; rintro e w1 ⟨rfl, rfl⟩)
      go_ret
      exact ⟨_, rfl, hR, hBr⟩
end Go.Proofs.Ytmgggennbnbjkaa
