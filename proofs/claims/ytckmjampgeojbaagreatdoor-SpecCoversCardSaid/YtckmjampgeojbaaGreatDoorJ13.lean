/- What a table asks for: Of of the package spec, for every table. knows, of the fourth law text: what is known of one table. -/
import Derived.Test.YtckmjampgeojbaaGreatDoorJ08
import Derived.Test.YtckmjampgeojbaaGreatDoorJ11
import Derived.Test.YtckmjampgeojbaaGreatDoorJ12
import Derived.Test.YtckmjampgeojbaaGreatDoorJ07
import Derived.Deep.CutRange
import Derived.Maps.AppendAt
namespace Go.Proofs.YtckmjampgeojbaaGreatDoor
open Go.RowKit Go.Joins

def setsV (Ss : List (BitVec 256)) : List Value := Ss.flatMap fun X => [wv (wd X 0), wv (wd X 1), wv (wd X 2), wv (wd X 3)]
theorem setsV_snoc (Ss : List (BitVec 256)) (X : BitVec 256) : setsV (Ss ++ [X]) = setsV Ss ++ [wv (wd X 0), wv (wd X 1), wv (wd X 2), wv (wd X 3)] := by
  unfold setsV; simp
theorem setsV_at : ∀ (Ss : List (BitVec 256)) (j : Nat) (X : BitVec 256), Ss[j]? = some X →
    (setsV Ss)[j * 4]? = some (wv (wd X 0)) ∧ (setsV Ss)[j * 4 + 1]? = some (wv (wd X 1)) ∧ (setsV Ss)[j * 4 + 2]? = some (wv (wd X 2)) ∧ (setsV Ss)[j * 4 + 3]? = some (wv (wd X 3))
  | [], _, _, h => by simp at h
  | a :: Ss, 0, X, h => by
    simp at h
    subst h
    exact ⟨rfl, rfl, rfl, rfl⟩
  | a :: Ss, j + 1, X, h => by
    obtain ⟨x, y, z, u⟩ := setsV_at Ss j X (by simpa using h)
    have e : setsV (a :: Ss) = wv (wd a 0) :: wv (wd a 1) :: wv (wd a 2) :: wv (wd a 3) :: setsV Ss := rfl
    rw [e, show (j + 1) * 4 = j * 4 + 4 by omega]
    exact ⟨x, y, z, u⟩
theorem own_sets {w : World} {bd : Nat} {v : Value} {Ss : List (BitVec 256)} (h : w.ownsRow bd 45 4 v Ss.length (setsV Ss)) : SetsAt w w.heap.size v Ss := by
  rcases Nat.eq_zero_or_pos Ss.length with h0 | h0
  · obtain ⟨A, c, rfl⟩ := own_form h
    exact ⟨A, c, rfl, by omega, fun h => by omega⟩
  · obtain ⟨g, c, rfl, hg, hlen, hc⟩ := own_cells h h0
    refine ⟨_, c, rfl, hlen, fun _ => ⟨g, 0, rfl, hg, fun j X hX => ?_⟩⟩
    obtain ⟨a, b, d, e⟩ := setsV_at Ss j X hX
    rw [Nat.zero_add]
    exact ⟨hc _ _ a, hc _ _ b, hc _ _ d, hc _ _ e⟩
theorem Tryz.infoSet : (Tryz.prog.info? 45).map (fun i => (i.zero, i.size, i.bytes)) = some (some (.agg #[.int .u64 0, .int .u64 0, .int .u64 0, .int .u64 0]), 4, 32) := by kernel_rfl
/-- What Of leaves. -/
def OfLeaves (w : World) (t : Tb) (e : Ending) (w' : World) : Prop :=
  Below w.heap.size w w' ∧ ((ofE t ≠ 0 ∧ e = .returned (.tuple #[spv 0 (.slice none 0 0) (.slice none 0 0), .int .i64 (ofE t)])) ∨
    (ofE t = 0 ∧ ∃ A C, e = .returned (.tuple #[spv t.i A C, .int .i64 0]) ∧ SetsAt w' w'.heap.size A (ofS t).on ∧ SetsAt w' w'.heap.size C (ofS t).may))
set_option maxHeartbeats 2000000 in
set_option maxRecDepth 100000 in
theorem of_wrong (t : Tb) (L : Value) (w : World) (hL : LinesAt w w.heap.size L t.ls) (hr : rightT t = false) :
    Calls Tryz.prog 13 #[tv t.k t.i t.n L] w (OfLeaves w t) := by
  have hE : ofE t = 1 := by unfold ofE; rw [hr]; rfl
  have hB0 := below_alloc2 w (tb t.k t.i t.n L) (spb 0 (.slice none 0 0) (.slice none 0 0))
  have hn0 := heap_alloc2_new w (tb t.k t.i t.n L) (spb 0 (.slice none 0 0) (.slice none 0 0))
  have HR := pright_any t.k t.i t.n L t.ls _ ((hL.below hB0).more hB0.size)
  rw [show (⟨t.k, t.i, t.n, t.ls⟩ : Tb) = t from rfl, hr] at HR
  obtain ⟨A, c, rfl, hlen, -⟩ := hL
  unfold tv tb spb at *
  go_enter Tryz.func13, Tryz.ntmps13
  go_wp2_with fail
  refine HR.mono ?_
  rintro e w1 ⟨rfl, hb1⟩
  have hn1 := keep_blk hb1 hn0
  have hB1 := hB0.trans (hb1.mono hB0.size)
  obtain ⟨d0, d1, d2, df⟩ := now3 hn1 rfl
  clear HR hb1
  go_wp2
  exact bodyPost_ret (v := .tuple #[.agg #[.int .i64 0, .slice none 0 0, .slice none 0 0], .int .i64 1]) (by simp [results, Tryz.results13, go_sem, d0, d1, d2]) rfl
    ⟨by repeat (first | (with_reducible exact hB1) | (with_reducible refine Below.setCell ?_ (by simp) _)), Or.inl ⟨by rw [hE]; decide, by rw [hE]; rfl⟩⟩
/-- The rule of a kind. -/
def kBoth (k : Int) : Nat := if k < 2 then 58 else 59
def kMay (k : Int) : Nat := if k = 0 then 62 else if k = 1 then 63 else 61
theorem cellSet4 {w : World} {b c o j : Nat} {u v : Value} (hne : b ≠ c) (h : w.cell? ⟨b, o, none⟩ = some v) : (w.setCell ⟨c, j, none⟩ u).cell? ⟨b, o, none⟩ = some v :=
  (World.cell?_of_block (w := w) (a := ⟨b, o, none⟩) (Below.heap_setCell _ _ _ _ hne)).trans h
/-- What may be on, by a kind's rule. -/
def mayF (k : Int) (Z O F M : BitVec 256) : BitVec 256 := if k = 0 then O else if k = 1 then O ||| F else M &&& ~~~Z
theorem kBoth_any (k : Int) (Z O F : BitVec 256) (w : World) : Calls Tryz.prog (kBoth k) #[sdv Z O F] w fun e w' => e = .returned (.bool (decide (2 ≤ k) && decide (O &&& Z ≠ 0))) ∧ Below w.heap.size w w' := by
  unfold kBoth
  by_cases h : k < 2
  · rw [if_pos h, decide_eq_false (show ¬ 2 ≤ k by omega)]; exact never_any Z O F w
  · rw [if_neg h, decide_eq_true (show 2 ≤ k by omega)]; exact clashR_any Z O F w
theorem kMay_any (k : Int) (Z O F M : BitVec 256) (w : World) : Calls Tryz.prog (kMay k) #[sdv Z O F, sv M] w fun e w' => e = .returned (sv (mayF k Z O F M)) ∧ Below w.heap.size w w' := by
  unfold kMay mayF
  by_cases h : k = 0
  · rw [if_pos h, if_pos h]; exact onesR_any Z O F M w
  · rw [if_neg h, if_neg h]
    by_cases h1 : k = 1
    · rw [if_pos h1, if_pos h1]; exact freeR_any Z O F M w
    · rw [if_neg h1, if_neg h1]; exact notOff_any Z O F M w
theorem kBoth_enter (k : Int) : ∀ (args : Array Value) (w : World), (Sem.run Tryz.prog (callFunc (kBoth k) args) w) = .ok (.enter (kBoth k) args) w := by
  unfold kBoth; intro args w; split <;> kernel_rfl
theorem kMay_enter (k : Int) : ∀ (args : Array Value) (w : World), (Sem.run Tryz.prog (callFunc (kMay k) args) w) = .ok (.enter (kMay k) args) w := by
  unfold kMay; intro args w
  split
  · kernel_rfl
  · split <;> kernel_rfl
theorem ofE_zero {t : Tb} (hr : rightT t = true) (h : ∀ q, q < t.n.toNat → bothK t q = false) : ofE t = 0 := by
  unfold ofE
  rw [if_pos hr, if_neg]
  rw [Bool.not_eq_true, List.any_eq_false]
  intro q hq
  rw [h q (by simpa using hq)]; decide
theorem ofE_four {t : Tb} (hr : rightT t = true) {q : Nat} (hq : q < t.n.toNat) (h : bothK t q = true) : ofE t = 4 := by
  unfold ofE
  rw [if_pos hr, if_pos]
  rw [List.any_eq_true]
  exact ⟨q, by simpa using hq, h⟩
theorem Tryz.neSS : 45 ≠ 73 := by decide
theorem haveT2 {P Q : Prop} (h : P) (k : P → Q) : Q := k h
theorem blkDrew4 {w : World} {b : Nat} {o : Obj} (h : w.heap[b]? = some o) : w.drew.heap[b]? = some o := h
theorem belowAlloc4 {w X : World} {o : Obj} (hX : Below w.heap.size w X) : Below w.heap.size w (X.alloc o) := hX.alloc hX.size o
theorem rules_kept {w0 : World} (W : World) (b : Nat) (o : Obj) (hk : W.heap[b]? = some o) (hb : Below w0.heap.size w0 W) :
    Calls Tryz.prog 31 #[] W fun e w' => e = .returned (.agg #[fnv 58, fnv 62, fnv 58, fnv 63, fnv 59, fnv 61, fnv 59, fnv 61]) ∧ w'.heap[b]? = some o ∧ Below w0.heap.size w0 w' ∧ Below W.heap.size W w' :=
  (rules_any W).mono fun _ _ ⟨a, c⟩ => ⟨a, keep_blk c hk, hb.trans (c.mono hb.size), c⟩
theorem idx0 (w : World) : (Instr.index 70 (.agg #[fnv 58, fnv 62, fnv 58, fnv 63, fnv 59, fnv 61, fnv 59, fnv 61]) (.int .i64 0)).run Tryz.prog w = .ok (.agg #[fnv 58, fnv 62]) w := by kernel_rfl
theorem idx1 (w : World) : (Instr.index 70 (.agg #[fnv 58, fnv 62, fnv 58, fnv 63, fnv 59, fnv 61, fnv 59, fnv 61]) (.int .i64 1)).run Tryz.prog w = .ok (.agg #[fnv 58, fnv 63]) w := by kernel_rfl
theorem idx2 (w : World) : (Instr.index 70 (.agg #[fnv 58, fnv 62, fnv 58, fnv 63, fnv 59, fnv 61, fnv 59, fnv 61]) (.int .i64 2)).run Tryz.prog w = .ok (.agg #[fnv 59, fnv 61]) w := by kernel_rfl
theorem idx3 (w : World) : (Instr.index 70 (.agg #[fnv 58, fnv 62, fnv 58, fnv 63, fnv 59, fnv 61, fnv 59, fnv 61]) (.int .i64 3)).run Tryz.prog w = .ok (.agg #[fnv 59, fnv 61]) w := by kernel_rfl
set_option maxHeartbeats 4000000 in
set_option maxRecDepth 100000 in
theorem of_right (k : Int) (i n : Nat) (ls : List Ln) (L : Value) (w : World) (hL : LinesAt w w.heap.size L ls) (hr : rightT ⟨k, i, n, ls⟩ = true) :
    Calls Tryz.prog 13 #[tv k i n L] w (OfLeaves w ⟨k, i, n, ls⟩) := by
  obtain ⟨⟨⟨hk0, hk3⟩, ⟨hi0, hi8⟩, hn1, hn4⟩, h64, hlines⟩ := (rightT_iff _).1 hr
  dsimp only at hk0 hk3 hi0 hi8 hn1 hn4 h64 hlines
  have hB0 := below_alloc2 w (tb k i n L) (spb 0 (.slice none 0 0) (.slice none 0 0))
  have ht0 := heap_alloc2_old w (tb k i n L) (spb 0 (.slice none 0 0) (.slice none 0 0))
  have hn0 := heap_alloc2_new w (tb k i n L) (spb 0 (.slice none 0 0) (.slice none 0 0))
  have HR := pright_any k i n L ls _ ((hL.below hB0).more hB0.size)
  rw [hr] at HR
  have HA := fun w => all_any i (by omega) w
  obtain ⟨A, c, hLe, hlen, hA⟩ := id hL
  subst hLe
  generalize hall : allB i = all at *
  unfold tv tb spb at *
  unfold sv at HA
  go_enter Tryz.func13, Tryz.ntmps13
  go_wp2_with fail
  refine HR.mono ?_
  rintro e w1 ⟨rfl, hb1⟩
  have ht1 := keep_blk hb1 ht0
  have hn1' := keep_blk hb1 hn0
  have hB1 := hB0.trans (hb1.mono hB0.size)
  obtain ⟨q0, q1, q2, q3, -⟩ := now4 ht1 rfl
  clear HR hb1 ht0 hn0 hB0
  go_wp2_with fail
  refine (HA _).mono ?_
  rintro e w2 ⟨rfl, hb2⟩
  have ht2 := keep_blk hb2 ht1
  have hn2 := keep_blk hb2 hn1'
  have hB2 := hB1.trans (hb2.mono hB1.size)
  have ha3 := heap_alloc_new w2 (.cells #[wv (wd all 0), wv (wd all 1), wv (wd all 2), wv (wd all 3)] 45 (0, 0))
  have ht3 := keep_alloc (x := .cells #[wv (wd all 0), wv (wd all 1), wv (wd all 2), wv (wd all 3)] 45 (0, 0)) ht2
  have hn3 := keep_alloc (x := .cells #[wv (wd all 0), wv (wd all 1), wv (wd all 2), wv (wd all 3)] 45 (0, 0)) hn2
  have hB3 := hB2.alloc hB2.size (.cells #[wv (wd all 0), wv (wd all 1), wv (wd all 2), wv (wd all 3)] 45 (0, 0))
  have hz2 := size_of_block hn2
  clear HA hb2 ht1 hn1' hB1 ht2 hn2 hB2 q0 q1 q2 q3
  unfold wv at ha3 ht3 hn3 hB3 ⊢
  go_upto_region 6 with (fail)
  generalize hba : w2.heap.size = ba at *
  generalize w2.alloc (.cells #[.int .u64 (wd all 0).toNat, .int .u64 (wd all 1).toNat, .int .u64 (wd all 2).toNat, .int .u64 (wd all 3).toNat] 45 (0, 0)) = w3 at *
  clear hba
  obtain ⟨q0, q1, q2, q3, -⟩ := now4 ht3 rfl
  have hBs := Below.refl w3.heap.size w3
  have HRl := fun W hk hb => rules_kept (w0 := w3) W w.heap.size (.cells #[.int .i64 k, .int .i64 i, .int .i64 n, .slice A ls.length c] 33 (0, 0)) hk hb
  go_cut [6] from 25 (fun s6 wc => ∃ br : Nat, s6 = .pointer (some ⟨br, 0, none⟩) ∧ wc.heap[br]? = some (.cells #[fnv (kBoth k), fnv (kMay k)] 69 (0, 0)) ∧ Below w3.heap.size w3 wc)
  case first =>
    have hcut : ∀ wc : World, ∀ br : Nat, wc.heap[br]? = some (.cells #[fnv (kBoth k), fnv (kMay k)] 69 (0, 0)) → Below w3.heap.size w3 wc → ∃ br' : Nat, Value.pointer (some ⟨br, 0, none⟩) = .pointer (some ⟨br', 0, none⟩) ∧ wc.heap[br']? = some (.cells #[fnv (kBoth k), fnv (kMay k)] 69 (0, 0)) ∧ Below w3.heap.size w3 wc := fun wc br h1 h2 => ⟨br, rfl, h1, h2⟩
    have hzw := size_of_block ht3
    clear q1 q2 q3 ha3 hn3 hB3 hz2 hL hr hlines hA
    obtain rfl | rfl | rfl | rfl : k = 0 ∨ k = 1 ∨ k = 2 ∨ k = 3 := by omega
    · rw [show kBoth 0 = 58 from rfl, show kMay 0 = 62 from rfl] at *
      have hix := fun w => idx0 w
      unfold fnv at *
      go_region_held3 (fun w' => w'.cell? ⟨w.heap.size, 0, none⟩ = some (.int .i64 0)) (first | go_keep | (repeat (first | (with_reducible assumption) | (with_reducible refine cellSet4 (by omega) ?_))))
        (first | (go_at_call 31; refine (HRl _ (by repeat (first | (with_reducible exact ht3) | (with_reducible refine blkDrew4 ?_) | (with_reducible refine keep_alloc ?_))) (by repeat (first | (with_reducible exact hBs) | (with_reducible refine Below.drew ?_) | (with_reducible refine belowAlloc4 ?_)))).mono ?_; rintro e wr ⟨rfl, hkr, hbr, hcr⟩; obtain ⟨x0, -, -, -, -⟩ := now4 hkr rfl; try (refine haveT2 (keep_blk hcr (heap_alloc_new _ _)) (fun kz => ?_); obtain ⟨y0, y1, yf⟩ := now2 kz rfl)))
      all_goals
        go_wp2_with fail
        go_meet
        refine hcut _ _ ?_ ?_
        · first | (with_reducible exact heap_alloc_new _ _) | exact put2 kz
        · first | (with_reducible exact belowAlloc4 hbr) | exact (hbr.setCell (Nat.le_refl _) _).setCell (Nat.le_refl _) _
    · rw [show kBoth 1 = 58 from rfl, show kMay 1 = 63 from rfl] at *
      have hix := fun w => idx1 w
      unfold fnv at *
      go_region_held3 (fun w' => w'.cell? ⟨w.heap.size, 0, none⟩ = some (.int .i64 1)) (first | go_keep | (repeat (first | (with_reducible assumption) | (with_reducible refine cellSet4 (by omega) ?_))))
        (first | (go_at_call 31; refine (HRl _ (by repeat (first | (with_reducible exact ht3) | (with_reducible refine blkDrew4 ?_) | (with_reducible refine keep_alloc ?_))) (by repeat (first | (with_reducible exact hBs) | (with_reducible refine Below.drew ?_) | (with_reducible refine belowAlloc4 ?_)))).mono ?_; rintro e wr ⟨rfl, hkr, hbr, hcr⟩; obtain ⟨x0, -, -, -, -⟩ := now4 hkr rfl; try (refine haveT2 (keep_blk hcr (heap_alloc_new _ _)) (fun kz => ?_); obtain ⟨y0, y1, yf⟩ := now2 kz rfl)))
      all_goals
        go_wp2_with fail
        go_meet
        refine hcut _ _ ?_ ?_
        · first | (with_reducible exact heap_alloc_new _ _) | exact put2 kz
        · first | (with_reducible exact belowAlloc4 hbr) | exact (hbr.setCell (Nat.le_refl _) _).setCell (Nat.le_refl _) _
    · rw [show kBoth 2 = 59 from rfl, show kMay 2 = 61 from rfl] at *
      have hix := fun w => idx2 w
      unfold fnv at *
      go_region_held3 (fun w' => w'.cell? ⟨w.heap.size, 0, none⟩ = some (.int .i64 2)) (first | go_keep | (repeat (first | (with_reducible assumption) | (with_reducible refine cellSet4 (by omega) ?_))))
        (first | (go_at_call 31; refine (HRl _ (by repeat (first | (with_reducible exact ht3) | (with_reducible refine blkDrew4 ?_) | (with_reducible refine keep_alloc ?_))) (by repeat (first | (with_reducible exact hBs) | (with_reducible refine Below.drew ?_) | (with_reducible refine belowAlloc4 ?_)))).mono ?_; rintro e wr ⟨rfl, hkr, hbr, hcr⟩; obtain ⟨x0, -, -, -, -⟩ := now4 hkr rfl; try (refine haveT2 (keep_blk hcr (heap_alloc_new _ _)) (fun kz => ?_); obtain ⟨y0, y1, yf⟩ := now2 kz rfl)))
      all_goals
        go_wp2_with fail
        go_meet
        refine hcut _ _ ?_ ?_
        · first | (with_reducible exact heap_alloc_new _ _) | exact put2 kz
        · first | (with_reducible exact belowAlloc4 hbr) | exact (hbr.setCell (Nat.le_refl _) _).setCell (Nat.le_refl _) _
    · rw [show kBoth 3 = 59 from rfl, show kMay 3 = 61 from rfl] at *
      have hix := fun w => idx3 w
      unfold fnv at *
      go_region_held3 (fun w' => w'.cell? ⟨w.heap.size, 0, none⟩ = some (.int .i64 3)) (first | go_keep | (repeat (first | (with_reducible assumption) | (with_reducible refine cellSet4 (by omega) ?_))))
        (first | (go_at_call 31; refine (HRl _ (by repeat (first | (with_reducible exact ht3) | (with_reducible refine blkDrew4 ?_) | (with_reducible refine keep_alloc ?_))) (by repeat (first | (with_reducible exact hBs) | (with_reducible refine Below.drew ?_) | (with_reducible refine belowAlloc4 ?_)))).mono ?_; rintro e wr ⟨rfl, hkr, hbr, hcr⟩; obtain ⟨x0, -, -, -, -⟩ := now4 hkr rfl; try (refine haveT2 (keep_blk hcr (heap_alloc_new _ _)) (fun kz => ?_); obtain ⟨y0, y1, yf⟩ := now2 kz rfl)))
      all_goals
        go_wp2_with fail
        go_meet
        refine hcut _ _ ?_ ?_
        · first | (with_reducible exact heap_alloc_new _ _) | exact put2 kz
        · first | (with_reducible exact belowAlloc4 hbr) | exact (hbr.setCell (Nat.le_refl _) _).setCell (Nat.le_refl _) _
  case rest =>
    obtain ⟨br, rfl, hrb, hBc⟩ := hcut
    have htc := keep_blk hBc ht3
    have hnc := keep_blk hBc hn3
    have hac := keep_blk hBc ha3
    have hB4 := hB3.trans (hBc.mono hB3.size)
    obtain ⟨q0, q1, q2, q3, -⟩ := now4 htc rfl
    have HB := fun Z O F w => kBoth_any k Z O F w
    have HM := fun Z O F M w => kMay_any k Z O F M w
    have hfB := kBoth_enter k
    have hfM := kMay_enter k
    have hE0 : Hid ((∀ q, q < n → bothK ⟨k, i, n, ls⟩ q = false) → ofE ⟨k, i, n, ls⟩ = 0) := Lib.hid (fun h => ofE_zero hr h)
    have hE4 : Hid (∀ q, q < n → bothK ⟨k, i, n, ls⟩ q = true → ofE ⟨k, i, n, ls⟩ = 4) := Lib.hid (fun q hq h => ofE_four hr hq h)
    have hbK : Hid (∀ q, bothK ⟨k, i, n, ls⟩ q = (decide (2 ≤ k) && decide (ptsM ls i q 1 &&& ptsM ls i q 0 ≠ 0))) := Lib.hid (fun q => rfl)
    have hmK : Hid (∀ q, mayK ⟨k, i, n, ls⟩ q = mayF k (ptsM ls i q 0) (ptsM ls i q 1) (ptsM ls i q 2) all) := Lib.hid (fun q => by rw [← hall]; rfl)
    have hls : ∀ q, q < n → ∀ l ∈ ls, rightB l.m l.v i = true ∧ q < l.o.length ∧ ∀ x ∈ l.o, 0 ≤ x ∧ x ≤ 2 := fun q hq l hl => by
      obtain ⟨a, b, d⟩ := (lineB_iff l i n).1 (hlines l hl)
      exact ⟨a, by omega, d⟩
    have HS := fun (q : Nat) (hq : q < n) (W : World) (hW : Below w.heap.size w W) => saidOf_any k i n _ ls q W ((hL.below hW).more hW.size) (hls q hq)
    generalize kBoth k = KB at *
    generalize kMay k = KM at *
    have hzA := size_of_block hac
    have hzR := size_of_block hrb
    have hzN := size_of_block hnc
    have hbs := heap_alloc_new wc (.cells #[Value.int .i64 i, .slice none 0 0, .slice none 0 0] 24 (0, 0))
    have hB5 := hB4.alloc hB4.size (.cells #[Value.int .i64 i, .slice none 0 0, .slice none 0 0] 24 (0, 0))
    have ht5 := keep_alloc (x := .cells #[Value.int .i64 i, .slice none 0 0, .slice none 0 0] 24 (0, 0)) htc
    have hn5 := keep_alloc (x := .cells #[Value.int .i64 i, .slice none 0 0, .slice none 0 0] 24 (0, 0)) hnc
    have ha5 := keep_alloc (x := .cells #[Value.int .i64 i, .slice none 0 0, .slice none 0 0] 24 (0, 0)) hac
    have hr5 := keep_alloc (x := .cells #[Value.int .i64 i, .slice none 0 0, .slice none 0 0] 24 (0, 0)) hrb
    have hz5 : (wc.alloc (.cells #[Value.int .i64 i, .slice none 0 0, .slice none 0 0] 24 (0, 0))).heap.size = wc.heap.size + 1 := by simp
    have hcs : w.heap.size ≤ wc.heap.size := hB4.size
    obtain ⟨i0, hi0', hz0, hz1', hz2'⟩ := info_parts Tryz.infoSet
    unfold fnv at *
    unfold tv sdv at HS
    unfold sdv at HB HM
    unfold sv at HM
    obtain ⟨p0, p1, p2, p3, -⟩ := now4 ht5 rfl
    go_wp2
    clear p0 p1 p2 p3
    generalize hbsz : wc.heap.size = bs at *
    generalize wc.alloc (.cells #[Value.int .i64 i, .slice none 0 0, .slice none 0 0] 24 (0, 0)) = wd0 at *
    clear ht3 hn3 ha3 hB3 hBc hB4 htc hnc hac hrb hk0 hk3 hi0 h64 hlines hr hls HRl hBs hz2 hall hA
    go_loopw [8, 9, 10, 34] (fun _ _ _ t wr => ∃ (j : Nat) (VA VC : Value), j ≤ n ∧ t = .int .i64 j ∧ Hid (∀ q, q < j → bothK ⟨k, i, n, ls⟩ q = false) ∧ Below w.heap.size w wr ∧ wr.heap[w.heap.size]? = some (.cells #[Value.int .i64 k, .int .i64 i, .int .i64 n, .slice A ls.length c] 33 (0, 0)) ∧ wr.heap[w.heap.size + 1]? = some (.cells #[Value.int .i64 0, .slice none 0 0, .slice none 0 0] 24 (0, 0)) ∧ wr.heap[ba]? = some (.cells #[.int .u64 (wd all 0).toNat, .int .u64 (wd all 1).toNat, .int .u64 (wd all 2).toNat, .int .u64 (wd all 3).toNat] 45 (0, 0)) ∧ wr.heap[br]? = some (.cells #[Value.func (.func KB) #[] #[], .func (.func KM) #[] #[]] 69 (0, 0)) ∧
      wr.heap[bs]? = some (.cells #[Value.int .i64 i, VA, VC] 24 (0, 0)) ∧ wr.ownsRow (bs + 1) 45 4 VA j (setsV ((List.range j).map fun q => ptsM ls i q 1)) ∧ wr.ownsRow (bs + 1) 45 4 VC j (setsV ((List.range j).map (mayK ⟨k, i, n, ls⟩))) ∧ (∀ g, VA.ownBlock = some g → VC.ownBlock ≠ some g)) (fun _ _ _ t _ => n - (intOf t).toNat)
    case atStart => exact ⟨0, .slice none 0 0, .slice none 0 0, by omega, rfl, Lib.hid (fun q hq => by omega), hB5, ht5, hn5, ha5, hr5, hbs, World.ownsRow_nil _ _ _ _, World.ownsRow_nil _ _ _ _, by simp [Value.ownBlock]⟩
    case round =>
      clear hB5 ht5 hn5 ha5 hr5 hbs hz5 q0 q1 q2 q3
      obtain ⟨j, VA, VC, hj, rfl, hH, hb, ht, hn, ha, hr, hs, hoA, hoC, hsep⟩ := hrel
      obtain ⟨A1, c1, rfl⟩ := own_form hoA
      obtain ⟨A2, c2, rfl⟩ := own_form hoC
      by_cases hlt : j < n
      · obtain ⟨q0, q1, q2, q3, -⟩ := now4 ht rfl
        have HSj := HS j hlt wr hb
        have hsnA : setsV ((List.range (j + 1)).map fun q => ptsM ls i q 1) = setsV ((List.range j).map fun q => ptsM ls i q 1) ++ [wv (wd (ptsM ls i j 1) 0), wv (wd (ptsM ls i j 1) 1), wv (wd (ptsM ls i j 1) 2), wv (wd (ptsM ls i j 1) 3)] := by
          rw [List.range_succ, List.map_append, List.map_singleton, setsV_snoc]
        have hsnC : setsV ((List.range (j + 1)).map (mayK ⟨k, i, n, ls⟩)) = setsV ((List.range j).map (mayK ⟨k, i, n, ls⟩)) ++ [wv (wd (mayK ⟨k, i, n, ls⟩ j) 0), wv (wd (mayK ⟨k, i, n, ls⟩ j) 1), wv (wd (mayK ⟨k, i, n, ls⟩ j) 2), wv (wd (mayK ⟨k, i, n, ls⟩ j) 3)] := by
          rw [List.range_succ, List.map_append, List.map_singleton, setsV_snoc]
        have hbj := Lib.hid (hbK.out j)
        have hmj := Lib.hid (hmK.out j)
        replace hsnA := Lib.hid hsnA
        replace hsnC := Lib.hid hsnC
        have hE4j := Lib.hid (hE4.out j hlt)
        generalize hZd : ptsM ls i j 0 = Z at *
        generalize hOd : ptsM ls i j 1 = O at *
        generalize hFd : ptsM ls i j 2 = F at *
        generalize hXA : setsV ((List.range j).map fun q => ptsM ls i q 1) = XA at *
        generalize hXC : setsV ((List.range j).map (mayK ⟨k, i, n, ls⟩)) = XC at *
        generalize hMd : mayK ⟨k, i, n, ls⟩ j = M at *
        clear hZd hOd hFd hXA hXC hE4 hbK hmK HS
        unfold wv at *
        go_wp2_with fail
        refine HSj.mono ?_
        rintro e w5 ⟨rfl, hb5⟩
        have hB5 := hb.trans (hb5.mono hb.size)
        have ht5 := keep_blk hb5 ht
        have hn5 := keep_blk hb5 hn
        have ha5 := keep_blk hb5 ha
        have hr5 := keep_blk hb5 hr
        have hs5 := keep_blk hb5 hs
        have hoA5 := owns_below hoA hb5
        have hoC5 := owns_below hoC hb5
        clear HSj hb5 ht hn ha hr hs hoA hoC hb q0 q1 q2 q3
        have hp6 := heap_alloc_new w5 (Obj.cells #[.int .u64 (wd Z 0).toNat, .int .u64 (wd Z 1).toNat, .int .u64 (wd Z 2).toNat, .int .u64 (wd Z 3).toNat, .int .u64 (wd O 0).toNat, .int .u64 (wd O 1).toNat, .int .u64 (wd O 2).toNat, .int .u64 (wd O 3).toNat, .int .u64 (wd F 0).toNat, .int .u64 (wd F 1).toNat, .int .u64 (wd F 2).toNat, .int .u64 (wd F 3).toNat] 73 (0, 0))
        have hB6 := hB5.alloc hB5.size (Obj.cells #[.int .u64 (wd Z 0).toNat, .int .u64 (wd Z 1).toNat, .int .u64 (wd Z 2).toNat, .int .u64 (wd Z 3).toNat, .int .u64 (wd O 0).toNat, .int .u64 (wd O 1).toNat, .int .u64 (wd O 2).toNat, .int .u64 (wd O 3).toNat, .int .u64 (wd F 0).toNat, .int .u64 (wd F 1).toNat, .int .u64 (wd F 2).toNat, .int .u64 (wd F 3).toNat] 73 (0, 0))
        have ht6 := keep_alloc (x := Obj.cells #[.int .u64 (wd Z 0).toNat, .int .u64 (wd Z 1).toNat, .int .u64 (wd Z 2).toNat, .int .u64 (wd Z 3).toNat, .int .u64 (wd O 0).toNat, .int .u64 (wd O 1).toNat, .int .u64 (wd O 2).toNat, .int .u64 (wd O 3).toNat, .int .u64 (wd F 0).toNat, .int .u64 (wd F 1).toNat, .int .u64 (wd F 2).toNat, .int .u64 (wd F 3).toNat] 73 (0, 0)) ht5
        have hn6 := keep_alloc (x := Obj.cells #[.int .u64 (wd Z 0).toNat, .int .u64 (wd Z 1).toNat, .int .u64 (wd Z 2).toNat, .int .u64 (wd Z 3).toNat, .int .u64 (wd O 0).toNat, .int .u64 (wd O 1).toNat, .int .u64 (wd O 2).toNat, .int .u64 (wd O 3).toNat, .int .u64 (wd F 0).toNat, .int .u64 (wd F 1).toNat, .int .u64 (wd F 2).toNat, .int .u64 (wd F 3).toNat] 73 (0, 0)) hn5
        have ha6 := keep_alloc (x := Obj.cells #[.int .u64 (wd Z 0).toNat, .int .u64 (wd Z 1).toNat, .int .u64 (wd Z 2).toNat, .int .u64 (wd Z 3).toNat, .int .u64 (wd O 0).toNat, .int .u64 (wd O 1).toNat, .int .u64 (wd O 2).toNat, .int .u64 (wd O 3).toNat, .int .u64 (wd F 0).toNat, .int .u64 (wd F 1).toNat, .int .u64 (wd F 2).toNat, .int .u64 (wd F 3).toNat] 73 (0, 0)) ha5
        have hr6 := keep_alloc (x := Obj.cells #[.int .u64 (wd Z 0).toNat, .int .u64 (wd Z 1).toNat, .int .u64 (wd Z 2).toNat, .int .u64 (wd Z 3).toNat, .int .u64 (wd O 0).toNat, .int .u64 (wd O 1).toNat, .int .u64 (wd O 2).toNat, .int .u64 (wd O 3).toNat, .int .u64 (wd F 0).toNat, .int .u64 (wd F 1).toNat, .int .u64 (wd F 2).toNat, .int .u64 (wd F 3).toNat] 73 (0, 0)) hr5
        have hs6 := keep_alloc (x := Obj.cells #[.int .u64 (wd Z 0).toNat, .int .u64 (wd Z 1).toNat, .int .u64 (wd Z 2).toNat, .int .u64 (wd Z 3).toNat, .int .u64 (wd O 0).toNat, .int .u64 (wd O 1).toNat, .int .u64 (wd O 2).toNat, .int .u64 (wd O 3).toNat, .int .u64 (wd F 0).toNat, .int .u64 (wd F 1).toNat, .int .u64 (wd F 2).toNat, .int .u64 (wd F 3).toNat] 73 (0, 0)) hs5
        have hoA6 := owns_below hoA5 (below_alloc1 w5 (Obj.cells #[.int .u64 (wd Z 0).toNat, .int .u64 (wd Z 1).toNat, .int .u64 (wd Z 2).toNat, .int .u64 (wd Z 3).toNat, .int .u64 (wd O 0).toNat, .int .u64 (wd O 1).toNat, .int .u64 (wd O 2).toNat, .int .u64 (wd O 3).toNat, .int .u64 (wd F 0).toNat, .int .u64 (wd F 1).toNat, .int .u64 (wd F 2).toNat, .int .u64 (wd F 3).toNat] 73 (0, 0)))
        have hoC6 := owns_below hoC5 (below_alloc1 w5 (Obj.cells #[.int .u64 (wd Z 0).toNat, .int .u64 (wd Z 1).toNat, .int .u64 (wd Z 2).toNat, .int .u64 (wd Z 3).toNat, .int .u64 (wd O 0).toNat, .int .u64 (wd O 1).toNat, .int .u64 (wd O 2).toNat, .int .u64 (wd O 3).toNat, .int .u64 (wd F 0).toNat, .int .u64 (wd F 1).toNat, .int .u64 (wd F 2).toNat, .int .u64 (wd F 3).toNat] 73 (0, 0)))
        have hsz6 : w5.heap.size < (w5.alloc (Obj.cells #[.int .u64 (wd Z 0).toNat, .int .u64 (wd Z 1).toNat, .int .u64 (wd Z 2).toNat, .int .u64 (wd Z 3).toNat, .int .u64 (wd O 0).toNat, .int .u64 (wd O 1).toNat, .int .u64 (wd O 2).toNat, .int .u64 (wd O 3).toNat, .int .u64 (wd F 0).toNat, .int .u64 (wd F 1).toNat, .int .u64 (wd F 2).toNat, .int .u64 (wd F 3).toNat] 73 (0, 0))).heap.size := by simp
        have hps : bs < w5.heap.size := size_of_block hs5
        clear ht5 hn5 ha5 hr5 hs5 hoA5 hoC5 hB5
        go_upto_region 12 with (fail)
        generalize hbp : w5.heap.size = bp at *
        generalize w5.alloc (Obj.cells #[.int .u64 (wd Z 0).toNat, .int .u64 (wd Z 1).toNat, .int .u64 (wd Z 2).toNat, .int .u64 (wd Z 3).toNat, .int .u64 (wd O 0).toNat, .int .u64 (wd O 1).toNat, .int .u64 (wd O 2).toNat, .int .u64 (wd O 3).toNat, .int .u64 (wd F 0).toNat, .int .u64 (wd F 1).toNat, .int .u64 (wd F 2).toNat, .int .u64 (wd F 3).toNat] 73 (0, 0)) = w6 at *
        clear hbp
        obtain ⟨r0, r1, -⟩ := now2 hr6 rfl
        obtain ⟨⟨Z0, Z1, Z2, Z3⟩, ⟨O0, O1, O2, O3⟩, ⟨F0, F1, F2, F3⟩, -⟩ := now12 hp6
        have HBj := HB Z O F w6
        have hcl : Hid (bothK ⟨k, i, n, ls⟩ j = (decide (2 ≤ k) && decide (O &&& Z ≠ 0))) := hbj
        generalize (decide (2 ≤ k) && decide (O &&& Z ≠ 0)) = bb at *
        cases bb
        · have HMj := fun W => HM Z O F all W
          rw [← hmj.out] at HMj
          go_wp2_with fail
          refine HBj.mono ?_
          rintro e w7 ⟨rfl, hb7⟩
          have hB7 := hB6.trans (hb7.mono hB6.size)
          have ht7 := keep_blk hb7 ht6
          have hn7 := keep_blk hb7 hn6
          have ha7 := keep_blk hb7 ha6
          have hr7 := keep_blk hb7 hr6
          have hs7 := keep_blk hb7 hs6
          have hp7 := keep_blk hb7 hp6
          have hoA7 := owns_below hoA6 hb7
          have hoC7 := owns_below hoC6 hb7
          have hzs7 := size_of_block hs7
          have hzp7 := size_of_block hp7
          clear HBj hb7 ht6 hn6 ha6 hr6 hs6 hp6 hoA6 hoC6 hB6 r0 r1 Z0 Z1 Z2 Z3 O0 O1 O2 O3 F0 F1 F2 F3
          obtain ⟨s0, s1, s2, sf⟩ := now3 hs7 rfl
          obtain ⟨⟨Z0, Z1, Z2, Z3⟩, ⟨O0, O1, O2, O3⟩, ⟨F0, F1, F2, F3⟩, -⟩ := now12 hp7
          go_wp2_with (at_builtin; go_loud (refine wpList_append_own_at _ rfl _ _ 22 rfl (bs + 1) 45 i0 (.agg #[.int .u64 0, .int .u64 0, .int .u64 0, .int .u64 0]) 4 32 Tryz.underlying22 hi0' hz0 hz1' hz2' rfl (by decide) _ _ _ rfl (hoA7.alloc _) ⟨w7.heap.size, 0, none⟩ 1 1 [.int .u64 (wd O 0).toNat, .int .u64 (wd O 1).toNat, .int .u64 (wd O 2).toNat, .int .u64 (wd O 3).toNat] rfl rfl ?c1 ?c2 ?c3 ?c4 ?c5 ?_))
          case c1 => exact World.news_of_block (cs := #[.int .u64 (wd O 0).toNat, .int .u64 (wd O 1).toNat, .int .u64 (wd O 2).toNat, .int .u64 (wd O 3).toNat]) (t := 45) (fr := (0, 0)) (heap_alloc_new w7 _)
          case c2 => intro u hu; simp at hu; rcases hu with rfl | rfl | rfl | rfl <;> rfl
          case c3 => unfold maxLen; omega
          case c4 => omega
          case c5 => simp; omega
          intro v8 w8 hoA8 hg8 _ hsp8
          obtain ⟨A3, c3, rfl⟩ := own_form hoA8
          have hlo : ∀ b : Nat, b < bs + 1 → ∀ o, w7.heap[b]? = some o → w8.heap[b]? = some o := fun b hb o h => (grown_low (hoA7.alloc (.cells #[.int .u64 (wd O 0).toNat, .int .u64 (wd O 1).toNat, .int .u64 (wd O 2).toNat, .int .u64 (wd O 3).toNat] 45)) hg8 b hb (by simp; omega)).trans (keep_alloc h)
          have hs8 := hlo bs (by omega) _ hs7
          have ht8 := hlo _ (by omega) _ ht7
          have hn8 := hlo _ (by omega) _ hn7
          have ha8 := hlo _ (by omega) _ ha7
          have hr8 := hlo _ (by omega) _ hr7
          have hp8 : w8.heap[bp]? = some (Obj.cells #[.int .u64 (wd Z 0).toNat, .int .u64 (wd Z 1).toNat, .int .u64 (wd Z 2).toNat, .int .u64 (wd Z 3).toNat, .int .u64 (wd O 0).toNat, .int .u64 (wd O 1).toNat, .int .u64 (wd O 2).toNat, .int .u64 (wd O 3).toNat, .int .u64 (wd F 0).toNat, .int .u64 (wd F 1).toNat, .int .u64 (wd F 2).toNat, .int .u64 (wd F 3).toNat] 73 (0, 0)) := (hg8.block bp (by simp; omega) (fun e => own_ne hoA7 hp7 Tryz.neSS e.symm)).trans (keep_alloc hp7)
          have hoC8 := own_grown (hoC7.alloc (.cells #[.int .u64 (wd O 0).toNat, .int .u64 (wd O 1).toNat, .int .u64 (wd O 2).toNat, .int .u64 (wd O 3).toNat] 45)) hg8 (fun g hc ha => hsep g ha hc)
          have hsep8 : ∀ g, (Value.slice A3 (j + 1) c3).ownBlock = some g → (Value.slice A2 j c2).ownBlock ≠ some g := fun g h1 h2 => by
            rcases hsp8 with e | e
            · exact hsep g (e.symm.trans h1) h2
            · have hx := (hoC7.lt g h2).2
              rw [e] at h1
              simp at h1
              omega
          have hB8 : Below w.heap.size w w8 := grown_below (hoA7.alloc (.cells #[.int .u64 (wd O 0).toNat, .int .u64 (wd O 1).toNat, .int .u64 (wd O 2).toNat, .int .u64 (wd O 3).toNat] 45)) hg8 (hB7.alloc hB7.size _) (by omega) (by simp; have := hB7.size; omega)
          have hs9 := block_setCell (i := 1) hs8 (.slice A3 (j + 1) c3)
          have ht9 := keep_set (a := ⟨bs, 1, none⟩) (u := .slice A3 (j + 1) c3) (by show w.heap.size ≠ bs; omega) ht8
          have hn9 := keep_set (a := ⟨bs, 1, none⟩) (u := .slice A3 (j + 1) c3) (by show w.heap.size + 1 ≠ bs; omega) hn8
          have ha9 := keep_set (a := ⟨bs, 1, none⟩) (u := .slice A3 (j + 1) c3) (by show ba ≠ bs; omega) ha8
          have hr9 := keep_set (a := ⟨bs, 1, none⟩) (u := .slice A3 (j + 1) c3) (by show br ≠ bs; omega) hr8
          have hp9 := keep_set (a := ⟨bs, 1, none⟩) (u := .slice A3 (j + 1) c3) (by show bp ≠ bs; omega) hp8
          have hoA9 := own_set hoA8 (fun e => by have := (hoA8.lt bs e).1; omega) 1 (.slice A3 (j + 1) c3)
          have hoC9 := own_set hoC8 (fun e => by have := (hoC8.lt bs e).1; omega) 1 (.slice A3 (j + 1) c3)
          have hB9 := hB8.setCell (p := ⟨bs, 1, none⟩) (by show w.heap.size ≤ bs; omega) (.slice A3 (j + 1) c3)
          obtain ⟨s0, s1, s2, sf⟩ := now3 hs8 rfl
          clear hlo ht8 hn8 ha8 hr8 hp8 hoC8 hoA8 hB8 hg8 hsp8 hoA7 hoC7 hs7 ht7 hn7 ha7 hr7 hp7 Z0 Z1 Z2 Z3 O0 O1 O2 O3 F0 F1 F2 F3
          go_upto_region 17 with (fail)
          generalize w8.setCell ⟨bs, 1, none⟩ (.slice A3 (j + 1) c3) = w9 at *
          clear s0 s1 s2 sf hs8
          have hs9' : w9.heap[bs]? = some (.cells #[Value.int .i64 i, .slice A3 (j + 1) c3, .slice A2 j c2] 24 (0, 0)) := hs9
          refine wp_region_held_tail 9 (fun w' => w'.heap[bs]? = some (.cells #[Value.int .i64 i, .slice A3 (j + 1) c3, .slice A2 j c2] 24 (0, 0)) ∧ w'.heap[br]? = some (.cells #[Value.func (.func KB) #[] #[], .func (.func KM) #[] #[]] 69 (0, 0)) ∧ w'.heap[bp]? = some (Obj.cells #[.int .u64 (wd Z 0).toNat, .int .u64 (wd Z 1).toNat, .int .u64 (wd Z 2).toNat, .int .u64 (wd Z 3).toNat, .int .u64 (wd O 0).toNat, .int .u64 (wd O 1).toNat, .int .u64 (wd O 2).toNat, .int .u64 (wd O 3).toNat, .int .u64 (wd F 0).toNat, .int .u64 (wd F 1).toNat, .int .u64 (wd F 2).toNat, .int .u64 (wd F 3).toNat] 73 (0, 0)) ∧ w'.heap[ba]? = some (.cells #[.int .u64 (wd all 0).toNat, .int .u64 (wd all 1).toNat, .int .u64 (wd all 2).toNat, .int .u64 (wd all 3).toNat] 45 (0, 0))) (by kernel_rfl) (by kernel_rfl) ⟨hs9', hr9, hp9, ha9⟩ (fun hF hHeld => ?_)
          refine HeadH.take (i := 0) (v := ?_) hF rfl (by kernel_rfl) (by kernel_rfl) (by kernel_rfl) (fun _ _ _ h => h) (Or.inl ⟨by rfl, ?_⟩) (by assumption) ?_
          rotate_left 1
          · intro w_ hSw
            obtain ⟨k1, k2, k3, k4⟩ := hSw
            obtain ⟨_, _, _, -⟩ := now3 k1 rfl
            obtain ⟨_, _, -⟩ := now2 k2 rfl
            obtain ⟨⟨_, _, _, _⟩, ⟨_, _, _, _⟩, ⟨_, _, _, _⟩, -⟩ := now12 k3
            obtain ⟨_, _, _, _, -⟩ := now4 k4 rfl
            go_simp
            try with_reducible rfl
          try simp only [Act.put, List.setIfInBounds_toArray]
          refine HeadH.take (i := 1) (v := ?_) hF rfl (by kernel_rfl) (by kernel_rfl) (by kernel_rfl) (fun _ _ _ h => h) (Or.inl ⟨by rfl, ?_⟩) (by assumption) ?_
          rotate_left 1
          · intro w_ hSw
            obtain ⟨k1, k2, k3, k4⟩ := hSw
            obtain ⟨_, _, _, -⟩ := now3 k1 rfl
            obtain ⟨_, _, -⟩ := now2 k2 rfl
            obtain ⟨⟨_, _, _, _⟩, ⟨_, _, _, _⟩, ⟨_, _, _, _⟩, -⟩ := now12 k3
            obtain ⟨_, _, _, _, -⟩ := now4 k4 rfl
            go_simp
            try with_reducible rfl
          try simp only [Act.put]
          refine HeadH.take (i := 2) (v := ?_) hF rfl (by kernel_rfl) (by kernel_rfl) (by kernel_rfl) (fun _ _ _ h => h) (Or.inl ⟨by rfl, ?_⟩) (by assumption) ?_
          rotate_left 1
          · intro w_ hSw
            obtain ⟨k1, k2, k3, k4⟩ := hSw
            obtain ⟨_, _, _, -⟩ := now3 k1 rfl
            obtain ⟨_, _, -⟩ := now2 k2 rfl
            obtain ⟨⟨_, _, _, _⟩, ⟨_, _, _, _⟩, ⟨_, _, _, _⟩, -⟩ := now12 k3
            obtain ⟨_, _, _, _, -⟩ := now4 k4 rfl
            go_simp
            try with_reducible rfl
          try simp only [Act.put]
          refine HeadH.take (i := 3) (v := ?_) hF rfl (by kernel_rfl) (by kernel_rfl) (by kernel_rfl) (fun _ _ _ h => h) (Or.inl ⟨by rfl, ?_⟩) (by assumption) ?_
          rotate_left 1
          · intro w_ hSw
            obtain ⟨k1, k2, k3, k4⟩ := hSw
            obtain ⟨_, _, _, -⟩ := now3 k1 rfl
            obtain ⟨_, _, -⟩ := now2 k2 rfl
            obtain ⟨⟨_, _, _, _⟩, ⟨_, _, _, _⟩, ⟨_, _, _, _⟩, -⟩ := now12 k3
            obtain ⟨_, _, _, _, -⟩ := now4 k4 rfl
            go_simp
            try with_reducible rfl
          try simp only [Act.put]
          refine HeadH.take (i := 4) (v := ?_) hF rfl (by kernel_rfl) (by kernel_rfl) (by kernel_rfl) (fun _ _ _ h => h) (Or.inl ⟨by rfl, ?_⟩) (by assumption) ?_
          rotate_left 1
          · intro w_ hSw
            obtain ⟨k1, k2, k3, k4⟩ := hSw
            obtain ⟨_, _, _, -⟩ := now3 k1 rfl
            obtain ⟨_, _, -⟩ := now2 k2 rfl
            obtain ⟨⟨_, _, _, _⟩, ⟨_, _, _, _⟩, ⟨_, _, _, _⟩, -⟩ := now12 k3
            obtain ⟨_, _, _, _, -⟩ := now4 k4 rfl
            go_simp
            try with_reducible rfl
          try simp only [Act.put]
          refine HeadH.take (i := 5) (v := ?_) hF rfl (by kernel_rfl) (by kernel_rfl) (by kernel_rfl) (fun _ _ _ h => h) (Or.inl ⟨by rfl, ?_⟩) (by assumption) ?_
          rotate_left 1
          · intro w_ hSw
            obtain ⟨k1, k2, k3, k4⟩ := hSw
            obtain ⟨_, _, _, -⟩ := now3 k1 rfl
            obtain ⟨_, _, -⟩ := now2 k2 rfl
            obtain ⟨⟨_, _, _, _⟩, ⟨_, _, _, _⟩, ⟨_, _, _, _⟩, -⟩ := now12 k3
            obtain ⟨_, _, _, _, -⟩ := now4 k4 rfl
            go_simp
            try with_reducible rfl
          try simp only [Act.put]
          refine HeadH.one (i := 6) (by kernel_rfl) (by kernel_rfl) rfl (fun _ hK => ?_)
          go_simp
          refine (HMj _).mono ?_
          rintro e wm ⟨rfl, hbm⟩
          have hsm := keep_blk hbm (blkDrew4 hs9')
          have hrm := keep_blk hbm (blkDrew4 hr9)
          have hpm := keep_blk hbm (blkDrew4 hp9)
          have ham := keep_blk hbm (blkDrew4 ha9)
          have htm := keep_blk hbm (blkDrew4 ht9)
          have hnm := keep_blk hbm (blkDrew4 hn9)
          have hoAm := owns_below hoA9 (show Below w9.heap.size w9 wm from (Below.refl _ _).drew.trans hbm)
          have hoCm := owns_below hoC9 (show Below w9.heap.size w9 wm from (Below.refl _ _).drew.trans hbm)
          have hBm := hB9.trans ((show Below w9.heap.size w9 wm from (Below.refl _ _).drew.trans hbm).mono hB9.size)
          refine hK.out _ _ ⟨hsm, hrm, hpm, ham⟩ (fun hHeld => ?_)
          clear HMj hbm hs9 hs9' hr9 hp9 ha9 ht9 hn9 hoA9 hoC9 hB9
          clear hK
          try simp only [Act.put, List.setIfInBounds_toArray, List.set_cons_zero, List.set_cons_succ]
          refine HeadH.one (i := 7) (by kernel_rfl) (by kernel_rfl) rfl (fun _ hK => ?_)
          go_simp
          have hzsm := size_of_block hsm
          have hzpm := size_of_block hpm
          refine hK.out _ _ ⟨keep_alloc hsm, keep_alloc hrm, keep_alloc hpm, keep_alloc ham⟩ (fun hHeld => ?_)
          clear hK
          try simp only [Act.put, List.setIfInBounds_toArray, List.set_cons_zero, List.set_cons_succ]
          refine HeadH.one (i := 8) (by kernel_rfl) (by kernel_rfl) rfl (fun _ hK => ?_)
          refine step_append_lies _ (by rfl) _ _ _ (by rfl) (bs + 1) 45 i0 _ 4 32 Tryz.underlying22 hi0' hz0 hz1' hz2' rfl (by omega) (.slice A2 j c2) j XC (by rfl) (owns_below hoCm (below_alloc1 _ _)) ⟨wm.heap.size, 0, none⟩ 1 1 [.int .u64 (wd M 0).toNat, .int .u64 (wd M 1).toNat, .int .u64 (wd M 2).toNat, .int .u64 (wd M 3).toNat] (by rfl) (by rfl) (World.news_of_block (cs := #[.int .u64 (wd M 0).toNat, .int .u64 (wd M 1).toNat, .int .u64 (wd M 2).toNat, .int .u64 (wd M 3).toNat]) (t := 45) (fr := (0, 0)) (heap_alloc_new wm _)) (by simp [Value.oneCell']) (by omega) (by unfold maxLen; omega) (by omega) (by simp; omega) (wm.heap.size + 1) (by simp) ?_
          intro gg cap wa hoCa hga hat hlt2
          have hlo : ∀ b : Nat, b < bs + 1 → ∀ o, wm.heap[b]? = some o → wa.heap[b]? = some o := fun b hb o h => (grown_low (owns_below hoCm (below_alloc1 wm (.cells #[.int .u64 (wd M 0).toNat, .int .u64 (wd M 1).toNat, .int .u64 (wd M 2).toNat, .int .u64 (wd M 3).toNat] 45))) hga b hb (by simp; omega)).trans (keep_alloc h)
          have hsa := hlo bs (by omega) _ hsm
          have hta := hlo _ (by omega) _ htm
          have hna := hlo _ (by omega) _ hnm
          have haa := hlo _ (by omega) _ ham
          have hra := hlo _ (by omega) _ hrm
          have hpa : wa.heap[bp]? = some (Obj.cells #[.int .u64 (wd Z 0).toNat, .int .u64 (wd Z 1).toNat, .int .u64 (wd Z 2).toNat, .int .u64 (wd Z 3).toNat, .int .u64 (wd O 0).toNat, .int .u64 (wd O 1).toNat, .int .u64 (wd O 2).toNat, .int .u64 (wd O 3).toNat, .int .u64 (wd F 0).toNat, .int .u64 (wd F 1).toNat, .int .u64 (wd F 2).toNat, .int .u64 (wd F 3).toNat] 73 (0, 0)) := (hga.block bp (by simp; omega) (fun e => own_ne hoCm hpm Tryz.neSS e.symm)).trans (keep_alloc hpm)
          have hoAa := own_grown (owns_below hoAm (below_alloc1 wm (.cells #[.int .u64 (wd M 0).toNat, .int .u64 (wd M 1).toNat, .int .u64 (wd M 2).toNat, .int .u64 (wd M 3).toNat] 45))) hga (fun g ha hc => hsep8 g ha hc)
          have hsepa : ∀ g, (Value.slice A3 (j + 1) c3).ownBlock = some g → (Value.slice (some ⟨gg, 0, none⟩) (j + 1) cap).ownBlock ≠ some g := fun g h1 h2 => by
            have hg2 : gg = g := by simpa [Value.ownBlock] using h2
            subst hg2
            rcases hat with e | e
            · exact hsep8 gg h1 e
            · have := (hoAm.lt gg h1).2
              omega
          have hBa : Below w.heap.size w wa := grown_below (owns_below hoCm (below_alloc1 wm (.cells #[.int .u64 (wd M 0).toNat, .int .u64 (wd M 1).toNat, .int .u64 (wd M 2).toNat, .int .u64 (wd M 3).toNat] 45))) hga (hBm.alloc hBm.size _) (by omega) (by simp; have := hBm.size; omega)
          refine hK.out _ _ ⟨hsa, hra, hpa, haa⟩ (fun hHeld => ?_)
          clear hK
          try simp only [Act.put, List.setIfInBounds_toArray]
          refine ⟨by kernel_rfl, ?_⟩
          simp only [List.drop_succ_cons, List.drop_zero]
          obtain ⟨s0, s1, s2, sf⟩ := now3 hsa rfl
          clear hHeld hsm hrm hpm ham htm hnm hoAm hoCm hBm hga hlo
          go_wp2
          go_roundw
          case rel => exact ⟨j + 1, _, _, by omega, by go_num, Lib.hid (fun q hq => by
            by_cases e : q = j
            · subst e; exact hcl.out
            · exact hH.out q (by omega)), hBa.setCell (p := ⟨bs, 2, none⟩) (by show w.heap.size ≤ bs; omega) _, keep_set (by show w.heap.size ≠ bs; omega) hta, keep_set (by show w.heap.size + 1 ≠ bs; omega) hna, keep_set (by show ba ≠ bs; omega) haa, keep_set (by show br ≠ bs; omega) hra, block_setCell hsa _,
            by rw [hsnA.out]; exact own_set hoAa (fun e => by have := (hoAa.lt bs e).1; omega) 2 _, by rw [hsnC.out]; exact own_set hoCa (fun e => by have := (hoCa.lt bs e).1; omega) 2 _, hsepa⟩
          case measure => simp [intOf]; omega
        · have hb4 := Lib.hid (hE4j.out hcl.out)
          go_wp2_with fail
          refine HBj.mono ?_
          rintro e w7 ⟨rfl, hb7⟩
          have hB7 := hB6.trans (hb7.mono hB6.size)
          have hn7 := keep_blk hb7 hn6
          obtain ⟨d0, d1, d2, df⟩ := now3 hn7 rfl
          clear HBj hb7 ht6 hn6 ha6 hr6 hs6 hp6 hoA6 hoC6 hB6 r0 r1 Z0 Z1 Z2 Z3 O0 O1 O2 O3 F0 F1 F2 F3
          go_wp2
          exact bodyPost_ret (v := .tuple #[.agg #[.int .i64 0, .slice none 0 0, .slice none 0 0], .int .i64 4]) (by simp [results, Tryz.results13, go_sem, d0, d1, d2]) rfl
            ⟨by repeat (first | (with_reducible exact hB7) | (with_reducible refine Below.setCell ?_ (by show w.heap.size ≤ w.heap.size + 1; omega) _)), Or.inl ⟨by rw [hb4.out]; decide, by rw [hb4.out]; rfl⟩⟩
      · have e : j = n := by omega
        subst e
        have hE := Lib.hid (hE0.out hH.out)
        obtain ⟨s0, s1, s2, sf⟩ := now3 hs rfl
        obtain ⟨d0, d1, d2, df⟩ := now3 hn rfl
        have hlA : ((List.range j).map fun q => ptsM ls i q 1).length = j := by simp
        have hlC : ((List.range j).map (mayK ⟨k, i, j, ls⟩)).length = j := by simp
        have hown : ∀ (W : World) (V : Value) (Ss : List (BitVec 256)), Ss.length = j → W.heap[w.heap.size + 1]? = some (.cells #[Value.int .i64 0, .slice none 0 0, .slice none 0 0] 24 (0, 0)) → W.ownsRow (bs + 1) 45 4 V j (setsV Ss) → ∀ x0 x1 x2, SetsAt (((W.setCell ⟨w.heap.size + 1, 0, none⟩ x0).setCell ⟨w.heap.size + 1, 1, none⟩ x1).setCell ⟨w.heap.size + 1, 2, none⟩ x2) (((W.setCell ⟨w.heap.size + 1, 0, none⟩ x0).setCell ⟨w.heap.size + 1, 1, none⟩ x1).setCell ⟨w.heap.size + 1, 2, none⟩ x2).heap.size V Ss := by
          intro W V Ss hl hW ho x0 x1 x2
          refine own_sets (bd := bs + 1) ?_
          rw [hl]
          have hne : V.ownBlock ≠ some (w.heap.size + 1) := fun e => by have := (ho.lt _ e).1; omega
          exact own_set (own_set (own_set ho hne _ _) hne _ _) hne _ _
        have rA := Lib.hid (hown wr _ _ hlA hn hoA (.int .i64 i) (.slice A1 j c1) (.slice A2 j c2))
        have rC := Lib.hid (hown wr _ _ hlC hn hoC (.int .i64 i) (.slice A1 j c1) (.slice A2 j c2))
        clear hown hlA hlC hoA hoC ht ha hr hs hE0 hE4 hbK hmK HS HB HM
        go_wp2
        exact bodyPost_ret (v := .tuple #[.agg #[.int .i64 i, .slice A1 j c1, .slice A2 j c2], .int .i64 0]) (by simp [results, Tryz.results13, go_sem, d0, d1, d2]) rfl
          ⟨by repeat (first | (with_reducible exact hb) | (with_reducible refine Below.setCell ?_ (by show w.heap.size ≤ w.heap.size + 1; omega) _)), Or.inr ⟨hE.out, _, _, rfl, rA.out, rC.out⟩⟩
theorem of_any (t : Tb) (L : Value) (w : World) (hL : LinesAt w w.heap.size L t.ls) : Calls Tryz.prog 13 #[tv t.k t.i t.n L] w (OfLeaves w t) := by
  cases hr : rightT t
  · exact of_wrong t L w hL hr
  · obtain ⟨⟨-, ⟨hi0, -⟩, hn1, -⟩, -⟩ := (rightT_iff t).1 hr
    obtain ⟨k, i, n, ls⟩ := t
    dsimp only at hi0 hn1 hL
    obtain ⟨I, rfl⟩ := Int.eq_ofNat_of_zero_le hi0
    obtain ⟨N, rfl⟩ := Int.eq_ofNat_of_zero_le (show 0 ≤ n by omega)
    exact of_right k I N ls L w hL hr
end Go.Proofs.YtckmjampgeojbaaGreatDoor
namespace Go.Proofs.YtckmjampgeojbaaGreatDoor
open Go.RowKit Go.Joins

def kT4 : Tb := ⟨1, 2, 1, [⟨1, 1, [1]⟩, ⟨1, 0, [2]⟩]⟩
def kS4 : List UInt8 := [46, 105, 32, 50, 10, 46, 111, 32, 49, 10, 49, 45, 32, 49, 10, 48, 45, 32, 45, 10, 46, 101, 10]
theorem kS4_parse : parseT kS4 = some kT4 := by kernel_rfl
theorem kT4_e : ofE kT4 = 0 := by decide +kernel
theorem kT4_on : (ofS kT4).on = [10#256] := by decide +kernel
theorem kT4_may : (ofS kT4).may = [15#256] := by decide +kernel
theorem k4_right : spB ⟨2, [10#256], [15#256]⟩ = true := by decide +kernel
theorem k4_yes : (spB ⟨2, [10#256], [15#256]⟩ && coversB ⟨2, [10#256], [15#256]⟩ [⟨1, 1, 1⟩]) = true := by decide +kernel
theorem k4_no : (spB ⟨2, [10#256], [15#256]⟩ && coversB ⟨2, [10#256], [15#256]⟩ []) = false := by decide +kernel
theorem w4x0 : wv (wd (10#256) 0) = .int .u64 10 := by kernel_rfl
theorem w4x1 : wv (wd (10#256) 1) = .int .u64 0 := by kernel_rfl
theorem w4x2 : wv (wd (10#256) 2) = .int .u64 0 := by kernel_rfl
theorem w4x3 : wv (wd (10#256) 3) = .int .u64 0 := by kernel_rfl
theorem w4y0 : wv (wd (15#256) 0) = .int .u64 15 := by kernel_rfl
theorem w4y1 : wv (wd (15#256) 1) = .int .u64 0 := by kernel_rfl
theorem w4y2 : wv (wd (15#256) 2) = .int .u64 0 := by kernel_rfl
theorem w4y3 : wv (wd (15#256) 3) = .int .u64 0 := by kernel_rfl
theorem rws_nil (w : World) (B : Nat) : RwsAt w B (.slice none 0 0) [] := ⟨none, 0, rfl, by decide, fun h => absurd h (by simp)⟩
set_option maxHeartbeats 4000000 in
set_option maxRecDepth 100000 in
theorem knows4_any (w : World) (hkw : KW w) : Calls Tryz.prog 5 #[] w fun e w' => e = .returned (.bool true) ∧ Below w.heap.size w w' := by
  have HP : Calls Tryz.prog 12 #[.string { data := #[46, 105, 32, 50, 10, 46, 111, 32, 49, 10, 49, 45, 32, 49, 10, 48, 45, 32, 45, 10, 46, 101, 10] }] w fun e w' => Below w.heap.size w w' ∧ ∃ A c, e = .returned (.tuple #[tv 1 2 1 (.slice A 2 c), .int .i64 0, .int .i64 0]) ∧ LinesAt w' w'.heap.size (.slice A 2 c) kT4.ls := by
    refine (parse_any kS4 (by decide) w hkw).mono ?_
    rintro e w' ⟨hB, ⟨t, L, ht, rfl, hL⟩ | ⟨ht, _⟩⟩
    · rw [kS4_parse] at ht
      cases ht
      have hL' := hL
      obtain ⟨A, c, rfl, -, -⟩ := hL
      exact ⟨hB, A, c, rfl, hL'⟩
    · rw [kS4_parse] at ht; cases ht
  go_enter Tryz.func5, Tryz.ntmps5
  go_wp2_with fail
  refine HP.mono ?_
  rintro e w1 ⟨hB1, A, c, rfl, hL1⟩
  clear HP hkw
  have hw2 := below_alloc1 w1 (tb 1 2 1 (.slice A 2 c))
  have HO := of_any kT4 (.slice A 2 c) _ ((hL1.below hw2).more hw2.size)
  have hB2 := hB1.trans (hw2.mono hB1.size)
  have HO2 : Calls Tryz.prog 13 #[tv 1 2 1 (.slice A 2 c)] (w1.alloc (tb 1 2 1 (.slice A 2 c))) fun e w' => Below (w1.alloc (tb 1 2 1 (.slice A 2 c))).heap.size (w1.alloc (tb 1 2 1 (.slice A 2 c))) w' ∧ ∃ X x Y y, e = .returned (.tuple #[spv 2 (.slice X 1 x) (.slice Y 1 y), .int .i64 0]) ∧ SetsAt w' w'.heap.size (.slice X 1 x) [10#256] ∧ SetsAt w' w'.heap.size (.slice Y 1 y) [15#256] := by
    refine HO.mono ?_
    rintro e w' ⟨hB, ⟨h, -⟩ | ⟨-, X, Y, rfl, hX, hY⟩⟩
    · exact absurd kT4_e h
    · rw [kT4_on] at hX
      rw [kT4_may] at hY
      have hX' := hX
      have hY' := hY
      obtain ⟨X, x, rfl, -, -⟩ := hX
      obtain ⟨Y, y, rfl, -, -⟩ := hY
      exact ⟨hB, X, x, Y, y, rfl, hX', hY'⟩
  clear HO
  unfold tv at HO2 ⊢
  unfold tb at HO2 hB2
  go_wp2_with fail
  refine HO2.mono ?_
  rintro e w3 ⟨hB3, X, x, Y, y, rfl, hX, hY⟩
  have hB3' := hB2.trans (hB3.mono hB2.size)
  clear HO2 hB3 hB2 hw2 hL1 hB1
  have hBa := below_alloc1 w3 (spb 2 (.slice X 1 x) (.slice Y 1 y))
  have hs4 := heap_alloc_new w3 (spb 2 (.slice X 1 x) (.slice Y 1 y))
  have hs5 := keep_alloc (x := .cells #[.int .u8 1, .int .u8 1, .int .u8 1] 42 (0, 0)) hs4
  have hr5 := heap_alloc_new (w3.alloc (spb 2 (.slice X 1 x) (.slice Y 1 y))) (.cells #[.int .u8 1, .int .u8 1, .int .u8 1] 42 (0, 0))
  have hBb := hBa.alloc hBa.size (.cells #[.int .u8 1, .int .u8 1, .int .u8 1] 42 (0, 0))
  have hX5 := (hX.below hBb).more hBb.size
  have hY5 := (hY.below hBb).more hBb.size
  have hB5 := hB3'.trans (hBb.mono hB3'.size)
  have hz5 : ((w3.alloc (spb 2 (.slice X 1 x) (.slice Y 1 y))).alloc (.cells #[.int .u8 1, .int .u8 1, .int .u8 1] 42 (0, 0))).heap.size = w3.heap.size + 2 := by simp
  have hsz4 : (w3.alloc (spb 2 (.slice X 1 x) (.slice Y 1 y))).heap.size = w3.heap.size + 1 := by simp
  rw [hsz4] at hr5
  have hR5 : RwsAt ((w3.alloc (spb 2 (.slice X 1 x) (.slice Y 1 y))).alloc (.cells #[.int .u8 1, .int .u8 1, .int .u8 1] 42 (0, 0))) ((w3.alloc (spb 2 (.slice X 1 x) (.slice Y 1 y))).alloc (.cells #[.int .u8 1, .int .u8 1, .int .u8 1] 42 (0, 0))).heap.size (.slice (some ⟨w3.heap.size + 1, 0, none⟩) 1 1) [⟨1, 1, 1⟩] := by
    refine ⟨_, 1, rfl, by decide, fun _ => ⟨_, 0, rfl, by omega, fun j r hj => ?_⟩⟩
    match j with
    | 0 =>
      simp at hj
      subst hj
      exact ⟨by rw [cell_of_block hr5]; rfl, by rw [cell_of_block hr5]; rfl, by rw [cell_of_block hr5]; rfl⟩
    | j + 1 => simp at hj
  clear hs4 hBa hBb hX hY hr5 hB3'
  unfold spv spb at *
  go_upto_region 4 with (fail)
  generalize hbs : w3.heap.size = bs at *
  generalize (w3.alloc (.cells #[.int .i64 2, .slice X 1 x, .slice Y 1 y] 24 (0, 0))).alloc (.cells #[.int .u8 1, .int .u8 1, .int .u8 1] 42 (0, 0)) = w5 at *
  obtain ⟨s0, s1, s2, -⟩ := now3 hs5 rfl
  obtain ⟨_, _, eX, -, hcX⟩ := id hX5
  obtain ⟨bX, oX, eX2, hbX, hcX⟩ := hcX (by decide)
  obtain ⟨x0, x1, x2, x3⟩ := hcX 0 _ rfl
  obtain ⟨_, _, eY, -, hcY⟩ := id hY5
  obtain ⟨bY, oY, eY2, hbY, hcY⟩ := hcY (by decide)
  obtain ⟨y0, y1, y2, y3⟩ := hcY 0 _ rfl
  cases eX; subst eX2
  cases eY; subst eY2
  replace x0 : w5.cell? ⟨bX, oX, none⟩ = some (.int .u64 10) := by simpa [w4x0] using x0
  replace x1 : w5.cell? ⟨bX, oX + 1, none⟩ = some (.int .u64 0) := by simpa [w4x1] using x1
  replace x2 : w5.cell? ⟨bX, oX + 2, none⟩ = some (.int .u64 0) := by simpa [w4x2] using x2
  replace x3 : w5.cell? ⟨bX, oX + 3, none⟩ = some (.int .u64 0) := by simpa [w4x3] using x3
  replace y0 : w5.cell? ⟨bY, oY, none⟩ = some (.int .u64 15) := by simpa [w4y0] using y0
  replace y1 : w5.cell? ⟨bY, oY + 1, none⟩ = some (.int .u64 0) := by simpa [w4y1] using y1
  replace y2 : w5.cell? ⟨bY, oY + 2, none⟩ = some (.int .u64 0) := by simpa [w4y2] using y2
  replace y3 : w5.cell? ⟨bY, oY + 3, none⟩ = some (.int .u64 0) := by simpa [w4y3] using y3
  have E1 := eq4_refl 10 0 0 0
  have E2 := eq4_refl 15 0 0 0
  have HRt := sright_any 2 _ _ _ _ w5 hX5 hY5
  rw [k4_right] at HRt
  have HC1 := fun W (hW : Below w5.heap.size w5 W) => scovers_any 2 _ _ _ _ _ _ W ((hX5.below hW).more hW.size) ((hY5.below hW).more hW.size) ((hR5.below hW).more hW.size)
  rw [k4_yes] at HC1
  have HC2 := fun W (hW : Below w5.heap.size w5 W) => scovers_any 2 _ _ (.slice none 0 0) _ _ [] W ((hX5.below hW).more hW.size) ((hY5.below hW).more hW.size) (rws_nil _ _)
  rw [k4_no] at HC2
  unfold spv at HRt HC1 HC2
  clear hcX hcY hX5 hY5 hR5
  go_wp2_with fail
  refine HRt.mono ?_
  rintro e w6 ⟨rfl, hb6⟩
  have hs6 := keep_blk hb6 hs5
  have hB6 := hB5.trans (hb6.mono hB5.size)
  obtain ⟨s0, s1, s2, -⟩ := now3 hs6 rfl
  have HC1' := HC1 w6 hb6
  clear HRt x0 x1 x2 x3 y0 y1 y2 y3 E1 E2
  go_wp2_with fail
  refine HC1'.mono ?_
  rintro e w7 ⟨rfl, hb7⟩
  have hs7 := keep_blk hb7 hs6
  have hB7 := hB6.trans (hb7.mono hB6.size)
  obtain ⟨s0, s1, s2, -⟩ := now3 hs7 rfl
  have HC2' := HC2 w7 (hb6.trans (hb7.mono hb6.size))
  clear HC1' HC1 HC2
  go_wp2_with fail
  refine HC2'.mono ?_
  rintro e w8 ⟨rfl, hb8⟩
  have hB8 := hB7.trans (hb8.mono hB7.size)
  clear HC2'
  go_wp2
  go_ret
  exact ⟨rfl, hB8⟩
end Go.Proofs.YtckmjampgeojbaaGreatDoor
