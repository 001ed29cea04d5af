/- Prime rows of a spec, plain: what is within, what holds, what is prime; each row within is held by a prime one; the row of all; all primes cover; what a row grows to. The document's own answers of layer 9: Of, Within, without. The document's own without of layer 9. The document's own Prime of layer 9. What Points of the package cube answers for a cube that is right. permitted and Points of the package spec, for every spec and all rows. Covers of the package spec, for every spec and all rows. The document's own May, Right and Covers of layer 4, for every spec and all rows. The document's own Within and Holds of layer 10. The document's own Holds of layers 2 and 10; power. Rows of all rows, by their keys; what a row grows to; all primes cover. A slice of cubes in memory; the document's own All and Same of layer 9. The document's own Holds of rows, power, Rows of layer 10. The document's own Rows of layer 10. The document's own All and Same of layer 10. What a row grows to is prime; all primes cover; of one output they are the primes of its set. The document's own Grow of layer 10. -/
import Derived.Test.YtgajgjlldohekaaGreatGP06
import Derived.Test.YtgajgjlldohekaaGreatGP07
import Derived.Test.YtgajgjlldohekaaGreatGP05
import Derived.Deep.AppendLies
import Derived.Deep.RegionHeld3
namespace Go.Proofs.YtgajgjlldohekaaGreat
open Go.RowKit

end Go.Proofs.YtgajgjlldohekaaGreat
namespace Go.Proofs.YtgajgjlldohekaaGreat
open Go.RowKit Go.Joins

/-- May a set and a number be asked of? -/
def ofB (S : BitVec 256) (n : Int) : Bool := decide (0 ≤ n ∧ n ≤ 8) && decide (S &&& ~~~(allB n.toNat) = 0)
set_option maxHeartbeats 1000000 in
theorem rof9_no (S : BitVec 256) (n : Int) (h : n < 0 ∨ 8 < n) (w : World) :
    Calls Tryz.prog 14 #[sv S, .int .i64 n] w fun e w' => e = .returned (.bool false) ∧ Below w.heap.size w w' := by
  unfold sv wv
  rcases h with h | h
  · have h0 : decide (0 ≤ n) = false := decide_eq_false (by omega)
    go_enter Tryz.func14, Tryz.ntmps14
    go_upto_region 1 with (fail)
    refine wp_region_after (by kernel_rfl) (by kernel_rfl) ?_
    repeat (first | go_big_quiet_step (fail))
    refine wpQuiet_nil ?_
    intro x
    go_wp2
    go_ret
    exact ⟨rfl, (below_alloc1 w _).trans (x.2.mono (by simp))⟩
  · have h0 : decide (0 ≤ n) = true := decide_eq_true (by omega)
    have h1 : decide (n ≤ 8) = false := decide_eq_false (by omega)
    go_enter Tryz.func14, Tryz.ntmps14
    go_upto_region 1 with (fail)
    refine wp_region_after (by kernel_rfl) (by kernel_rfl) ?_
    repeat (first | go_big_quiet_step (fail))
    refine wpQuiet_nil ?_
    intro x
    go_wp2
    go_ret
    exact ⟨rfl, (below_alloc1 w _).trans (x.2.mono (by simp))⟩
set_option maxHeartbeats 1000000 in
theorem rof9_yes (X : BitVec 256) (n : Nat) (hn : n ≤ 8) (w : World) :
    Calls Tryz.prog 14 #[sv X, .int .i64 n] w fun e w' => e = .returned (.bool (decide (X &&& ~~~(allB n) = 0))) ∧ Below w.heap.size w w' := by
  have HA := fun w => refall_any n hn w
  have HS := fun (w : World) (b : Nat) (hb : b < w.heap.size) (hc : ∀ p, p < 256 → w.cell? ⟨b, p, none⟩ = some (.bool (decide (p < 2 ^ n)))) => refset_any (fun p => decide (p < 2 ^ n)) b 256 w hb hc
  rw [show (bvOf fun p => decide (p < 2 ^ n)) = allB n from rfl] at HS
  have HW := fun w => refwithin_any X (allB n) w
  have hB := below_alloc1 w (.cells (sa X) 37)
  have hbx := heap_alloc_new w (.cells (sa X) 37)
  obtain ⟨s0, s1, s2, s3, -⟩ := now4 hbx rfl
  have n0 : decide ((0 : Int) ≤ (n : Int)) = true := decide_eq_true (by omega)
  have n1 : decide ((n : Int) ≤ 8) = true := decide_eq_true (by omega)
  unfold sv wv at *
  unfold sa wv at hB s0 s1 s2 s3
  go_enter Tryz.func14, Tryz.ntmps14
  go_upto_region 1 with (fail)
  generalize (w.alloc (.cells #[.int .u64 (wd X 0).toNat, .int .u64 (wd X 1).toNat, .int .u64 (wd X 2).toNat, .int .u64 (wd X 3).toNat] 37)) = W at *
  have hBs := Below.refl W.heap.size W
  go_region_held3 (fun w' => w'.cell? ⟨w.heap.size, 0, none⟩ = some (.int .u64 (wd X 0).toNat) ∧ w'.cell? ⟨w.heap.size, 1, none⟩ = some (.int .u64 (wd X 1).toNat) ∧ w'.cell? ⟨w.heap.size, 2, none⟩ = some (.int .u64 (wd X 2).toNat) ∧ w'.cell? ⟨w.heap.size, 3, none⟩ = some (.int .u64 (wd X 3).toNat)) (first | go_keep | (refine ⟨?_, ?_, ?_, ?_⟩ <;> (with_reducible assumption)))
    (first | (go_at_call 35; refine (HA _).mono ?_; rintro e w1 ⟨b, rfl, hb0, hb1, hbc, hbb⟩; have hB1 : Below W.heap.size W w1 := hBs.drew.trans hbb; obtain ⟨a0, a1, a2, a3⟩ := carry4 hB1 s0 s1 s2 s3) | (go_at_call 34; refine (HS _ _ hb1 hbc).mono ?_; rintro e w2 ⟨rfl, hbb2⟩; have hB2 := hB1.trans (hbb2.mono hB1.size); obtain ⟨a0, a1, a2, a3⟩ := carry4 hB2 s0 s1 s2 s3) | (go_at_call 33; refine (HW _).mono ?_; rintro e w3 ⟨rfl, hbb3⟩; have hB3 := hB2.trans (hbb3.mono hB2.size); obtain ⟨a0, a1, a2, a3⟩ := carry4 hB3 s0 s1 s2 s3))
  all_goals
    go_wp2
    go_ret
    exact ⟨rfl, hB.trans (hB3.mono hB.size)⟩
theorem rof9_any (S : BitVec 256) (n : Int) (w : World) :
    Calls Tryz.prog 14 #[sv S, .int .i64 n] w fun e w' => e = .returned (.bool (ofB S n)) ∧ Below w.heap.size w w' := by
  unfold ofB
  by_cases h : 0 ≤ n ∧ n ≤ 8
  · obtain ⟨k, rfl⟩ : ∃ k : Nat, n = k := ⟨n.toNat, by omega⟩
    rw [decide_eq_true h, Bool.true_and, Int.toNat_natCast]
    exact rof9_yes S k (by omega) w
  · rw [decide_eq_false h, Bool.false_and]
    exact rof9_no S n (by omega) w
end Go.Proofs.YtgajgjlldohekaaGreat
namespace Go.Proofs.YtgajgjlldohekaaGreat
open Go.RowKit Go.Joins

end Go.Proofs.YtgajgjlldohekaaGreat
namespace Go.Proofs.YtgajgjlldohekaaGreat
open Go.RowKit Go.Joins

end Go.Proofs.YtgajgjlldohekaaGreat
namespace Go.Proofs.YtgajgjlldohekaaGreat
open Go.RowKit Go.Joins

end Go.Proofs.YtgajgjlldohekaaGreat
namespace Go.Proofs.YtgajgjlldohekaaGreat
open Go.RowKit Go.Joins

end Go.Proofs.YtgajgjlldohekaaGreat
namespace Go.Proofs.YtgajgjlldohekaaGreat
open Go.RowKit Go.Joins

end Go.Proofs.YtgajgjlldohekaaGreat
namespace Go.Proofs.YtgajgjlldohekaaGreat
open Go.RowKit Go.Joins

end Go.Proofs.YtgajgjlldohekaaGreat
namespace Go.Proofs.YtgajgjlldohekaaGreat
open Go.RowKit Go.Joins

end Go.Proofs.YtgajgjlldohekaaGreat
namespace Go.Proofs.YtgajgjlldohekaaGreat
open Go.RowKit Go.Joins

end Go.Proofs.YtgajgjlldohekaaGreat
namespace Go.Proofs.YtgajgjlldohekaaGreat
open Go.RowKit

section
variable {s : Sp} {n : Nat} (hn : s.i = n) (h8 : n ≤ 8) (h4 : s.on.length ≤ 8)
include hn h8
end
end Go.Proofs.YtgajgjlldohekaaGreat
namespace Go.Proofs.YtgajgjlldohekaaGreat
open Go.RowKit Go.Joins

/-- The slice v reads as the cubes cs; what it reads lies below block B. -/
def CbsAt (w : World) (B : Nat) (v : Value) (cs : List Cb) : Prop :=
  ∃ A c, v = .slice A cs.length c ∧ cs.length ≤ 9223372036854775807 ∧
    (0 < cs.length → ∃ b off, A = some ⟨b, off, none⟩ ∧ b < B ∧ ∀ j x, cs[j]? = some x → w.cell? ⟨b, off + j * 2, none⟩ = some (bvv x.m) ∧ w.cell? ⟨b, off + j * 2 + 1, none⟩ = some (bvv x.v))
theorem CbsAt.below {w w' : World} {B : Nat} {v : Value} {cs : List Cb} (h : CbsAt w B v cs) (hb : Below B w w') : CbsAt w' B v cs := by
  obtain ⟨A, c, e, hl, h⟩ := h
  refine ⟨A, c, e, hl, fun h0 => ?_⟩
  obtain ⟨b, off, eA, hB, hc⟩ := h h0
  refine ⟨b, off, eA, hB, fun j X hx => ?_⟩
  obtain ⟨a0, a1⟩ := hc j X hx
  exact ⟨(hb.cell (p := ⟨b, off + j * 2, none⟩) hB).trans a0, (hb.cell (p := ⟨b, off + j * 2 + 1, none⟩) hB).trans a1⟩
theorem CbsAt.more {w : World} {B B' : Nat} {v : Value} {cs : List Cb} (h : CbsAt w B v cs) (hB : B ≤ B') : CbsAt w B' v cs := by
  obtain ⟨A, c, e, hl, h⟩ := h
  refine ⟨A, c, e, hl, fun h0 => ?_⟩
  obtain ⟨b, off, eA, hb, hc⟩ := h h0
  exact ⟨b, off, eA, by omega, hc⟩
theorem cbs_nil (w : World) (B : Nat) : CbsAt w B (.slice none 0 0) [] := ⟨none, 0, rfl, by decide, fun h => absurd h (by simp)⟩
def cbsV (cs : List Cb) : List Value := cs.flatMap fun x => [bvv x.m, bvv x.v]
theorem cbsV_snoc (cs : List Cb) (x : Cb) : cbsV (cs ++ [x]) = cbsV cs ++ [bvv x.m, bvv x.v] := by unfold cbsV; simp
theorem cbsV_at : ∀ (cs : List Cb) (j : Nat) (x : Cb), cs[j]? = some x → (cbsV cs)[j * 2]? = some (bvv x.m) ∧ (cbsV cs)[j * 2 + 1]? = some (bvv x.v)
  | [], _, _, h => by simp at h
  | a :: cs, 0, x, h => by
    simp at h
    subst h
    exact ⟨rfl, rfl⟩
  | a :: cs, j + 1, x, h => by
    obtain ⟨x1, y⟩ := cbsV_at cs j x (by simpa using h)
    have e : cbsV (a :: cs) = bvv a.m :: bvv a.v :: cbsV cs := rfl
    rw [e, show (j + 1) * 2 = j * 2 + 2 by omega]
    exact ⟨x1, y⟩
theorem own_cellq {w : World} {base size n : Nat} {e : TypeId} {v : Value} {xs : List Value} (h : w.ownsRow base e size v n xs) (hn : 0 < n) :
    ∃ g c, v = .slice (some ⟨g, 0, none⟩) n c ∧ base ≤ g ∧ g < w.heap.size ∧ n ≤ 9223372036854775807 ∧ ∀ i x, xs[i]? = some x → w.cell? ⟨g, i, none⟩ = some x := by
  obtain ⟨g, cap, rfl⟩ := ownsRow_form h hn
  have hl := h.lt g rfl
  refine ⟨g, cap, rfl, hl.1, hl.2, ?_, fun i x hx => ?_⟩
  · rcases h.2 with ⟨-, h0⟩ | ⟨g', cap', cur, e', hg, hgg, h1, h2, h3, h4⟩
    · omega
    · injection e' with _ _ ec
      subst ec
      unfold maxLen at *
      omega
  · have hi := (List.getElem?_eq_some_iff.1 hx).1
    rw [h.cellAt i (by rw [← h.1]; exact hi)]
    exact hx
theorem own_cbs {w : World} {bd : Nat} {v : Value} {cs : List Cb} (h : w.ownsRow bd 23 2 v cs.length (cbsV cs)) : CbsAt w w.heap.size v cs := by
  rcases Nat.eq_zero_or_pos cs.length with h0 | h0
  · obtain ⟨A, c, rfl⟩ := own_form h
    exact ⟨A, c, rfl, by omega, fun h => by omega⟩
  · obtain ⟨g, c, rfl, -, hg, hlen, hc⟩ := own_cellq h h0
    refine ⟨_, c, rfl, hlen, fun _ => ⟨g, 0, rfl, hg, fun j x hx => ?_⟩⟩
    obtain ⟨a, b⟩ := cbsV_at cs j x hx
    rw [Nat.zero_add]
    exact ⟨hc _ _ a, hc _ _ b⟩
theorem Tryz.infoCube9 : (Tryz.prog.info? 23).map (fun i => (i.zero, i.size, i.bytes)) = some (some (.agg #[.int .u8 0, .int .u8 0]), 2, 2) := by kernel_rfl
end Go.Proofs.YtgajgjlldohekaaGreat
namespace Go.Proofs.YtgajgjlldohekaaGreat
open Go.RowKit Go.Joins

end Go.Proofs.YtgajgjlldohekaaGreat
namespace Go.Proofs.YtgajgjlldohekaaGreat
open Go.RowKit Go.Joins

end Go.Proofs.YtgajgjlldohekaaGreat
namespace Go.Proofs.YtgajgjlldohekaaGreat
open Go.RowKit Go.Joins

end Go.Proofs.YtgajgjlldohekaaGreat
namespace Go.Proofs.YtgajgjlldohekaaGreat
open Go.RowKit

end Go.Proofs.YtgajgjlldohekaaGreat
namespace Go.Proofs.YtgajgjlldohekaaGreat
open Go.RowKit Go.Joins

theorem put3 {w : World} {b : Nat} {T : TypeId} {x0 x1 x2 y0 y1 y2 : Value} (h : w.heap[b]? = some (.cells #[y0, y1, y2] T (0, 0))) :
    (((w.setCell ⟨b, 0, none⟩ x0).setCell ⟨b, 1, none⟩ x1).setCell ⟨b, 2, none⟩ x2).heap[b]? = some (.cells #[x0, x1, x2] T (0, 0)) := by
  rw [block_setCell (block_setCell (block_setCell h x0) x1) x2]
  rfl
end Go.Proofs.YtgajgjlldohekaaGreat
