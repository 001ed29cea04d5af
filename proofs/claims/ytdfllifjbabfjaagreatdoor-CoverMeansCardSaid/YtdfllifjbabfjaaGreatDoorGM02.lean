/- What each function of the package set answers, for every input: its words are those of the set that the document names; nothing that was there before a call turns. -/
import Derived.Test.YtdfllifjbabfjaaGreatDoorRows
import Derived.Test.YtdfllifjbabfjaaGreatDoorGM01
import Derived.WalkKit
import Derived.WalkSpells
import Derived.WalkLawsBesides
import Derived.Deep.QuietTactic
import Derived.BigQuiet
import Derived.Deep.RegionWith
import Derived.Lib.Hide
import Derived.Lib.SmallJoins
import Derived.Outline
namespace Go.Proofs.YtdfllifjbabfjaaGreatDoor
open Go.RowKit Go.Joins

/-- The words of a set, as cells. -/
def sa (S : BitVec 256) : Array Value := #[wv (wd S 0), wv (wd S 1), wv (wd S 2), wv (wd S 3)]
theorem sa_get (S : BitVec 256) (k : Nat) (hk : k < 4) : (sa S)[k]? = some (wv (wd S k)) := by
  match k, hk with
  | 0, _ => rfl
  | 1, _ => rfl
  | 2, _ => rfl
  | 3, _ => rfl

def stq (f : Nat → BitVec 64) (k j : Nat) : Value := if j < k then wv (f j) else .int .u64 0
def st4 (f : Nat → BitVec 64) (k : Nat) : Array Value := #[stq f k 0, stq f k 1, stq f k 2, stq f k 3]
theorem st4_get (f : Nat → BitVec 64) (k : Nat) (hk : k < 4) : (st4 f k)[k]? = some (.int .u64 0) := by
  match k, hk with
  | 0, _ => simp [st4, stq]
  | 1, _ => simp [st4, stq]
  | 2, _ => simp [st4, stq]
  | 3, _ => simp [st4, stq]
theorem st4_set (f : Nat → BitVec 64) (k : Nat) (hk : k < 4) : (st4 f k).setIfInBounds k (wv (f k)) = st4 f (k + 1) := by
  match k, hk with
  | 0, _ => simp [st4, stq]
  | 1, _ => simp [st4, stq]
  | 2, _ => simp [st4, stq]
  | 3, _ => simp [st4, stq]
theorem size_of_block {w : World} {b : Nat} {o : Obj} (h : w.heap[b]? = some o) : b < w.heap.size := by
  rcases Nat.lt_or_ge b w.heap.size with k | k
  · exact k
  · rw [Array.getElem?_eq_none k] at h; cases h

set_option maxHeartbeats 400000 in
theorem words_any (K : Nat) (caps : Array Value) (f : Nat → BitVec 64) (w : World)
    (hcf : ∀ (args : Array Value) (w1 : World), (Sem.run Tryz.prog (callFunc K args) w1) = .ok (.enter K args) w1)
    (hcl : ∀ k : Nat, k < 4 → ∀ w1, Below w.heap.size w w1 → Calls Tryz.prog K (#[Value.int IntKind.i64 (k : Int)] ++ caps) w1 fun e w' => e = .returned (wv (f k)) ∧ Below w1.heap.size w1 w') :
    Calls Tryz.prog 74 #[.func (.func K) #[] caps] w fun e w' => e = .returned (.agg #[wv (f 0), wv (f 1), wv (f 2), wv (f 3)]) ∧ Below w.heap.size w w' := by
  go_enter Tryz.func74, Tryz.ntmps74
  go_wp2
  go_loopw [4, 5] (fun _ i wr => ∃ k : Nat, k ≤ 4 ∧ i = .int .i64 k ∧ wr.heap[w.heap.size + 1]? = some (.cells (st4 f k) 50 (0, 0)) ∧ wr.heap[w.heap.size]? = some (.cells (st4 f 0) 50 (0, 0)) ∧ Below w.heap.size w wr) (fun _ i _ => 4 - (intOf i).toNat)
  case atStart => exact ⟨0, by omega, rfl, heap_alloc2_new _ _ _, heap_alloc2_old _ _ _, below_alloc2 _ _ _⟩
  case round =>
    obtain ⟨k, hk, rfl, hblk, hblk0, hb⟩ := hrel
    by_cases hlt : k < 4
    · go_wp2_with fail
      refine (hcl k hlt wr hb).mono ?_
      rintro e w1 ⟨rfl, hb1⟩
      have hsz : w.heap.size + 1 < wr.heap.size := size_of_block hblk
      have hB1 : w1.heap[w.heap.size + 1]? = some (.cells (st4 f k) 50 (0, 0)) := by rw [hb1.block _ hsz]; exact hblk
      have hB0 : w1.heap[w.heap.size]? = some (.cells (st4 f 0) 50 (0, 0)) := by rw [hb1.block _ (by omega)]; exact hblk0
      have hc : w1.cell? ⟨w.heap.size + 1, k, none⟩ = some (.int .u64 0) := by rw [cell_of_block hB1, st4_get f k hlt]
      have hf : w1.frozen? ⟨w.heap.size + 1, k, none⟩ = false := unfrozen_of_block hB1 k
      have hb2 : Below w.heap.size w w1 := hb.trans (hb1.mono (by omega))
      clear hcl hcf hb hb1 hblk hblk0
      unfold wv
      go_wp2
      go_roundw
      case rel => exact ⟨k + 1, by omega, by go_num, by rw [block_setCell hB1, ← st4_set f k hlt]; rfl, by rw [Below.heap_setCell _ _ _ _ (by simp)]; exact hB0, hb2.setCell (by simp) _⟩
      case measure => simp [intOf]; omega
    · have e : k = 4 := by omega
      subst e
      clear hcl hcf
      have hc0 : wr.cell? ⟨w.heap.size + 1, 0, none⟩ = some (wv (f 0)) := by rw [cell_of_block hblk]; rfl
      have hc1 : wr.cell? ⟨w.heap.size + 1, 1, none⟩ = some (wv (f 1)) := by rw [cell_of_block hblk]; rfl
      have hc2 : wr.cell? ⟨w.heap.size + 1, 2, none⟩ = some (wv (f 2)) := by rw [cell_of_block hblk]; rfl
      have hc3 : wr.cell? ⟨w.heap.size + 1, 3, none⟩ = some (wv (f 3)) := by rw [cell_of_block hblk]; rfl
      have hd : ∀ j, j < 4 → wr.cell? ⟨w.heap.size, j, none⟩ = some (.int .u64 0) := by
        intro j hj
        rw [cell_of_block hblk0]
        match j, hj with
        | 0, _ => rfl
        | 1, _ => rfl
        | 2, _ => rfl
        | 3, _ => rfl
      have hd0 := hd 0 (by omega)
      have hd1 := hd 1 (by omega)
      have hd2 := hd 2 (by omega)
      have hd3 := hd 3 (by omega)
      have hf : ∀ j, wr.frozen? ⟨w.heap.size, j, none⟩ = false := unfrozen_of_block hblk0
      unfold wv at *
      go_wp2
      exact bodyPost_ret (v := .agg #[.int .u64 (f 0).toNat, .int .u64 (f 1).toNat, .int .u64 (f 2).toNat, .int .u64 (f 3).toNat]) (by simp [results, Tryz.results74, go_sem, hd0, hd1, hd2, hd3]) rfl
        ⟨rfl, (((hb.setCell (by simp) _).setCell (by simp) _).setCell (by simp) _).setCell (by simp) _⟩

/-- The closures of Or, And and Less: two words that are read, one that is made. -/
theorem or1_any (k : Nat) (hk : k < 4) (w : World) (ba bb : Nat) (x y : BitVec 64) (hx : w.cell? ⟨ba, k, none⟩ = some (wv x)) (hy : w.cell? ⟨bb, k, none⟩ = some (wv y)) :
    Calls Tryz.prog 86 #[.int .i64 k, .pointer (some ⟨ba, 0, none⟩), .pointer (some ⟨bb, 0, none⟩)] w fun e w' => e = .returned (wv (x ||| y)) ∧ Below w.heap.size w w' := by
  unfold wv at *
  go_enter Tryz.func86, Tryz.ntmps86
  go_wp2
  go_quiet (fail)
  go_wp2
  go_ret
  exact ⟨by rw [bits_or_bv]; rfl, below_draws _ _ _⟩
theorem and1_any (k : Nat) (hk : k < 4) (w : World) (ba bb : Nat) (x y : BitVec 64) (hx : w.cell? ⟨ba, k, none⟩ = some (wv x)) (hy : w.cell? ⟨bb, k, none⟩ = some (wv y)) :
    Calls Tryz.prog 108 #[.int .i64 k, .pointer (some ⟨ba, 0, none⟩), .pointer (some ⟨bb, 0, none⟩)] w fun e w' => e = .returned (wv (x &&& y)) ∧ Below w.heap.size w w' := by
  unfold wv at *
  go_enter Tryz.func108, Tryz.ntmps108
  go_wp2
  go_quiet (fail)
  go_wp2
  go_ret
  exact ⟨by rw [bits_and_bv]; rfl, below_draws _ _ _⟩
theorem less1_any (k : Nat) (hk : k < 4) (w : World) (ba bb : Nat) (x y : BitVec 64) (hx : w.cell? ⟨ba, k, none⟩ = some (wv x)) (hy : w.cell? ⟨bb, k, none⟩ = some (wv y)) :
    Calls Tryz.prog 87 #[.int .i64 k, .pointer (some ⟨ba, 0, none⟩), .pointer (some ⟨bb, 0, none⟩)] w fun e w' => e = .returned (wv (x &&& ~~~y)) ∧ Below w.heap.size w w' := by
  unfold wv at *
  go_enter Tryz.func87, Tryz.ntmps87
  go_wp2
  go_quiet (fail)
  go_wp2
  go_ret
  exact ⟨by rw [bits_less_bv]; rfl, below_draws _ _ _⟩

/-- Two boxed sets and a result's place. -/
def wr3 (S T : BitVec 256) (w : World) : World := ((w.alloc (.cells (sa S) 50)).alloc (.cells (sa T) 50)).alloc (.cells #[Value.int IntKind.u64 0, Value.int IntKind.u64 0, Value.int IntKind.u64 0, Value.int IntKind.u64 0] 50)
theorem wr3_size (S T : BitVec 256) (w : World) : (wr3 S T w).heap.size = w.heap.size + 3 := by simp [wr3]
theorem wr3_a (S T : BitVec 256) (w : World) : (wr3 S T w).heap[w.heap.size]? = some (.cells (sa S) 50 (0, 0)) := by
  unfold wr3
  rw [Below.heap_alloc _ _ _ (by simp; omega), heap_alloc2_old]
theorem wr3_b (S T : BitVec 256) (w : World) : (wr3 S T w).heap[w.heap.size + 1]? = some (.cells (sa T) 50 (0, 0)) := by
  unfold wr3
  rw [Below.heap_alloc _ _ _ (by simp), heap_alloc2_new]
theorem wr3_r (S T : BitVec 256) (w : World) : (wr3 S T w).heap[w.heap.size + 2]? = some (.cells #[Value.int IntKind.u64 0, Value.int IntKind.u64 0, Value.int IntKind.u64 0, Value.int IntKind.u64 0] 50 (0, 0)) := by
  unfold wr3
  have e : w.heap.size + 2 = ((w.alloc (.cells (sa S) 50)).alloc (.cells (sa T) 50)).heap.size := by simp
  rw [e, heap_alloc_new]
theorem wr3_below (S T : BitVec 256) (w : World) : Below w.heap.size w (wr3 S T w) := below_alloc3 _ _ _ _

/-- A result's four cells, ready to be written. -/
theorem res4 {w : World} {b : Nat} {C : Array Value} {T : TypeId} (h : w.heap[b]? = some (.cells C T (0, 0))) (hC : C = #[Value.int IntKind.u64 0, Value.int IntKind.u64 0, Value.int IntKind.u64 0, Value.int IntKind.u64 0]) :
    w.cell? ⟨b, 0, none⟩ = some (.int .u64 0) ∧ w.cell? ⟨b, 1, none⟩ = some (.int .u64 0) ∧ w.cell? ⟨b, 2, none⟩ = some (.int .u64 0) ∧ w.cell? ⟨b, 3, none⟩ = some (.int .u64 0) ∧ (∀ j, w.frozen? ⟨b, j, none⟩ = false) := by
  subst hC
  refine ⟨?_, ?_, ?_, ?_, unfrozen_of_block h⟩ <;> rw [cell_of_block h] <;> rfl

theorem le2 (w : World) : w.heap.size ≤ w.heap.size + 2 := by omega
set_option maxHeartbeats 400000 in
theorem or_any (S T : BitVec 256) (w : World) :
    Calls Tryz.prog 72 #[sv S, sv T] w fun e w' => e = .returned (sv (S ||| T)) ∧ Below w.heap.size w w' := by
  have hmf : ∀ (fn : Fn) (first cap : Array Value) (w : World), (Instr.makeFunc fn first cap).run Tryz.prog w = .ok (.func fn first cap) w := fun _ _ _ _ => rfl
  have H := words_any 86 #[.pointer (some ⟨w.heap.size, 0, none⟩), .pointer (some ⟨w.heap.size + 1, 0, none⟩)] (fun k => wd (S ||| T) k) (wr3 S T w) (fun _ _ => by kernel_rfl)
    (fun k hk w1 hb => by
      show Calls _ _ _ _ (fun e w' => e = .returned (wv (wd (S ||| T) k)) ∧ Below w1.heap.size w1 w')
      rw [wd_or]
      exact or1_any k hk w1 _ _ _ _ (by rw [hb.cell (by rw [wr3_size]; simp), cell_of_block (wr3_a S T w), sa_get S k hk]) (by rw [hb.cell (by rw [wr3_size]; simp), cell_of_block (wr3_b S T w), sa_get T k hk]))
  unfold sv
  go_enter Tryz.func72, Tryz.ntmps72
  go_wp2_with fail
  refine H.mono ?_
  rintro e w1 ⟨rfl, hb⟩
  clear H
  obtain ⟨q0, q1, q2, q3, qf⟩ := res4 (w := w1) (b := w.heap.size + 2) ((hb.block _ (by rw [wr3_size]; omega)).trans (wr3_r S T w)) rfl
  unfold wv
  go_wp2
  exact bodyPost_ret (v := .agg #[.int .u64 (wd (S ||| T) 0).toNat, .int .u64 (wd (S ||| T) 1).toNat, .int .u64 (wd (S ||| T) 2).toNat, .int .u64 (wd (S ||| T) 3).toNat]) (by simp [results, Tryz.results72, go_sem, q0, q1, q2, q3]) rfl
    ⟨rfl, (((((wr3_below S T w).trans (hb.mono (by rw [wr3_size]; omega))).setCell (le2 w) _).setCell (le2 w) _).setCell (le2 w) _).setCell (le2 w) _⟩

set_option maxHeartbeats 400000 in
theorem and_any (S T : BitVec 256) (w : World) :
    Calls Tryz.prog 92 #[sv S, sv T] w fun e w' => e = .returned (sv (S &&& T)) ∧ Below w.heap.size w w' := by
  have hmf : ∀ (fn : Fn) (first cap : Array Value) (w : World), (Instr.makeFunc fn first cap).run Tryz.prog w = .ok (.func fn first cap) w := fun _ _ _ _ => rfl
  have H := words_any 108 #[.pointer (some ⟨w.heap.size, 0, none⟩), .pointer (some ⟨w.heap.size + 1, 0, none⟩)] (fun k => wd (S &&& T) k) (wr3 S T w) (fun _ _ => by kernel_rfl)
    (fun k hk w1 hb => by
      show Calls _ _ _ _ (fun e w' => e = .returned (wv (wd (S &&& T) k)) ∧ Below w1.heap.size w1 w')
      rw [wd_and]
      exact and1_any k hk w1 _ _ _ _ (by rw [hb.cell (by rw [wr3_size]; simp), cell_of_block (wr3_a S T w), sa_get S k hk]) (by rw [hb.cell (by rw [wr3_size]; simp), cell_of_block (wr3_b S T w), sa_get T k hk]))
  unfold sv
  go_enter Tryz.func92, Tryz.ntmps92
  go_wp2_with fail
  refine H.mono ?_
  rintro e w1 ⟨rfl, hb⟩
  clear H
  obtain ⟨q0, q1, q2, q3, qf⟩ := res4 (w := w1) (b := w.heap.size + 2) ((hb.block _ (by rw [wr3_size]; omega)).trans (wr3_r S T w)) rfl
  unfold wv
  go_wp2
  exact bodyPost_ret (v := .agg #[.int .u64 (wd (S &&& T) 0).toNat, .int .u64 (wd (S &&& T) 1).toNat, .int .u64 (wd (S &&& T) 2).toNat, .int .u64 (wd (S &&& T) 3).toNat]) (by simp [results, Tryz.results92, go_sem, q0, q1, q2, q3]) rfl
    ⟨rfl, (((((wr3_below S T w).trans (hb.mono (by rw [wr3_size]; omega))).setCell (le2 w) _).setCell (le2 w) _).setCell (le2 w) _).setCell (le2 w) _⟩

set_option maxHeartbeats 400000 in
theorem less_any (S T : BitVec 256) (w : World) :
    Calls Tryz.prog 73 #[sv S, sv T] w fun e w' => e = .returned (sv (S &&& ~~~T)) ∧ Below w.heap.size w w' := by
  have hmf : ∀ (fn : Fn) (first cap : Array Value) (w : World), (Instr.makeFunc fn first cap).run Tryz.prog w = .ok (.func fn first cap) w := fun _ _ _ _ => rfl
  have H := words_any 87 #[.pointer (some ⟨w.heap.size, 0, none⟩), .pointer (some ⟨w.heap.size + 1, 0, none⟩)] (fun k => wd (S &&& ~~~T) k) (wr3 S T w) (fun _ _ => by kernel_rfl)
    (fun k hk w1 hb => by
      show Calls _ _ _ _ (fun e w' => e = .returned (wv (wd (S &&& ~~~T) k)) ∧ Below w1.heap.size w1 w')
      rw [wd_less S T k hk]
      exact less1_any k hk w1 _ _ _ _ (by rw [hb.cell (by rw [wr3_size]; simp), cell_of_block (wr3_a S T w), sa_get S k hk]) (by rw [hb.cell (by rw [wr3_size]; simp), cell_of_block (wr3_b S T w), sa_get T k hk]))
  unfold sv
  go_enter Tryz.func73, Tryz.ntmps73
  go_wp2_with fail
  refine H.mono ?_
  rintro e w1 ⟨rfl, hb⟩
  clear H
  obtain ⟨q0, q1, q2, q3, qf⟩ := res4 (w := w1) (b := w.heap.size + 2) ((hb.block _ (by rw [wr3_size]; omega)).trans (wr3_r S T w)) rfl
  unfold wv
  go_wp2
  exact bodyPost_ret (v := .agg #[.int .u64 (wd (S &&& ~~~T) 0).toNat, .int .u64 (wd (S &&& ~~~T) 1).toNat, .int .u64 (wd (S &&& ~~~T) 2).toNat, .int .u64 (wd (S &&& ~~~T) 3).toNat]) (by simp [results, Tryz.results73, go_sem, q0, q1, q2, q3]) rfl
    ⟨rfl, (((((wr3_below S T w).trans (hb.mono (by rw [wr3_size]; omega))).setCell (le2 w) _).setCell (le2 w) _).setCell (le2 w) _).setCell (le2 w) _⟩


theorem isPoint_yes (p : Int) (w : World) (h0 : 0 ≤ p) (h1 : p < 256) : Calls Tryz.prog 76 #[.int .i64 p] w fun e w' => e = .returned (.bool true) ∧ w = w' := by
  go_enter Tryz.func76, Tryz.ntmps76
  go_wp2
  go_ret
  exact ⟨rfl, rfl⟩
theorem isPoint_no (p : Int) (w : World) (h : p < 0 ∨ 256 ≤ p) : Calls Tryz.prog 76 #[.int .i64 p] w fun e w' => e = .returned (.bool false) ∧ w = w' := by
  by_cases h0 : 0 ≤ p
  · have h1 : ¬ p < 256 := by omega
    clear h
    go_enter Tryz.func76, Tryz.ntmps76
    go_wp2
    go_ret
    exact ⟨rfl, rfl⟩
  · clear h
    go_enter Tryz.func76, Tryz.ntmps76
    go_wp2
    go_ret
    exact ⟨rfl, rfl⟩

/-- '==' of two sets, word by word. -/
def eq4B (a0 a1 a2 a3 b0 b1 b2 b3 : Int) : Bool := a0 == b0 && a1 == b1 && a2 == b2 && a3 == b3
theorem Tryz.infoU64 : (Tryz.prog.info? 48).map (fun i => (i.zero, i.size, i.bytes)) = some (some (.int .u64 0), 1, 8) := by kernel_rfl
theorem Tryz.cellsU64 : Tryz.prog.cellsOf 48 = 1 := by kernel_rfl
theorem eq4 (a0 a1 a2 a3 b0 b1 b2 b3 : Int) (w : World) : (Op.equalIn 10000 50 (.agg #[.int .u64 a0, .int .u64 a1, .int .u64 a2, .int .u64 a3]) (.agg #[.int .u64 b0, .int .u64 b1, .int .u64 b2, .int .u64 b3])).run Tryz.prog w = .ok (eq4B a0 a1 a2 a3 b0 b1 b2 b3) w := by
  obtain ⟨i0, hi, hz0, hz1, hz2⟩ := info_parts Tryz.infoU64
  rw [run_equalIn_array w 9999 _ _ Tryz.underlying50 hi, Tryz.cellsU64]
  have r4 : List.range 4 = [0, 1, 2, 3] := by decide
  rw [r4]
  simp [Op.eqItems, go_sem]
  unfold eq4B
  by_cases e0 : a0 = b0 <;> by_cases e1 : a1 = b1 <;> by_cases e2 : a2 = b2 <;> by_cases e3 : a3 = b3 <;> simp [e0, e1, e2, e3]
theorem eq4_refl (a0 a1 a2 a3 : Int) (w : World) : (Op.equalIn 10000 50 (.agg #[.int .u64 a0, .int .u64 a1, .int .u64 a2, .int .u64 a3]) (.agg #[.int .u64 a0, .int .u64 a1, .int .u64 a2, .int .u64 a3])).run Tryz.prog w = .ok true w := by
  rw [eq4]; simp [eq4B]
theorem eq4_set (S T : BitVec 256) (w : World) : (Op.equalIn 10000 50 (.agg #[.int .u64 (wd S 0).toNat, .int .u64 (wd S 1).toNat, .int .u64 (wd S 2).toNat, .int .u64 (wd S 3).toNat]) (.agg #[.int .u64 (wd T 0).toNat, .int .u64 (wd T 1).toNat, .int .u64 (wd T 2).toNat, .int .u64 (wd T 3).toNat])).run Tryz.prog w = .ok (decide (S = T)) w := by
  rw [eq4]
  by_cases h : S = T
  · subst h; simp [eq4B]
  · have hn : eq4B (wd S 0).toNat (wd S 1).toNat (wd S 2).toNat (wd S 3).toNat (wd T 0).toNat (wd T 1).toNat (wd T 2).toNat (wd T 3).toNat = false := by
      apply Bool.eq_false_iff.2
      intro e
      unfold eq4B at e
      simp only [Bool.and_eq_true, beq_iff_eq, Int.natCast_inj] at e
      exact h (bv_ext (BitVec.eq_of_toNat_eq e.1.1.1) (BitVec.eq_of_toNat_eq e.1.1.2) (BitVec.eq_of_toNat_eq e.1.2) (BitVec.eq_of_toNat_eq e.2))
    rw [hn]; simp [h]
theorem eq4_zero (S : BitVec 256) (w : World) : (Op.equalIn 10000 50 (.agg #[.int .u64 (wd S 0).toNat, .int .u64 (wd S 1).toNat, .int .u64 (wd S 2).toNat, .int .u64 (wd S 3).toNat]) (.agg #[.int .u64 0, .int .u64 0, .int .u64 0, .int .u64 0])).run Tryz.prog w = .ok (decide (S = 0)) w :=
  eq4_set S 0 w

set_option maxHeartbeats 400000 in
theorem within_any (S T : BitVec 256) (w : World) :
    Calls Tryz.prog 46 #[sv S, sv T] w fun e w' => e = .returned (.bool (decide (S &&& ~~~T = 0))) ∧ Below w.heap.size w w' := by
  have E := eq4_zero (S &&& ~~~T)
  unfold sv
  go_enter Tryz.func46, Tryz.ntmps46
  go_wp2_with fail
  refine (less_any S T _).mono ?_
  rintro e w1 ⟨rfl, hb⟩
  unfold sv wv
  go_wp2
  go_ret
  exact ⟨rfl, (below_alloc2 _ _ _).trans (hb.mono (by simp; omega))⟩

/-- The word in which those points are on whose bit i is 1. -/
def stripe (i : Nat) : BitVec 64 := BitVec.ofNat 64 (wsum (fun j => j.testBit i) 64)
set_option maxHeartbeats 400000 in
theorem striped_any (i : Nat) (hi : i < 6) (w : World) :
    Calls Tryz.prog 109 #[.int .i64 i] w fun e w' => e = .returned (wv (stripe i)) ∧ w = w' := by
  have h : i = 0 ∨ i = 1 ∨ i = 2 ∨ i = 3 ∨ i = 4 ∨ i = 5 := by omega
  rcases h with rfl | rfl | rfl | rfl | rfl | rfl
  all_goals
    go_enter Tryz.func109, Tryz.ntmps109
    go_wp2
    refine wp_loop_rounds 6 ?_
    repeat (rw [rounds_succ]; go_wp2)
    go_ret
    exact ⟨by kernel_rfl, rfl⟩

/-- All points whose bit i is 1. -/
def onesB (i : Nat) : BitVec 256 := bvOf (fun p => p.testBit i)
theorem onesB_low (i k : Nat) (hi : i < 6) (hk : k < 4) : wd (onesB i) k = stripe i := by
  have h : ∀ i : Fin 6, ∀ k : Fin 4, wd (onesB i.val) k.val = stripe i.val := by decide +kernel
  exact h ⟨i, hi⟩ ⟨k, hk⟩
theorem onesB_high (i k : Nat) (hi : i < 8) (h6 : 6 ≤ i) (hk : k < 4) : wd (onesB i) k = if k / 2 ^ (i - 6) % 2 = 1 then 18446744073709551615#64 else 0#64 := by
  have h : ∀ i : Fin 8, 6 ≤ i.val → ∀ k : Fin 4, wd (onesB i.val) k.val = if k.val / 2 ^ (i.val - 6) % 2 = 1 then 18446744073709551615#64 else 0#64 := by decide +kernel
  exact h ⟨i, hi⟩ h6 ⟨k, hk⟩

theorem ones1_any (k : Nat) (w : World) (b : Nat) (x : BitVec 64) (hx : w.cell? ⟨b, 0, none⟩ = some (wv x)) :
    Calls Tryz.prog 110 #[.int .i64 k, .pointer (some ⟨b, 0, none⟩)] w fun e w' => e = .returned (wv x) ∧ Below w.heap.size w w' := by
  unfold wv at *
  go_enter Tryz.func110, Tryz.ntmps110
  go_wp2
  go_ret
  exact ⟨rfl, Below.refl _ _⟩
set_option maxHeartbeats 400000 in
theorem ones2_any (k i : Nat) (hk : k < 4) (hi : i < 8) (h6 : 6 ≤ i) (w : World) (b : Nat) (hx : w.cell? ⟨b, 0, none⟩ = some (.int .i64 i)) :
    Calls Tryz.prog 111 #[.int .i64 k, .pointer (some ⟨b, 0, none⟩)] w fun e w' => e = .returned (wv (if k / 2 ^ (i - 6) % 2 = 1 then 18446744073709551615#64 else 0#64)) ∧ Below w.heap.size w w' := by
  have hI : i = 6 ∨ i = 7 := by omega
  have hK : k = 0 ∨ k = 1 ∨ k = 2 ∨ k = 3 := by omega
  rcases hI with rfl | rfl <;> rcases hK with rfl | rfl | rfl | rfl
  all_goals
    go_enter Tryz.func111, Tryz.ntmps111
    go_wp2
    go_ret
    exact ⟨by kernel_rfl, Below.refl _ _⟩


/-- The points of n inputs. -/
def allB (n : Nat) : BitVec 256 := bvOf (fun p => decide (p < 2 ^ n))
set_option maxHeartbeats 1000000 in
theorem all1_any (n k : Nat) (hn : n ≤ 8) (hk : k < 4) (w : World) (b : Nat) (hx : w.cell? ⟨b, 0, none⟩ = some (.int .i64 n)) :
    Calls Tryz.prog 75 #[.int .i64 k, .pointer (some ⟨b, 0, none⟩)] w fun e w' => e = .returned (wv (wd (allB n) k)) ∧ Below w.heap.size w w' := by
  have hN : n = 0 ∨ n = 1 ∨ n = 2 ∨ n = 3 ∨ n = 4 ∨ n = 5 ∨ n = 6 ∨ n = 7 ∨ n = 8 := by omega
  have hK : k = 0 ∨ k = 1 ∨ k = 2 ∨ k = 3 := by omega
  rcases hN with rfl | rfl | rfl | rfl | rfl | rfl | rfl | rfl | rfl <;> rcases hK with rfl | rfl | rfl | rfl
  all_goals
    go_enter Tryz.func75, Tryz.ntmps75
    go_wp2
    go_ret
    exact ⟨by kernel_rfl, Below.refl _ _⟩
set_option maxHeartbeats 400000 in
theorem all_no (n : Int) (h : n < 0 ∨ 8 < n) (w : World) :
    Calls Tryz.prog 50 #[.int .i64 n] w fun e w' => e = .returned (.tuple #[sv 0, .int .i64 1]) ∧ Below w.heap.size w w' := by
  by_cases h0 : n < 0
  · clear h
    go_enter Tryz.func50, Tryz.ntmps50
    go_wp2
    exact bodyPost_ret (v := .tuple #[.agg #[.int .u64 0, .int .u64 0, .int .u64 0, .int .u64 0], .int .i64 1]) (by simp [results, Tryz.results50, go_sem]) rfl ⟨rfl, below_alloc2 _ _ _⟩
  · have h1 : 8 < n := by omega
    clear h
    go_enter Tryz.func50, Tryz.ntmps50
    go_wp2
    exact bodyPost_ret (v := .tuple #[.agg #[.int .u64 0, .int .u64 0, .int .u64 0, .int .u64 0], .int .i64 1]) (by simp [results, Tryz.results50, go_sem]) rfl ⟨rfl, below_alloc2 _ _ _⟩

/-- A boxed number and a result's place. -/
def wr2 (n : Int) (w : World) : World := (w.alloc (.cells #[Value.int IntKind.i64 n] 3)).alloc (.cells #[Value.int IntKind.u64 0, Value.int IntKind.u64 0, Value.int IntKind.u64 0, Value.int IntKind.u64 0] 50)
theorem wr2_size (n : Int) (w : World) : (wr2 n w).heap.size = w.heap.size + 2 := by simp [wr2]
theorem wr2_a (n : Int) (w : World) : (wr2 n w).heap[w.heap.size]? = some (.cells #[Value.int IntKind.i64 n] 3 (0, 0)) := by unfold wr2; rw [heap_alloc2_old]
theorem wr2_r (n : Int) (w : World) : (wr2 n w).heap[w.heap.size + 1]? = some (.cells #[Value.int IntKind.u64 0, Value.int IntKind.u64 0, Value.int IntKind.u64 0, Value.int IntKind.u64 0] 50 (0, 0)) := by unfold wr2; rw [heap_alloc2_new]
theorem wr2_below (n : Int) (w : World) : Below w.heap.size w (wr2 n w) := below_alloc2 _ _ _
theorem le1 (w : World) : w.heap.size ≤ w.heap.size + 1 := by omega

set_option maxHeartbeats 400000 in
theorem all_any (n : Nat) (h : n ≤ 8) (w : World) :
    Calls Tryz.prog 50 #[.int .i64 n] w fun e w' => e = .returned (.tuple #[sv (allB n), .int .i64 0]) ∧ Below w.heap.size w w' := by
  have hmf : ∀ (fn : Fn) (first cap : Array Value) (w : World), (Instr.makeFunc fn first cap).run Tryz.prog w = .ok (.func fn first cap) w := fun _ _ _ _ => rfl
  have H := words_any 75 #[.pointer (some ⟨w.heap.size, 0, none⟩)] (fun k => wd (allB n) k) (wr2 n w) (fun _ _ => by kernel_rfl)
    (fun k hk w1 hb => all1_any n k h hk w1 _ (by rw [hb.cell (by rw [wr2_size]; simp), cell_of_block (wr2_a n w)]; rfl))
  go_enter Tryz.func50, Tryz.ntmps50
  go_wp2_with fail
  refine H.mono ?_
  rintro e w1 ⟨rfl, hb⟩
  clear H
  obtain ⟨q0, q1, q2, q3, qf⟩ := res4 (w := w1) (b := w.heap.size + 1) ((hb.block _ (by rw [wr2_size]; omega)).trans (wr2_r n w)) rfl
  unfold wv
  go_wp2
  exact bodyPost_ret (v := .tuple #[.agg #[.int .u64 (wd (allB n) 0).toNat, .int .u64 (wd (allB n) 1).toNat, .int .u64 (wd (allB n) 2).toNat, .int .u64 (wd (allB n) 3).toNat], .int .i64 0]) (by simp [results, Tryz.results50, go_sem, q0, q1, q2, q3]) rfl
    ⟨rfl, (((((wr2_below n w).trans (hb.mono (by rw [wr2_size]; omega))).setCell (le1 w) _).setCell (le1 w) _).setCell (le1 w) _).setCell (le1 w) _⟩

set_option maxHeartbeats 400000 in
theorem ones_any (i : Nat) (h : i < 8) (w : World) :
    Calls Tryz.prog 93 #[.int .i64 i] w fun e w' => e = .returned (sv (onesB i)) ∧ Below w.heap.size w w' := by
  have hmf : ∀ (fn : Fn) (first cap : Array Value) (w : World), (Instr.makeFunc fn first cap).run Tryz.prog w = .ok (.func fn first cap) w := fun _ _ _ _ => rfl
  by_cases h6 : i < 6
  · have H := words_any 110 #[.pointer (some ⟨w.heap.size + 2, 0, none⟩)] (fun k => wd (onesB i) k) ((wr2 i w).alloc (.cells #[wv (stripe i)] 48)) (fun _ _ => by kernel_rfl)
      (fun k hk w1 hb => by
        show Calls _ _ _ _ (fun e w' => e = .returned (wv (wd (onesB i) k)) ∧ Below w1.heap.size w1 w')
        rw [onesB_low i k h6 hk]
        exact ones1_any k w1 _ _ (by rw [hb.cell (by simp [wr2]), show w.heap.size + 2 = (wr2 i w).heap.size by simp [wr2], World.cell?_alloc_at _ _ _ _ rfl]; rfl))
    go_enter Tryz.func93, Tryz.ntmps93
    go_wp2_with fail
    refine (striped_any i h6 _).mono ?_
    rintro e w' ⟨rfl, rfl⟩
    unfold wv at H ⊢
    go_wp2_with fail
    refine H.mono ?_
    rintro e w1 ⟨rfl, hb⟩
    clear H
    have hbl : Below w.heap.size w w1 := ((wr2_below i w).alloc (by rw [wr2_size]; omega) _).trans (hb.mono (by simp [wr2]; omega))
    obtain ⟨q0, q1, q2, q3, qf⟩ := res4 (w := w1) (b := w.heap.size + 1) ((hb.block _ (by simp [wr2])).trans ((Below.heap_alloc _ _ _ (by rw [wr2_size]; omega)).trans (wr2_r i w))) rfl
    clear hb
    go_wp2
    exact bodyPost_ret (v := .agg #[.int .u64 (wd (onesB i) 0).toNat, .int .u64 (wd (onesB i) 1).toNat, .int .u64 (wd (onesB i) 2).toNat, .int .u64 (wd (onesB i) 3).toNat]) (by simp [results, Tryz.results93, go_sem, q0, q1, q2, q3]) rfl
      ⟨rfl, (((hbl.setCell (le1 w) _).setCell (le1 w) _).setCell (le1 w) _).setCell (le1 w) _⟩
  · have H := words_any 111 #[.pointer (some ⟨w.heap.size, 0, none⟩)] (fun k => wd (onesB i) k) (wr2 i w) (fun _ _ => by kernel_rfl)
      (fun k hk w1 hb => by
        show Calls _ _ _ _ (fun e w' => e = .returned (wv (wd (onesB i) k)) ∧ Below w1.heap.size w1 w')
        rw [onesB_high i k h (by omega) hk]
        exact ones2_any k i hk h (by omega) w1 _ (by rw [hb.cell (by rw [wr2_size]; simp), cell_of_block (wr2_a i w)]; rfl))
    go_enter Tryz.func93, Tryz.ntmps93
    go_wp2_with fail
    refine H.mono ?_
    rintro e w1 ⟨rfl, hb⟩
    clear H
    obtain ⟨q0, q1, q2, q3, qf⟩ := res4 (w := w1) (b := w.heap.size + 1) ((hb.block _ (by rw [wr2_size]; omega)).trans (wr2_r i w)) rfl
    unfold wv
    go_wp2
    exact bodyPost_ret (v := .agg #[.int .u64 (wd (onesB i) 0).toNat, .int .u64 (wd (onesB i) 1).toNat, .int .u64 (wd (onesB i) 2).toNat, .int .u64 (wd (onesB i) 3).toNat]) (by simp [results, Tryz.results93, go_sem, q0, q1, q2, q3]) rfl
      ⟨rfl, (((((wr2_below i w).trans (hb.mono (by rw [wr2_size]; omega))).setCell (le1 w) _).setCell (le1 w) _).setCell (le1 w) _).setCell (le1 w) _⟩

theorem and127 (c : Int) (h0 : 0 ≤ c) (h1 : c < 9223372036854775808) : bits .and .i64 (wrap64 c) 127 = c % 128 := by
  have e : wrap64 c = c := by unfold wrap64; omega
  rw [e]
  exact bits_mask .i64 63 (by decide) (fun n h0 h1 => by rw [IntKind.wrap_i64]; omega) 7 (by decide) c h0 (by omega)
set_option maxHeartbeats 400000 in
theorem ret_int {k : IntKind} {a b : Int} (h : a = b) : Ending.returned (.int k a) = .returned (.int k b) := by rw [h]
theorem ret_bool {a b : Bool} (h : a = b) : Ending.returned (.bool a) = .returned (.bool b) := by rw [h]
theorem pop64_le (x : Nat) : pop64 x ≤ 64 := by
  unfold pop64
  have := List.countP_le_length (p := fun j => x.testBit j) (l := List.range 64)
  simpa using this
theorem bcell {w w1 : World} {B : Nat} (hb : Below B w w1) : (∀ b o, b < B → w1.cell? ⟨b, o, none⟩ = w.cell? ⟨b, o, none⟩) ∧ (∀ b o, b < B → w1.frozen? ⟨b, o, none⟩ = w.frozen? ⟨b, o, none⟩) :=
  ⟨fun b o h => hb.cell (p := ⟨b, o, none⟩) h, fun b o h => hb.frozen (p := ⟨b, o, none⟩) h⟩

/-- The half of a set. -/
def halfB (S : BitVec 256) (i : Int) (one : Bool) : BitVec 256 := if 0 ≤ i ∧ i < 8 then (if one then S &&& onesB i.toNat else S &&& ~~~(onesB i.toNat)) else 0
set_option maxHeartbeats 400000 in
theorem half_no (S : BitVec 256) (i : Int) (one : Bool) (h : i < 0 ∨ 8 ≤ i) (w : World) :
    Calls Tryz.prog 85 #[sv S, .int .i64 i, .bool one] w fun e w' => e = .returned (sv 0) ∧ Below w.heap.size w w' := by
  unfold sv wv
  by_cases h0 : i < 0
  · clear h
    go_enter Tryz.func85, Tryz.ntmps85
    go_wp2
    exact bodyPost_ret (v := .agg #[.int .u64 0, .int .u64 0, .int .u64 0, .int .u64 0]) (by simp [results, Tryz.results85, go_sem]) rfl ⟨rfl, below_alloc2 _ _ _⟩
  · have h1 : 8 ≤ i := by omega
    clear h
    go_enter Tryz.func85, Tryz.ntmps85
    go_wp2
    exact bodyPost_ret (v := .agg #[.int .u64 0, .int .u64 0, .int .u64 0, .int .u64 0]) (by simp [results, Tryz.results85, go_sem]) rfl ⟨rfl, below_alloc2 _ _ _⟩
set_option maxHeartbeats 800000 in
theorem half_one (S : BitVec 256) (i : Nat) (h : i < 8) (w : World) :
    Calls Tryz.prog 85 #[sv S, .int .i64 i, .bool true] w fun e w' => e = .returned (sv (S &&& onesB i)) ∧ Below w.heap.size w w' := by
  unfold sv wv
  go_enter Tryz.func85, Tryz.ntmps85
  go_wp2_with fail
  go_region_with (first
    | (go_at_call 93; refine (ones_any i h _).mono ?_; rintro e w1 ⟨rfl, hb1⟩; have hz1 : w.heap.size + 2 ≤ w1.heap.size := (by have := hb1.size; simp at this; omega); obtain ⟨hc1, hf1⟩ := bcell hb1; unfold sv wv)
    | (go_at_call 92; refine (and_any S (onesB i) _).mono ?_; rintro e w2 ⟨rfl, hb2⟩; obtain ⟨q0, q1, q2, q3, qf⟩ := res4 (w := w2) (b := w.heap.size + 1) ((hb2.block _ (by show _ < w1.heap.size; omega)).trans ((hb1.block _ (by simp)).trans (heap_alloc2_new _ _ _))) rfl; unfold sv wv))
  all_goals
    clear hc1 hf1
    go_wp2
    have hB : Below w.heap.size w w2 := by first | exact ((below_alloc2 w _ _).trans (hb1.mono (by simp; omega))).trans (hb2.mono (by show _ ≤ w1.heap.size; omega)) | exact ((below_alloc2 w _ _).drew.trans (hb1.mono (by simp; omega))).trans (hb2.mono (by show _ ≤ w1.heap.size; omega))
    exact bodyPost_ret (v := .agg #[.int .u64 (wd (S &&& onesB i) 0).toNat, .int .u64 (wd (S &&& onesB i) 1).toNat, .int .u64 (wd (S &&& onesB i) 2).toNat, .int .u64 (wd (S &&& onesB i) 3).toNat]) (by simp [results, Tryz.results85, go_sem, q0, q1, q2, q3]) rfl
      ⟨rfl, (((hB.setCell (le1 w) _).setCell (le1 w) _).setCell (le1 w) _).setCell (le1 w) _⟩

set_option maxHeartbeats 800000 in
theorem half_zero (S : BitVec 256) (i : Nat) (h : i < 8) (w : World) :
    Calls Tryz.prog 85 #[sv S, .int .i64 i, .bool false] w fun e w' => e = .returned (sv (S &&& ~~~(onesB i))) ∧ Below w.heap.size w w' := by
  unfold sv wv
  go_enter Tryz.func85, Tryz.ntmps85
  go_wp2_with fail
  go_region_with (first
    | (go_at_call 93; refine (ones_any i h _).mono ?_; rintro e w1 ⟨rfl, hb1⟩; have hz1 : w.heap.size + 2 ≤ w1.heap.size := (by have := hb1.size; simp at this; omega); obtain ⟨hc1, hf1⟩ := bcell hb1; unfold sv wv)
    | (go_at_call 73; refine (less_any S (onesB i) _).mono ?_; rintro e w2 ⟨rfl, hb2⟩; obtain ⟨q0, q1, q2, q3, qf⟩ := res4 (w := w2) (b := w.heap.size + 1) ((hb2.block _ (by show _ < w1.heap.size; omega)).trans ((hb1.block _ (by simp)).trans (heap_alloc2_new _ _ _))) rfl; unfold sv wv))
  all_goals
    clear hc1 hf1
    go_wp2
    have hB : Below w.heap.size w w2 := by first | exact ((below_alloc2 w _ _).trans (hb1.mono (by simp; omega))).trans (hb2.mono (by show _ ≤ w1.heap.size; omega)) | exact ((below_alloc2 w _ _).drew.trans (hb1.mono (by simp; omega))).trans (hb2.mono (by show _ ≤ w1.heap.size; omega))
    exact bodyPost_ret (v := .agg #[.int .u64 (wd (S &&& ~~~(onesB i)) 0).toNat, .int .u64 (wd (S &&& ~~~(onesB i)) 1).toNat, .int .u64 (wd (S &&& ~~~(onesB i)) 2).toNat, .int .u64 (wd (S &&& ~~~(onesB i)) 3).toNat]) (by simp [results, Tryz.results85, go_sem, q0, q1, q2, q3]) rfl
      ⟨rfl, (((hB.setCell (le1 w) _).setCell (le1 w) _).setCell (le1 w) _).setCell (le1 w) _⟩

end Go.Proofs.YtdfllifjbabfjaaGreatDoor
