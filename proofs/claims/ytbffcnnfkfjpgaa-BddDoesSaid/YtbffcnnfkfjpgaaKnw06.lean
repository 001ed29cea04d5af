/- A diagram to start with; the document's example. -/
import Derived.Test.YtbffcnnfkfjpgaaOps06
import Derived.Test.YtbffcnnfkfjpgaaRsz06
namespace Go.Proofs.Ytbffcnnfkfjpgaa
open Go.RowKit Go.Joins

/-- With enough room no error is told. -/
theorem Out.enough {n k : Nat} {l : Int} {room : Nat} {S T : St} {F : (Nat → Bool) → Bool} {id e : Int} (h : Out n k l room S F T id e) (hr : cnt S + 2 ^ k ≤ room) : e = 0 ∧ 0 ≤ lvl T id ∧ ∀ c, says T c id = F c := by
  rcases h.res with ⟨h1, h2, -, h4⟩ | ⟨-, -, h3⟩
  · exact ⟨h1, h2, h4⟩
  · have := h.few; omega
theorem allB_bit6 (n p : Nat) (hn : n ≤ 8) : (allB n).getLsbD p = decide (p < 2 ^ n) := by
  unfold allB
  rw [bvOf_bit]
  by_cases h : p < 2 ^ n
  · have := two_eight hn
    have h2 : p < 256 := by omega
    simp [h, h2]
  · simp [h]
theorem fit_low {X : BitVec 256} {n : Nat} (hn : n ≤ 8) (h : X &&& ~~~(allB n) = 0) (p : Nat) (hp : 2 ^ n ≤ p) : X.getLsbD p = false := by
  by_cases h2 : p < 256
  · have := (less_zero X (allB n)).1 h p h2
    rw [allB_bit6 n p hn, decide_eq_false (by omega)] at this
    simpa using this
  · exact BitVec.getLsbD_of_ge _ _ (by omega)
theorem low_fit {X : BitVec 256} {n : Nat} (hn : n ≤ 8) (h : ∀ p, 2 ^ n ≤ p → X.getLsbD p = false) : X &&& ~~~(allB n) = 0 := by
  refine (less_zero X (allB n)).2 fun p _ => ?_
  rw [allB_bit6 n p hn]
  by_cases hlt : p < 2 ^ n
  · simp [hlt]
  · rw [h p (by omega)]; rfl
/-- An id that is used and says now this, now that, is a node's. -/
theorem node_of_says {S : St} {id : Int} (h0 : 0 ≤ lvl S id) {c d : Nat → Bool} (hc : says S c id = true) (hd : says S d id = false) : 1 < id := by
  rcases lvl_kind h0 with he | ⟨j, m, rfl, -, -⟩
  · rcases he with rfl | rfl
    · rw [says_zero] at hc; cases hc
    · rw [says_one] at hd; cases hd
  · omega
/-- An id that says yes always is 1. -/
theorem one_of_says {S : St} (hR : RSt S) {id : Int} (h0 : 0 ≤ lvl S id) (h : ∀ c, says S c id = true) : id = 1 :=
  (says_eq hR h0 (by rw [lvl_end (.inr rfl)]; decide)).1 fun c => by rw [h c, says_one]
def x10 : BitVec 256 := 10#256
theorem x10_v : sv x10 = .agg #[.int .u64 10, .int .u64 0, .int .u64 0, .int .u64 0] := by kernel_rfl
theorem x10_fit : x10 &&& ~~~(allB 2) = 0 := by kernel_rfl
theorem ord01 : OrdOk [0, 1] := ⟨by decide, by decide⟩
theorem x10_size : sizeB (setF [0, 1] x10) 2 2 = 1 := by kernel_rfl
def c10 : Nat → Bool := fun _ => true
def c00 : Nat → Bool := fun _ => false
theorem x10_yes : setF [0, 1] x10 c10 = true := by kernel_rfl
theorem x10_no : setF [0, 1] x10 c00 = false := by kernel_rfl
set_option maxHeartbeats 2000000 in
set_option maxRecDepth 100000 in
theorem knows6_any (w : World) : Calls Try.prog 7 #[] w fun e w' => e = .returned (.bool true) ∧ Below w.heap.size w w' := by
  have hB0 := below_alloc1 w (.cells #[.int .i64 0, .int .i64 1] 3 (0, 0))
  have hbx := heap_alloc_new w (.cells #[.int .i64 0, .int .i64 1] 3 (0, 0))
  have hz : IntsAt (w.alloc (.cells #[.int .i64 0, .int .i64 1] 3 (0, 0))) (w.alloc (.cells #[.int .i64 0, .int .i64 1] 3 (0, 0))).heap.size (.slice (some ⟨w.heap.size, 0, none⟩) 2 2) (ofN [0, 1]) :=
    ⟨some ⟨w.heap.size, 0, none⟩, 2, rfl, by decide, fun _ => ⟨w.heap.size, 0, rfl, by simp, fun j x hj => by
      match j, hj with
      | 0, hj => simp [ofN] at hj; subst hj; rw [cell_of_block hbx]; rfl
      | 1, hj => simp [ofN] at hj; subst hj; rw [cell_of_block hbx]; rfl⟩⟩
  have hE := fun w => eq4_refl 10 0 0 0 w
  have HN := bnew_yes _ _ [0, 1] 20000 hz ord01 (by decide) (by decide)
  clear hz hbx
  go_enter Try.func7, Try.ntmps7
  go_wp2_with fail
  refine HN.mono ?_
  rintro e w1 ⟨bb, ab, bm, ov, rfl, h1, hb1⟩
  have hb1' : Below w.heap.size w w1 := hB0.trans (hb1.mono hB0.size)
  have hlow := hB0.size
  have HO := bof_yes h1 x10 x10_fit
  rw [x10_v] at HO
  clear HN hb1
  go_wp2_with fail
  refine HO.mono ?_
  rintro e w2 ⟨v2, full2, T, f, er, rfl, h2, hb2, -, hO⟩
  obtain ⟨rfl, f0, fs⟩ := hO.1.enough (by decide)
  have hc2 := hO.1.few
  have hb2' := hb1'.trans (hb2.mono hlow)
  have hf1 : (1 : Int) < f := node_of_says f0 (c := c10) (d := c00) (by rw [fs]; exact x10_yes) (by rw [fs]; exact x10_no)
  have HS := bset_any h2 f f0
  rw [setOf_eq ord01 (fit_low (by decide) x10_fit) fs, x10_v] at HS
  clear HO hO h1 hb1' hb2
  go_wp2_with fail
  refine HS.mono ?_
  rintro e w3 ⟨rfl, hb3⟩
  have h3 := (h2.below hb3).below (below_alloc1 w3 (.cells #[.int .u64 10, .int .u64 0, .int .u64 0, .int .u64 0] 25 (0, 0)))
  have hs3 := heap_alloc_new w3 (.cells #[.int .u64 10, .int .u64 0, .int .u64 0, .int .u64 0] 25 (0, 0))
  have hb3' := (hb2'.trans (hb3.mono hb2'.size)).alloc (hb2'.trans (hb3.mono hb2'.size)).size (.cells #[.int .u64 10, .int .u64 0, .int .u64 0, .int .u64 0] 25 (0, 0))
  have HN := bnot_any h3 f f0
  have hz2 := hb2'.size
  clear HS h2 hb2' hb3
  go_wp2_with fail
  refine HN.mono ?_
  rintro e w4 ⟨v4, full4, U, n, er, rfl, h4, hb4, hk4, hO4⟩
  obtain ⟨rfl, n0, ns⟩ := hO4.enough (by have : (2 : Nat) ^ [0, 1].length = 4 := rfl; have : cnt ([] : St) = 0 := rfl; omega)
  have hc4 := hO4.few
  have hs4 := hk4.cells _ _ _ _ hs3 (by decide) (by decide)
  have hb4' := hb3'.trans (hb4.mono hlow)
  have f1 : 0 ≤ lvl U f := by rw [hO4.ext.lvl f0]; exact f0
  have fs1 : ∀ c, says U c f = setF [0, 1] x10 c := fun c => by rw [hO4.ext.says h3.rst.vst c f0]; exact fs c
  have ns1 : ∀ c, says U c n = !(setF [0, 1] x10 c) := fun c => by rw [ns c]; unfold iteF; rw [fs c, says_zero, says_one]; cases setF [0, 1] x10 c <;> rfl
  have HR := bor_any h4 f n f1 n0
  clear HN hO4 h3 hb3' hb4 hs3 ns fs f0
  go_wp2_with fail
  refine HR.mono ?_
  rintro e w5 ⟨v5, full5, V, r, er, rfl, h5, hb5, hk5, hO5⟩
  obtain ⟨rfl, r0, rsy⟩ := hO5.enough (by have : (2 : Nat) ^ [0, 1].length = 4 := rfl; have : cnt ([] : St) = 0 := rfl; omega)
  obtain rfl : r = 1 := one_of_says h5.rst r0 fun c => by
    rw [rsy c]
    unfold iteF
    rw [fs1 c, ns1 c, says_one]
    cases setF [0, 1] x10 c <;> rfl
  have hs5 := hk5.cells _ _ _ _ hs4 (by decide) (by decide)
  have hb5' := hb4'.trans (hb5.mono hlow)
  have f2 : 0 ≤ lvl V f := by rw [hO5.ext.lvl f1]; exact f1
  have hsz : sizeB (fun c => says V c f) 2 2 = 1 := by
    have e : (fun c => says V c f) = setF [0, 1] x10 := funext fun c => by rw [hO5.ext.says h4.rst.vst c f1]; exact fs1 c
    rw [e]; exact x10_size
  have HZ := bsize_any h5 f f2
  rw [show [0, 1].length = 2 from rfl, hsz] at HZ
  obtain ⟨q0, q1, q2, q3, -⟩ := now4 hs5 rfl
  clear HR hO5 h4 hb4' hb5 hs4 hs5 fs1 ns1 rsy r0 hsz hc2 hc4
  go_wp2_with fail
  refine HZ.mono ?_
  rintro e w6 ⟨rfl, hb6⟩
  clear HZ
  go_wp2
  go_ret
  exact ⟨rfl, hb5'.trans (hb6.mono hb5'.size)⟩
/-- The start of each statement. -/
def StartDone (w : World) (o : List Nat) (e : Ending) (w' : World) : Prop :=
  ∃ bb ab bm ov, e = .returned (.tuple #[.pointer (some ⟨bb, 0, none⟩), .bool true]) ∧ BdAt w' w.heap.size bb ab bm ov (.slice none 0 0) 20000 0 [] o ∧ Below w.heap.size w w'
theorem start6_no (w : World) (v : Value) (zs : List Int) (hz : IntsAt w w.heap.size v zs) (ho : ¬ OrdI zs) :
    Calls Try.prog 8 #[v] w fun e w' => e = .returned (.tuple #[.pointer none, .bool true]) ∧ Below w.heap.size w w' := by
  have HN := bnew_no w v zs 20000 hz ho
  have HO := fun w1 (hb : Below w.heap.size w w1) => rorder_any w1 v zs ((hz.below hb).more hb.size)
  rw [decide_eq_false ho] at HO
  obtain ⟨A, c, rfl, -, -⟩ := hz
  go_enter Try.func8, Try.ntmps8
  go_wp2_with fail
  refine HN.mono ?_
  rintro e w1 ⟨rfl, hb1⟩
  have HO := HO w1 hb1
  go_wp2_with fail
  refine HO.mono ?_
  rintro e w2 ⟨rfl, hb2⟩
  go_wp2
  go_ret2
  exact ⟨rfl, hb1.trans (hb2.mono hb1.size)⟩
theorem start6_yes (w : World) (v : Value) (o : List Nat) (hz : IntsAt w w.heap.size v (ofN o)) (ho : OrdOk o) (h8 : o.length ≤ 8) :
    Calls Try.prog 8 #[v] w (StartDone w o) := by
  have HN := bnew_yes w v o 20000 hz ho h8 (by omega)
  have HO := fun w1 (hb : Below w.heap.size w w1) => rorder_any w1 v (ofN o) ((hz.below hb).more hb.size)
  rw [decide_eq_true (nat_ordI ho h8)] at HO
  obtain ⟨A, c, rfl, -, -⟩ := hz
  go_enter Try.func8, Try.ntmps8
  go_wp2_with fail
  refine HN.mono ?_
  rintro e w1 ⟨bb, ab, bm, ov, rfl, h1, hb1⟩
  have HO := HO w1 hb1
  go_wp2_with fail
  refine HO.mono ?_
  rintro e w2 ⟨rfl, hb2⟩
  go_wp2
  go_ret2
  exact ⟨bb, ab, bm, ov, rfl, h1.below hb2, hb1.trans (hb2.mono hb1.size)⟩
end Go.Proofs.Ytbffcnnfkfjpgaa
