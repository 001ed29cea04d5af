/- The document's answers of layer 8: numbers and bits, rows of members. The document's own Row of layer 11. The statements of layer 11, walked over what the package answers: TaggedRows. Prime rows of a spec, plain: what is within, what holds, what is prime; each row within is held by a prime one; the row of all; all primes cover; what a row grows to. The document's own answers of layer 9: Of, Within, without. The document's own without of layer 9. The document's own Prime of layer 9. What Points of the package cube answers for a cube that is right. permitted and Points of the package spec, for every spec and all rows. Covers of the package spec, for every spec and all rows. The document's own May, Right and Covers of layer 4, for every spec and all rows. The document's own Within and Holds of layer 10. The document's own Holds of layers 2 and 10; power. Rows of all rows, by their keys; what a row grows to; all primes cover. A slice of cubes in memory; the document's own All and Same of layer 9. The document's own Holds of rows, power, Rows of layer 10. The document's own Rows of layer 10. The document's own All and Same of layer 10. What a row grows to is prime; all primes cover; of one output they are the primes of its set. The document's own Grow of layer 10. -/
import Derived.Test.YtehpccanjlaokaaGreatGQ06
import Derived.Test.YtehpccanjlaokaaGreatGQ04
import Derived.Test.YtehpccanjlaokaaGreatGQ07
import Derived.Test.YtehpccanjlaokaaGreatGQ05
import Derived.Maps.AppendAt
import Derived.Deep.RegionHeld3
import Derived.Deep.CutRange
import Derived.Deep.AppendLies
namespace Go.Proofs.YtehpccanjlaokaaGreat
open Go.RowKit Go.Joins

/-- Numbers as the slices hold them. -/
def nI (o : List Nat) : List Int := o.map fun i : Nat => (i : Int)
theorem nI_len (o : List Nat) : (nI o).length = o.length := by unfold nI; simp
theorem nI_get {o : List Nat} {j y : Nat} (h : o[j]? = some y) : (nI o)[j]? = some (y : Int) := by
  unfold nI; rw [List.getElem?_map, h]; rfl
theorem nI_of {o : List Nat} {j : Nat} {y : Int} (h : (nI o)[j]? = some y) : ∃ i : Nat, y = i ∧ o[j]? = some i := by
  unfold nI at h
  rw [List.getElem?_map] at h
  obtain ⟨i, hi, rfl⟩ := Option.map_eq_some_iff.1 h
  exact ⟨i, rfl, hi⟩
/-- All items of two members. -/
theorem two24 {k : Nat} (h : k ≤ 24) : 2 ^ k ≤ 16777216 := Nat.le_trans (Nat.pow_le_pow_right (by decide) h) (by decide : (2 : Nat) ^ 24 ≤ 16777216)
/-- A row of numbers that the call owns, as a slice that reads so. -/
theorem own_nI {w : World} {B n : Nat} {v : Value} {o : List Nat} (h : w.ownsRow B 3 1 v n (intsV o)) : IntsAt w w.heap.size v (nI o) := by
  have hn : o.length = n := by have := h.1; unfold intsV at this; rw [List.length_map] at this; omega
  rcases h.2 with ⟨rfl, h0⟩ | ⟨g, cap, cur, rfl, hg, hgg, hnc, hcm, hcs, htake⟩
  · have : o = [] := List.eq_nil_of_length_eq_zero (by omega)
    subst this
    exact ⟨none, 0, rfl, by decide, fun h => absurd h (by decide)⟩
  · rw [Nat.mul_one] at htake
    have hmx : maxLen = 9223372036854775807 := rfl
    refine ⟨some ⟨g, 0, none⟩, cap, by rw [nI_len, hn], by rw [nI_len]; omega, fun _ => ⟨g, 0, rfl, size_of_block hgg, fun j x hj => ?_⟩⟩
    obtain ⟨y, rfl, hy⟩ := nI_of hj
    have hjl := (List.getElem?_eq_some_iff.1 hy).1
    rw [Nat.zero_add, cell_of_block hgg]
    have h1 : (cur.toList.take n)[j]? = some (.int .i64 y) := by rw [htake]; unfold intsV; rw [List.getElem?_map, hy]; rfl
    rw [List.getElem?_take, if_pos (by omega)] at h1
    simpa using h1
theorem one_news {w : World} {x : Int} {T : TypeId} (j : Nat) (u : Value) (hj : [Value.int .i64 x][j]? = some u) : (w.alloc (.cells #[.int .i64 x] T (0, 0))).cell? ((⟨w.heap.size, 0, none⟩ : Addr).add j) = some u := by
  match j, hj with
  | 0, hj => rw [Addr.add_lit, cell_of_block (heap_alloc_new _ _)]; exact hj
theorem one_cell {x : Int} (u : Value) (hu : u ∈ [Value.int .i64 x]) : u.oneCell' = true := by
  rw [List.mem_singleton.1 hu]; rfl
set_option maxHeartbeats 1000000 in
set_option maxRecDepth 100000 in
/-- Are two rows alike? -/
theorem rsame8_any (w : World) (v u : Value) (xs ys : List Int) (hx : IntsAt w w.heap.size v xs) (hy : IntsAt w w.heap.size u ys) :
    Calls Tryz.prog 12 #[v, u] w fun e w' => e = .returned (.bool (decide (xs = ys))) ∧ Below w.heap.size w w' := by
  obtain ⟨A, c, rfl, hlx, hcx⟩ := hx
  obtain ⟨A2, c2, rfl, hly, hcy⟩ := hy
  by_cases hl : xs.length = ys.length
  · have hd : (((xs.length : Nat) : Int) != ((ys.length : Nat) : Int)) = false := by rw [hl]; simp
    have hlH := Lib.hid hl
    clear hl
    go_enter Tryz.func12, Tryz.ntmps12
    go_wp2
    clear hd
    go_loopw [5] (fun t wr => ∃ k : Nat, k ≤ xs.length ∧ t = .int .i64 k ∧ Hid (xs.take k = ys.take k) ∧ Below w.heap.size w wr) (fun t _ => xs.length - (intOf t).toNat)
    case atStart => exact ⟨0, by omega, rfl, Lib.hid (by simp), Below.refl _ _⟩
    case round =>
      obtain ⟨k, hk, rfl, hH, hb⟩ := hrel
      by_cases hlt : k < xs.length
      · have hlt' : k < ys.length := by have := hlH.out; omega
        obtain ⟨b, off, rfl, hB, hc⟩ := hcx (by omega)
        obtain ⟨b', off', rfl, hB', hc'⟩ := hcy (by omega)
        obtain ⟨x, hx⟩ : ∃ x, xs[k]? = some x := ⟨_, List.getElem?_eq_getElem hlt⟩
        obtain ⟨y, hy⟩ : ∃ y, ys[k]? = some y := ⟨_, List.getElem?_eq_getElem hlt'⟩
        have q0 := fun X : After wr => After.cell X ((hb.cell (p := ⟨b, off + k, none⟩) hB).trans (hc k x hx))
        have q1 := fun X : After wr => After.cell X ((hb.cell (p := ⟨b', off' + k, none⟩) hB').trans (hc' k y hy))
        have b1 : (0 : Int) ≤ (k : Int) := by omega
        have b2 : (k : Int) < (xs.length : Int) := by omega
        have b3 : (k : Int) < (ys.length : Int) := by omega
        have hxH := Lib.hid hx
        have hyH := Lib.hid hy
        clear hc hc' hcx hcy hx hy
        by_cases hxy : x = y
        · have hne : (x != y) = false := by rw [hxy]; simp
          have hst : Hid (xs.take (k + 1) = ys.take (k + 1)) := Lib.hid (by rw [List.take_add_one, List.take_add_one, hH.out, hxH.out, hyH.out, hxy])
          clear hxy hH
          go_wp2_with fail
          refine wp_region_after (by kernel_rfl) (by kernel_rfl) ?_
          repeat (first | go_big_quiet_step (fail))
          refine wpQuiet_nil ?_
          intro z
          have hbz := hb.trans (z.2.mono hb.size)
          clear q0 q1
          go_wp2
          go_roundw
          case rel => exact ⟨k + 1, by omega, by go_num, hst, hbz⟩
          case measure => simp [intOf]; omega
        · have hne : (x != y) = true := by rw [bne_iff_ne]; exact hxy
          have hR : Hid (decide (xs = ys) = false) := Lib.hid (decide_eq_false fun e => hxy (by
            have h1 := hxH.out
            rw [e, hyH.out] at h1
            injection h1 with h1
            exact h1.symm))
          clear hxy hH
          go_wp2_with fail
          refine wp_region_after (by kernel_rfl) (by kernel_rfl) ?_
          repeat (first | go_big_quiet_step (fail))
          refine wpQuiet_nil ?_
          intro z
          have hbz := hb.trans (z.2.mono hb.size)
          clear q0 q1
          go_wp2
          go_ret
          exact ⟨by rw [hR.out]; rfl, hbz⟩
      · have hR : Hid (decide (xs = ys) = true) := Lib.hid (decide_eq_true (by
          have h1 := hH.out
          rw [List.take_of_length_le (by omega), List.take_of_length_le (by have := hlH.out; omega)] at h1
          exact h1))
        clear hH
        go_wp2
        go_ret
        exact ⟨by rw [hR.out]; rfl, hb⟩
  · have hd : (((xs.length : Nat) : Int) != ((ys.length : Nat) : Int)) = true := by rw [bne_iff_ne]; omega
    have hR : Hid (decide (xs = ys) = false) := Lib.hid (decide_eq_false fun e => hl (by rw [e]))
    clear hl
    go_enter Tryz.func12, Tryz.ntmps12
    go_wp2
    go_ret
    exact ⟨by rw [hR.out]; rfl, Below.refl _ _⟩
end Go.Proofs.YtehpccanjlaokaaGreat
namespace Go.Proofs.YtehpccanjlaokaaGreat
open Go.RowKit Go.Joins

def rowZ11 : Value := .agg #[.int .u8 0, .int .u8 0, .int .u8 0]
end Go.Proofs.YtehpccanjlaokaaGreat
namespace Go.Proofs.YtehpccanjlaokaaGreat
open Go.RowKit Go.Joins

/-- What the package answers. -/
def MemberT : Prop := ∀ (m v o : BitVec 8) (w : World), Calls Tryz.prog 21 #[.agg #[bvv m, bvv v, bvv o]] w fun e w' => e = .returned (.int .i64 (memB m v o)) ∧ Below w.heap.size w w'
def RowT : Prop := ∀ (k : Int) (w : World), Calls Tryz.prog 20 #[.int .i64 k] w fun e w' => e = .returned (.tuple #[if belB k = true then .agg #[bvv (rmM k.toNat), bvv (rmV k.toNat), bvv (rmO k.toNat)] else rowZ11, .int .i64 (if belB k = true then 0 else 1)]) ∧ Below w.heap.size w w'
def Knows11 : Prop := ∀ w : World, Calls Tryz.prog 8 #[] w fun e w' => e = .returned (.bool true) ∧ Below w.heap.size w w'
theorem trow_yes (HR : RowT) {k : Int} (h : belB k = true) (w : World) : Calls Tryz.prog 20 #[.int .i64 k] w fun e w' => e = .returned (.tuple #[.agg #[bvv (rmM k.toNat), bvv (rmV k.toNat), bvv (rmO k.toNat)], .int .i64 0]) ∧ Below w.heap.size w w' := by
  have := HR k w
  rwa [if_pos h, if_pos h] at this
end Go.Proofs.YtehpccanjlaokaaGreat
namespace Go.Proofs.YtehpccanjlaokaaGreat
open Go.RowKit

/-- Is a row within a spec? -/
def rowIn (s : Sp) (x : Rw) : Bool := rwB x s.i s.on.length && (List.range s.may.length).all fun j => !x.o.getLsbD j || inB (s.may.getD j 0) s.i x.m x.v
theorem rowIn_iff {s : Sp} {x : Rw} : rowIn s x = true ↔ rwB x s.i s.on.length = true ∧ ∀ j, j < s.may.length → x.o.getLsbD j = true → inB (s.may.getD j 0) s.i x.m x.v = true := by
  unfold rowIn
  rw [Bool.and_eq_true, range_all]
  constructor
  · rintro ⟨h1, h2⟩
    refine ⟨h1, fun j hj hb => ?_⟩
    have := h2 j hj
    rw [hb] at this
    simpa using this
  · rintro ⟨h1, h2⟩
    refine ⟨h1, fun j hj => ?_⟩
    cases hb : x.o.getLsbD j
    · rfl
    · rw [h2 j hj hb]; rfl
def dropR (x : Rw) (i : Nat) : Rw := ⟨drM x.m i, drM x.v i, x.o⟩
def addR (x : Rw) (j : Nat) : Rw := ⟨x.m, x.v, x.o ||| BitVec.twoPow 8 j⟩
theorem addR_bit (x : Rw) (j q : Nat) : (addR x j).o.getLsbD q = (x.o.getLsbD q || (decide (q < 8) && decide (q = j))) := by
  unfold addR
  simp only
  rw [BitVec.getLsbD_or, BitVec.getLsbD_twoPow]
  congr 1
  by_cases h : q < 8
  · by_cases e : q = j
    · subst e; simp [h]
    · have : ¬ j = q := fun h => e h.symm
      simp [e, this]
  · simp [h]
    intro _; omega
/-- Is a row prime? No literal can be left out, no output be added. -/
def primR (s : Sp) (x : Rw) : Bool :=
  rowIn s x && (List.range s.i.toNat).all (fun i => !(x.m.getLsbD i && rowIn s (dropR x i))) && (List.range s.on.length).all fun j => !(!x.o.getLsbD j && rowIn s (addR x j))
theorem primR_iff {s : Sp} {x : Rw} : primR s x = true ↔ rowIn s x = true ∧ (∀ i, i < s.i.toNat → x.m.getLsbD i = true → rowIn s (dropR x i) = false) ∧ ∀ j, j < s.on.length → x.o.getLsbD j = false → rowIn s (addR x j) = false := by
  unfold primR
  rw [Bool.and_eq_true, Bool.and_eq_true, range_all, range_all]
  constructor
  · rintro ⟨⟨h1, h2⟩, h3⟩
    refine ⟨h1, fun i hi hb => ?_, fun j hj hb => ?_⟩
    · have := h2 i hi
      rw [hb] at this
      simpa using this
    · have := h3 j hj
      rw [hb] at this
      simpa using this
  · rintro ⟨h1, h2, h3⟩
    refine ⟨⟨h1, fun i hi => ?_⟩, fun j hj => ?_⟩
    · cases hb : x.m.getLsbD i
      · rfl
      · rw [h2 i hi hb]; rfl
    · cases hb : x.o.getLsbD j
      · rw [h3 j hj hb]; rfl
      · rfl
theorem rowin_right {s : Sp} {x : Rw} (h : rowIn s x = true) : rwB x s.i s.on.length = true := (rowIn_iff.1 h).1
theorem rwB_iff {x : Rw} {i : Int} {k : Nat} : rwB x i k = true ↔ x.o ≠ 0 ∧ (∀ q, k ≤ q → x.o.getLsbD q = false) ∧ rightB x.m x.v i = true := by
  unfold rwB outsB
  rw [Bool.and_eq_true, Bool.and_eq_true, decide_eq_true_iff, decide_eq_true_iff, shr_zero, and_assoc]
theorem prim_in {s : Sp} {x : Rw} (h : primR s x = true) : rowIn s x = true := (primR_iff.1 h).1
end Go.Proofs.YtehpccanjlaokaaGreat
namespace Go.Proofs.YtehpccanjlaokaaGreat
open Go.RowKit Go.Joins

/-- May a set and a number be asked of? -/
def ofB (S : BitVec 256) (n : Int) : Bool := decide (0 ≤ n ∧ n ≤ 8) && decide (S &&& ~~~(allB n.toNat) = 0)
end Go.Proofs.YtehpccanjlaokaaGreat
namespace Go.Proofs.YtehpccanjlaokaaGreat
open Go.RowKit Go.Joins

end Go.Proofs.YtehpccanjlaokaaGreat
namespace Go.Proofs.YtehpccanjlaokaaGreat
open Go.RowKit Go.Joins

end Go.Proofs.YtehpccanjlaokaaGreat
namespace Go.Proofs.YtehpccanjlaokaaGreat
open Go.RowKit Go.Joins

abbrev sb (S : BitVec 256) : Obj := .cells (sa S) 51
set_option maxHeartbeats 1000000 in
set_option maxRecDepth 1000000 in
theorem cpoints_yes {m v : BitVec 8} {n : Nat} (h : rightB m v n = true) (w : World) :
    Calls Tryz.prog 94 #[cv m v, .int .i64 n] w fun e w' => e = .returned (.tuple #[sv (cpts m v n n), .int .i64 0]) ∧ Below w.heap.size w w' := by
  have HR := fun w => right_yes h w
  have hn : n ≤ 8 := by have := ((rightB_iff m v n).1 h).2.1; omega
  have HA := fun w => all_any n hn w
  have hz := cpts_zero m v n
  clear h
  unfold cv sv bvv wv at *
  go_enter Tryz.func94, Tryz.ntmps94
  go_wp2_with fail
  refine (HR _).mono ?_
  rintro e w1 ⟨rfl, hb1⟩
  have hB : Below w.heap.size w w1 := (below_alloc2 w _ _).trans (hb1.mono (by simp; omega))
  have ha := (keep_blk hb1 (heap_alloc2_old _ _ _) : w1.heap[w.heap.size]? = some (cb m v))
  have hc := (keep_blk hb1 (heap_alloc2_new _ _ _) : w1.heap[w.heap.size + 1]? = some (.cells #[Value.int IntKind.u64 0, Value.int IntKind.u64 0, Value.int IntKind.u64 0, Value.int IntKind.u64 0] 51 (0, 0)))
  clear hb1 HR
  go_wp2_with fail
  refine (HA _).mono ?_
  rintro e w2 ⟨rfl, hb2⟩
  have hB2 : Below w.heap.size w w2 := hB.trans (hb2.mono hB.size)
  have ha2 := keep_blk hb2 ha
  have hc2 := keep_blk hb2 hc
  have hs2 := size_of_block hc2
  clear HA ha hc hB hb2
  go_wp2
  go_loopw [20] (fun i wr => ∃ k : Nat, k ≤ n ∧ i = .int .i64 k ∧ wr.heap[w2.heap.size]? = some (sb (cpts m v n k)) ∧ wr.heap[w.heap.size]? = some (cb m v) ∧ wr.heap[w.heap.size + 1]? = some (sb 0) ∧ Below w.heap.size w wr) (fun i _ => n - (intOf i).toNat)
  case atStart =>
    refine ⟨0, by omega, rfl, ?_, ?_, ?_, hB2.alloc hB2.size _⟩
    · rw [hz]; exact heap_alloc_new _ _
    · exact (Below.heap_alloc _ _ _ (by omega)).trans ha2
    · exact (Below.heap_alloc _ _ _ hs2).trans hc2
  case round =>
    clear hz ha2 hc2 hB2
    obtain ⟨k, hk, rfl, hblk, hbox, hres, hb⟩ := hrel
    obtain ⟨a0, a1, -⟩ := now2 hbox rfl
    obtain ⟨s0, s1, s2, s3, sf⟩ := now4 hblk rfl
    unfold wv at s0 s1 s2 s3
    by_cases hlt : k < n
    · have hm := Lib.hid (rfl : m.getLsbD k = m.getLsbD k)
      cases hmk : m.getLsbD k
      · have HB := fun w => bit_no m k (by omega) hmk w
        have hst := Lib.hid (cpts_skip m v n k hmk)
        unfold bvv at HB
        clear hmk hm
        go_wp2_with (go_at_call 127; refine (HB _).mono ?_; rintro e w' ⟨rfl, rfl⟩)
        go_roundw
        case rel => exact ⟨k + 1, by omega, by go_num, by rw [hst.out]; exact hblk, hbox, hres, hb⟩
        case measure => simp [intOf]; omega
      · have HB := fun w => bit_yes m k (by omega) hmk w
        have hst := Lib.hid (cpts_step m v n k hn (by omega) hmk)
        have HH := fun w => half_any (cpts m v n k) k (v.getLsbD k) w
        rw [hst.out] at HH
        unfold sv wv at HH
        unfold bvv at HB
        clear hmk hm hst
        go_wp2_with (go_at_call 127; refine (HB _).mono ?_; rintro e w' ⟨rfl, rfl⟩)
        obtain ⟨A0, A1, -⟩ := box2 hbox rfl
        obtain ⟨S0, S1, S2, S3, SF⟩ := box4 hblk rfl
        unfold wv at S0 S1 S2 S3
        clear a0 a1 s0 s1 s2 s3 sf
        cases hvk : v.getLsbD k
        · have HB := fun w => bit_no v k (by omega) hvk w
          rw [hvk] at HH
          unfold bvv at HB
          clear hvk
          refine wp_region_after_tail 8 (by kernel_rfl) (by kernel_rfl) ?_
          simp only [List.take_succ_cons, List.take_zero, List.drop_succ_cons, List.drop_zero]
          repeat (first | go_big_quiet_step ((first | (go_at_call 127; exact Calls.after_same (HB _)) | (go_at_call 111; exact Calls.after_of (HH _)))))
          refine wpQuiet_nil ?_
          intro x
          go_wp2
          go_roundw
          case rel => exact ⟨k + 1, by omega, by go_num, put4 (After.same x hblk), keep_set4 (by omega) (After.same x hbox), keep_set4 (by omega) (After.same x hres), below4 (by omega) (hb.trans (x.2.mono hb.size))⟩
          case measure => simp [intOf]; omega
        · have HB := fun w => bit_yes v k (by omega) hvk w
          rw [hvk] at HH
          unfold bvv at HB
          clear hvk
          refine wp_region_after_tail 8 (by kernel_rfl) (by kernel_rfl) ?_
          simp only [List.take_succ_cons, List.take_zero, List.drop_succ_cons, List.drop_zero]
          repeat (first | go_big_quiet_step ((first | (go_at_call 127; exact Calls.after_same (HB _)) | (go_at_call 111; exact Calls.after_of (HH _)))))
          refine wpQuiet_nil ?_
          intro x
          go_wp2
          go_roundw
          case rel => exact ⟨k + 1, by omega, by go_num, put4 (After.same x hblk), keep_set4 (by omega) (After.same x hbox), keep_set4 (by omega) (After.same x hres), below4 (by omega) (hb.trans (x.2.mono hb.size))⟩
          case measure => simp [intOf]; omega
    · have e : k = n := by omega
      subst e
      obtain ⟨r0, r1, r2, r3, rf⟩ := res4 hres rfl
      clear hblk hbox hres
      go_wp2
      exact bodyPost_ret (v := .tuple #[.agg #[.int .u64 (wd (cpts m v k k) 0).toNat, .int .u64 (wd (cpts m v k k) 1).toNat, .int .u64 (wd (cpts m v k k) 2).toNat, .int .u64 (wd (cpts m v k k) 3).toNat], .int .i64 0]) (by simp [results, Tryz.results94, go_sem, r0, r1, r2, r3]) rfl
        ⟨rfl, below4 (le1 w) hb⟩
end Go.Proofs.YtehpccanjlaokaaGreat
namespace Go.Proofs.YtehpccanjlaokaaGreat
open Go.RowKit Go.Joins

end Go.Proofs.YtehpccanjlaokaaGreat
namespace Go.Proofs.YtehpccanjlaokaaGreat
open Go.RowKit Go.Joins

end Go.Proofs.YtehpccanjlaokaaGreat
namespace Go.Proofs.YtehpccanjlaokaaGreat
open Go.RowKit Go.Joins

end Go.Proofs.YtehpccanjlaokaaGreat
namespace Go.Proofs.YtehpccanjlaokaaGreat
open Go.RowKit Go.Joins

end Go.Proofs.YtehpccanjlaokaaGreat
namespace Go.Proofs.YtehpccanjlaokaaGreat
open Go.RowKit Go.Joins

end Go.Proofs.YtehpccanjlaokaaGreat
namespace Go.Proofs.YtehpccanjlaokaaGreat
open Go.RowKit

theorem allK_is : ∃ n : Nat, n = 16777216 := ⟨16777216, rfl⟩
/-- So many keys there are; told so that nothing counts them out. -/
noncomputable def allK : Nat := Classical.choose allK_is
theorem allK_eq : allK = 16777216 := Classical.choose_spec allK_is
def rwK (k : Nat) : Rw := ⟨kM k, kV k, BitVec.ofNat 8 (k / 65536)⟩
def keyR (x : Rw) : Nat := 65536 * x.o.toNat + keyC x.m x.v
theorem keyR_lt (x : Rw) : keyR x < allK := by rw [allK_eq]; unfold keyR; have := keyC_lt x.m x.v; have := x.o.isLt; omega
theorem rwK_key (x : Rw) : rwK (keyR x) = x := by
  have hm := x.m.isLt
  have hv := x.v.isLt
  have ho := x.o.isLt
  unfold rwK keyR keyC kM kV
  cases x with
  | mk m v o =>
    simp only at *
    congr 1
    · apply BitVec.eq_of_toNat_eq; rw [BitVec.toNat_ofNat]; omega
    · apply BitVec.eq_of_toNat_eq; rw [BitVec.toNat_ofNat]; omega
    · apply BitVec.eq_of_toNat_eq; rw [BitVec.toNat_ofNat]; omega
theorem key_rwK {k : Nat} (h : k < allK) : keyR (rwK k) = k := by
  rw [allK_eq] at h
  unfold rwK keyR keyC kM kV
  simp only [BitVec.toNat_ofNat]
  omega
/-- The rows that are so, with keys below u. -/
def rwU (P : Rw → Bool) (u : Nat) : List Nat := (List.range u).filter fun k => P (rwK k)
theorem rwU_mem (P : Rw → Bool) (u k : Nat) : k ∈ rwU P u ↔ k < u ∧ P (rwK k) = true := by
  unfold rwU; rw [List.mem_filter, List.mem_range]
theorem rwU_srt (P : Rw → Bool) (u : Nat) : (rwU P u).Pairwise (· < ·) := List.Pairwise.filter _ (List.pairwise_lt_range)
/-- All rows that are so, rising. -/
noncomputable def rwL (P : Rw → Bool) : List Rw := (rwU P allK).map rwK
theorem rwL_mem {P : Rw → Bool} {x : Rw} : x ∈ rwL P ↔ P x = true := by
  unfold rwL
  rw [List.mem_map]
  constructor
  · rintro ⟨k, hk, rfl⟩
    exact ((rwU_mem P allK k).1 hk).2
  · intro h
    exact ⟨keyR x, (rwU_mem P allK _).2 ⟨keyR_lt x, by rw [rwK_key]; exact h⟩, rwK_key x⟩
/-- Rows within lie low. -/
theorem rowin_low {s : Sp} {x : Rw} {n : Nat} (hn : s.i = n) (h : rowIn s x = true) : x.m.toNat < 2 ^ n ∧ x.v.toNat < 2 ^ n ∧ x.o.toNat < 2 ^ s.on.length ∧ 0 < x.o.toNat := by
  obtain ⟨h0, h1, h2⟩ := rwB_iff.1 (rowin_right h)
  rw [hn] at h2
  obtain ⟨-, hm, hv, -, -⟩ := right_lows h2
  refine ⟨hm, hv, Nat.lt_pow_two_of_testBit _ fun q hq => h1 q hq, ?_⟩
  rcases Nat.eq_zero_or_pos x.o.toNat with e | e
  · exact absurd (BitVec.eq_of_toNat_eq (by simpa using e)) h0
  · exact e
section
variable {s : Sp} {n : Nat} (hn : s.i = n) (h8 : n ≤ 8) (h4 : s.on.length ≤ 8)
include hn h8
end
end Go.Proofs.YtehpccanjlaokaaGreat
namespace Go.Proofs.YtehpccanjlaokaaGreat
open Go.RowKit Go.Joins

/-- The slice v reads as the cubes cs; what it reads lies below block B. -/
def CbsAt (w : World) (B : Nat) (v : Value) (cs : List Cb) : Prop :=
  ∃ A c, v = .slice A cs.length c ∧ cs.length ≤ 9223372036854775807 ∧
    (0 < cs.length → ∃ b off, A = some ⟨b, off, none⟩ ∧ b < B ∧ ∀ j x, cs[j]? = some x → w.cell? ⟨b, off + j * 2, none⟩ = some (bvv x.m) ∧ w.cell? ⟨b, off + j * 2 + 1, none⟩ = some (bvv x.v))
theorem CbsAt.below {w w' : World} {B : Nat} {v : Value} {cs : List Cb} (h : CbsAt w B v cs) (hb : Below B w w') : CbsAt w' B v cs := by
  obtain ⟨A, c, e, hl, h⟩ := h
  refine ⟨A, c, e, hl, fun h0 => ?_⟩
  obtain ⟨b, off, eA, hB, hc⟩ := h h0
  refine ⟨b, off, eA, hB, fun j X hx => ?_⟩
  obtain ⟨a0, a1⟩ := hc j X hx
  exact ⟨(hb.cell (p := ⟨b, off + j * 2, none⟩) hB).trans a0, (hb.cell (p := ⟨b, off + j * 2 + 1, none⟩) hB).trans a1⟩
theorem CbsAt.more {w : World} {B B' : Nat} {v : Value} {cs : List Cb} (h : CbsAt w B v cs) (hB : B ≤ B') : CbsAt w B' v cs := by
  obtain ⟨A, c, e, hl, h⟩ := h
  refine ⟨A, c, e, hl, fun h0 => ?_⟩
  obtain ⟨b, off, eA, hb, hc⟩ := h h0
  exact ⟨b, off, eA, by omega, hc⟩
def cbsV (cs : List Cb) : List Value := cs.flatMap fun x => [bvv x.m, bvv x.v]
theorem cbsV_snoc (cs : List Cb) (x : Cb) : cbsV (cs ++ [x]) = cbsV cs ++ [bvv x.m, bvv x.v] := by unfold cbsV; simp
theorem cbsV_at : ∀ (cs : List Cb) (j : Nat) (x : Cb), cs[j]? = some x → (cbsV cs)[j * 2]? = some (bvv x.m) ∧ (cbsV cs)[j * 2 + 1]? = some (bvv x.v)
  | [], _, _, h => by simp at h
  | a :: cs, 0, x, h => by
    simp at h
    subst h
    exact ⟨rfl, rfl⟩
  | a :: cs, j + 1, x, h => by
    obtain ⟨x1, y⟩ := cbsV_at cs j x (by simpa using h)
    have e : cbsV (a :: cs) = bvv a.m :: bvv a.v :: cbsV cs := rfl
    rw [e, show (j + 1) * 2 = j * 2 + 2 by omega]
    exact ⟨x1, y⟩
theorem own_cellq {w : World} {base size n : Nat} {e : TypeId} {v : Value} {xs : List Value} (h : w.ownsRow base e size v n xs) (hn : 0 < n) :
    ∃ g c, v = .slice (some ⟨g, 0, none⟩) n c ∧ base ≤ g ∧ g < w.heap.size ∧ n ≤ 9223372036854775807 ∧ ∀ i x, xs[i]? = some x → w.cell? ⟨g, i, none⟩ = some x := by
  obtain ⟨g, cap, rfl⟩ := ownsRow_form h hn
  have hl := h.lt g rfl
  refine ⟨g, cap, rfl, hl.1, hl.2, ?_, fun i x hx => ?_⟩
  · rcases h.2 with ⟨-, h0⟩ | ⟨g', cap', cur, e', hg, hgg, h1, h2, h3, h4⟩
    · omega
    · injection e' with _ _ ec
      subst ec
      unfold maxLen at *
      omega
  · have hi := (List.getElem?_eq_some_iff.1 hx).1
    rw [h.cellAt i (by rw [← h.1]; exact hi)]
    exact hx
theorem own_cbs {w : World} {bd : Nat} {v : Value} {cs : List Cb} (h : w.ownsRow bd 57 2 v cs.length (cbsV cs)) : CbsAt w w.heap.size v cs := by
  rcases Nat.eq_zero_or_pos cs.length with h0 | h0
  · obtain ⟨A, c, rfl⟩ := own_form h
    exact ⟨A, c, rfl, by omega, fun h => by omega⟩
  · obtain ⟨g, c, rfl, -, hg, hlen, hc⟩ := own_cellq h h0
    refine ⟨_, c, rfl, hlen, fun _ => ⟨g, 0, rfl, hg, fun j x hx => ?_⟩⟩
    obtain ⟨a, b⟩ := cbsV_at cs j x hx
    rw [Nat.zero_add]
    exact ⟨hc _ _ a, hc _ _ b⟩
theorem Tryz.infoCube9 : (Tryz.prog.info? 57).map (fun i => (i.zero, i.size, i.bytes)) = some (some (.agg #[.int .u8 0, .int .u8 0]), 2, 2) := by kernel_rfl
end Go.Proofs.YtehpccanjlaokaaGreat
namespace Go.Proofs.YtehpccanjlaokaaGreat
open Go.RowKit Go.Joins

end Go.Proofs.YtehpccanjlaokaaGreat
namespace Go.Proofs.YtehpccanjlaokaaGreat
open Go.RowKit Go.Joins

def rzV (rs : List Rw) : List Value := rs.flatMap fun x => [bvv x.m, bvv x.v, bvv x.o]
theorem rzV_snoc (rs : List Rw) (x : Rw) : rzV (rs ++ [x]) = rzV rs ++ [bvv x.m, bvv x.v, bvv x.o] := by unfold rzV; simp
theorem rzV_at : ∀ (rs : List Rw) (j : Nat) (x : Rw), rs[j]? = some x → (rzV rs)[j * 3]? = some (bvv x.m) ∧ (rzV rs)[j * 3 + 1]? = some (bvv x.v) ∧ (rzV rs)[j * 3 + 2]? = some (bvv x.o)
  | [], _, _, h => by simp at h
  | a :: rs, 0, x, h => by
    simp at h
    subst h
    exact ⟨rfl, rfl, rfl⟩
  | a :: rs, j + 1, x, h => by
    obtain ⟨x1, y, z⟩ := rzV_at rs j x (by simpa using h)
    have e : rzV (a :: rs) = bvv a.m :: bvv a.v :: bvv a.o :: rzV rs := rfl
    rw [e, show (j + 1) * 3 = j * 3 + 3 by omega]
    exact ⟨x1, y, z⟩
theorem own_rz {w : World} {bd : Nat} {v : Value} {rs : List Rw} (h : w.ownsRow bd 59 3 v rs.length (rzV rs)) : RwsAt w w.heap.size v rs := by
  rcases Nat.eq_zero_or_pos rs.length with h0 | h0
  · obtain ⟨A, c, rfl⟩ := own_form h
    exact ⟨A, c, rfl, by omega, fun h => by omega⟩
  · obtain ⟨g, c, rfl, -, hg, hlen, hc⟩ := own_cellq h h0
    refine ⟨_, c, rfl, hlen, fun _ => ⟨g, 0, rfl, hg, fun j x hx => ?_⟩⟩
    obtain ⟨a, b, d⟩ := rzV_at rs j x hx
    rw [Nat.zero_add]
    exact ⟨hc _ _ a, hc _ _ b, hc _ _ d⟩
theorem Tryz.infoRow10 : (Tryz.prog.info? 59).map (fun i => (i.zero, i.size, i.bytes)) = some (some (.agg #[.int .u8 0, .int .u8 0, .int .u8 0]), 3, 3) := by kernel_rfl
end Go.Proofs.YtehpccanjlaokaaGreat
namespace Go.Proofs.YtehpccanjlaokaaGreat
open Go.RowKit Go.Joins

end Go.Proofs.YtehpccanjlaokaaGreat
namespace Go.Proofs.YtehpccanjlaokaaGreat
open Go.RowKit

theorem sp_iff {s : Sp} : spB s = true ↔ headS s = true ∧ ∀ j, j < s.on.length → s.on.getD j 0 &&& ~~~(s.may.getD j 0) = 0 ∧ s.may.getD j 0 &&& ~~~(allB s.i.toNat) = 0 := by
  unfold spB
  rw [Bool.and_eq_true, range_all]
  constructor
  · rintro ⟨h1, h2⟩
    refine ⟨h1, fun j hj => ?_⟩
    have := h2 j hj
    unfold sideB at this
    rw [Bool.and_eq_true, decide_eq_true_iff, decide_eq_true_iff] at this
    exact this
  · rintro ⟨h1, h2⟩
    refine ⟨h1, fun j hj => ?_⟩
    unfold sideB
    rw [Bool.and_eq_true, decide_eq_true_iff, decide_eq_true_iff]
    exact h2 j hj
end Go.Proofs.YtehpccanjlaokaaGreat
namespace Go.Proofs.YtehpccanjlaokaaGreat
open Go.RowKit Go.Joins

theorem put3 {w : World} {b : Nat} {T : TypeId} {x0 x1 x2 y0 y1 y2 : Value} (h : w.heap[b]? = some (.cells #[y0, y1, y2] T (0, 0))) :
    (((w.setCell ⟨b, 0, none⟩ x0).setCell ⟨b, 1, none⟩ x1).setCell ⟨b, 2, none⟩ x2).heap[b]? = some (.cells #[x0, x1, x2] T (0, 0)) := by
  rw [block_setCell (block_setCell (block_setCell h x0) x1) x2]
  rfl
end Go.Proofs.YtehpccanjlaokaaGreat
