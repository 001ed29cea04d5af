/- What Points of the package cube answers for a cube that is right. permitted and Points of the package spec, for every spec and all rows. Covers of the package spec, for every spec and all rows. The document's own May, Right and Covers of layer 4, for every spec and all rows. The document's own Within and Holds of layer 10. -/
import Derived.Test.YtmgggennbnbjkaaG07
import Derived.Test.YtmgggennbnbjkaaG09
import Derived.Test.YtmgggennbnbjkaaG16
import Derived.Test.YtmgggennbnbjkaaG15
namespace Go.Proofs.Ytmgggennbnbjkaa
open Go.RowKit Go.Joins

abbrev sb (S : BitVec 256) : Obj := .cells (sa S) 45
set_option maxHeartbeats 1000000 in
set_option maxRecDepth 1000000 in
theorem cpoints_yes {m v : BitVec 8} {n : Nat} (h : rightB m v n = true) (w : World) :
    Calls Try.prog 57 #[cv m v, .int .i64 n] w fun e w' => e = .returned (.tuple #[sv (cpts m v n n), .int .i64 0]) ∧ Below w.heap.size w w' := by
  have HR := fun w => right_yes h w
  have hn : n ≤ 8 := by have := ((rightB_iff m v n).1 h).2.1; omega
  have HA := fun w => all_any n hn w
  have hz := cpts_zero m v n
  clear h
  unfold cv sv bvv wv at *
  go_enter Try.func57, Try.ntmps57
  go_wp2_with fail
  refine (HR _).mono ?_
  rintro e w1 ⟨rfl, hb1⟩
  have hB : Below w.heap.size w w1 := (below_alloc2 w _ _).trans (hb1.mono (by simp; omega))
  have ha := (keep_blk hb1 (heap_alloc2_old _ _ _) : w1.heap[w.heap.size]? = some (cb m v))
  have hc := (keep_blk hb1 (heap_alloc2_new _ _ _) : w1.heap[w.heap.size + 1]? = some (.cells #[Value.int IntKind.u64 0, Value.int IntKind.u64 0, Value.int IntKind.u64 0, Value.int IntKind.u64 0] 45 (0, 0)))
  clear hb1 HR
  go_wp2_with fail
  refine (HA _).mono ?_
  rintro e w2 ⟨rfl, hb2⟩
  have hB2 : Below w.heap.size w w2 := hB.trans (hb2.mono hB.size)
  have ha2 := keep_blk hb2 ha
  have hc2 := keep_blk hb2 hc
  have hs2 := size_of_block hc2
  clear HA ha hc hB hb2
  go_wp2
  go_loopw [20] (fun i wr => ∃ k : Nat, k ≤ n ∧ i = .int .i64 k ∧ wr.heap[w2.heap.size]? = some (sb (cpts m v n k)) ∧ wr.heap[w.heap.size]? = some (cb m v) ∧ wr.heap[w.heap.size + 1]? = some (sb 0) ∧ Below w.heap.size w wr) (fun i _ => n - (intOf i).toNat)
  case atStart =>
    refine ⟨0, by omega, rfl, ?_, ?_, ?_, hB2.alloc hB2.size _⟩
    · rw [hz]; exact heap_alloc_new _ _
    · exact (Below.heap_alloc _ _ _ (by omega)).trans ha2
    · exact (Below.heap_alloc _ _ _ hs2).trans hc2
  case round =>
    clear hz ha2 hc2 hB2
    obtain ⟨k, hk, rfl, hblk, hbox, hres, hb⟩ := hrel
    obtain ⟨a0, a1, -⟩ := now2 hbox rfl
    obtain ⟨s0, s1, s2, s3, sf⟩ := now4 hblk rfl
    unfold wv at s0 s1 s2 s3
    by_cases hlt : k < n
    · have hm := Lib.hid (rfl : m.getLsbD k = m.getLsbD k)
      cases hmk : m.getLsbD k
      · have HB := fun w => bit_no m k (by omega) hmk w
        have hst := Lib.hid (cpts_skip m v n k hmk)
        unfold bvv at HB
        clear hmk hm
        go_wp2_with (go_at_call 74; refine (HB _).mono ?_; rintro e w' ⟨rfl, rfl⟩)
        go_roundw
        case rel => exact ⟨k + 1, by omega, by go_num, by rw [hst.out]; exact hblk, hbox, hres, hb⟩
        case measure => simp [intOf]; omega
      · have HB := fun w => bit_yes m k (by omega) hmk w
        have hst := Lib.hid (cpts_step m v n k hn (by omega) hmk)
        have HH := fun w => half_any (cpts m v n k) k (v.getLsbD k) w
        rw [hst.out] at HH
        unfold sv wv at HH
        unfold bvv at HB
        clear hmk hm hst
        go_wp2_with (go_at_call 74; refine (HB _).mono ?_; rintro e w' ⟨rfl, rfl⟩)
        obtain ⟨A0, A1, -⟩ := box2 hbox rfl
        obtain ⟨S0, S1, S2, S3, SF⟩ := box4 hblk rfl
        unfold wv at S0 S1 S2 S3
        clear a0 a1 s0 s1 s2 s3 sf
        cases hvk : v.getLsbD k
        · have HB := fun w => bit_no v k (by omega) hvk w
          rw [hvk] at HH
          unfold bvv at HB
          clear hvk
          refine wp_region_after_tail 8 (by kernel_rfl) (by kernel_rfl) ?_
          simp only [List.take_succ_cons, List.take_zero, List.drop_succ_cons, List.drop_zero]
          repeat (first | go_big_quiet_step ((first | (go_at_call 74; exact Calls.after_same (HB _)) | (go_at_call 75; exact Calls.after_of (HH _)))))
          refine wpQuiet_nil ?_
          intro x
          go_wp2
          go_roundw
          case rel => exact ⟨k + 1, by omega, by go_num, put4 (After.same x hblk), keep_set4 (by omega) (After.same x hbox), keep_set4 (by omega) (After.same x hres), below4 (by omega) (hb.trans (x.2.mono hb.size))⟩
          case measure => simp [intOf]; omega
        · have HB := fun w => bit_yes v k (by omega) hvk w
          rw [hvk] at HH
          unfold bvv at HB
          clear hvk
          refine wp_region_after_tail 8 (by kernel_rfl) (by kernel_rfl) ?_
          simp only [List.take_succ_cons, List.take_zero, List.drop_succ_cons, List.drop_zero]
          repeat (first | go_big_quiet_step ((first | (go_at_call 74; exact Calls.after_same (HB _)) | (go_at_call 75; exact Calls.after_of (HH _)))))
          refine wpQuiet_nil ?_
          intro x
          go_wp2
          go_roundw
          case rel => exact ⟨k + 1, by omega, by go_num, put4 (After.same x hblk), keep_set4 (by omega) (After.same x hbox), keep_set4 (by omega) (After.same x hres), below4 (by omega) (hb.trans (x.2.mono hb.size))⟩
          case measure => simp [intOf]; omega
    · have e : k = n := by omega
      subst e
      obtain ⟨r0, r1, r2, r3, rf⟩ := res4 hres rfl
      clear hblk hbox hres
      go_wp2
      exact bodyPost_ret (v := .tuple #[.agg #[.int .u64 (wd (cpts m v k k) 0).toNat, .int .u64 (wd (cpts m v k k) 1).toNat, .int .u64 (wd (cpts m v k k) 2).toNat, .int .u64 (wd (cpts m v k k) 3).toNat], .int .i64 0]) (by simp [results, Try.results57, go_sem, r0, r1, r2, r3]) rfl
        ⟨rfl, below4 (le1 w) hb⟩
end Go.Proofs.Ytmgggennbnbjkaa
namespace Go.Proofs.Ytmgggennbnbjkaa
open Go.RowKit Go.Joins

/-- What Points refuses. -/
def ptsBad (rs : List Rw) (n out : Int) : Prop := n < 0 ∨ (0 ≤ n ∧ 8 < n) ∨ (0 ≤ n ∧ n ≤ 8 ∧ out < 0) ∨ (0 ≤ n ∧ n ≤ 8 ∧ 0 ≤ out ∧ 4 ≤ out) ∨ (0 ≤ n ∧ n ≤ 8 ∧ 0 ≤ out ∧ out < 4 ∧ (rs.all fun x => rightB x.m x.v n) = false)
end Go.Proofs.Ytmgggennbnbjkaa
namespace Go.Proofs.Ytmgggennbnbjkaa
open Go.RowKit Go.Joins

theorem coversB_not_may {s : Sp} {rs : List Rw} (h : mayB s rs = false) : coversB s rs = false := by unfold coversB; rw [h]; rfl
theorem coversB_all {s : Sp} {rs : List Rw} (h : mayB s rs = true) (ha : ∀ j, j < s.on.length → coB s rs j = true) : coversB s rs = true := by
  unfold coversB; rw [h, Bool.true_and]; exact range_all.2 ha
theorem coversB_not {s : Sp} {rs : List Rw} {j : Nat} (hj : j < s.on.length) (h : coB s rs j = false) : coversB s rs = false := by
  unfold coversB; rw [range_not hj h, Bool.and_false]
end Go.Proofs.Ytmgggennbnbjkaa
namespace Go.Proofs.Ytmgggennbnbjkaa
open Go.RowKit Go.Joins

theorem outsB_no {o : BitVec 8} {k q : Nat} (hb : o.getLsbD q = true) (hk : k ≤ q) : outsB o k = false := by
  unfold outsB
  rw [Bool.and_eq_false_iff]
  refine Or.inr (decide_eq_false fun h => ?_)
  rw [(shr_zero o k).1 h q hk] at hb
  simp at hb
def someB (o : BitVec 8) (j : Nat) : Bool := (List.range j).any fun q => o.getLsbD q
theorem someB_iff (o : BitVec 8) (j : Nat) : someB o j = true ↔ ∃ q, q < j ∧ o.getLsbD q = true := by
  unfold someB
  rw [List.any_eq_true]
  constructor
  · rintro ⟨q, h1, h2⟩; exact ⟨q, List.mem_range.1 h1, h2⟩
  · rintro ⟨q, h1, h2⟩; exact ⟨q, List.mem_range.2 h1, h2⟩
theorem someB_skip {o : BitVec 8} {j : Nat} (h : o.getLsbD j = false) : someB o (j + 1) = someB o j := by
  unfold someB
  rw [List.range_succ, List.any_append]
  simp [h]
theorem someB_yes {o : BitVec 8} {j : Nat} (h : o.getLsbD j = true) : someB o (j + 1) = true := (someB_iff o (j + 1)).2 ⟨j, by omega, h⟩
theorem outsB_end {o : BitVec 8} {k : Nat} (h : ∀ q, q < 8 → o.getLsbD q = true → q < k) : outsB o k = someB o 8 := by
  unfold outsB
  have h1 : o.toNat / 2 ^ k = 0 := by
    rw [shr_zero]
    intro q hq
    cases hb : o.getLsbD q
    · rfl
    · by_cases h8 : q < 8
      · have := h q h8 hb; omega
      · rw [BitVec.getLsbD_of_ge _ _ (by omega)] at hb; simp at hb
  rw [decide_eq_true h1, Bool.and_true]
  rw [Bool.eq_iff_iff, decide_eq_true_eq, someB_iff]
  constructor
  · intro hne
    apply Classical.byContradiction
    intro hn
    apply hne
    apply BitVec.eq_of_getLsbD_eq
    intro q hq
    rw [show (0 : BitVec 8).getLsbD q = false by simp]
    cases hb : o.getLsbD q
    · rfl
    · exact absurd ⟨q, hq, hb⟩ hn
  · rintro ⟨q, -, hb⟩ e
    rw [e] at hb
    simp at hb
set_option maxHeartbeats 4000000 in
set_option maxRecDepth 100000 in
theorem rmay_any (x : Rw) (i : Int) (k : Nat) (w : World) :
    Calls Try.prog 27 #[rwv x, .int .i64 i, .int .i64 k] w fun e w' => e = .returned (.bool (rwB x i k)) ∧ Below w.heap.size w w' := by
  have hno := Lib.hid (fun (q : Nat) (hb : x.o.getLsbD q = true) (h : k ≤ q) => (show rwB x i k = false by unfold rwB; rw [outsB_no hb h]; rfl))
  have hend : Hid ((∀ q, q < 8 → x.o.getLsbD q = true → q < k) → rwB x i k = (someB x.o 8 && rightB x.m x.v i)) := Lib.hid (fun h => by unfold rwB; rw [outsB_end h])
  have HR := fun w => rright_any x.m x.v i w
  have hB0 := below_alloc1 w (.cells #[bvv x.m, bvv x.v, bvv x.o] 28 (0, 0))
  have hx0 := heap_alloc_new w (.cells #[bvv x.m, bvv x.v, bvv x.o] 28 (0, 0))
  generalize rwB x i k = R at *
  generalize rightB x.m x.v i = r at *
  have HB := fun (q : Nat) (hq : q < 8) w => bit8_any x.o q hq w
  unfold rwv cv at *
  unfold bvv at *
  go_enter Try.func27, Try.ntmps27
  go_wp2
  go_loopw [7, 8] (fun s t wr => ∃ j : Nat, j ≤ 8 ∧ t = .int .i64 j ∧ (∃ b, s = .bool b ∧ Hid (b = someB x.o j)) ∧ Hid (∀ q, q < j → x.o.getLsbD q = true → q < k) ∧ Below w.heap.size w wr ∧ wr.heap[w.heap.size]? = some (.cells #[.int .u8 x.m.toNat, .int .u8 x.v.toNat, .int .u8 x.o.toNat] 28 (0, 0))) (fun _ t _ => 8 - (intOf t).toNat)
  case atStart => exact ⟨0, by omega, rfl, ⟨false, rfl, Lib.hid rfl⟩, Lib.hid (fun q hq => by omega), hB0, hx0⟩
  case round =>
    clear hB0 hx0
    obtain ⟨j, hj, rfl, ⟨b, rfl, hb⟩, hH, hbw, hx⟩ := hrel
    obtain ⟨x0, x1, x2, -⟩ := now3 hx rfl
    by_cases hlt : j < 8
    · have HBj := fun w => HB j hlt w
      clear HB
      cases hbit : x.o.getLsbD j
      · rw [hbit] at HBj
        have hb' : Hid (b = someB x.o (j + 1)) := Lib.hid (by rw [hb.out, someB_skip hbit])
        have hH' : Hid (∀ q, q < j + 1 → x.o.getLsbD q = true → q < k) := Lib.hid (fun q h1 h2 => by
          by_cases e : q = j
          · subst e; rw [hbit] at h2; simp at h2
          · exact hH.out q (by omega) h2)
        clear hbit hb hH
        go_wp2_with (go_at_call 28; refine (HBj _).mono ?_; rintro e w' ⟨rfl, rfl⟩)
        go_roundw
        case rel => exact ⟨j + 1, by omega, by go_num, ⟨b, rfl, hb'⟩, hH', hbw, hx⟩
        case measure => simp [intOf]; omega
      · rw [hbit] at HBj
        by_cases hjk : k ≤ j
        · have hR := Lib.hid (hno.out j hbit hjk)
          have hjk' : (k : Int) ≤ j := by omega
          clear hbit hb hH
          go_wp2_with (go_at_call 28; refine (HBj _).mono ?_; rintro e w' ⟨rfl, rfl⟩)
          go_ret
          exact ⟨by rw [hR.out]; rfl, hbw⟩
        · have hjk' : ¬ (k : Int) ≤ j := by omega
          have hb' : Hid (true = someB x.o (j + 1)) := Lib.hid (someB_yes hbit).symm
          have hH' : Hid (∀ q, q < j + 1 → x.o.getLsbD q = true → q < k) := Lib.hid (fun q h1 h2 => by
            by_cases e : q = j
            · omega
            · exact hH.out q (by omega) h2)
          clear hbit hb hH
          go_wp2_with (go_at_call 28; refine (HBj _).mono ?_; rintro e w' ⟨rfl, rfl⟩)
          go_roundw
          case rel => exact ⟨j + 1, by omega, by go_num, ⟨true, rfl, hb'⟩, hH', hbw, hx⟩
          case measure => simp [intOf]; omega
    · have e : j = 8 := by omega
      subst e
      have hRe := hend.out hH.out
      rw [← hb.out] at hRe
      have hR := Lib.hid hRe
      clear hRe hb hH hno hend HB
      cases b
      · have hR' : Hid (R = false) := Lib.hid (by rw [hR.out]; rfl)
        clear hR
        go_wp2
        go_ret
        exact ⟨by rw [hR'.out]; rfl, hbw⟩
      · have hR' : Hid (R = r) := Lib.hid (by rw [hR.out]; rfl)
        clear hR
        go_wp2_with fail
        refine (HR _).mono ?_
        rintro e w1 ⟨rfl, hb1⟩
        have hB1 := hbw.trans (hb1.mono hbw.size)
        clear HR
        go_wp2
        go_ret
        exact ⟨by rw [hR'.out]; rfl, hB1⟩
end Go.Proofs.Ytmgggennbnbjkaa
namespace Go.Proofs.Ytmgggennbnbjkaa
open Go.RowKit Go.Joins

theorem rowin_no {s : Sp} {x : Rw} (h : rwB x s.i s.on.length = false) : rowIn s x = false := by unfold rowIn; rw [h]; rfl
theorem rowin_hit {s : Sp} {x : Rw} {j : Nat} {S : BitVec 256} (hS : s.may[j]? = some S) (hb : x.o.getLsbD j = true) (h : inB S s.i x.m x.v = false) : rowIn s x = false := by
  rw [Bool.eq_false_iff]
  intro hh
  have := (rowIn_iff.1 hh).2 j (List.getElem?_eq_some_iff.1 hS).1 hb
  rw [getD_of hS, h] at this; cases this
set_option maxHeartbeats 4000000 in
set_option maxRecDepth 100000 in
theorem rin10_any (i : Int) (A C : Value) (on may : List (BitVec 256)) (x : Rw) (w : World) (hA : SetsAt w w.heap.size A on) (hC : SetsAt w w.heap.size C may) (hm8 : may.length ≤ 8) :
    Calls Try.prog 11 #[spv i A C, rwv x] w fun e w' => e = .returned (.bool (rowIn ⟨i, on, may⟩ x)) ∧ Below w.heap.size w w' := by
  have HM := fun w => rmay_any x i on.length w
  have hB0 := below_alloc2 w (spb i A C) (.cells #[bvv x.m, bvv x.v, bvv x.o] 28 (0, 0))
  have hs0 := heap_alloc2_old w (spb i A C) (.cells #[bvv x.m, bvv x.v, bvv x.o] 28 (0, 0))
  have hx0 := heap_alloc2_new w (spb i A C) (.cells #[bvv x.m, bvv x.v, bvv x.o] 28 (0, 0))
  have hno := Lib.hid (fun h => rowin_no (s := ⟨i, on, may⟩) (x := x) h)
  have hhit := Lib.hid (fun (j : Nat) (S : BitVec 256) (hS : may[j]? = some S) hb h => rowin_hit (s := ⟨i, on, may⟩) (x := x) (j := j) (S := S) hS hb h)
  have hend := Lib.hid (fun h1 h2 => rowIn_iff (s := ⟨i, on, may⟩) (x := x).2 ⟨h1, h2⟩)
  have HB := fun (q : Nat) (hq : q < 8) w => bit8_any x.o q hq w
  have HW := fun S w => rwithin9_any x.m x.v S i w
  obtain ⟨A, ac, rfl, la, -⟩ := hA
  obtain ⟨C, cc, rfl, lc, hC⟩ := hC
  generalize rowIn ⟨i, on, may⟩ x = R at *
  unfold spv spb rwv sv cv at *
  unfold bvv wv at *
  obtain ⟨s0, s1, s2, -⟩ := now3 hs0 rfl
  obtain ⟨x0, x1, x2, -⟩ := now3 hx0 rfl
  cases hr : rwB x i on.length
  · rw [hr] at HM
    have hR := Lib.hid (hno.out hr)
    clear hno hhit hend HB HW hr hC
    go_enter Try.func11, Try.ntmps11
    go_wp2_with fail
    refine (HM _).mono ?_
    rintro e w1 ⟨rfl, hb⟩
    have hB1 := hB0.trans (hb.mono hB0.size)
    clear HM hB0 hb hs0 hx0 s0 s1 s2 x0 x1 x2
    go_wp2
    go_ret
    exact ⟨by rw [hR.out]; rfl, hB1⟩
  · rw [hr] at HM
    have hend2 := Lib.hid (hend.out hr)
    clear hno hend hr
    go_enter Try.func11, Try.ntmps11
    go_wp2_with fail
    refine (HM _).mono ?_
    rintro e w1 ⟨rfl, hb⟩
    have hB1 := hB0.trans (hb.mono hB0.size)
    have hs1 := keep_blk hb hs0
    have hx1 := keep_blk hb hx0
    clear HM hB0 hb hs0 hx0 s0 s1 s2 x0 x1 x2
    go_wp2
    go_loopw [5] (fun t wr => ∃ j : Nat, j ≤ may.length ∧ t = .int .i64 j ∧ Hid (∀ q, q < j → x.o.getLsbD q = true → inB (may.getD q 0) i x.m x.v = true) ∧ Below w1.heap.size w1 wr) (fun t _ => may.length - (intOf t).toNat)
    case atStart => exact ⟨0, by omega, rfl, Lib.hid (fun q hq => absurd hq (Nat.not_lt_zero _)), Below.refl _ _⟩
    case round =>
      obtain ⟨j, hj, rfl, hH, hb⟩ := hrel
      have hsr := keep_blk hb hs1
      have hxr := keep_blk hb hx1
      have hBr := hB1.trans (hb.mono hB1.size)
      obtain ⟨s0, s1, s2, -⟩ := now3 hsr rfl
      by_cases hlt : j < may.length
      · obtain ⟨S, hS⟩ : ∃ S, may[j]? = some S := ⟨_, List.getElem?_eq_getElem hlt⟩
        obtain ⟨bl, off, rfl, hBl, hcl⟩ := hC (by omega)
        obtain ⟨c0, c1, c2, c3⟩ := hcl j S hS
        have d0 := (hBr.cell (p := ⟨bl, off + j * 4, none⟩) hBl).trans c0
        have d1 := (hBr.cell (p := ⟨bl, off + j * 4 + 1, none⟩) hBl).trans c1
        have d2 := (hBr.cell (p := ⟨bl, off + j * 4 + 2, none⟩) hBl).trans c2
        have d3 := (hBr.cell (p := ⟨bl, off + j * 4 + 3, none⟩) hBl).trans c3
        have HBj := fun w => HB j (by omega) w
        have HWj := fun w => HW S w
        have hh := Lib.hid (hhit.out j S hS)
        have hSd : Hid (may.getD j 0 = S) := Lib.hid (getD_of hS)
        have j0 : (0 : Int) ≤ (j : Int) := by omega
        have j1 : (j : Int) < (may.length : Int) := by omega
        clear hcl c0 c1 c2 c3 hC HB HW hhit hS hs1 hx1
        cases hbit : x.o.getLsbD j
        · rw [hbit] at HBj
          have hH2 : Hid (∀ q, q < j + 1 → x.o.getLsbD q = true → inB (may.getD q 0) i x.m x.v = true) := Lib.hid (fun q h1 h2 => by
            by_cases e : q = j
            · subst e; rw [hbit] at h2; cases h2
            · exact hH.out q (by omega) h2)
          clear hh hend2 hH hbit HWj hSd
          go_upto_region 6 with (fail)
          obtain ⟨X0, X1, X2, -⟩ := box3 hxr rfl
          refine wp_region_after (by kernel_rfl) (by kernel_rfl) ?_
          repeat (first | go_big_quiet_step ((go_at_call 28; exact Calls.after_same (HBj _))))
          refine wpQuiet_nil ?_
          intro z
          have hbz := hb.trans (z.2.mono hb.size)
          clear X0 X1 X2 HBj s0 s1 s2 d0 d1 d2 d3
          go_wp2
          go_roundw
          case rel => exact ⟨j + 1, by omega, by go_num, hH2, hbz⟩
          case measure => simp [intOf]; omega
        · rw [hbit] at HBj
          cases hin : inB S i x.m x.v
          · rw [hin] at HWj
            have hR := Lib.hid (hh.out hbit hin)
            clear hh hend2 hH hbit hin hSd
            go_upto_region 6 with (fail)
            obtain ⟨X0, X1, X2, -⟩ := box3 hxr rfl
            obtain ⟨S0, S1, S2, -⟩ := box3 hsr rfl
            have D0 := fun x : After wr => After.cell x d0
            have D1 := fun x : After wr => After.cell x d1
            have D2 := fun x : After wr => After.cell x d2
            have D3 := fun x : After wr => After.cell x d3
            clear s0 s1 s2 d0 d1 d2 d3
            refine wp_region_after (by kernel_rfl) (by kernel_rfl) ?_
            repeat (first | go_big_quiet_step (first | (go_at_call 28; exact Calls.after_same (HBj _)) | (go_at_call 29; exact Calls.after_of (HWj _))))
            refine wpQuiet_nil ?_
            intro z
            have hBz := hBr.trans (z.2.mono hBr.size)
            clear X0 X1 X2 HBj S0 S1 S2 D0 D1 D2 D3 HWj
            go_wp2
            go_ret
            exact ⟨by rw [hR.out]; rfl, hBz⟩
          · rw [hin] at HWj
            have hH2 : Hid (∀ q, q < j + 1 → x.o.getLsbD q = true → inB (may.getD q 0) i x.m x.v = true) := Lib.hid (fun q h1 h2 => by
              by_cases e : q = j
              · subst e; rw [hSd.out]; exact hin
              · exact hH.out q (by omega) h2)
            clear hh hend2 hH hbit hin hSd
            go_upto_region 6 with (fail)
            obtain ⟨X0, X1, X2, -⟩ := box3 hxr rfl
            obtain ⟨S0, S1, S2, -⟩ := box3 hsr rfl
            have D0 := fun x : After wr => After.cell x d0
            have D1 := fun x : After wr => After.cell x d1
            have D2 := fun x : After wr => After.cell x d2
            have D3 := fun x : After wr => After.cell x d3
            clear s0 s1 s2 d0 d1 d2 d3
            refine wp_region_after (by kernel_rfl) (by kernel_rfl) ?_
            repeat (first | go_big_quiet_step (first | (go_at_call 28; exact Calls.after_same (HBj _)) | (go_at_call 29; exact Calls.after_of (HWj _))))
            refine wpQuiet_nil ?_
            intro z
            have hbz := hb.trans (z.2.mono hb.size)
            clear X0 X1 X2 HBj S0 S1 S2 D0 D1 D2 D3 HWj
            go_wp2
            go_roundw
            case rel => exact ⟨j + 1, by omega, by go_num, hH2, hbz⟩
            case measure => simp [intOf]; omega
      · have hR := Lib.hid (hend2.out (fun q hq => hH.out q (by have : q < may.length := hq; omega)))
        clear hend2 hhit hH HB HW hC hs1 hx1 hsr hxr
        go_wp2
        go_ret
        exact ⟨by rw [hR.out]; rfl, hBr⟩
end Go.Proofs.Ytmgggennbnbjkaa
