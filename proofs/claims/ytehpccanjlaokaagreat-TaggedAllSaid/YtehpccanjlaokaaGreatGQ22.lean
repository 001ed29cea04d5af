/- The developers' common of outputs; the points with a literal 1, without its bit. A region that draws its order, one of whose operations calls what may do anything: all ahead of it read, or call what makes memory of its own but hands back one value, and it waits for them; all behind it wait for it, and are quiet in the world that it leaves. -/
import Derived.Test.YtehpccanjlaokaaGreatGQ14
import Derived.Test.YtehpccanjlaokaaGreatGQ20
import Derived.Test.YtehpccanjlaokaaGreatGQ21
import Derived.Test.YtehpccanjlaokaaGreatGQ03
import Derived.Deep.RegionHeld3
namespace Go.Proofs.YtehpccanjlaokaaGreat
open Go.RowKit Go.Joins

set_option maxHeartbeats 4000000 in
set_option maxRecDepth 100000 in
theorem tcommon_any (i : Nat) (hi : i ≤ 8) (A C : Value) (on may : List (BitVec 256)) (o : BitVec 8) (w : World) (hC : SetsAt w w.heap.size C may) :
    Calls Tryz.prog 49 #[spv i A C, bvv o] w fun e w' => e = .returned (sv (comS ⟨i, on, may⟩ o)) ∧ Below w.heap.size w w' := by
  have HN := fun w => all_any i hi w
  have HA := fun S T w => and_any S T w
  have h0 : Hid (comN ⟨i, on, may⟩ o 0 = allB i) := Lib.hid (by show allB (i : Int).toNat = _; rw [Int.toNat_natCast])
  have hyes : Hid (∀ k X, may[k]? = some X → o.getLsbD k = true → comN ⟨i, on, may⟩ o (k + 1) = comN ⟨i, on, may⟩ o k &&& X) := Lib.hid fun k X hX ho => by
    show (if o.getLsbD k = true then comN ⟨i, on, may⟩ o k &&& may.getD k 0 else comN ⟨i, on, may⟩ o k) = _
    rw [if_pos ho, getD_of hX]
  have hno : Hid (∀ k, o.getLsbD k = false → comN ⟨i, on, may⟩ o (k + 1) = comN ⟨i, on, may⟩ o k) := Lib.hid fun k ho => by
    show (if o.getLsbD k = true then comN ⟨i, on, may⟩ o k &&& may.getD k 0 else comN ⟨i, on, may⟩ o k) = _
    rw [ho]; rfl
  have hbit := Lib.hid (bitM_eq o)
  unfold comS
  generalize comN ⟨i, on, may⟩ o = F at *
  show Calls _ _ _ _ fun e w' => e = .returned (sv (F may.length)) ∧ _
  obtain ⟨C, cc, rfl, lc, hC⟩ := hC
  have hs : ((w.alloc (spb i A (.slice C may.length cc))).alloc (.cells #[.int .u64 0, .int .u64 0, .int .u64 0, .int .u64 0] 51)).heap[w.heap.size]? = some (spb i A (.slice C may.length cc)) := by rw [heap_alloc2_old]
  have hr : ((w.alloc (spb i A (.slice C may.length cc))).alloc (.cells #[.int .u64 0, .int .u64 0, .int .u64 0, .int .u64 0] 51)).heap[w.heap.size + 1]? = some (.cells #[.int .u64 0, .int .u64 0, .int .u64 0, .int .u64 0] 51 (0, 0)) := by rw [heap_alloc2_new]
  have hb := below_alloc2 w (spb i A (.slice C may.length cc)) (.cells #[.int .u64 0, .int .u64 0, .int .u64 0, .int .u64 0] 51)
  unfold spv spb bvv sv wv at *
  go_enter Tryz.func49, Tryz.ntmps49
  go_upto_region 1 with (fail)
  generalize (w.alloc _).alloc _ = W at *
  obtain ⟨s0, s1, s2, -⟩ := now3 hs rfl
  go_wp2_with fail
  refine (HN _).mono ?_
  rintro e w1 ⟨rfl, hb1⟩
  rw [← h0.out]
  have hs1 := keep_blk hb1 hs
  have hr1 := keep_blk hb1 hr
  have hB1 := hb.trans (hb1.mono hb.size)
  have hp2 := heap_alloc_new w1 (.cells #[.int .u64 (wd (F 0) 0).toNat, .int .u64 (wd (F 0) 1).toNat, .int .u64 (wd (F 0) 2).toNat, .int .u64 (wd (F 0) 3).toNat] 51)
  have hs2 := keep_alloc (x := .cells #[.int .u64 (wd (F 0) 0).toNat, .int .u64 (wd (F 0) 1).toNat, .int .u64 (wd (F 0) 2).toNat, .int .u64 (wd (F 0) 3).toNat] 51) hs1
  have hr2 := keep_alloc (x := .cells #[.int .u64 (wd (F 0) 0).toNat, .int .u64 (wd (F 0) 1).toNat, .int .u64 (wd (F 0) 2).toNat, .int .u64 (wd (F 0) 3).toNat] 51) hr1
  have hB2 := hB1.trans ((below_alloc1 w1 (.cells #[.int .u64 (wd (F 0) 0).toNat, .int .u64 (wd (F 0) 1).toNat, .int .u64 (wd (F 0) 2).toNat, .int .u64 (wd (F 0) 3).toNat] 51)).mono hB1.size)
  have hpl : w.heap.size + 1 < w1.heap.size := size_of_block hr1
  clear HN s0 s1 s2 hs hr hb hb1 hs1 hr1 hB1
  go_upto_region 2 with (fail)
  generalize w1.alloc _ = w2 at *
  generalize w1.heap.size = pb at *
  obtain ⟨s0, s1, s2, -⟩ := now3 hs2 rfl
  go_wp2_with fail
  clear s0 s1 s2
  go_loopw [18] (fun t wr => ∃ k : Nat, k ≤ may.length ∧ t = .int .i64 k ∧ Below w.heap.size w wr ∧ wr.heap[w.heap.size]? = some (.cells #[.int .i64 i, A, .slice C may.length cc] 24 (0, 0)) ∧
    wr.heap[w.heap.size + 1]? = some (.cells #[.int .u64 0, .int .u64 0, .int .u64 0, .int .u64 0] 51 (0, 0)) ∧
    wr.heap[pb]? = some (.cells #[.int .u64 (wd (F k) 0).toNat, .int .u64 (wd (F k) 1).toNat, .int .u64 (wd (F k) 2).toNat, .int .u64 (wd (F k) 3).toNat] 51 (0, 0))) (fun t _ => may.length - (intOf t).toNat)
  case atStart => exact ⟨0, by omega, rfl, hB2, hs2, hr2, hp2⟩
  case round =>
    clear hB2 hs2 hr2 hp2
    obtain ⟨k, hk, rfl, hb, hs, hr, hp⟩ := hrel
    by_cases hlt : k < may.length
    · obtain ⟨b2, off2, rfl, hBb2, hc2⟩ := hC (by omega)
      obtain ⟨Y, hY⟩ : ∃ Y, may[k]? = some Y := ⟨_, List.getElem?_eq_getElem hlt⟩
      obtain ⟨y0, y1, y2, y3⟩ := hc2 k Y hY
      have v0 := (hb.cell (p := ⟨b2, off2 + k * 4, none⟩) hBb2).trans y0
      have v1 := (hb.cell (p := ⟨b2, off2 + k * 4 + 1, none⟩) hBb2).trans y1
      have v2 := (hb.cell (p := ⟨b2, off2 + k * 4 + 2, none⟩) hBb2).trans y2
      have v3 := (hb.cell (p := ⟨b2, off2 + k * 4 + 3, none⟩) hBb2).trans y3
      have hbk := hbit.out k
      have hyk := Lib.hid (hyes.out k Y hY)
      have hnk := Lib.hid (hno.out k)
      clear y0 y1 y2 y3 hc2 hY hyes hno h0 hbit
      unfold wv at *
      go_upto_region 5 with (fail)
      have hy5 := heap_alloc_new wr (.cells #[.int .u64 (wd Y 0).toNat, .int .u64 (wd Y 1).toNat, .int .u64 (wd Y 2).toNat, .int .u64 (wd Y 3).toNat] 51 (0, 0))
      have hs5 := keep_alloc (x := .cells #[.int .u64 (wd Y 0).toNat, .int .u64 (wd Y 1).toNat, .int .u64 (wd Y 2).toNat, .int .u64 (wd Y 3).toNat] 51 (0, 0)) hs
      have hr5 := keep_alloc (x := .cells #[.int .u64 (wd Y 0).toNat, .int .u64 (wd Y 1).toNat, .int .u64 (wd Y 2).toNat, .int .u64 (wd Y 3).toNat] 51 (0, 0)) hr
      have hp5 := keep_alloc (x := .cells #[.int .u64 (wd Y 0).toNat, .int .u64 (wd Y 1).toNat, .int .u64 (wd Y 2).toNat, .int .u64 (wd Y 3).toNat] 51 (0, 0)) hp
      have hb5 := hb.alloc hb.size (.cells #[.int .u64 (wd Y 0).toNat, .int .u64 (wd Y 1).toNat, .int .u64 (wd Y 2).toNat, .int .u64 (wd Y 3).toNat] 51 (0, 0))
      generalize wr.alloc _ = W5 at *
      generalize wr.heap.size = yb at *
      clear v0 v1 v2 v3 hs hr hp hb
      cases ho : o.getLsbD k
      · have hF := Lib.hid (hnk.out ho)
        rw [show bitI o k = 0 by unfold bitI; rw [ho]; rfl] at hbk
        clear ho hyk hnk HA hy5
        go_wp2
        go_roundw
        case rel => exact ⟨k + 1, by omega, by go_num, hb5, hs5, hr5, by rw [hF.out]; exact hp5⟩
        case measure => simp [intOf]; omega
      · have hF := Lib.hid (hyk.out ho)
        rw [show bitI o k = 1 by unfold bitI; rw [ho]; rfl] at hbk
        have HA1 := fun w => HA (F k) Y w
        generalize F k &&& Y = Z at *
        clear ho hyk hnk HA
        obtain ⟨p0, p1, p2, p3, -⟩ := now4 hp5 rfl
        obtain ⟨y0, y1, y2, y3, -⟩ := now4 hy5 rfl
        go_wp2_with fail
        refine (HA1 _).mono ?_
        rintro e w6 ⟨rfl, hb6⟩
        have hpx := keep_blk hb6 hp5
        have hs' := keep_set4 (c := pb) (x0 := .int .u64 (wd Z 0).toNat) (x1 := .int .u64 (wd Z 1).toNat) (x2 := .int .u64 (wd Z 2).toNat) (x3 := .int .u64 (wd Z 3).toNat) (by omega) (keep_blk hb6 hs5)
        have hr' := keep_set4 (c := pb) (x0 := .int .u64 (wd Z 0).toNat) (x1 := .int .u64 (wd Z 1).toNat) (x2 := .int .u64 (wd Z 2).toNat) (x3 := .int .u64 (wd Z 3).toNat) (by omega) (keep_blk hb6 hr5)
        have hp' := put4 (x0 := .int .u64 (wd Z 0).toNat) (x1 := .int .u64 (wd Z 1).toNat) (x2 := .int .u64 (wd Z 2).toNat) (x3 := .int .u64 (wd Z 3).toNat) hpx
        have hb' := below4 (b := pb) (x0 := .int .u64 (wd Z 0).toNat) (x1 := .int .u64 (wd Z 1).toNat) (x2 := .int .u64 (wd Z 2).toNat) (x3 := .int .u64 (wd Z 3).toNat) (by omega) (hb5.trans (hb6.mono hb5.size))
        have I := Lib.hid (And.intro hb' (And.intro hs' (And.intro hr' hp')))
        clear hb' hs' hr' hp' p0 p1 p2 p3 y0 y1 y2 y3 hs5 hr5 hp5 hy5 hb5 hb6 HA1
        obtain ⟨p0, p1, p2, p3, pf⟩ := now4 hpx rfl
        clear hpx
        go_wp2
        go_roundw
        case rel => exact ⟨k + 1, by omega, by go_num, I.out.1, I.out.2.1, I.out.2.2.1, by rw [hF.out]; exact I.out.2.2.2⟩
        case measure => simp [intOf]; omega
    · obtain rfl : k = may.length := by omega
      obtain ⟨p0, p1, p2, p3, -⟩ := now4 hp rfl
      obtain ⟨r0, r1, r2, r3, rf⟩ := now4 hr rfl
      have hr' := put4 (x0 := .int .u64 (wd (F may.length) 0).toNat) (x1 := .int .u64 (wd (F may.length) 1).toNat) (x2 := .int .u64 (wd (F may.length) 2).toNat) (x3 := .int .u64 (wd (F may.length) 3).toNat) hr
      obtain ⟨q0, q1, q2, q3, -⟩ := now4 hr' rfl
      have hb' := below4 (b := w.heap.size + 1) (x0 := .int .u64 (wd (F may.length) 0).toNat) (x1 := .int .u64 (wd (F may.length) 1).toNat) (x2 := .int .u64 (wd (F may.length) 2).toNat) (x3 := .int .u64 (wd (F may.length) 3).toNat) (by omega) hb
      generalize hZ : F may.length = Z at *
      have hZ := Lib.hid hZ
      clear hC HA hyes hno h0 hbit hs hr' hlt hk hb hr hp lc hpl
      go_wp2
      exact bodyPost_ret (v := .agg #[.int .u64 (wd Z 0).toNat, .int .u64 (wd Z 1).toNat, .int .u64 (wd Z 2).toNat, .int .u64 (wd Z 3).toNat]) (by simp [results, Tryz.results49, go_sem, q0, q1, q2, q3]) rfl ⟨by rw [hZ.out], hb'⟩

/-! ### The points without their bit -/
theorem andn_all : ∀ (p : Fin 256) (i : Fin 8), bits BinOp.andNot IntKind.i64 (p.val : Int) (wrap64 ((2 : Int) ^ i.val)) = ((p.val - (if p.val.testBit i.val then 2 ^ i.val else 0) : Nat) : Int) := by decide +kernel
theorem andn_at {p i : Nat} (hp : p < 256) (hi : i < 8) : bits BinOp.andNot IntKind.i64 (p : Int) (wrap64 ((2 : Int) ^ i)) = ((p - (if p.testBit i then 2 ^ i else 0) : Nat) : Int) := andn_all ⟨p, hp⟩ ⟨i, hi⟩
/-- What the first k points come to. -/
def lwS (S : BitVec 256) (i : Nat) : Nat → BitVec 256
  | 0 => 0
  | k + 1 => match (pts S)[k]? with
    | some p => lwS S i k ||| BitVec.twoPow 256 (p - (if p.testBit i then 2 ^ i else 0))
    | none => lwS S i k
theorem lwS_succ {S : BitVec 256} {i k p : Nat} (h : (pts S)[k]? = some p) : lwS S i (k + 1) = addB (lwS S i k) ((p - (if p.testBit i then 2 ^ i else 0) : Nat) : Int) := by
  have hp := (pts_lt S p (List.mem_of_getElem? h)).1
  rw [lwS, h]
  unfold addB
  rw [if_pos (by omega), Int.toNat_natCast]
theorem lwS_bit (S : BitVec 256) (i q : Nat) : ∀ k, k ≤ (pts S).length → ((lwS S i k).getLsbD q = true ↔ ∃ j p : Nat, j < k ∧ (pts S)[j]? = some p ∧ p - (if p.testBit i then 2 ^ i else 0) = q)
  | 0, _ => by
    rw [lwS]
    constructor
    · intro h; simp at h
    · rintro ⟨j, p, h, -⟩; omega
  | k + 1, hk => by
    obtain ⟨p, hp⟩ : ∃ p, (pts S)[k]? = some p := ⟨_, List.getElem?_eq_getElem (by omega)⟩
    have ih := lwS_bit S i q k (by omega)
    have hlt := (pts_lt S p (List.mem_of_getElem? hp)).1
    rw [lwS, hp]
    dsimp only
    rw [BitVec.getLsbD_or, Bool.or_eq_true, ih, BitVec.getLsbD_twoPow, Bool.and_eq_true, decide_eq_true_iff, decide_eq_true_iff]
    constructor
    · rintro (⟨j, r, h1, h2, h3⟩ | ⟨-, h2⟩)
      · exact ⟨j, r, by omega, h2, h3⟩
      · exact ⟨k, p, by omega, hp, h2⟩
    · rintro ⟨j, r, h1, h2, h3⟩
      by_cases hj : j < k
      · exact .inl ⟨j, r, hj, h2, h3⟩
      · obtain rfl : j = k := by omega
        rw [hp] at h2
        injection h2 with h2
        subst h2
        exact .inr ⟨by omega, h3⟩
/-- All of them: the half's points, without their bit. -/
theorem lwS_half (S : BitVec 256) {i : Nat} (hi : i < 8) : lwS (halfB S i true) i (pts (halfB S i true)).length = loB S i := by
  apply BitVec.eq_of_getLsbD_eq
  intro q hq
  rw [Bool.eq_iff_iff, lwS_bit _ _ _ _ (Nat.le_refl _)]
  unfold loB
  rw [bvOf_bit, Bool.and_eq_true, Bool.and_eq_true, decide_eq_true_iff, Bool.not_eq_true']
  have hbit : ∀ p : Nat, p.testBit i = true → 2 ^ i ≤ p ∧ (p - 2 ^ i).testBit i = false := fun p hp => by
    obtain ⟨h1, h2⟩ := bit_sub hp
    have := bit_le hp
    exact ⟨this, h1⟩
  constructor
  · rintro ⟨j, p, -, hj, e⟩
    obtain ⟨h256, hp⟩ := pts_lt _ p (List.mem_of_getElem? hj)
    rw [half_bit hi _ h256, Bool.and_eq_true] at hp
    have hb : p.testBit i = true := by simpa using hp.2
    rw [if_pos hb] at e
    obtain ⟨h1, h2⟩ := hbit p hb
    rw [← e]
    exact ⟨by omega, h2, by rw [Nat.sub_add_cancel h1]; exact hp.1⟩
  · rintro ⟨-, h1, h2⟩
    have hlt : q + 2 ^ i < 256 := by
      rcases Nat.lt_or_ge (q + 2 ^ i) 256 with k | k
      · exact k
      · rw [BitVec.getLsbD_of_ge _ _ k] at h2; cases h2
    have hb := bit_add h1
    have hm : q + 2 ^ i ∈ pts (halfB S i true) := by
      unfold pts
      rw [List.mem_filter, List.mem_range]
      refine ⟨hlt, ?_⟩
      rw [half_bit hi _ hlt, h2, hb]
      rfl
    obtain ⟨j, hj⟩ := List.getElem?_of_mem hm
    refine ⟨j, q + 2 ^ i, (List.getElem?_eq_some_iff.1 hj).1, hj, ?_⟩
    rw [if_pos hb, Nat.add_sub_cancel]
set_option maxHeartbeats 4000000 in
set_option maxRecDepth 100000 in
theorem tlowered_any (S : BitVec 256) (i : Nat) (hi : i < 8) (w : World) :
    Calls Tryz.prog 112 #[sv S, .int .i64 i] w fun e w' => e = .returned (sv (lwS S i (pts S).length)) ∧ Below w.heap.size w w' := by
  have HL := fun w => list_any S w
  have hpl : (pts S).length ≤ 256 := by unfold pts; exact Nat.le_trans (List.length_filter_le _ _) (by simp)
  have HW := fun X p w => withAny X p w
  have hx := heap_alloc3_a w (.cells (sa S) 51) (.cells #[.int .u64 0, .int .u64 0, .int .u64 0, .int .u64 0] 51) (.cells #[.int .u64 0, .int .u64 0, .int .u64 0, .int .u64 0] 51)
  have hr := heap_alloc3_b w (.cells (sa S) 51) (.cells #[.int .u64 0, .int .u64 0, .int .u64 0, .int .u64 0] 51) (.cells #[.int .u64 0, .int .u64 0, .int .u64 0, .int .u64 0] 51)
  have hl := heap_alloc3_c w (.cells (sa S) 51) (.cells #[.int .u64 0, .int .u64 0, .int .u64 0, .int .u64 0] 51) (.cells #[.int .u64 0, .int .u64 0, .int .u64 0, .int .u64 0] 51)
  have hb := below_alloc3 w (.cells (sa S) 51) (.cells #[.int .u64 0, .int .u64 0, .int .u64 0, .int .u64 0] 51) (.cells #[.int .u64 0, .int .u64 0, .int .u64 0, .int .u64 0] 51)
  have hnx := Lib.hid (fun k p h => lwS_succ (S := S) (i := i) (k := k) (p := p) h)
  have hlt256 := Lib.hid (fun p h => (pts_lt S p h).1)
  have h0 : Hid (lwS S i 0 = 0) := Lib.hid rfl
  have hand := Lib.hid (fun p hp => andn_at (p := p) (i := i) hp hi)
  generalize lwS S i = F at *
  unfold sv sa wv at *
  go_enter Tryz.func112, Tryz.ntmps112
  go_upto_region 2 with (fail)
  have hlb : w.heap.size + 2 < (((w.alloc (.cells #[.int .u64 (wd S 0).toNat, .int .u64 (wd S 1).toNat, .int .u64 (wd S 2).toNat, .int .u64 (wd S 3).toNat] 51)).alloc (.cells #[.int .u64 0, .int .u64 0, .int .u64 0, .int .u64 0] 51)).alloc (.cells #[.int .u64 0, .int .u64 0, .int .u64 0, .int .u64 0] 51)).heap.size := by simp
  generalize ((w.alloc _).alloc _).alloc _ = W at *
  obtain ⟨x0, x1, x2, x3, -⟩ := now4 hx rfl
  go_wp2_with fail
  refine (HL _).mono ?_
  rintro e w3 ⟨L, rfl, hown, hb3⟩
  have hr3 := keep_blk hb3 hr
  have hl3 := keep_blk hb3 hl
  have hB3 := hb.trans (hb3.mono hb.size)
  clear HL x0 x1 x2 x3 hx hr hl hb
  obtain ⟨A, c, rfl⟩ := own_form hown
  have hcell : Hid (∀ (j p : Nat), (pts S)[j]? = some p → ∃ g, A = some ⟨g, 0, none⟩ ∧ w3.cell? ⟨g, j, none⟩ = some (.int .i64 p) ∧ W.heap.size ≤ g ∧ g < w3.heap.size) := Lib.hid fun j p hj => by
    have hjl := (List.getElem?_eq_some_iff.1 hj).1
    obtain ⟨g, c', e⟩ := ownsRow_form hown (by omega)
    injection e with e _ _
    subst e
    have hg := hown.lt g rfl
    refine ⟨g, rfl, ?_, hg.1, hg.2⟩
    rw [hown.cellAt j (by omega)]
    simp [intsV, hj]
  clear hown
  generalize hN : (pts S).length = N at *
  have hNo := Lib.hid hN
  clear hN
  go_wp2_with fail
  go_loopw [11] (fun t wr => ∃ k : Nat, k ≤ N ∧ t = .int .i64 k ∧ Below w.heap.size w wr ∧
    wr.heap[w.heap.size + 1]? = some (.cells #[.int .u64 0, .int .u64 0, .int .u64 0, .int .u64 0] 51 (0, 0)) ∧
    wr.heap[w.heap.size + 2]? = some (.cells #[.int .u64 (wd (F k) 0).toNat, .int .u64 (wd (F k) 1).toNat, .int .u64 (wd (F k) 2).toNat, .int .u64 (wd (F k) 3).toNat] 51 (0, 0)) ∧ (∀ (g j : Nat) (v : Value), W.heap.size ≤ g → g < w3.heap.size → w3.cell? ⟨g, j, none⟩ = some v → wr.cell? ⟨g, j, none⟩ = some v) ∧ w3.heap.size ≤ wr.heap.size) (fun t _ => N - (intOf t).toNat)
  case atStart => exact ⟨0, Nat.zero_le _, rfl, hB3, hr3, by rw [h0.out]; exact hl3, fun _ _ _ _ _ h => h, Nat.le_refl _⟩
  case round =>
    clear hr3 hl3 hB3 hb3
    obtain ⟨k, hk, rfl, hb, hr, hl, hkeep, hsz⟩ := hrel
    by_cases hlt : k < N
    · obtain ⟨p, hp⟩ : ∃ p, (pts S)[k]? = some p := ⟨_, List.getElem?_eq_getElem (by rw [hNo.out]; exact hlt)⟩
      obtain ⟨g, rfl, hc, hg1, hg2⟩ := hcell.out k p hp
      have c0 := hkeep g k _ hg1 hg2 hc
      have hp256 := hlt256.out p (List.mem_of_getElem? hp)
      have hF := Lib.hid (hnx.out k p hp)
      have han := hand.out p hp256
      have HW1 := fun w => HW (F k) ((p - (if p.testBit i then 2 ^ i else 0) : Nat) : Int) w
      generalize p - (if p.testBit i then 2 ^ i else 0) = q at *
      generalize addB (F k) (q : Int) = Z at *
      clear hp hc hcell hnx hand hlt256 HW h0
      go_upto_region 5 with (fail)
      obtain ⟨P0, P1, P2, P3, -⟩ := box4 hl rfl
      refine wp_region_after_tail 6 (by kernel_rfl) (by kernel_rfl) ?_
      simp only [List.take_succ_cons, List.take_zero, List.drop_succ_cons, List.drop_zero]
      repeat (first | go_big_quiet_step ((go_at_call 143; exact Calls.after_of (HW1 _))))
      refine wpQuiet_nil ?_
      intro x
      have hlx := x.same hl
      have hr' := keep_set4 (c := w.heap.size + 2) (x0 := .int .u64 (wd Z 0).toNat) (x1 := .int .u64 (wd Z 1).toNat) (x2 := .int .u64 (wd Z 2).toNat) (x3 := .int .u64 (wd Z 3).toNat) (by omega) (x.same hr)
      have hl' := put4 (x0 := .int .u64 (wd Z 0).toNat) (x1 := .int .u64 (wd Z 1).toNat) (x2 := .int .u64 (wd Z 2).toNat) (x3 := .int .u64 (wd Z 3).toNat) hlx
      have hb' := below4 (b := w.heap.size + 2) (x0 := .int .u64 (wd Z 0).toNat) (x1 := .int .u64 (wd Z 1).toNat) (x2 := .int .u64 (wd Z 2).toNat) (x3 := .int .u64 (wd Z 3).toNat) (by omega) (hb.trans (x.2.mono hb.size))
      have hk' : ∀ (g j : Nat) (v : Value), W.heap.size ≤ g → g < w3.heap.size → w3.cell? ⟨g, j, none⟩ = some v → ((((x.1.setCell ⟨w.heap.size + 2, 0, none⟩ (.int .u64 (wd Z 0).toNat)).setCell ⟨w.heap.size + 2, 1, none⟩ (.int .u64 (wd Z 1).toNat)).setCell ⟨w.heap.size + 2, 2, none⟩ (.int .u64 (wd Z 2).toNat)).setCell ⟨w.heap.size + 2, 3, none⟩ (.int .u64 (wd Z 3).toNat)).cell? ⟨g, j, none⟩ = some v := fun g j v h1 h2 h3 => by
        have h4 := After.cell x (hkeep g j v h1 h2 h3)
        rw [← h4]
        refine World.cell?_of_block ?_
        have hne : g ≠ w.heap.size + 2 := by omega
        rw [Below.heap_setCell _ _ _ _ hne, Below.heap_setCell _ _ _ _ hne, Below.heap_setCell _ _ _ _ hne, Below.heap_setCell _ _ _ _ hne]
      have hs' : w3.heap.size ≤ ((((x.1.setCell ⟨w.heap.size + 2, 0, none⟩ (.int .u64 (wd Z 0).toNat)).setCell ⟨w.heap.size + 2, 1, none⟩ (.int .u64 (wd Z 1).toNat)).setCell ⟨w.heap.size + 2, 2, none⟩ (.int .u64 (wd Z 2).toNat)).setCell ⟨w.heap.size + 2, 3, none⟩ (.int .u64 (wd Z 3).toNat)).heap.size := by
        have := x.2.size
        simp
        omega
      have I := Lib.hid (And.intro hb' (And.intro hr' (And.intro hl' (And.intro hk' hs'))))
      obtain ⟨p0, p1, p2, p3, pf⟩ := now4 hlx rfl
      clear hb' hr' hl' hk' hs' hlx P0 P1 P2 P3 hb hr hl hkeep hsz c0
      go_wp2
      go_roundw
      case rel => exact ⟨k + 1, by omega, by go_num, I.out.1, I.out.2.1, by rw [hF.out]; exact I.out.2.2.1, I.out.2.2.2.1, I.out.2.2.2.2⟩
      case measure => simp [intOf]; omega
    · obtain rfl : k = N := by omega
      obtain ⟨p0, p1, p2, p3, -⟩ := now4 hl rfl
      obtain ⟨r0, r1, r2, r3, rf⟩ := now4 hr rfl
      generalize hZ : F k = Z at *
      have hZ := Lib.hid hZ
      have hr' := put4 (x0 := .int .u64 (wd Z 0).toNat) (x1 := .int .u64 (wd Z 1).toNat) (x2 := .int .u64 (wd Z 2).toNat) (x3 := .int .u64 (wd Z 3).toNat) hr
      obtain ⟨q0, q1, q2, q3, -⟩ := now4 hr' rfl
      have hb' := below4 (b := w.heap.size + 1) (x0 := .int .u64 (wd Z 0).toNat) (x1 := .int .u64 (wd Z 1).toNat) (x2 := .int .u64 (wd Z 2).toNat) (x3 := .int .u64 (wd Z 3).toNat) (by omega) hb
      clear hcell hnx hand hlt256 HW h0 hr' hlt hk hb hr hl hkeep hsz
      go_wp2
      exact bodyPost_ret (v := .agg #[.int .u64 (wd Z 0).toNat, .int .u64 (wd Z 1).toNat, .int .u64 (wd Z 2).toNat, .int .u64 (wd Z 3).toNat]) (by simp [results, Tryz.results112, go_sem, q0, q1, q2, q3]) rfl ⟨by rw [hNo.out, hZ.out], hb'⟩
end Go.Proofs.YtehpccanjlaokaaGreat
namespace Go.Proofs.YtehpccanjlaokaaGreat
open Go.RowKit Go.Joins

section
variable {P : Program} {ops : Array Oper} {md : Region.Mode} {C : World → Prop}
/-- Each operation behind n waits for n, or for one behind it that does. -/
def chain2B (md : Region.Mode) (ops : Array Oper) (n : Nat) : Bool :=
  (List.range ops.size).all fun t => decide (t ≤ n) || (List.range t).any fun s => decide (n ≤ s) && Region.waitsFor md ops t s
theorem mid_waits {n : Nat} {listed : Array Bool} (hs : Region.sinkB md ops n = true) (hc : chain2B md ops n = true) (hn : n < ops.size) (inv : HeadInv md ops n listed) :
    ∀ (d i : Nat), n - i = d → i < n → listed.getD i true = false → ∀ t, n ≤ t → t ∉ Region.ready md ops listed := by
  intro d
  induction d using Nat.strongRecOn with
  | _ d ih =>
    intro i hd hi hun t ht hr
    obtain ⟨_, ot, hot, hall⟩ := mem_ready.1 hr
    have htlt : t < ops.size := (Array.getElem?_eq_some_iff.1 hot).1
    by_cases htn : t = n
    · subst htn
      have h1 := List.all_eq_true.1 hs i (List.mem_range.2 hi)
      obtain ⟨j, hj, hj2⟩ := List.any_eq_true.1 h1
      simp only [Bool.and_eq_true, decide_eq_true_eq] at hj2
      obtain ⟨oj, hoj, e, he, hb, hon⟩ := Region.waitsFor_spec hj2.2
      have hjle : j ≤ t := by have := List.mem_range.1 hj; omega
      by_cases hjt : j = t
      · subst hjt
        have : oj = ot := Option.some.inj (hoj.symm.trans hot)
        subst this
        have h2 := hall e he hb
        rw [hon, getD_both hun] at h2
        cases h2
      · cases hl : listed.getD j false with
        | true =>
          have h2 := inv.closed j oj hoj hl e he hb
          rw [hon, getD_both hun] at h2
          cases h2
        | false =>
          have hjs : j < listed.size := by rw [inv.size]; omega
          exact ih (t - j) (by omega) j rfl (by omega) (getD_in hjs hl) t (Nat.le_refl _) hr
    · have h1 := List.all_eq_true.1 hc t (List.mem_range.2 htlt)
      simp only [Bool.or_eq_true, decide_eq_true_eq] at h1
      rcases h1 with h1 | h1
      · omega
      · obtain ⟨s, hs1, hs2⟩ := List.any_eq_true.1 h1
        simp only [Bool.and_eq_true, decide_eq_true_eq] at hs2
        have hst := List.mem_range.1 hs1
        obtain ⟨o', ho', e, he, hb, hon⟩ := Region.waitsFor_spec hs2.2
        have : o' = ot := Option.some.inj (ho'.symm.trans hot)
        subst this
        have h2 := hall e he hb
        rw [hon, getD_both (inv.tail s hs2.1 (by omega))] at h2
        cases h2
theorem HeadQ.take2 {n j : Nat} {o : Oper} {v : Value} {L : Array Bool → Act → Prop} (ho : ops[j]? = some o) (hns : Region.noSelect ops = true)
    (hsink : Region.sinkB md ops n = true) (hchain : chain2B md ops n = true) (hn : n < ops.size) (hj : j < n)
    (hL : ∀ done a, L done a → ∀ t, t ∈ Region.ready md ops done → n ≤ t) (k : Nat) :
    ∀ (done : Array Bool) (a : Act), HeadInv md ops n done → FreeAt md ops done j o → j ∈ Region.ready md ops done → YieldsIn P ops C o v a →
      HeadQ P md ops C n L k (done.setIfInBounds j true) (a.put o.dst v) → HeadQ P md ops C n L (k + 1) done a := by
  have sel := Region.noSelect_spec hns
  induction k with
  | zero =>
    intro done a inv _ hr hy H
    have hun := (mem_ready.1 hr).1
    refine ⟨List.ne_nil_of_mem hr, fun t ht => ?_⟩
    have htn : t < n := Nat.lt_of_not_le fun h => mid_waits hsink hchain hn inv (n - j) j rfl hj hun t h ht
    by_cases e : t = j
    · rw [e]; exact ⟨hj, hy.qOp ho H⟩
    · have := hL _ _ H t (ready_mono ht e)
      omega
  | succ k ih =>
    intro done a inv hf hr hy H
    have hun := (mem_ready.1 hr).1
    refine ⟨List.ne_nil_of_mem hr, fun t ht => ?_⟩
    have htn : t < n := Nat.lt_of_not_le fun h => mid_waits hsink hchain hn inv (n - j) j rfl hj hun t h ht
    by_cases e : t = j
    · rw [e]; exact ⟨hj, hy.qOp ho H⟩
    obtain ⟨htu, ot, hot, hwaits⟩ := mem_ready.1 ht
    have nowait : ∀ x, x ∈ ot.after → Region.binds md x = true → x.on ≠ j := by
      intro x hx hb he
      have h1 := hwaits x hx hb
      rw [he, getD_both hun] at h1
      exact Bool.noConfusion h1
    have h2 := qOp_put hot (hf t ot hot e htu nowait) (fun cs b => sel j o cs b ho) (fun cs b => sel t ot cs b hot) hy ((H.2 t (ready_mono ht e)).2)
    refine ⟨htn, qOp_mono ?_ h2⟩
    rintro a' ⟨hy', h3⟩
    refine ih (done.setIfInBounds t true) a' (inv.set ht htn) (hf.later htu) (ready_mono hr (Ne.symm e)) hy' ?_
    · rw [Array.setIfInBounds_comm _ _ e]; exact h3
/-- The head in the order of the text; then operation n alone; then the rest in the order of the text. -/
def lexTo (md : Region.Mode) (ops : Array Oper) : Nat → Nat → Array Bool → Bool
  | 0, k, listed => decide (Region.ready md ops listed = [k]) && Region.lexFrom md ops (ops.size - (k + 1)) (k + 1) (listed.setIfInBounds k true)
  | f + 1, k, listed => (Region.ready md ops listed).contains k && Region.free md ops listed k && lexTo md ops f (k + 1) (listed.setIfInBounds k true)
def midB (md : Region.Mode) (ops : Array Oper) (n : Nat) : Bool :=
  Region.noSelect ops && decide (n < ops.size) && Region.sinkB md ops n && chain2B md ops n && lexTo md ops n 0 (Array.replicate ops.size false)
/-- What is known behind the head: what has come up, and that the rest goes through. -/
def AtMid (md : Region.Mode) (ops : Array Oper) (n : Nat) (done : Array Bool) : Prop := Region.ready md ops done = [n] ∧ Region.lexFrom md ops (ops.size - (n + 1)) (n + 1) (done.setIfInBounds n true) = true
theorem HeadQ.walk2 {n : Nat} {R : Act → Prop} (hns : Region.noSelect ops = true) (hsink : Region.sinkB md ops n = true) (hchain : chain2B md ops n = true) (hn : n < ops.size) (l : List Oper) :
    ∀ (j : Nat) (done : Array Bool) (a : Act), (∀ t, t < l.length → l[t]? = ops[j + t]?) → j + l.length = n → HeadInv md ops n done → lexTo md ops l.length j done = true →
      wpQuiet P ops C R l a → HeadQ P md ops C n (fun done' a' => AtMid md ops n done' ∧ R a') l.length done a := by
  induction l with
  | nil =>
    intro j done a _ hj _ hB h
    have e : j = n := by simpa using hj
    subst e
    simp only [List.length_nil, lexTo, Bool.and_eq_true, decide_eq_true_eq] at hB
    exact ⟨hB, h⟩
  | cons o l ih =>
    intro j done a hl hj inv hB h
    have ho : ops[j]? = some o := by have := hl 0 (by simp); simpa using this.symm
    simp only [List.length_cons] at hj
    simp only [List.length_cons, lexTo, Bool.and_eq_true, List.contains_iff_mem] at hB
    have hq : qOp P ops C j (wpQuiet P ops C R l) a := by unfold qOp; rw [ho]; exact h
    obtain ⟨v, hy, hK⟩ := yieldsIn_of_qOp ho hq
    have hjn : j < n := by omega
    refine HeadQ.take2 ho hns hsink hchain hn hjn (fun _ _ hL t ht => ?_) l.length done a inv (Region.free_spec ho hB.1.2) hB.1.1 hy ?_
    · rw [hL.1.1] at ht
      have : t = n := by simpa using ht
      omega
    refine ih (j + 1) _ _ (fun t ht => ?_) (by omega) (inv.set hB.1.1 hjn) hB.2 hK
    have := hl (t + 1) (by simp; omega)
    rw [show j + (t + 1) = j + 1 + t by omega] at this
    simpa using this
/-- ONE WALK IN THE ORDER OF THE TEXT, the call in the midst of it carried out wherever the head has led. -/
theorem wp_region_mid {id : Nat} {Q : Exit → Act → World → Prop} {a : Act} {w : World} {l : List Oper} (n : Nat) (o : Oper) (ho : l[n]? = some o) (hg : o.guard = none) (hm : P.follows .mixedOrders = true) (hB : midB .any l.toArray n = true) (hC : C w.drew)
    (h : wpQuiet P l.toArray C (fun a' => ∀ w', C w' → ∀ K : Act → World → Prop, Shut (∀ a w, wpQuiet P l.toArray (fun W => W = w) (fun a3 => Q .normal a3 w) (l.drop (n + 1)) a → K a w) → o.wp P a' w' K Q) (l.take n) a) : (Code.region id l.toArray true).wp P Q a w := by
  simp only [midB, Bool.and_eq_true, decide_eq_true_eq] at hB
  obtain ⟨⟨⟨⟨hns, hn⟩, hsink⟩, hchain⟩, hlex⟩ := hB
  have hn' : n < l.length := by simpa using hn
  have htl : (l.take n).length = n := by rw [List.length_take]; omega
  have hoA : l.toArray[n]? = some o := by simpa using ho
  have start : HeadInv .any l.toArray n (Array.replicate l.toArray.size false) :=
    ⟨by simp, fun t _ _ ht => Bool.noConfusion ((getD_replicate_false _ t).symm.trans ht), fun t _ ht => getD_in (by simpa using ht) (getD_replicate_false _ t)⟩
  have H := HeadQ.walk2 (P := P) (C := C) hns hsink hchain hn (l.take n) 0 (Array.replicate l.toArray.size false) a
    (fun t ht => by rw [htl] at ht; simp [ht]) (by rw [htl]; omega) start (by rw [htl]; exact hlex) h
  have H2 := HeadQ.any (Q := Q) (m := (l.drop (n + 1)).length + 1) (fun done a' w' hw' hL => by
    obtain ⟨⟨hr, hlf⟩, hR⟩ := hL
    refine ⟨fun h0 => (by rw [hr] at h0; cases h0), fun i hi => ?_⟩
    have e : i = n := by rw [hr] at hi; simpa using hi
    subst e
    unfold wpOp
    simp only [hoA]
    rw [if_pos (by simp [Region.wanted, hg])]
    refine .inl (hR w' hw' _ (fun a2 w2 h2 => ?_))
    refine wpAny_of_quiet (C := fun W => W = w2) (Q := fun a3 => Q .normal a3 w2) (fun a3 w3 h3 hq => by rw [h3]; exact hq) _ _ _ _ rfl ?_
    refine wpAnyQ_lex (C := fun W => W = w2) (md := .any) hns (l.drop (i + 1)) (i + 1) _ a2 (fun j => by simp) ?_ h2
    have e : (l.drop (i + 1)).length = l.toArray.size - (i + 1) := by simp
    rw [e]; exact hlf) _ _ a w.drew hC H
  rw [htl, show n + ((l.drop (n + 1)).length + 1) = l.toArray.size by simp; omega] at H2
  exact wp_region_any hm H2
end
theorem wp_region_mid_after {P : Program} {id : Nat} {Q : Exit → Act → World → Prop} {a : Act} {w : World} {l : List Oper} (n : Nat) (o : Oper) (ho : l[n]? = some o) (hg : o.guard = none) (hm : P.follows .mixedOrders = true) (hB : midB .any l.toArray n = true)
    (h : wpQuiet P l.toArray (fun W => ∃ x : After w, W = x.1) (fun a' => ∀ x : After w, ∀ K : Act → World → Prop, Shut (∀ a w, wpQuiet P l.toArray (fun W => W = w) (fun a3 => Q .normal a3 w) (l.drop (n + 1)) a → K a w) → o.wp P a' x.1 K Q) (l.take n) a) : (Code.region id l.toArray true).wp P Q a w := by
  refine wp_region_mid (C := fun W => ∃ x : After w, W = x.1) n o ho hg hm hB ⟨⟨_, (Below.refl _ _).drew⟩, rfl⟩ ?_
  have e : (fun a' : Act => ∀ w', (∃ x : After w, w' = x.1) → ∀ K : Act → World → Prop, Shut (∀ a w, wpQuiet P l.toArray (fun W => W = w) (fun a3 => Q .normal a3 w) (l.drop (n + 1)) a → K a w) → o.wp P a' w' K Q) = fun a' => ∀ x : After w, ∀ K : Act → World → Prop, Shut (∀ a w, wpQuiet P l.toArray (fun W => W = w) (fun a3 => Q .normal a3 w) (l.drop (n + 1)) a → K a w) → o.wp P a' x.1 K Q := by
    funext a'
    exact propext ⟨fun H x => H _ ⟨x, rfl⟩, fun H w' ⟨x, hx⟩ => by rw [hx]; exact H x⟩
  rw [e]
  exact h
end Go.Proofs.YtehpccanjlaokaaGreat
