/- Package multi: common, outputs. The document's own All and Same of layer 10. The document's own Grow of layer 10. -/
import Derived.Test.YtmgggennbnbjkaaGreatG24
import Derived.Test.YtmgggennbnbjkaaGreatG25
import Derived.Test.YtmgggennbnbjkaaGreatG16
import Derived.Test.YtmgggennbnbjkaaGreatG21
import Derived.Deep.RegionHeld3
namespace Go.Proofs.YtmgggennbnbjkaaGreat
open Go.RowKit Go.Joins

theorem bitM_eq (x : BitVec 8) (k : Nat) : bits .and .u8 ((x.toNat : Int) / 2 ^ min k 8) 1 = bitI x k := by
  rcases Nat.lt_or_ge k 8 with h | h
  · rw [Nat.min_eq_left (by omega)]; exact bitI_eq x k
  · rw [Nat.min_eq_right h, bitI_eq]
    unfold bitI
    rw [BitVec.getLsbD_of_ge _ _ h, BitVec.getLsbD_of_ge _ _ (Nat.le_refl 8)]
set_option maxHeartbeats 4000000 in
set_option maxRecDepth 100000 in
theorem mcommon_any (i : Nat) (hi : i ≤ 8) (A C : Value) (on may : List (BitVec 256)) (o : BitVec 8) (w : World) (hC : SetsAt w w.heap.size C may) :
    Calls Tryz.prog 18 #[spv i A C, bvv o] w fun e w' => e = .returned (sv (comS ⟨i, on, may⟩ o)) ∧ Below w.heap.size w w' := by
  have HN := fun w => all_any i hi w
  have HA := fun S T w => and_any S T w
  have h0 : Hid (comN ⟨i, on, may⟩ o 0 = allB i) := Lib.hid (by show allB (i : Int).toNat = _; rw [Int.toNat_natCast])
  have hyes : Hid (∀ k X, may[k]? = some X → o.getLsbD k = true → comN ⟨i, on, may⟩ o (k + 1) = comN ⟨i, on, may⟩ o k &&& X) := Lib.hid fun k X hX ho => by
    show (if o.getLsbD k = true then comN ⟨i, on, may⟩ o k &&& may.getD k 0 else comN ⟨i, on, may⟩ o k) = _
    rw [if_pos ho, getD_of hX]
  have hno : Hid (∀ k, o.getLsbD k = false → comN ⟨i, on, may⟩ o (k + 1) = comN ⟨i, on, may⟩ o k) := Lib.hid fun k ho => by
    show (if o.getLsbD k = true then comN ⟨i, on, may⟩ o k &&& may.getD k 0 else comN ⟨i, on, may⟩ o k) = _
    rw [ho]; rfl
  have hbit := Lib.hid (bitM_eq o)
  unfold comS
  generalize comN ⟨i, on, may⟩ o = F at *
  show Calls _ _ _ _ fun e w' => e = .returned (sv (F may.length)) ∧ _
  obtain ⟨C, cc, rfl, lc, hC⟩ := hC
  have hs : ((w.alloc (spb i A (.slice C may.length cc))).alloc (.cells #[.int .u64 0, .int .u64 0, .int .u64 0, .int .u64 0] 41)).heap[w.heap.size]? = some (spb i A (.slice C may.length cc)) := by rw [heap_alloc2_old]
  have hr : ((w.alloc (spb i A (.slice C may.length cc))).alloc (.cells #[.int .u64 0, .int .u64 0, .int .u64 0, .int .u64 0] 41)).heap[w.heap.size + 1]? = some (.cells #[.int .u64 0, .int .u64 0, .int .u64 0, .int .u64 0] 41 (0, 0)) := by rw [heap_alloc2_new]
  have hb := below_alloc2 w (spb i A (.slice C may.length cc)) (.cells #[.int .u64 0, .int .u64 0, .int .u64 0, .int .u64 0] 41)
  unfold spv spb bvv sv wv at *
  go_enter Tryz.func18, Tryz.ntmps18
  go_upto_region 1 with (fail)
  generalize (w.alloc _).alloc _ = W at *
  obtain ⟨s0, s1, s2, -⟩ := now3 hs rfl
  go_wp2_with fail
  refine (HN _).mono ?_
  rintro e w1 ⟨rfl, hb1⟩
  rw [← h0.out]
  have hs1 := keep_blk hb1 hs
  have hr1 := keep_blk hb1 hr
  have hB1 := hb.trans (hb1.mono hb.size)
  have hp2 := heap_alloc_new w1 (.cells #[.int .u64 (wd (F 0) 0).toNat, .int .u64 (wd (F 0) 1).toNat, .int .u64 (wd (F 0) 2).toNat, .int .u64 (wd (F 0) 3).toNat] 41)
  have hs2 := keep_alloc (x := .cells #[.int .u64 (wd (F 0) 0).toNat, .int .u64 (wd (F 0) 1).toNat, .int .u64 (wd (F 0) 2).toNat, .int .u64 (wd (F 0) 3).toNat] 41) hs1
  have hr2 := keep_alloc (x := .cells #[.int .u64 (wd (F 0) 0).toNat, .int .u64 (wd (F 0) 1).toNat, .int .u64 (wd (F 0) 2).toNat, .int .u64 (wd (F 0) 3).toNat] 41) hr1
  have hB2 := hB1.trans ((below_alloc1 w1 (.cells #[.int .u64 (wd (F 0) 0).toNat, .int .u64 (wd (F 0) 1).toNat, .int .u64 (wd (F 0) 2).toNat, .int .u64 (wd (F 0) 3).toNat] 41)).mono hB1.size)
  have hpl : w.heap.size + 1 < w1.heap.size := size_of_block hr1
  clear HN s0 s1 s2 hs hr hb hb1 hs1 hr1 hB1
  go_upto_region 2 with (fail)
  generalize w1.alloc _ = w2 at *
  generalize w1.heap.size = pb at *
  obtain ⟨s0, s1, s2, -⟩ := now3 hs2 rfl
  go_wp2_with fail
  clear s0 s1 s2
  go_loopw [17] (fun t wr => ∃ k : Nat, k ≤ may.length ∧ t = .int .i64 k ∧ Below w.heap.size w wr ∧ wr.heap[w.heap.size]? = some (.cells #[.int .i64 i, A, .slice C may.length cc] 24 (0, 0)) ∧
    wr.heap[w.heap.size + 1]? = some (.cells #[.int .u64 0, .int .u64 0, .int .u64 0, .int .u64 0] 41 (0, 0)) ∧
    wr.heap[pb]? = some (.cells #[.int .u64 (wd (F k) 0).toNat, .int .u64 (wd (F k) 1).toNat, .int .u64 (wd (F k) 2).toNat, .int .u64 (wd (F k) 3).toNat] 41 (0, 0))) (fun t _ => may.length - (intOf t).toNat)
  case atStart => exact ⟨0, by omega, rfl, hB2, hs2, hr2, hp2⟩
  case round =>
    clear hB2 hs2 hr2 hp2
    obtain ⟨k, hk, rfl, hb, hs, hr, hp⟩ := hrel
    by_cases hlt : k < may.length
    · obtain ⟨b2, off2, rfl, hBb2, hc2⟩ := hC (by omega)
      obtain ⟨Y, hY⟩ : ∃ Y, may[k]? = some Y := ⟨_, List.getElem?_eq_getElem hlt⟩
      obtain ⟨y0, y1, y2, y3⟩ := hc2 k Y hY
      have v0 := (hb.cell (p := ⟨b2, off2 + k * 4, none⟩) hBb2).trans y0
      have v1 := (hb.cell (p := ⟨b2, off2 + k * 4 + 1, none⟩) hBb2).trans y1
      have v2 := (hb.cell (p := ⟨b2, off2 + k * 4 + 2, none⟩) hBb2).trans y2
      have v3 := (hb.cell (p := ⟨b2, off2 + k * 4 + 3, none⟩) hBb2).trans y3
      have hbk := hbit.out k
      have hyk := Lib.hid (hyes.out k Y hY)
      have hnk := Lib.hid (hno.out k)
      clear y0 y1 y2 y3 hc2 hY hyes hno h0 hbit
      unfold wv at *
      cases ho : o.getLsbD k
      · have hF := Lib.hid (hnk.out ho)
        rw [show bitI o k = 0 by unfold bitI; rw [ho]; rfl] at hbk
        clear ho hyk hnk v0 v1 v2 v3 HA
        go_wp2
        go_roundw
        case rel => exact ⟨k + 1, by omega, by go_num, hb, hs, hr, by rw [hF.out]; exact hp⟩
        case measure => simp [intOf]; omega
      · have hF := Lib.hid (hyk.out ho)
        rw [show bitI o k = 1 by unfold bitI; rw [ho]; rfl] at hbk
        have HA1 := fun w => HA (F k) Y w
        generalize F k &&& Y = Z at *
        clear ho hyk hnk HA
        go_upto_region 6 with (fail)
        obtain ⟨P0, P1, P2, P3, -⟩ := box4 hp rfl
        obtain ⟨S0, S1, S2, -⟩ := box3 hs rfl
        have T0 := fun x : After wr => After.cell x v0
        have T1 := fun x : After wr => After.cell x v1
        have T2 := fun x : After wr => After.cell x v2
        have T3 := fun x : After wr => After.cell x v3
        refine wp_region_after_tail 7 (by kernel_rfl) (by kernel_rfl) ?_
        simp only [List.take_succ_cons, List.take_zero, List.drop_succ_cons, List.drop_zero]
        repeat (first | go_big_quiet_step ((go_at_call 43; exact Calls.after_of (HA1 _))))
        refine wpQuiet_nil ?_
        intro x
        have hbx := hb.trans (x.2.mono hb.size)
        have hsx := x.same hs
        have hrx := x.same hr
        have hpx := x.same hp
        clear P0 P1 P2 P3 S0 S1 S2 T0 T1 T2 T3 v0 v1 v2 v3 HA1 hb hs hr hp
        have hs' := keep_set4 (c := pb) (x0 := .int .u64 (wd Z 0).toNat) (x1 := .int .u64 (wd Z 1).toNat) (x2 := .int .u64 (wd Z 2).toNat) (x3 := .int .u64 (wd Z 3).toNat) (by omega) hsx
        have hr' := keep_set4 (c := pb) (x0 := .int .u64 (wd Z 0).toNat) (x1 := .int .u64 (wd Z 1).toNat) (x2 := .int .u64 (wd Z 2).toNat) (x3 := .int .u64 (wd Z 3).toNat) (by omega) hrx
        have hp' := put4 (x0 := .int .u64 (wd Z 0).toNat) (x1 := .int .u64 (wd Z 1).toNat) (x2 := .int .u64 (wd Z 2).toNat) (x3 := .int .u64 (wd Z 3).toNat) hpx
        have hb' := below4 (b := pb) (x0 := .int .u64 (wd Z 0).toNat) (x1 := .int .u64 (wd Z 1).toNat) (x2 := .int .u64 (wd Z 2).toNat) (x3 := .int .u64 (wd Z 3).toNat) (by omega) hbx
        have I := Lib.hid (And.intro hb' (And.intro hs' (And.intro hr' hp')))
        obtain ⟨p0, p1, p2, p3, pf⟩ := now4 hpx rfl
        clear hb' hs' hr' hp' hsx hrx hpx hbx
        go_wp2
        go_roundw
        case rel => exact ⟨k + 1, by omega, by go_num, I.out.1, I.out.2.1, I.out.2.2.1, by rw [hF.out]; exact I.out.2.2.2⟩
        case measure => simp [intOf]; omega
    · obtain rfl : k = may.length := by omega
      obtain ⟨p0, p1, p2, p3, -⟩ := now4 hp rfl
      obtain ⟨r0, r1, r2, r3, rf⟩ := now4 hr rfl
      have hr' := put4 (x0 := .int .u64 (wd (F may.length) 0).toNat) (x1 := .int .u64 (wd (F may.length) 1).toNat) (x2 := .int .u64 (wd (F may.length) 2).toNat) (x3 := .int .u64 (wd (F may.length) 3).toNat) hr
      obtain ⟨q0, q1, q2, q3, -⟩ := now4 hr' rfl
      have hb' := below4 (b := w.heap.size + 1) (x0 := .int .u64 (wd (F may.length) 0).toNat) (x1 := .int .u64 (wd (F may.length) 1).toNat) (x2 := .int .u64 (wd (F may.length) 2).toNat) (x3 := .int .u64 (wd (F may.length) 3).toNat) (by omega) hb
      generalize hZ : F may.length = Z at *
      have hZ := Lib.hid hZ
      clear hC HA hyes hno h0 hbit hs hr' hlt hk hb hr hp lc hpl
      go_wp2
      exact bodyPost_ret (v := .agg #[.int .u64 (wd Z 0).toNat, .int .u64 (wd Z 1).toNat, .int .u64 (wd Z 2).toNat, .int .u64 (wd Z 3).toNat]) (by simp [results, Tryz.results18, go_sem, q0, q1, q2, q3]) rfl ⟨by rw [hZ.out], hb'⟩

theorem orBit8 (u : BitVec 8) (k : Nat) : bits .or .u8 (u.toNat : Int) (2 ^ k % 256) = ((u ||| BitVec.twoPow 8 k).toNat : Int) := by
  have h : bits .or .u8 (u.toNat : Int) ((BitVec.twoPow 8 k).toNat : Int) = ((u ||| BitVec.twoPow 8 k).toNat : Int) := or8 u (BitVec.twoPow 8 k)
  rw [BitVec.toNat_twoPow] at h
  exact h
set_option maxHeartbeats 4000000 in
set_option maxRecDepth 100000 in
theorem moutputs_any (i : Int) (A C : Value) (on may : List (BitVec 256)) (m v : BitVec 8) (h8 : may.length ≤ 8) (w : World) (hC : SetsAt w w.heap.size C may) :
    Calls Tryz.prog 19 #[spv i A C, cv m v] w fun e w' => e = .returned (bvv (outS ⟨i, on, may⟩ m v)) ∧ Below w.heap.size w w' := by
  have HW := fun S w => pwithin_any m v S i w
  have hyes : Hid (∀ k X, may[k]? = some X → inB X i m v = true → outN ⟨i, on, may⟩ m v (k + 1) = outN ⟨i, on, may⟩ m v k ||| BitVec.twoPow 8 k) := Lib.hid fun k X hX ho => by
    show (if inB (may.getD k 0) i m v = true then outN ⟨i, on, may⟩ m v k ||| BitVec.twoPow 8 k else outN ⟨i, on, may⟩ m v k) = _
    rw [getD_of hX, if_pos ho]
  have hno : Hid (∀ k X, may[k]? = some X → inB X i m v = false → outN ⟨i, on, may⟩ m v (k + 1) = outN ⟨i, on, may⟩ m v k) := Lib.hid fun k X hX ho => by
    show (if inB (may.getD k 0) i m v = true then outN ⟨i, on, may⟩ m v k ||| BitVec.twoPow 8 k else outN ⟨i, on, may⟩ m v k) = _
    rw [getD_of hX, ho]; rfl
  have h0 : Hid (outN ⟨i, on, may⟩ m v 0 = 0) := Lib.hid rfl
  unfold outS
  generalize outN ⟨i, on, may⟩ m v = F at *
  show Calls _ _ _ _ fun e w' => e = .returned (bvv (F may.length)) ∧ _
  obtain ⟨C, cc, rfl, lc, hC⟩ := hC
  have hs : ((w.alloc (spb i A (.slice C may.length cc))).alloc (cb m v)).heap[w.heap.size]? = some (spb i A (.slice C may.length cc)) := by rw [heap_alloc2_old]
  have hr : ((w.alloc (spb i A (.slice C may.length cc))).alloc (cb m v)).heap[w.heap.size + 1]? = some (cb m v) := by rw [heap_alloc2_new]
  have hb := below_alloc2 w (spb i A (.slice C may.length cc)) (cb m v)
  unfold spv spb cv cb bvv sv wv at *
  go_enter Tryz.func19, Tryz.ntmps19
  go_wp2
  generalize (w.alloc _).alloc _ = W at *
  have hWs := hb.size
  go_loopw [5, 10] (fun u t wr => ∃ k : Nat, k ≤ may.length ∧ t = .int .i64 k ∧ u = .int .u8 (F k).toNat ∧ Below W.heap.size W wr) (fun _ t _ => may.length - (intOf t).toNat)
  case atStart => exact ⟨0, by omega, rfl, by rw [h0.out]; rfl, Below.refl _ _⟩
  case round =>
    obtain ⟨k, hk, rfl, rfl, hbr⟩ := hrel
    have hs := keep_blk hbr hs
    have hr := keep_blk hbr hr
    by_cases hlt : k < may.length
    · obtain ⟨b2, off2, rfl, hBb2, hc2⟩ := hC (by omega)
      obtain ⟨Y, hY⟩ : ∃ Y, may[k]? = some Y := ⟨_, List.getElem?_eq_getElem hlt⟩
      obtain ⟨y0, y1, y2, y3⟩ := hc2 k Y hY
      have hbw := hb.trans (hbr.mono hWs)
      have v0 := (hbw.cell (p := ⟨b2, off2 + k * 4, none⟩) hBb2).trans y0
      have v1 := (hbw.cell (p := ⟨b2, off2 + k * 4 + 1, none⟩) hBb2).trans y1
      have v2 := (hbw.cell (p := ⟨b2, off2 + k * 4 + 2, none⟩) hBb2).trans y2
      have v3 := (hbw.cell (p := ⟨b2, off2 + k * 4 + 3, none⟩) hBb2).trans y3
      have hyk := Lib.hid (hyes.out k Y hY)
      have hnk := Lib.hid (hno.out k Y hY)
      have HW1 := fun w => HW Y w
      have hk8 : k < 8 := by omega
      clear y0 y1 y2 y3 hc2 hY hyes hno h0 HW hbw
      unfold wv at *
      go_upto_region 5 with (fail)
      obtain ⟨P0, P1, -⟩ := box2 hr rfl
      obtain ⟨S0, S1, S2, -⟩ := box3 hs rfl
      have T0 := fun x : After wr => After.cell x v0
      have T1 := fun x : After wr => After.cell x v1
      have T2 := fun x : After wr => After.cell x v2
      have T3 := fun x : After wr => After.cell x v3
      cases ho : inB Y i m v
      · have hF := Lib.hid (hnk.out ho)
        rw [ho] at HW1
        clear ho hyk hnk
        refine wp_region_after (by kernel_rfl) (by kernel_rfl) ?_
        repeat (first | go_big_quiet_step ((go_at_call 44; exact Calls.after_of (HW1 _))))
        refine wpQuiet_nil ?_
        intro x
        have hbx := hbr.trans (x.2.mono hbr.size)
        clear P0 P1 S0 S1 S2 T0 T1 T2 T3 v0 v1 v2 v3 HW1 hbr hs hr hb
        go_wp2
        go_roundw
        case rel => exact ⟨k + 1, by omega, by go_num, by rw [hF.out], hbx⟩
        case measure => simp [intOf]; omega
      · have hF := Lib.hid (hyk.out ho)
        rw [ho] at HW1
        have hob := orBit8 (F k) k
        clear ho hyk hnk
        generalize F k ||| BitVec.twoPow 8 k = Z at *
        refine wp_region_after (by kernel_rfl) (by kernel_rfl) ?_
        repeat (first | go_big_quiet_step ((go_at_call 44; exact Calls.after_of (HW1 _))))
        refine wpQuiet_nil ?_
        intro x
        have hbx := hbr.trans (x.2.mono hbr.size)
        clear P0 P1 S0 S1 S2 T0 T1 T2 T3 v0 v1 v2 v3 HW1 hbr hs hr hb
        go_wp2
        go_roundw
        case rel => exact ⟨k + 1, by omega, by go_num, by rw [hF.out], hbx⟩
        case measure => simp [intOf]; omega
    · obtain rfl : k = may.length := by omega
      have hB := hb.trans (hbr.mono hWs)
      clear hC HW hyes hno h0 hs hr hb hbr hlt hk lc
      go_wp2
      go_ret
      exact ⟨rfl, hB⟩
end Go.Proofs.YtmgggennbnbjkaaGreat
namespace Go.Proofs.YtmgggennbnbjkaaGreat
open Go.RowKit Go.Joins

theorem prim_hit {s : Sp} (h4 : s.on.length ≤ 8) {i k : Nat} {x y : Rw} (hx : (rwL (rowIn s))[i]? = some x) (hy : (rwL (rowIn s))[k]? = some y) (hne : k ≠ i) (h : rhB y x = true) : primR s x = false := by
  rw [Bool.eq_false_iff]
  intro hp
  rw [(prime_at h4 hx).1 hp k y hy hne] at h; cases h
/-- No other one of the first k holds it. -/
def NoneH (L : List Rw) (i : Nat) (x : Rw) (k : Nat) : Prop := ∀ q y, q < k → L[q]? = some y → q ≠ i → rhB y x = false
end Go.Proofs.YtmgggennbnbjkaaGreat
namespace Go.Proofs.YtmgggennbnbjkaaGreat
open Go.RowKit Go.Joins

def rwB3 (x : Rw) : Obj := .cells #[.int .u8 x.m.toNat, .int .u8 x.v.toNat, .int .u8 x.o.toNat] 28 (0, 0)
def rwZ : Obj := .cells #[.int .u8 0, .int .u8 0, .int .u8 0] 28 (0, 0)
theorem rowin_vm {s : Sp} {x : Rw} (h : rowIn s x = true) : x.v &&& x.m = x.v := ((rightB_iff _ _ _).1 (rwB_iff.1 (rowin_right h)).2.2).2.2.2
/-- Where Grow's boxes lie. -/
structure GrI (w : World) (sb : Obj) (y : Rw) (wr : World) : Prop where
  s : wr.heap[w.heap.size]? = some sb
  x : wr.heap[w.heap.size + 1]? = some (rwB3 y)
  r : wr.heap[w.heap.size + 2]? = some rwZ
  b : Below w.heap.size w wr
theorem GrI.after {w wr w2 : World} {sb : Obj} {y : Rw} (h : GrI w sb y wr) (hb : Below wr.heap.size wr w2) : GrI w sb y w2 :=
  ⟨keep_blk hb h.s, keep_blk hb h.x, keep_blk hb h.r, h.b.trans (hb.mono h.b.size)⟩
theorem GrI.set {w wr : World} {sb : Obj} {y : Rw} (h : GrI w sb y wr) {a : Addr} {u : Value} (ha : w.heap.size + 3 ≤ a.block) : GrI w sb y (wr.setCell a u) :=
  ⟨keep_set (by omega) h.s, keep_set (by omega) h.x, keep_set (by omega) h.r, h.b.setCell (by omega) _⟩
theorem put3 {w : World} {b : Nat} {T : TypeId} {x0 x1 x2 y0 y1 y2 : Value} (h : w.heap[b]? = some (.cells #[y0, y1, y2] T (0, 0))) :
    (((w.setCell ⟨b, 0, none⟩ x0).setCell ⟨b, 1, none⟩ x1).setCell ⟨b, 2, none⟩ x2).heap[b]? = some (.cells #[x0, x1, x2] T (0, 0)) := by
  rw [block_setCell (block_setCell (block_setCell h x0) x1) x2]
  rfl
theorem GrI.put {w wr : World} {sb : Obj} {y z : Rw} (h : GrI w sb y wr) :
    GrI w sb z (((wr.setCell ⟨w.heap.size + 1, 0, none⟩ (.int .u8 z.m.toNat)).setCell ⟨w.heap.size + 1, 1, none⟩ (.int .u8 z.v.toNat)).setCell ⟨w.heap.size + 1, 2, none⟩ (.int .u8 z.o.toNat)) :=
  ⟨keep_set (by simp) (keep_set (by simp) (keep_set (by simp) h.s)), put3 h.x, keep_set (by simp) (keep_set (by simp) (keep_set (by simp) h.r)), ((h.b.setCell (by simp) _).setCell (by simp) _).setCell (by simp) _⟩
theorem gr_start (w : World) (sb : Obj) (x : Rw) : GrI w sb x (((w.alloc sb).alloc (rwB3 x)).alloc rwZ) :=
  ⟨heap_alloc3_a _ _ _ _, heap_alloc3_b _ _ _ _, heap_alloc3_c _ _ _ _, below_alloc3 _ _ _ _⟩
theorem or_bit_add : ∀ {j a : Nat}, a.testBit j = false → a ||| 2 ^ j = a + 2 ^ j
  | 0, a, h => by
    have h0 : a % 2 = 0 := by rw [Nat.testBit_zero] at h; have := of_decide_eq_false h; omega
    have h1 : (a ||| 2 ^ 0) / 2 = a / 2 ||| 2 ^ 0 / 2 := Nat.or_div_two
    have h2 : (a ||| 2 ^ 0) % 2 = 1 := Nat.or_mod_two_eq_one.2 (.inr rfl)
    rw [show (2 : Nat) ^ 0 / 2 = 0 from rfl, Nat.or_zero] at h1
    rw [Nat.pow_zero] at *
    omega
  | j + 1, a, h => by
    rw [Nat.testBit_succ] at h
    have ih := or_bit_add h
    have h1 : (a ||| 2 ^ (j + 1)) / 2 = a / 2 ||| 2 ^ (j + 1) / 2 := Nat.or_div_two
    have e : 2 ^ (j + 1) / 2 = 2 ^ j := by rw [Nat.pow_succ]; omega
    have h2 : (a ||| 2 ^ (j + 1)) % 2 = 1 ↔ a % 2 = 1 ∨ 2 ^ (j + 1) % 2 = 1 := Nat.or_mod_two_eq_one
    rw [e, ih] at h1
    have e2 : 2 ^ (j + 1) = 2 * 2 ^ j := by rw [Nat.pow_succ]; omega
    generalize a ||| 2 ^ (j + 1) = k at *
    generalize 2 ^ (j + 1) = p at *
    generalize 2 ^ j = m at *
    omega
theorem add_out {o : BitVec 8} {j : Nat} (hj : j < 8) (h : o.getLsbD j = false) : (o ||| BitVec.twoPow 8 j).toNat = o.toNat + pw j := by
  rw [BitVec.toNat_or, BitVec.toNat_twoPow, pw_low j hj, Nat.mod_eq_of_lt (Nat.pow_lt_pow_right (n := 8) (by decide) hj)]
  exact or_bit_add h
theorem GrI.put2 {w wr : World} {sb : Obj} {y : Rw} (h : GrI w sb y wr) (o : BitVec 8) :
    GrI w sb ⟨y.m, y.v, o⟩ (wr.setCell ⟨w.heap.size + 1, 2, none⟩ (.int .u8 o.toNat)) :=
  ⟨keep_set (by simp) h.s, block_setCell (i := 2) h.x (.int .u8 o.toNat), keep_set (by simp) h.r, h.b.setCell (by simp) _⟩
end Go.Proofs.YtmgggennbnbjkaaGreat
