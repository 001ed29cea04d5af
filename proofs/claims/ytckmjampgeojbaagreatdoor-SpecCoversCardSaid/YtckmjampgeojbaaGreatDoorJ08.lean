/- What a table asks for: rules, saidOf of the package spec. A region that draws its order and ends in stores that wait for all the rest: ahead of these a load may be taken first where nobody ahead of the stores writes its cell; the stores themselves may write it. -/
import Derived.Test.YtckmjampgeojbaaGreatDoorJ07
import Derived.Test.YtckmjampgeojbaaGreatDoorJ06
import Derived.Test.YtckmjampgeojbaaGreatDoorJ01
import Derived.Laws.EntriesVeiled
import Derived.Deep.RegionHeld3
namespace Go.Proofs.YtckmjampgeojbaaGreatDoor
open Go.RowKit Go.Joins

/-- What is said of one output: the points of noughts, ones, and free ones. -/
def sdv (Z O F : BitVec 256) : Value := .agg #[wv (wd Z 0), wv (wd Z 1), wv (wd Z 2), wv (wd Z 3), wv (wd O 0), wv (wd O 1), wv (wd O 2), wv (wd O 3), wv (wd F 0), wv (wd F 1), wv (wd F 2), wv (wd F 3)]
def sdb (Z O F : BitVec 256) : Obj := .cells #[wv (wd Z 0), wv (wd Z 1), wv (wd Z 2), wv (wd Z 3), wv (wd O 0), wv (wd O 1), wv (wd O 2), wv (wd O 3), wv (wd F 0), wv (wd F 1), wv (wd F 2), wv (wd F 3)] 73 (0, 0)
theorem box12 {w : World} {b : Nat} {T : TypeId} {x0 x1 x2 x3 x4 x5 x6 x7 x8 x9 x10 x11 : Value} (h : w.heap[b]? = some (.cells #[x0, x1, x2, x3, x4, x5, x6, x7, x8, x9, x10, x11] T (0, 0))) :
    ((∀ x : After w, x.1.cell? ⟨b, 0, none⟩ = some x0) ∧ (∀ x : After w, x.1.cell? ⟨b, 1, none⟩ = some x1) ∧ (∀ x : After w, x.1.cell? ⟨b, 2, none⟩ = some x2) ∧ (∀ x : After w, x.1.cell? ⟨b, 3, none⟩ = some x3)) ∧
    ((∀ x : After w, x.1.cell? ⟨b, 4, none⟩ = some x4) ∧ (∀ x : After w, x.1.cell? ⟨b, 5, none⟩ = some x5) ∧ (∀ x : After w, x.1.cell? ⟨b, 6, none⟩ = some x6) ∧ (∀ x : After w, x.1.cell? ⟨b, 7, none⟩ = some x7)) ∧
    ((∀ x : After w, x.1.cell? ⟨b, 8, none⟩ = some x8) ∧ (∀ x : After w, x.1.cell? ⟨b, 9, none⟩ = some x9) ∧ (∀ x : After w, x.1.cell? ⟨b, 10, none⟩ = some x10) ∧ (∀ x : After w, x.1.cell? ⟨b, 11, none⟩ = some x11)) ∧ (∀ (x : After w) (j : Nat), x.1.frozen? ⟨b, j, none⟩ = false) := by
  have hz := size_of_block h
  refine ⟨⟨?_, ?_, ?_, ?_⟩, ⟨?_, ?_, ?_, ?_⟩, ⟨?_, ?_, ?_, ?_⟩, fun x j => After.frozen x hz (unfrozen_of_block h j)⟩ <;> exact fun x => After.cell x (by rw [cell_of_block h]; rfl)
theorem now12 {w : World} {b : Nat} {T : TypeId} {x0 x1 x2 x3 x4 x5 x6 x7 x8 x9 x10 x11 : Value} (h : w.heap[b]? = some (.cells #[x0, x1, x2, x3, x4, x5, x6, x7, x8, x9, x10, x11] T (0, 0))) :
    (w.cell? ⟨b, 0, none⟩ = some x0 ∧ w.cell? ⟨b, 1, none⟩ = some x1 ∧ w.cell? ⟨b, 2, none⟩ = some x2 ∧ w.cell? ⟨b, 3, none⟩ = some x3) ∧
    (w.cell? ⟨b, 4, none⟩ = some x4 ∧ w.cell? ⟨b, 5, none⟩ = some x5 ∧ w.cell? ⟨b, 6, none⟩ = some x6 ∧ w.cell? ⟨b, 7, none⟩ = some x7) ∧
    (w.cell? ⟨b, 8, none⟩ = some x8 ∧ w.cell? ⟨b, 9, none⟩ = some x9 ∧ w.cell? ⟨b, 10, none⟩ = some x10 ∧ w.cell? ⟨b, 11, none⟩ = some x11) ∧ (∀ j : Nat, w.frozen? ⟨b, j, none⟩ = false) := by
  refine ⟨⟨?_, ?_, ?_, ?_⟩, ⟨?_, ?_, ?_, ?_⟩, ⟨?_, ?_, ?_, ?_⟩, unfrozen_of_block h⟩ <;> rw [cell_of_block h] <;> rfl
/-- A store of one of the three sets. -/
theorem put12 {w : World} {b : Nat} {T : TypeId} {x0 x1 x2 x3 x4 x5 x6 x7 x8 x9 x10 x11 : Value} (h : w.heap[b]? = some (.cells #[x0, x1, x2, x3, x4, x5, x6, x7, x8, x9, x10, x11] T (0, 0))) (y0 y1 y2 y3 : Value) :
    ((((w.setCell ⟨b, 0, none⟩ y0).setCell ⟨b, 1, none⟩ y1).setCell ⟨b, 2, none⟩ y2).setCell ⟨b, 3, none⟩ y3).heap[b]? = some (.cells #[y0, y1, y2, y3, x4, x5, x6, x7, x8, x9, x10, x11] T (0, 0)) ∧
    ((((w.setCell ⟨b, 4, none⟩ y0).setCell ⟨b, 5, none⟩ y1).setCell ⟨b, 6, none⟩ y2).setCell ⟨b, 7, none⟩ y3).heap[b]? = some (.cells #[x0, x1, x2, x3, y0, y1, y2, y3, x8, x9, x10, x11] T (0, 0)) ∧
    ((((w.setCell ⟨b, 8, none⟩ y0).setCell ⟨b, 9, none⟩ y1).setCell ⟨b, 10, none⟩ y2).setCell ⟨b, 11, none⟩ y3).heap[b]? = some (.cells #[x0, x1, x2, x3, x4, x5, x6, x7, y0, y1, y2, y3] T (0, 0)) := by
  refine ⟨?_, ?_, ?_⟩ <;> rw [block_setCell (block_setCell (block_setCell (block_setCell h y0) y1) y2) y3] <;> rfl
theorem below4_at {w a : World} {B b o0 o1 o2 o3 : Nat} {x0 x1 x2 x3 : Value} (hb : B ≤ b) (h : Below B a w) :
    Below B a ((((w.setCell ⟨b, o0, none⟩ x0).setCell ⟨b, o1, none⟩ x1).setCell ⟨b, o2, none⟩ x2).setCell ⟨b, o3, none⟩ x3) :=
  (((h.setCell hb _).setCell hb _).setCell hb _).setCell hb _
theorem keep_set4_at {w : World} {c b o0 o1 o2 o3 : Nat} {o : Obj} {x0 x1 x2 x3 : Value} (hne : b ≠ c) (h : w.heap[b]? = some o) :
    ((((w.setCell ⟨c, o0, none⟩ x0).setCell ⟨c, o1, none⟩ x1).setCell ⟨c, o2, none⟩ x2).setCell ⟨c, o3, none⟩ x3).heap[b]? = some o :=
  keep_set hne (keep_set hne (keep_set hne (keep_set hne h)))

/-! ### The rules -/
theorem never_any (Z O F : BitVec 256) (w : World) : Calls Tryz.prog 58 #[sdv Z O F] w fun e w' => e = .returned (.bool false) ∧ Below w.heap.size w w' := by
  unfold sdv wv
  go_enter Tryz.func58, Tryz.ntmps58
  go_wp2
  go_ret
  exact ⟨rfl, below_alloc1 w _⟩
theorem ret4 {S : BitVec 256} : (Value.agg #[.int .u64 (wd S 0).toNat, .int .u64 (wd S 1).toNat, .int .u64 (wd S 2).toNat, .int .u64 (wd S 3).toNat]) = sv S := rfl
set_option maxHeartbeats 1000000 in
set_option maxRecDepth 100000 in
theorem clashR_any (Z O F : BitVec 256) (w : World) : Calls Tryz.prog 59 #[sdv Z O F] w fun e w' => e = .returned (.bool (decide (O &&& Z ≠ 0))) ∧ Below w.heap.size w w' := by
  have HA := fun w => and_any O Z w
  have E := eq4_zero (O &&& Z)
  have hd : Hid (decide (O &&& Z ≠ 0) = !decide (O &&& Z = 0)) := Lib.hid (by simp)
  generalize O &&& Z = S at *
  unfold sdv sv wv at *
  go_enter Tryz.func59, Tryz.ntmps59
  go_wp2_with fail
  refine (HA _).mono ?_
  rintro e w1 ⟨rfl, hb1⟩
  clear HA
  go_wp2
  go_ret
  exact ⟨by rw [hd.out]; rfl, (below_alloc1 w _).trans (hb1.mono (by simp))⟩
set_option maxHeartbeats 1000000 in
set_option maxRecDepth 100000 in
theorem notOff_any (Z O F M : BitVec 256) (w : World) : Calls Tryz.prog 61 #[sdv Z O F, sv M] w fun e w' => e = .returned (sv (M &&& ~~~Z)) ∧ Below w.heap.size w w' := by
  have HA := fun w => less_any M Z w
  generalize M &&& ~~~Z = S at *
  unfold sdv sv wv at *
  go_enter Tryz.func61, Tryz.ntmps61
  go_wp2_with fail
  refine (HA _).mono ?_
  rintro e w1 ⟨rfl, hb1⟩
  clear HA
  obtain ⟨r0, r1, r2, r3, rf⟩ := now4 (keep_blk hb1 (heap_alloc3_c w _ _ _)) rfl
  have hB1 := (below_alloc3 w (.cells #[Value.int .u64 (wd Z 0).toNat, .int .u64 (wd Z 1).toNat, .int .u64 (wd Z 2).toNat, .int .u64 (wd Z 3).toNat, .int .u64 (wd O 0).toNat, .int .u64 (wd O 1).toNat, .int .u64 (wd O 2).toNat, .int .u64 (wd O 3).toNat, .int .u64 (wd F 0).toNat, .int .u64 (wd F 1).toNat, .int .u64 (wd F 2).toNat, .int .u64 (wd F 3).toNat] 73) (.cells #[Value.int .u64 (wd M 0).toNat, .int .u64 (wd M 1).toNat, .int .u64 (wd M 2).toNat, .int .u64 (wd M 3).toNat] 45) (.cells #[Value.int .u64 0, .int .u64 0, .int .u64 0, .int .u64 0] 45)).trans (hb1.mono (by simp; omega))
  clear hb1
  go_wp2
  exact bodyPost_ret (v := .agg #[.int .u64 (wd S 0).toNat, .int .u64 (wd S 1).toNat, .int .u64 (wd S 2).toNat, .int .u64 (wd S 3).toNat]) (by simp [results, Tryz.results61, go_sem, r0, r1, r2, r3]) rfl
    ⟨rfl, below4_at (by omega) hB1⟩
set_option maxHeartbeats 1000000 in
set_option maxRecDepth 100000 in
theorem onesR_any (Z O F M : BitVec 256) (w : World) : Calls Tryz.prog 62 #[sdv Z O F, sv M] w fun e w' => e = .returned (sv O) ∧ Below w.heap.size w w' := by
  unfold sdv sv wv at *
  go_enter Tryz.func62, Tryz.ntmps62
  go_wp2
  exact bodyPost_ret (v := .agg #[.int .u64 (wd O 0).toNat, .int .u64 (wd O 1).toNat, .int .u64 (wd O 2).toNat, .int .u64 (wd O 3).toNat]) (by simp [results, Tryz.results62, go_sem]) rfl
    ⟨rfl, by first | exact below_alloc3 w _ _ _ | exact below4_at (by omega) (below_alloc3 w _ _ _)⟩
set_option maxHeartbeats 1000000 in
set_option maxRecDepth 100000 in
theorem freeR_any (Z O F M : BitVec 256) (w : World) : Calls Tryz.prog 63 #[sdv Z O F, sv M] w fun e w' => e = .returned (sv (O ||| F)) ∧ Below w.heap.size w w' := by
  have HA := fun w => or_any O F w
  generalize O ||| F = S at *
  unfold sdv sv wv at *
  go_enter Tryz.func63, Tryz.ntmps63
  go_wp2_with fail
  refine (HA _).mono ?_
  rintro e w1 ⟨rfl, hb1⟩
  clear HA
  obtain ⟨r0, r1, r2, r3, rf⟩ := now4 (keep_blk hb1 (heap_alloc3_c w _ _ _)) rfl
  have hB1 := (below_alloc3 w (.cells #[Value.int .u64 (wd Z 0).toNat, .int .u64 (wd Z 1).toNat, .int .u64 (wd Z 2).toNat, .int .u64 (wd Z 3).toNat, .int .u64 (wd O 0).toNat, .int .u64 (wd O 1).toNat, .int .u64 (wd O 2).toNat, .int .u64 (wd O 3).toNat, .int .u64 (wd F 0).toNat, .int .u64 (wd F 1).toNat, .int .u64 (wd F 2).toNat, .int .u64 (wd F 3).toNat] 73) (.cells #[Value.int .u64 (wd M 0).toNat, .int .u64 (wd M 1).toNat, .int .u64 (wd M 2).toNat, .int .u64 (wd M 3).toNat] 45) (.cells #[Value.int .u64 0, .int .u64 0, .int .u64 0, .int .u64 0] 45)).trans (hb1.mono (by simp; omega))
  clear hb1
  go_wp2
  exact bodyPost_ret (v := .agg #[.int .u64 (wd S 0).toNat, .int .u64 (wd S 1).toNat, .int .u64 (wd S 2).toNat, .int .u64 (wd S 3).toNat]) (by simp [results, Tryz.results63, go_sem, r0, r1, r2, r3]) rfl
    ⟨rfl, below4_at (by omega) hB1⟩
def fnv (K : Nat) : Value := .func (.func K) #[] #[]
set_option maxHeartbeats 1000000 in
set_option maxRecDepth 100000 in
theorem rules_any (w : World) : Calls Tryz.prog 31 #[] w fun e w' => e = .returned (.agg #[fnv 58, fnv 62, fnv 58, fnv 63, fnv 59, fnv 61, fnv 59, fnv 61]) ∧ Below w.heap.size w w' := by
  go_enter Tryz.func31, Tryz.ntmps31
  go_wp2
  exact bodyPost_ret (v := .agg #[fnv 58, fnv 62, fnv 58, fnv 63, fnv 59, fnv 61, fnv 59, fnv 61]) (by simp [results, Tryz.results31, go_sem, fnv]) rfl
    ⟨rfl, by repeat (first | (with_reducible exact below_alloc1 w _) | (with_reducible refine Below.setCell ?_ (by simp) _))⟩
/-! ### saidOf -/
set_option maxHeartbeats 4000000 in
set_option maxRecDepth 100000 in
theorem saidOf_any (k : Int) (i : Nat) (n : Int) (L : Value) (ls : List Ln) (o : Nat) (w : World) (hL : LinesAt w w.heap.size L ls) (hls : ∀ l ∈ ls, rightB l.m l.v i = true ∧ o < l.o.length ∧ ∀ x ∈ l.o, 0 ≤ x ∧ x ≤ 2) :
    Calls Tryz.prog 32 #[tv k i n L, .int .i64 o] w fun e w' => e = .returned (.tuple #[sdv (ptsM ls i o 0) (ptsM ls i o 1) (ptsM ls i o 2), .int .i64 0]) ∧ Below w.heap.size w w' := by
  have hB0 := below_alloc3 w (tb k i n L) (sdb 0 0 0) (sdb 0 0 0)
  have ht0 := heap_alloc3_a w (tb k i n L) (sdb 0 0 0) (sdb 0 0 0)
  have hr0 := heap_alloc3_b w (tb k i n L) (sdb 0 0 0) (sdb 0 0 0)
  have hp0 := heap_alloc3_c w (tb k i n L) (sdb 0 0 0) (sdb 0 0 0)
  have hall := Lib.hid (fun (j : Nat) (l : Ln) (h : ls[j]? = some l) => hls l (List.mem_of_getElem? h))
  have hskip := Lib.hid (fun (j : Nat) (l : Ln) (h : ls[j]? = some l) (x : Int) (hb : l.o.getD o 9 ≠ x) => ptsM_skip h hb i)
  have hstep := Lib.hid (fun (j : Nat) (l : Ln) (h : ls[j]? = some l) (x : Int) (hb : l.o.getD o 9 = x) => ptsM_step h hb (hall.out j l h).1)
  have hz0 : Hid (sdb 0 0 0 = sdb (ptsM (ls.take 0) i o 0) (ptsM (ls.take 0) i o 1) (ptsM (ls.take 0) i o 2)) := Lib.hid (by rw [ptsM_zero, ptsM_zero, ptsM_zero])
  have hend0 : Hid (ptsM (ls.take ls.length) i o 0 = ptsM ls i o 0) := Lib.hid (by rw [List.take_length])
  have hend1 : Hid (ptsM (ls.take ls.length) i o 1 = ptsM ls i o 1) := Lib.hid (by rw [List.take_length])
  have hend2 : Hid (ptsM (ls.take ls.length) i o 2 = ptsM ls i o 2) := Lib.hid (by rw [List.take_length])
  generalize ptsM ls i o 0 = RZ at *
  generalize ptsM ls i o 1 = RO at *
  generalize ptsM ls i o 2 = RF at *
  obtain ⟨A, c, rfl, hlen, hA⟩ := hL
  clear hls
  unfold tv
  have hz00 : sdb 0 0 0 = .cells #[Value.int .u64 0, Value.int .u64 0, Value.int .u64 0, Value.int .u64 0, Value.int .u64 0, Value.int .u64 0, Value.int .u64 0, Value.int .u64 0, Value.int .u64 0, Value.int .u64 0, Value.int .u64 0, Value.int .u64 0] 73 (0, 0) := rfl
  rw [hz00] at *
  unfold tb at *
  clear hz00
  go_enter Tryz.func32, Tryz.ntmps32
  go_wp2
  go_loopw [8, 9, 10, 11, 15] (fun _ _ _ _ t wr => ∃ j : Nat, j ≤ ls.length ∧ t = .int .i64 j ∧ Below w.heap.size w wr ∧ wr.heap[w.heap.size]? = some (.cells #[Value.int .i64 k, .int .i64 i, .int .i64 n, .slice A ls.length c] 33 (0, 0)) ∧
    wr.heap[w.heap.size + 1]? = some (.cells #[Value.int .u64 0, Value.int .u64 0, Value.int .u64 0, Value.int .u64 0, Value.int .u64 0, Value.int .u64 0, Value.int .u64 0, Value.int .u64 0, Value.int .u64 0, Value.int .u64 0, Value.int .u64 0, Value.int .u64 0] 73 (0, 0)) ∧
    wr.heap[w.heap.size + 2]? = some (sdb (ptsM (ls.take j) i o 0) (ptsM (ls.take j) i o 1) (ptsM (ls.take j) i o 2))) (fun _ _ _ _ t _ => ls.length - (intOf t).toNat)
  case atStart => exact ⟨0, by omega, rfl, hB0, ht0, hr0, by rw [← hz0.out]; exact hp0⟩
  case round =>
    clear hB0 ht0 hr0 hp0 hz0
    obtain ⟨j, hj, rfl, hb, ht, hr, hp⟩ := hrel
    by_cases hlt : j < ls.length
    · obtain ⟨b, off, rfl, hBb, hc⟩ := hA (by omega)
      obtain ⟨x, hx⟩ : ∃ x, ls[j]? = some x := ⟨_, List.getElem?_eq_getElem hlt⟩
      obtain ⟨ov, c0, c1, c2, hO⟩ := hc j x hx
      obtain ⟨A2, cap2, rfl, hol, hO⟩ := hO
      have hgx := Lib.hid hx
      obtain ⟨-, hoo, hv2⟩ := hall.out j x hx
      obtain ⟨b3, off3, rfl, hB3b, hv⟩ := hO (by omega)
      obtain ⟨v, hvx⟩ : ∃ v, x.o[o]? = some v := ⟨_, List.getElem?_eq_getElem hoo⟩
      have hval := hv o v hvx
      have hgv := Lib.hid (getD_of (d := 9) hvx)
      have hv3 := hv2 v (List.mem_of_getElem? hvx)
      have d0 := (hb.cell (p := ⟨b, off + j * 3, none⟩) hBb).trans c0
      have d1 := (hb.cell (p := ⟨b, off + j * 3 + 1, none⟩) hBb).trans c1
      have d2 := (hb.cell (p := ⟨b, off + j * 3 + 2, none⟩) hBb).trans c2
      have HP := fun w => cpoints_yes (hall.out j x hx).1 w
      obtain ⟨-, q1, -, q3, -⟩ := now4 ht rfl
      have hB1 := hb.alloc hb.size (.cells #[bvv x.m, bvv x.v, .slice (some ⟨b3, off3, none⟩) x.o.length cap2] 93 (0, 0))
      have ht1 := keep_alloc (x := .cells #[bvv x.m, bvv x.v, .slice (some ⟨b3, off3, none⟩) x.o.length cap2] 93 (0, 0)) ht
      have hr1 := keep_alloc (x := .cells #[bvv x.m, bvv x.v, .slice (some ⟨b3, off3, none⟩) x.o.length cap2] 93 (0, 0)) hr
      have hp1 := keep_alloc (x := .cells #[bvv x.m, bvv x.v, .slice (some ⟨b3, off3, none⟩) x.o.length cap2] 93 (0, 0)) hp
      have hl1 := heap_alloc_new wr (.cells #[bvv x.m, bvv x.v, .slice (some ⟨b3, off3, none⟩) x.o.length cap2] 93 (0, 0))
      obtain ⟨-, q1', -, -, -⟩ := now4 ht1 rfl
      have hst : ∀ y : Int, v = y → Hid (ptsM (ls.take (j + 1)) i o y = ptsM (ls.take j) i o y ||| cpts x.m x.v i i) := fun y e => Lib.hid (hstep.out j x hx y (hgv.out.trans e))
      have hsk : ∀ y : Int, v ≠ y → Hid (ptsM (ls.take (j + 1)) i o y = ptsM (ls.take j) i o y) := fun y e => Lib.hid (hskip.out j x hx y (fun h => e (hgv.out.symm.trans h)))
      generalize hZ : ptsM (ls.take j) i o 0 = Z at *
      generalize hO1 : ptsM (ls.take j) i o 1 = O at *
      generalize hF : ptsM (ls.take j) i o 2 = F at *
      generalize cpts x.m x.v i i = P at *
      unfold cv sv at HP
      unfold bvv at *
      clear hc c0 c1 c2 hA hx hv hv2 hvx hskip hstep hend0 hend1 hend2 hall ht hr hp hO
      generalize hzl : wr.heap.size = bl at *
      go_wp2_with fail
      refine (HP _).mono ?_
      rintro e w4 ⟨rfl, hb4⟩
      have hB4 := hB1.trans (hb4.mono hB1.size)
      have ht4 := keep_blk hb4 ht1
      have hr4 := keep_blk hb4 hr1
      have hp4 := keep_blk hb4 hp1
      have hl4 := keep_blk hb4 hl1
      have hzz4 := hb4.size
      clear HP hb4 ht1 hr1 hp1 hl1 hB1 d0 d1 d2 q1 q3 q1'
      have ht5 := keep_alloc (x := .cells #[.int .u64 (wd P 0).toNat, .int .u64 (wd P 1).toNat, .int .u64 (wd P 2).toNat, .int .u64 (wd P 3).toNat] 45 (0, 0)) ht4
      have hr5 := keep_alloc (x := .cells #[.int .u64 (wd P 0).toNat, .int .u64 (wd P 1).toNat, .int .u64 (wd P 2).toNat, .int .u64 (wd P 3).toNat] 45 (0, 0)) hr4
      have hp5 := keep_alloc (x := .cells #[.int .u64 (wd P 0).toNat, .int .u64 (wd P 1).toNat, .int .u64 (wd P 2).toNat, .int .u64 (wd P 3).toNat] 45 (0, 0)) hp4
      have hl5 := keep_alloc (x := .cells #[.int .u64 (wd P 0).toNat, .int .u64 (wd P 1).toNat, .int .u64 (wd P 2).toNat, .int .u64 (wd P 3).toNat] 45 (0, 0)) hl4
      have hP5 := heap_alloc_new w4 (.cells #[.int .u64 (wd P 0).toNat, .int .u64 (wd P 1).toNat, .int .u64 (wd P 2).toNat, .int .u64 (wd P 3).toNat] 45 (0, 0))
      have hB5 := hB4.alloc hB4.size (.cells #[.int .u64 (wd P 0).toNat, .int .u64 (wd P 1).toNat, .int .u64 (wd P 2).toNat, .int .u64 (wd P 3).toNat] 45 (0, 0))
      have f5 := (hB5.cell (p := ⟨b3, off3 + o, none⟩) hB3b).trans hval
      obtain ⟨-, -, l2, -⟩ := now3 hl5 rfl
      have hzp := size_of_block hp4
      clear ht4 hr4 hp4 hl4 hval
      unfold wv at *
      go_upto_region 9 with (fail)
      generalize hW : w4.alloc (.cells #[.int .u64 (wd P 0).toNat, .int .u64 (wd P 1).toNat, .int .u64 (wd P 2).toNat, .int .u64 (wd P 3).toNat] 45 (0, 0)) = W at *
      generalize hzr : w4.heap.size = bp at *
      clear hW f5 l2
      obtain ⟨P0, P1, P2, P3, -⟩ := box4 hP5 rfl
      unfold sdb wv at hp5
      obtain ⟨⟨Z0, Z1, Z2, Z3⟩, ⟨O0, O1, O2, O3⟩, ⟨F0, F1, F2, F3⟩, FZ⟩ := box12 hp5
      obtain rfl | rfl | rfl : v = 0 ∨ v = 1 ∨ v = 2 := by omega
      · have HO := fun w => or_any Z P w
        generalize hU : Z ||| P = U at *
        unfold sv wv at HO
        refine wp_region_after_tail 7 (by kernel_rfl) (by kernel_rfl) ?_
        simp only [List.take_succ_cons, List.take_zero, List.drop_succ_cons, List.drop_zero]
        repeat (first | go_big_quiet_step ((go_at_call 41; exact Calls.after_of (HO _))))
        refine wpQuiet_nil ?_
        intro y
        have hp6 := put12 (After.same y hp5) (wv (wd U 0)) (wv (wd U 1)) (wv (wd U 2)) (wv (wd U 3))
        go_wp2
        go_roundw
        case rel => exact ⟨j + 1, by omega, by go_num, below4_at (by omega) (hB5.trans (y.2.mono hB5.size)), keep_set4_at (by omega) (After.same y ht5), keep_set4_at (by omega) (After.same y hr5), by rw [(hst 0 rfl).out]; rw [(hsk 1 (by decide)).out]; rw [(hsk 2 (by decide)).out]; rw [hZ, hO1, hF, hU]; exact hp6.1⟩
        case measure => simp [intOf]; omega
      · have HO := fun w => or_any O P w
        generalize hU : O ||| P = U at *
        unfold sv wv at HO
        refine wp_region_after_tail 7 (by kernel_rfl) (by kernel_rfl) ?_
        simp only [List.take_succ_cons, List.take_zero, List.drop_succ_cons, List.drop_zero]
        repeat (first | go_big_quiet_step ((go_at_call 41; exact Calls.after_of (HO _))))
        refine wpQuiet_nil ?_
        intro y
        have hp6 := put12 (After.same y hp5) (wv (wd U 0)) (wv (wd U 1)) (wv (wd U 2)) (wv (wd U 3))
        go_wp2
        go_roundw
        case rel => exact ⟨j + 1, by omega, by go_num, below4_at (by omega) (hB5.trans (y.2.mono hB5.size)), keep_set4_at (by omega) (After.same y ht5), keep_set4_at (by omega) (After.same y hr5), by rw [(hsk 0 (by decide)).out]; rw [(hst 1 rfl).out]; rw [(hsk 2 (by decide)).out]; rw [hZ, hO1, hF, hU]; exact hp6.2.1⟩
        case measure => simp [intOf]; omega
      · have HO := fun w => or_any F P w
        generalize hU : F ||| P = U at *
        unfold sv wv at HO
        refine wp_region_after_tail 7 (by kernel_rfl) (by kernel_rfl) ?_
        simp only [List.take_succ_cons, List.take_zero, List.drop_succ_cons, List.drop_zero]
        repeat (first | go_big_quiet_step ((go_at_call 41; exact Calls.after_of (HO _))))
        refine wpQuiet_nil ?_
        intro y
        have hp6 := put12 (After.same y hp5) (wv (wd U 0)) (wv (wd U 1)) (wv (wd U 2)) (wv (wd U 3))
        go_wp2
        go_roundw
        case rel => exact ⟨j + 1, by omega, by go_num, below4_at (by omega) (hB5.trans (y.2.mono hB5.size)), keep_set4_at (by omega) (After.same y ht5), keep_set4_at (by omega) (After.same y hr5), by rw [(hsk 0 (by decide)).out]; rw [(hsk 1 (by decide)).out]; rw [(hst 2 rfl).out]; rw [hZ, hO1, hF, hU]; exact hp6.2.2⟩
        case measure => simp [intOf]; omega
    · have e : j = ls.length := by omega
      subst e
      rw [hend0.out, hend1.out, hend2.out] at hp
      obtain ⟨-, -, -, q3, -⟩ := now4 ht rfl
      unfold sdb at hp
      obtain ⟨⟨Z0, Z1, Z2, Z3⟩, ⟨O0, O1, O2, O3⟩, ⟨F0, F1, F2, F3⟩, -⟩ := now12 hp
      obtain ⟨⟨r0, r1, r2, r3⟩, ⟨r4, r5, r6, r7⟩, ⟨r8, r9, r10, r11⟩, rf⟩ := now12 hr
      clear hA hskip hstep hend0 hend1 hend2 hall ht
      unfold sdv wv at *
      go_wp2
      exact bodyPost_ret (v := .tuple #[.agg #[.int .u64 (wd RZ 0).toNat, .int .u64 (wd RZ 1).toNat, .int .u64 (wd RZ 2).toNat, .int .u64 (wd RZ 3).toNat, .int .u64 (wd RO 0).toNat, .int .u64 (wd RO 1).toNat, .int .u64 (wd RO 2).toNat, .int .u64 (wd RO 3).toNat, .int .u64 (wd RF 0).toNat, .int .u64 (wd RF 1).toNat, .int .u64 (wd RF 2).toNat, .int .u64 (wd RF 3).toNat], .int .i64 0]) (by simp [results, Tryz.results32, go_sem, r0, r1, r2, r3, r4, r5, r6, r7, r8, r9, r10, r11]) rfl
        ⟨rfl, by repeat (first | (with_reducible exact hb) | (with_reducible refine Below.setCell ?_ (by show w.heap.size ≤ w.heap.size + 1; omega) _))⟩
end Go.Proofs.YtckmjampgeojbaaGreatDoor
namespace Go.Proofs.YtckmjampgeojbaaGreatDoor
open Go.RowKit Go.Joins

section
variable {P : Program} {ops : Array Oper} {md : Region.Mode} {S : World → Prop} {Q : Exit → Act → World → Prop}
/-- k of the first n operations, in whatever order they come up, S behind each; then L. -/
def HeadH (P : Program) (md : Region.Mode) (ops : Array Oper) (Q : Exit → Act → World → Prop) (S : World → Prop) (n : Nat) (L : Array Bool → Act → World → Prop) : Nat → Array Bool → Act → World → Prop
  | 0 => L
  | k + 1 => fun done a w => HeadInv md ops n done → Region.ready md ops done ≠ [] ∧ ∀ j, j ∈ Region.ready md ops done → j < n ∧ wpOp P ops Q j (fun a' w' => S w' ∧ HeadH P md ops Q S n L k (done.setIfInBounds j true) a' w') a w
theorem HeadH.any {n m : Nat} {L : Array Bool → Act → World → Prop} (hL : ∀ done a w, L done a w → wpAny P md ops Q m done a w) (k : Nat) :
    ∀ (done : Array Bool) (a : Act) (w : World), HeadInv md ops n done → HeadH P md ops Q S n L k done a w → wpAny P md ops Q (k + m) done a w := by
  induction k with
  | zero => intro done a w _ h; simpa using hL done a w h
  | succ k ih =>
    intro done a w inv h
    obtain ⟨hne, hall⟩ := h inv
    have e : k + 1 + m = (k + m) + 1 := by omega
    rw [e]
    refine ⟨fun hn => (hne hn).elim, fun j hj => ?_⟩
    exact wpOp_mono (fun a' w' h' => ih _ a' w' (inv.set hj (hall j hj).1) h'.2) (hall j hj).2
theorem HeadH.first {n j : Nat} {o : Oper} {v : Value} {L : Array Bool → Act → World → Prop} (ho : ops[j]? = some o) (hns : Region.noSelect ops = true)
    (hsink : Region.sinkB md ops n = true) (hchain : Region.chainB md ops n = true) (hn : n < ops.size) (hj : j < n)
    (hQ : ∀ c a w, Q (.panic c) (a.put o.dst v) w → Q (.panic c) a w)
    (hL : ∀ done a w, L done a w → ∀ t, t ∈ Region.ready md ops done → n ≤ t) (k : Nat) :
    ∀ (done : Array Bool) (a : Act) (w : World), FreeAt md ops done j o → j ∈ Region.ready md ops done → YieldsIf P ops S o v a → S w →
      HeadH P md ops Q S n L k (done.setIfInBounds j true) (a.put o.dst v) w → HeadH P md ops Q S n L (k + 1) done a w := by
  have sel := Region.noSelect_spec hns
  induction k with
  | zero =>
    intro done a w _ hr hy hS H inv
    have hun := (mem_ready.1 hr).1
    refine ⟨List.ne_nil_of_mem hr, fun t ht => ?_⟩
    have htn : t < n := Nat.lt_of_not_le fun h => tail_waits hsink hchain hn inv (n - j) j rfl hj hun t h ht
    by_cases e : t = j
    · rw [e]; exact ⟨hj, hy.wpOp ho hS ⟨hS, H⟩⟩
    · have := hL _ _ _ H t (ready_mono ht e)
      omega
  | succ k ih =>
    intro done a w hf hr hy hS H inv
    have hun := (mem_ready.1 hr).1
    have H' := H (inv.set hr hj)
    refine ⟨List.ne_nil_of_mem hr, fun t ht => ?_⟩
    have htn : t < n := Nat.lt_of_not_le fun h => tail_waits hsink hchain hn inv (n - j) j rfl hj hun t h ht
    by_cases e : t = j
    · rw [e]; exact ⟨hj, hy.wpOp ho hS ⟨hS, H⟩⟩
    obtain ⟨htu, ot, hot, hwaits⟩ := mem_ready.1 ht
    have nowait : ∀ x, x ∈ ot.after → Region.binds md x = true → x.on ≠ j := by
      intro x hx hb he
      have h1 := hwaits x hx hb
      rw [he, getD_both hun] at h1
      exact Bool.noConfusion h1
    have h2 := wpOp_putIf hot (hf t ot hot e htu nowait) (fun cs b => sel j o cs b ho) (fun cs b => sel t ot cs b hot) hQ hy ((H'.2 t (ready_mono ht e)).2)
    refine ⟨htn, wpOp_mono ?_ h2⟩
    rintro a' w' ⟨hy', hS', h3⟩
    refine ⟨hS', ih (done.setIfInBounds t true) a' w' (hf.later htu) (ready_mono hr (Ne.symm e)) hy' hS' ?_⟩
    rw [Array.setIfInBounds_comm _ _ e]; exact h3
end
/-- The stores, in the order of the text. -/
def TailL (P : Program) (l : List Oper) (Q : Exit → Act → World → Prop) (n : Nat) : Array Bool → Act → World → Prop :=
  fun done a w => Region.seqB .any l.toArray (l.drop n).length n done = true ∧ wpList P l.toArray Q (l.drop n) a w
def tailOk (l : List Oper) (n : Nat) : Bool := Region.noSelect l.toArray && decide (n < l.length) && Region.sinkB .any l.toArray n && Region.chainB .any l.toArray n
section
variable {P : Program} {l : List Oper} {n : Nat} {S : World → Prop} {Q : Exit → Act → World → Prop}
theorem HeadH.take {i k : Nat} {o : Oper} {v : Value} {done : Array Bool} {a : Act} {w : World} (hF : tailOk l n = true) (ho : l.toArray[i]? = some o) (hi : decide (i < n) = true)
    (hf : Region.free .any l.toArray done i = true) (hr : (Region.ready .any l.toArray done).contains i = true)
    (hQ : ∀ c a w, Q (.panic c) (a.put o.dst v) w → Q (.panic c) a w) (hy : YieldsIf P l.toArray S o v a) (hS : S w)
    (h : HeadH P .any l.toArray Q S n (TailL P l Q n) k (done.setIfInBounds i true) (a.put o.dst v) w) : HeadH P .any l.toArray Q S n (TailL P l Q n) (k + 1) done a w := by
  simp only [tailOk, Bool.and_eq_true, decide_eq_true_eq] at hF
  obtain ⟨⟨⟨hns, hn⟩, hsink⟩, hchain⟩ := hF
  exact HeadH.first ho hns hsink hchain (by simpa using hn) (of_decide_eq_true hi) hQ (fun _ _ _ hL => seqB_ready hL.1) k done a w (Region.free_spec ho hf) (by simpa using hr) hy hS h
theorem HeadH.one {i k : Nat} {o : Oper} {done : Array Bool} {a : Act} {w : World} (hr : Region.ready .any l.toArray done = [i]) (hi : decide (i < n) = true) (ho : l.toArray[i]? = some o)
    (h : ∀ K' : Act → World → Prop, Shut (∀ a w, S w → (S w → HeadH P .any l.toArray Q S n (TailL P l Q n) k (done.setIfInBounds i true) a w) → K' a w) → if Region.wanted o (yielded l.toArray a.tmps) = true then Oper.wp P o a w K' Q else K' (a.put o.dst undef) w) :
    HeadH P .any l.toArray Q S n (TailL P l Q n) (k + 1) done a w := by
  intro _
  rw [hr]
  refine ⟨by simp, fun j hj => ?_⟩
  have e : j = i := by simpa using hj
  subst e
  exact ⟨of_decide_eq_true hi, wpOp_step ho (fun K' hK => h K' (fun a w hS hW => hK a w ⟨hS, hW hS⟩))⟩
theorem wp_region_held_tail {id : Nat} {a : Act} {w : World} (n : Nat) (S : World → Prop) (hm : P.follows .mixedOrders = true) (hF : tailOk l n = true) (hS : S w.drew)
    (h : tailOk l n = true → S w.drew → HeadH P .any l.toArray Q S n (TailL P l Q n) n (Array.replicate l.toArray.size false) a w.drew) : (Code.region id l.toArray true).wp P Q a w := by
  have hF' := hF
  simp only [tailOk, Bool.and_eq_true, decide_eq_true_eq] at hF'
  obtain ⟨⟨⟨hns, hn⟩, hsink⟩, hchain⟩ := hF'
  have hg : (l.drop n).length = l.toArray.size - n := by simp
  have start : HeadInv .any l.toArray n (Array.replicate l.toArray.size false) :=
    ⟨by simp, fun t _ _ ht => Bool.noConfusion ((getD_replicate_false _ t).symm.trans ht), fun t _ ht => getD_in (by simpa using ht) (getD_replicate_false _ t)⟩
  have H2 := HeadH.any (P := P) (Q := Q) (S := S) (n := n) (m := l.toArray.size - n) (fun done a' w' hL => by
    have := wpAny_of_seq (P := P) (ops := l.toArray) (md := .any) (Q' := Q) (l.drop n) n done a' w' (fun t => by simp) hL.1 hL.2
    rwa [hg] at this) n _ a w.drew start (h hF hS)
  have hnl : n < l.length := hn
  rw [show n + (l.toArray.size - n) = l.toArray.size by simp; omega] at H2
  exact wp_region_any hm H2
end
end Go.Proofs.YtckmjampgeojbaaGreatDoor
