/- What a draft makes of a set: the members of its primes. A region that draws its order and ends in stores that wait for all the rest: ahead of these a load may be taken first where nobody ahead of the stores writes its cell; the stores themselves may write it. The document's own Right of layer 4, for every spec. The statements of layer 10, over what the package answers: the contracts; knows, Great. The statements of layer 10, over what the package answers: MultiAll. The statements of layer 11, walked over what the package answers: what the family of all prime rows has, with much room and with little. Which rows are prime, output by output, plain. The members of those prime rows that have just some outputs. The members of those prime rows that have just some outputs, walked. The family of all prime rows. The statements of layer 11: the document's example, over what the packages answer. The statements of layer 11, walked over what the package answers: with little room the family of all prime rows is the one that there is with more, or no node is left. What the statements ask of package tagged: primes of any number of inputs, all rows of a spec that is right, of one that is not, and of no diagram. A cube that comes in reads as two numbers of 8 bits. A slice of numbers that comes in. A table that comes in: its numbers, and its lines. A slice of sets that comes in. Rows and specs that come in. -/
import Derived.Test.YtgajgjlldohekaaGreatGP34
import Derived.Test.YtgajgjlldohekaaGreatGPxPuLaw11b
import Derived.Test.YtgajgjlldohekaaGreatGP03
import Derived.Test.YtgajgjlldohekaaGreatGP07
import Derived.Test.YtgajgjlldohekaaGreatGP09
import Derived.Test.YtgajgjlldohekaaGreatGP22
import Derived.Test.YtgajgjlldohekaaGreatGPxPuTgr11
import Derived.Test.YtgajgjlldohekaaGreatGP35
import Derived.Test.YtgajgjlldohekaaGreatGP15
import Derived.Test.YtgajgjlldohekaaGreatGP10
import Derived.Test.YtgajgjlldohekaaGreatGP05
import Derived.Deep.RegionHeld3
import Derived.Deep.Slices
import Derived.ChangeSlices
import Derived.Deep.Strs
namespace Go.Proofs.YtgajgjlldohekaaGreat
open Go.RowKit Go.Joins

set_option maxHeartbeats 1000000 in
theorem tstart_any (n : Nat) (w : World) :
    Calls Tryz.prog 66 #[.int .i64 n] w fun e w' => ∃ drb zb ab bm mm : Nat, e = .returned (.pointer (some ⟨drb, 0, none⟩)) ∧ ZdAt w' (· < w.heap.size) zb ab bm (.slice none 0 0) 20000 0 [] ∧ DrAt w' drb zb n mm ∧ RemP w' mm n [] 0 ∧ mm ≠ bm ∧ ¬ (mm < w.heap.size) ∧ Below w.heap.size w w' := by
  have HN : Calls Tryz.prog 13 #[.int .i64 20000] w fun e w' => ∃ zb ab bm : Nat, e = .returned (.tuple #[.pointer (some ⟨zb, 0, none⟩), .int .i64 0]) ∧ ZdAt w' (· < w.heap.size) zb ab bm (.slice none 0 0) 20000 0 [] ∧ Below w.heap.size w w' := znew_yes w 20000 (by omega) (· < w.heap.size) (fun _ h => h)
  have hmm := @run_makeMap Tryz.prog
  go_enter Tryz.func66, Tryz.ntmps66
  go_wp2_with fail
  refine HN.mono ?_
  rintro e w1 ⟨zb, ab, bm, rfl, hd, hb⟩
  clear HN
  have hM := RemP.made w1 n []
  have hB2 := below_alloc1 w1 (.map #[] 0)
  have hB3 := below_alloc1 (w1.alloc (.map #[] 0)) (.cells #[.pointer (some ⟨zb, 0, none⟩), .int .i64 n, .map (some w1.heap.size)] 117 (0, 0))
  have hdr := heap_alloc_new (w1.alloc (.map #[] 0)) (.cells #[.pointer (some ⟨zb, 0, none⟩), .int .i64 n, .map (some w1.heap.size)] 117 (0, 0))
  have hz : (w1.alloc (.map #[] 0)).heap.size = w1.heap.size + 1 := by simp
  rw [hz] at hdr
  have hbm := hd.ar.lt.2.2
  have hsz := hb.size
  have I := Lib.hid (And.intro ((hd.below hB2).below hB3) (And.intro (show DrAt _ _ zb n w1.heap.size from hdr) (And.intro (hM.below hB3) (hb.trans ((hB2.trans (hB3.mono hB2.size)).mono hb.size)))))
  clear hd hb hM hB2 hB3 hdr hz
  go_wp2
  go_ret
  exact ⟨_, zb, ab, bm, w1.heap.size, rfl, I.out.1, I.out.2.1, I.out.2.2.1, by omega, by omega, I.out.2.2.2⟩
theorem low_of {X : BitVec 256} {n : Nat} (h : ofB X n = true) : n ≤ 8 ∧ LowI n 0 X := by
  unfold ofB at h
  rw [Bool.and_eq_true, decide_eq_true_iff, decide_eq_true_iff, Int.toNat_natCast] at h
  obtain ⟨⟨-, h8⟩, h2⟩ := h
  have hn : n ≤ 8 := by omega
  refine ⟨hn, fun p hp => ?_⟩
  have := (and_not_zero _ _).1 h2 p hp
  unfold allB at this
  rw [bvOf_bit, Bool.and_eq_true, decide_eq_true_iff, decide_eq_true_iff] at this
  exact ⟨this.2, by rw [Nat.pow_zero, Nat.mod_one]⟩
theorem aP_some {k : Nat} (h : k ≤ 6) : aP k ≤ 162 := by
  rcases (by omega : k = 0 ∨ k = 1 ∨ k = 2 ∨ k = 3 ∨ k = 4 ∨ k = 5 ∨ k = 6) with rfl | rfl | rfl | rfl | rfl | rfl | rfl <;> decide
theorem cN_less {n : Nat} (h : n ≤ 6) : cN n ≤ 18956 := by
  have := cN_mono (6 - n) n
  rw [show n + (6 - n) = 6 by omega, cN_6] at this
  exact this
theorem eN_less {n : Nat} (h : n ≤ 6) : eN n ≤ 364 := by
  have := eN_mono (6 - n) n
  rw [show n + (6 - n) = 6 by omega, show eN 6 = 364 by decide] at this
  exact this
theorem Kz.belowW {C M : Nat → Prop} {w w1 w2 : World} (hb : Below w.heap.size w w1) (hk : Kz C M (· < w.heap.size) w1 w2) : Below w.heap.size w w2 :=
  hb.trans (hk.below hb.size)
set_option maxHeartbeats 2000000 in
theorem tcubes_any {n : Nat} (hn : n ≤ 6) (HP : PrimesOk n n) (X : BitVec 256) (hX : LowI n 0 X) (w : World) :
    Calls Tryz.prog 38 #[sv X, .int .i64 n] w fun e w' => ∃ u, e = .returned (.tuple #[u, .int .i64 0]) ∧ IntsAt w' w'.heap.size u (nI (famL 24 (FI n 0 X))) ∧ FreshV w.heap.size u ∧ Below w.heap.size w w' := by
  have hcn := cN_less hn
  have hen := eN_less hn
  have hfw := FI_few (by omega : n ≤ 8) (Nat.zero_le n) X
  have hap := aP_some (k := n - 0) (by omega)
  have hx := heap_alloc_new w (.cells (sa X) 37)
  have hb := below_alloc1 w (.cells (sa X) 37)
  have HS := fun w => tstart_any n w
  unfold sv sa wv at *
  go_enter Tryz.func38, Tryz.ntmps38
  go_upto_region 1 with (fail)
  generalize w.alloc _ = W at *
  go_wp2_with fail
  refine (HS _).mono ?_
  rintro e w1 ⟨drb, zb, ab, bm, mm, rfl, hd, hdr, hr, hne, hN, hb1⟩
  have hx1 := keep_blk hb1 hx
  have HP1 : Calls Tryz.prog 67 #[.pointer (some ⟨drb, 0, none⟩), sv X, .int .i64 0] w1 (DfPost (· < W.heap.size) w1 zb ab bm n mm [] 0 (cN n) (eN n) (FI n 0 X)) := HP hd hdr hr hne hN X 0 (by omega) hX (by show 0 + cN n < 20000; omega) (by omega)
  unfold sv wv at HP1
  obtain ⟨x0, x1, x2, x3, -⟩ := now4 hx1 rfl
  clear HS HP hx hd hr hX
  go_wp2_with fail
  refine HP1.mono ?_
  rintro e w2 ⟨v2, full2, T, f, rfl, hd2, hk2, -, hf2, -, -⟩
  clear HP1 x0 x1 x2 x3 hx1
  have hdr2 := hdr.kz hk2 (fun h => h)
  obtain ⟨d0, d1, d2, -⟩ := now3 hdr2 rfl
  have hB2 := Kz.belowW hb1 hk2
  have HL := zList_any hd2 f hf2.1 (by rw [hf2.zn]; omega)
  rw [hf2.row] at HL
  have hsz := hB2.size
  have hszW := hb.size
  clear hd2 hk2 hf2 hdr hdr2 hfw hap hcn hen hb1
  go_wp2_with fail
  refine HL.mono ?_
  rintro e w3 ⟨u, rfl, hI, hF, hb3⟩
  have hB3 := hb.trans ((hB2.trans (hb3.mono hB2.size)).mono hb.size)
  clear HL d0 d1 d2 hb3 hB2
  have hIH := Lib.hid (And.intro hI hF)
  obtain ⟨A, c, rfl, -, -⟩ := hI
  clear hF
  go_wp2
  go_ret2
  exact ⟨_, rfl, hIH.out.1, fun g hg => by have := hIH.out.2 g hg; omega, hB3⟩
/-! ### The families -/
/-- A diagram that is new. -/
def FrR (room B : Nat) (w : World) (zb : Nat) : Prop := ∃ ab bm v full, ZdAt w (· < B) zb ab bm v room full []
/-- A diagram that has a family. -/
def DgR (B : Nat) (w : World) (zb : Nat) (f : Int) (F : Nat → Bool) : Prop := ∃ ab bm v room full S, ZdAt w (· < B) zb ab bm v room full S ∧ Held S f F
theorem FrR.below {room B : Nat} {w w' : World} {zb : Nat} (h : FrR room B w zb) (hb : Below w.heap.size w w') : FrR room B w' zb := by
  obtain ⟨ab, bm, v, full, hd⟩ := h
  exact ⟨ab, bm, v, full, hd.below hb⟩
theorem DgR.below {B : Nat} {w w' : World} {zb : Nat} {f : Int} {F : Nat → Bool} (h : DgR B w zb f F) (hb : Below w.heap.size w w') : DgR B w' zb f F := by
  obtain ⟨ab, bm, v, room, full, S, hd, hf⟩ := h
  exact ⟨ab, bm, v, room, full, S, hd.below hb, hf⟩
theorem tnew_any (room : Nat) (hr : room ≤ 20000) (w : World) : Calls Tryz.prog 13 #[.int .i64 room] w fun e w' => ∃ zb : Nat, e = .returned (.tuple #[.pointer (some ⟨zb, 0, none⟩), .int .i64 0]) ∧ FrR room w.heap.size w' zb ∧ Below w.heap.size w w' :=
  (znew_yes w room hr (· < w.heap.size) (fun _ h => h)).mono fun _ _ ⟨zb, ab, bm, he, hd, hb⟩ => ⟨zb, he, ⟨ab, bm, _, _, hd⟩, hb⟩
theorem dgok_any : DgOk (FrR 20000) DgR where
  frB := fun h hb => h.below hb
  dgB := fun h hb => h.below hb
  new := fun w => tnew_any 20000 (by omega) w
  list := fun {B w zb f F} h hF => by
    obtain ⟨ab, bm, v, room, full, S, hd, hf⟩ := h
    have HL := zList_any hd f hf.1 (by rw [hf.zn]; exact hF)
    rw [hf.row] at HL
    exact HL.mono fun _ _ ⟨u, he, hI, _, hb⟩ => ⟨u, he, hI, hb⟩
  count := fun {B w zb f F} h => by
    obtain ⟨ab, bm, v, room, full, S, hd, hf⟩ := h
    have HC := zCount_any hd f hf.1
    rw [hf.zn] at HC
    exact HC
/-- The family of a set's primes is that of its members' row. -/
theorem FI_famC {X : BitVec 256} {n : Nat} (h : ofB X n = true) : FI n 0 X = famC X n := by
  obtain ⟨hn, -⟩ := low_of h
  funext x
  rw [FI_zero, Bool.eq_iff_iff, FP_cubes hn]
  unfold famC rowF
  rw [decide_eq_true_iff]
  unfold memsR rowsC prims
  simp only [List.map_map, List.mem_map, Function.comp]
  constructor
  · rintro ⟨m, v, hp, rfl⟩
    refine ⟨keyC m v, (prmL_mem X n m v).2 hp, ?_⟩
    show memB (kM (keyC m v)) (kV (keyC m v)) 0 = _
    rw [kM_key, kV_key]
  · rintro ⟨k, hk, rfl⟩
    have := (prmU_mem X n 65536 k).1 hk
    exact ⟨kM k, kV k, this.2, rfl⟩
theorem famC_list {X : BitVec 256} {n : Nat} (h : ofB X n = true) : rowF (famL 24 (FI n 0 X)) = famC X n := by
  rw [FI_famC h]
  funext x
  unfold rowF
  rw [Bool.eq_iff_iff, decide_eq_true_iff, famL_mem]
  constructor
  · exact fun h => h.2
  · intro hx
    refine ⟨?_, hx⟩
    unfold famC rowF at hx
    rw [decide_eq_true_iff] at hx
    exact mems_small X n x hx
set_option maxHeartbeats 2000000 in
theorem tprimes_bad : PrimesBad (FrR 20000) := by
  intro B w zb X n ho hf
  have hB : B ≤ w.heap.size := by
    obtain ⟨ab, bm, v, full, hd⟩ := hf
    rcases Nat.lt_or_ge w.heap.size B with h | h
    · exact absurd (hd.off w.heap.size h).1 (Nat.lt_irrefl _)
    · exact h
  have hx := heap_alloc_new w (.cells (sa X) 37)
  have hb := below_alloc1 w (.cells (sa X) 37)
  clear hf
  by_cases hn : 0 ≤ n ∧ n ≤ 8
  · obtain ⟨k, rfl⟩ : ∃ k : Nat, n = k := ⟨n.toNat, by omega⟩
    have hw : decide (X &&& ~~~(allB k) = 0) = false := by
      unfold ofB at ho
      rw [decide_eq_true hn, Bool.true_and, Int.toNat_natCast] at ho
      exact ho
    have HA := fun w => all_any k (by omega) w
    have HW := fun w => within_any X (allB k) w
    rw [hw] at HW
    clear hw ho
    generalize allB k = Y at *
    unfold sv sa wv at *
    go_enter Tryz.func15, Tryz.ntmps15
    go_upto_region 1 with (fail)
    generalize w.alloc _ = W at *
    go_wp2_with fail
    refine (HA _).mono ?_
    rintro e w1 ⟨rfl, hb1⟩
    have hx1 := keep_blk hb1 hx
    have hB1 := hb.trans (hb1.mono hb.size)
    have hB2 := hB1.trans ((below_alloc1 w1 (.cells #[.int .u64 (wd Y 0).toNat, .int .u64 (wd Y 1).toNat, .int .u64 (wd Y 2).toNat, .int .u64 (wd Y 3).toNat] 37 (0, 0))).mono hB1.size)
    have hx2 := keep_alloc (x := .cells #[.int .u64 (wd Y 0).toNat, .int .u64 (wd Y 1).toNat, .int .u64 (wd Y 2).toNat, .int .u64 (wd Y 3).toNat] 37 (0, 0)) hx1
    have hy2 := heap_alloc_new w1 (.cells #[.int .u64 (wd Y 0).toNat, .int .u64 (wd Y 1).toNat, .int .u64 (wd Y 2).toNat, .int .u64 (wd Y 3).toNat] 37 (0, 0))
    clear HA hx hb hb1 hx1 hB1
    go_upto_region 2 with (fail)
    generalize w1.alloc _ = W2 at *
    obtain ⟨x0, x1, x2, x3, -⟩ := now4 hx2 rfl
    obtain ⟨y0, y1, y2, y3, -⟩ := now4 hy2 rfl
    clear hx2 hy2 hn
    go_wp2_with fail
    refine (HW _).mono ?_
    rintro e w3 ⟨rfl, hb3⟩
    have hB3 := (hB2.trans (hb3.mono hB2.size)).mono hB
    clear HW x0 x1 x2 x3 y0 y1 y2 y3 hB2 hb3
    go_wp2
    go_ret2
    exact ⟨rfl, hB3⟩
  · have HA := fun w => all_no n (by omega) w
    unfold sv sa wv at *
    clear ho hn hx
    go_enter Tryz.func15, Tryz.ntmps15
    go_upto_region 1 with (fail)
    generalize w.alloc _ = W at *
    go_wp2_with fail
    refine (HA _).mono ?_
    rintro e w1 ⟨rfl, hb1⟩
    have hB1 := hb.trans (hb1.mono hb.size)
    have hB2 := (hB1.trans ((below_alloc1 w1 (.cells #[.int .u64 (wd (0 : BitVec 256) 0).toNat, .int .u64 (wd (0 : BitVec 256) 1).toNat, .int .u64 (wd (0 : BitVec 256) 2).toNat, .int .u64 (wd (0 : BitVec 256) 3).toNat] 37 (0, 0))).mono hB1.size)).mono hB
    clear HA hb hb1 hB1
    go_upto_region 2 with (fail)
    generalize w1.alloc _ = W2 at *
    go_wp2
    go_ret2
    exact ⟨rfl, hB2⟩
set_option maxHeartbeats 4000000 in
theorem tprimes_good (HP : ∀ n, n ≤ 6 → PrimesOk n n) : PrimesGood (FrR 20000) DgR := by
  intro B w zb X n ho h6 hf
  obtain ⟨ab, bm, v, full, hd⟩ := hf
  have hB : B ≤ w.heap.size := by
    rcases Nat.lt_or_ge w.heap.size B with h | h
    · exact absurd (hd.off w.heap.size h).1 (Nat.lt_irrefl _)
    · exact h
  obtain ⟨h8, hlow⟩ := low_of ho
  have hw : decide (X &&& ~~~(allB n) = 0) = true := by
    unfold ofB at ho
    rw [decide_eq_true (by omega), Bool.true_and, Int.toNat_natCast] at ho
    exact ho
  have HA := fun w => all_any n h8 w
  have HW := fun w => within_any X (allB n) w
  rw [hw] at HW
  have HC := fun w => tcubes_any h6 (HP n h6) X hlow w
  have hfl := famC_list ho
  have hlen : (famL 24 (FI n 0 X)).length ≤ 162 := by
    rw [famL_len]
    exact Nat.le_trans (FI_few h8 (Nat.zero_le n) X) (aP_some (by omega))
  have hmem : ∀ x ∈ famL 24 (FI n 0 X), x < 16777216 := fun x hx => (famL_mem.1 hx).1
  clear hw ho HP hlow
  generalize famL 24 (FI n 0 X) = L at *
  generalize allB n = Y at *
  have hx := heap_alloc_new w (.cells (sa X) 37)
  have hb := below_alloc1 w (.cells (sa X) 37)
  unfold sv sa wv at *
  go_enter Tryz.func15, Tryz.ntmps15
  go_upto_region 1 with (fail)
  generalize w.alloc _ = W at *
  go_wp2_with fail
  refine (HA _).mono ?_
  rintro e w1 ⟨rfl, hb1⟩
  have hx1 := keep_blk hb1 hx
  have hB1 := hb.trans (hb1.mono hb.size)
  have hB2 := hB1.trans ((below_alloc1 w1 (.cells #[.int .u64 (wd Y 0).toNat, .int .u64 (wd Y 1).toNat, .int .u64 (wd Y 2).toNat, .int .u64 (wd Y 3).toNat] 37 (0, 0))).mono hB1.size)
  have hx2 := keep_alloc (x := .cells #[.int .u64 (wd Y 0).toNat, .int .u64 (wd Y 1).toNat, .int .u64 (wd Y 2).toNat, .int .u64 (wd Y 3).toNat] 37 (0, 0)) hx1
  have hy2 := heap_alloc_new w1 (.cells #[.int .u64 (wd Y 0).toNat, .int .u64 (wd Y 1).toNat, .int .u64 (wd Y 2).toNat, .int .u64 (wd Y 3).toNat] 37 (0, 0))
  clear HA hx hb hb1 hx1 hB1
  go_upto_region 2 with (fail)
  generalize w1.alloc _ = W2 at *
  obtain ⟨x0, x1, x2, x3, -⟩ := now4 hx2 rfl
  obtain ⟨y0, y1, y2, y3, -⟩ := now4 hy2 rfl
  clear hy2 h8
  go_wp2_with fail
  refine (HW _).mono ?_
  rintro e w3 ⟨rfl, hb3⟩
  have hx3 := keep_blk hb3 hx2
  have hB3 := hB2.trans (hb3.mono hB2.size)
  clear HW x0 x1 x2 x3 y0 y1 y2 y3 hB2 hb3 hx2
  obtain ⟨x0, x1, x2, x3, -⟩ := now4 hx3 rfl
  clear hx3
  go_wp2_with fail
  refine (HC _).mono ?_
  rintro e w4 ⟨u, rfl, hI, hF, hb4⟩
  have hB4 := hB3.trans (hb4.mono hB3.size)
  have hd4 := hd.below hB4
  have HO := zOf_any hd4 hI hmem (by omega)
  obtain ⟨A, c, rfl, -, -⟩ := hI
  clear HC x0 x1 x2 x3 hB3 hb4 hF hd
  go_wp2_with fail
  refine HO.mono ?_
  intro e w5 hM
  obtain ⟨v5, full5, T, id, rfl, hd5, hk5, hx5, hh5, hc5⟩ := made_ok hM (by show ¬ (20000 ≤ 0 + 24 * L.length); omega)
  rw [hfl] at hh5
  have hB5 := (hB4.mono hB).trans (hk5.below (Nat.le_trans hB hB4.size))
  clear HO hM hk5 hx5 hc5 hB4 hd4
  have I := Lib.hid (And.intro (show DgR B w5 zb id (famC X n) from ⟨ab, bm, v5, 20000, full5, T, hd5, hh5⟩) hB5)
  clear hd5 hh5 hB5 hfl hmem
  go_wp2
  go_ret2
  exact ⟨id, rfl, I.out.1, I.out.2⟩
end Go.Proofs.YtgajgjlldohekaaGreat
namespace Go.Proofs.YtgajgjlldohekaaGreat
open Go.RowKit Go.Joins

section
variable {P : Program} {ops : Array Oper} {md : Region.Mode} {S : World → Prop} {Q : Exit → Act → World → Prop}
end
section
variable {P : Program} {l : List Oper} {n : Nat} {S : World → Prop} {Q : Exit → Act → World → Prop}
end
end Go.Proofs.YtgajgjlldohekaaGreat
namespace Go.Proofs.YtgajgjlldohekaaGreat
open Go.RowKit Go.Joins

end Go.Proofs.YtgajgjlldohekaaGreat
namespace Go.Proofs.YtgajgjlldohekaaGreat
open Go.RowKit Go.Joins

end Go.Proofs.YtgajgjlldohekaaGreat
namespace Go.Proofs.YtgajgjlldohekaaGreat
open Go.RowKit Go.Joins

end Go.Proofs.YtgajgjlldohekaaGreat
namespace Go.Proofs.YtgajgjlldohekaaGreat
open Go.RowKit Go.Joins

end Go.Proofs.YtgajgjlldohekaaGreat
namespace Go.Proofs.YtgajgjlldohekaaGreat

end Go.Proofs.YtgajgjlldohekaaGreat
namespace Go.Proofs.YtgajgjlldohekaaGreat
open Go.RowKit Go.Joins

/-- An append to a row of numbers. -/
theorem Kz.grownBy {C M N : Nat → Prop} {w w' : World} {row : Option Nat} (hg : w.grownBy w' row) (hrow : ∀ g, row = some g → ∃ A z, w.heap[g]? = some (.cells A 3 z)) (hC : ∀ g, row = some g → C g) (hN : ∀ g, row = some g → ¬ N g) : Kz C M N w w' :=
  ⟨hg.os, hg.tape, hg.output, hg.size, fun k A T z hk _ _ hn => (hg.block k (size_of_block hk) (fun e => hn (hC k e.symm))).trans hk,
    fun k es cl hk _ => (hg.block k (size_of_block hk) (fun e => by obtain ⟨A, z, h⟩ := hrow k e.symm; rw [h] at hk; injection hk with hk; cases hk)).trans hk,
    fun k hk hl => hg.block k hl (fun e => hN k e.symm hk)⟩
theorem ZdAt.grownBy {N : Nat → Prop} {w w' : World} {zb ab bm : Nat} {v : Value} {room full : Nat} {S : St} {row : Option Nat} (h : ZdAt w N zb ab bm v room full S) (hg : w.grownBy w' row) (hrow : ∀ g, row = some g → ∃ A z, w.heap[g]? = some (.cells A 3 z)) : ZdAt w' N zb ab bm v room full S := by
  have hz : some zb ≠ row := fun e => by
    obtain ⟨A, z, h2⟩ := hrow zb e.symm
    have := h.head
    rw [h2] at this
    injection this with this
    injection this with _ this _
    exact absurd this (by decide)
  refine ⟨(hg.block zb (size_of_block h.head) hz).trans h.head, h.ar.same (fun q hq hl => hg.block q hl (fun e => ?_)), h.ok, h.zst, h.gap, fun q hq => ⟨Nat.lt_of_lt_of_le (h.off q hq).1 hg.size, (h.off q hq).2⟩⟩
  obtain ⟨A, z, h2⟩ := hrow q e.symm
  exact h.ar.not_fp h2 (by decide) (by decide) hq
theorem RemP.grownBy {w w' : World} {mm n : Nat} {S : St} {C : Nat} {row : Option Nat} (h : RemP w mm n S C) (hg : w.grownBy w' row) (hrow : ∀ g, row = some g → ∃ A z, w.heap[g]? = some (.cells A 3 z)) : RemP w' mm n S C := by
  obtain ⟨es, clock, hm⟩ := h.obj
  exact h.keep (hg.block mm h.lt (fun e => by obtain ⟨A, z, h2⟩ := hrow mm e.symm; rw [h2] at hm; injection hm with hm; cases hm))
end Go.Proofs.YtgajgjlldohekaaGreat
namespace Go.Proofs.YtgajgjlldohekaaGreat
open Go.RowKit Go.Joins

end Go.Proofs.YtgajgjlldohekaaGreat
namespace Go.Proofs.YtgajgjlldohekaaGreat
open Go.RowKit Go.Joins

end Go.Proofs.YtgajgjlldohekaaGreat
namespace Go.Proofs.YtgajgjlldohekaaGreat
open Go.RowKit Go.Joins

theorem ex11_mems : memsR (rowsC 14#256 2) = [2, 8] := by
  unfold memsR rowsC
  rw [ex9]
  have h1 : memB 1#8 1#8 0#8 = 2 := by decide +kernel
  have h2 : memB 2#8 2#8 0#8 = 8 := by decide +kernel
  show [memB 1#8 1#8 0, memB 2#8 2#8 0] = _
  rw [show (0 : BitVec 8) = 0#8 from rfl, h1, h2]
theorem ex11_fam : famL 24 (famC 14#256 2) = [2, 8] :=
  fam_row (l := memsR (rowsC 14#256 2)) (by rw [ex11_mems]; decide) (by unfold srtN; decide) (fun x => by rw [ex11_mems])
theorem ex11_bel : belB 65538 = true := by decide +kernel
theorem ex11_row : rmM 65538 = 1#8 ∧ rmV 65538 = 1#8 ∧ rmO 65538 = 1#8 := by decide +kernel
theorem ex11_mem : memB 1#8 1#8 1#8 = 65538 := by decide +kernel
set_option maxHeartbeats 4000000 in
set_option maxRecDepth 100000 in
theorem knows11_any {Fr : Nat → World → Nat → Prop} {Dg : Nat → World → Nat → Int → (Nat → Bool) → Prop} (HD : DgOk Fr Dg) (HG : PrimesGood Fr Dg) (HM : MemberT) (HR : RowT) : Knows11 := by
  intro w
  have HN := HD.new
  have HP := fun {w2 : World} {B zb : Nat} (hf : Fr B w2 zb) => HG 14#256 2 ex9o (by decide) hf
  have HLi := @DgOk.list _ _ HD
  have H2 := fun w => trow_yes HR ex11_bel w
  rw [show (65538 : Int).toNat = 65538 from rfl, ex11_row.1, ex11_row.2.1, ex11_row.2.2] at H2
  have H3 := fun w => HM 1#8 1#8 1#8 w
  rw [ex11_mem] at H3
  rw [show (.agg #[bvv 1#8, bvv 1#8, bvv 1#8] : Value) = .agg #[.int .u8 1, .int .u8 1, .int .u8 1] from rfl] at H2 H3
  have hfam := Lib.hid ex11_fam
  have hcf : cF 24 (famC 14#256 2) ≤ 100000 := by rw [← famL_len, ex11_fam]; decide
  rw [show ((2 : Nat) : Int) = 2 from rfl] at HP
  generalize famC 14#256 2 = F at *
  rw [sv14] at HP
  clear HD HG HM HR
  go_enter Tryz.func11, Tryz.ntmps11
  go_wp2_with fail
  refine (HN _).mono ?_
  rintro e w1 ⟨zb, rfl, hf, hb1⟩
  have HP1 := HP hf
  clear HN HP hf
  go_wp2_with fail
  refine HP1.mono ?_
  rintro e w2 ⟨id, rfl, hd, hb2⟩
  have hB2 := hb1.trans hb2
  have HL := HLi hd hcf
  rw [hfam.out] at HL
  clear HP1 hb1 hb2 hd HLi hcf
  go_wp2_with fail
  refine HL.mono ?_
  rintro e w3 ⟨u, rfl, hu, hb3⟩
  have hB3 := hB2.trans (hb3.mono hB2.size)
  clear HL hB2 hb3
  go_wp2_with fail
  refine (H2 _).mono ?_
  rintro e w4 ⟨rfl, hb4⟩
  have hB4 := hB3.trans (hb4.mono hB3.size)
  have hu4 := (hu.below hb4).more hb4.size
  clear H2 hB3 hb4 hu
  go_upto_region 7 with (fail)
  have hx := heap_alloc_new w4 (.cells #[.int .u8 1, .int .u8 1, .int .u8 1] 25)
  have hba := below_alloc1 w4 (.cells #[.int .u8 1, .int .u8 1, .int .u8 1] 25)
  have hB5 := hB4.trans (hba.mono hB4.size)
  have hu5 := (hu4.below hba).more hba.size
  clear hB4 hu4 hba
  generalize w4.alloc _ = w5 at *
  have hxr := keep_alloc (x := .cells #[.int .i64 2, .int .i64 8] 3) hx
  have hbb := below_alloc1 w5 (.cells #[.int .i64 2, .int .i64 8] 3)
  have hy := heap_alloc_new w5 (.cells #[.int .i64 2, .int .i64 8] 3)
  have hu6 := (hu5.below hbb).more hbb.size
  have hB6 := hB5.trans (hbb.mono hB5.size)
  have hI : IntsAt (w5.alloc (.cells #[.int .i64 2, .int .i64 8] 3)) (w5.alloc (.cells #[.int .i64 2, .int .i64 8] 3)).heap.size (.slice (some ⟨w5.heap.size, 0, none⟩) 2 2) (nI [2, 8]) := by
    obtain ⟨y0, y1, -⟩ := now2 hy rfl
    refine ⟨some ⟨w5.heap.size, 0, none⟩, 2, rfl, by decide, fun _ => ⟨w5.heap.size, 0, rfl, size_of_block hy, fun j x hj => ?_⟩⟩
    match j, hj with
    | 0, hj => simp [nI] at hj; subst hj; exact y0
    | 1, hj => simp [nI] at hj; subst hj; exact y1
  have HE := rsame8_any _ _ _ (nI [2, 8]) (nI [2, 8]) hu6 hI
  rw [show decide (nI [2, 8] = nI [2, 8]) = true from decide_eq_true rfl] at HE
  obtain ⟨ua, uc, eu, -, -⟩ := hu5
  subst eu
  clear hu6 hI hbb hy hx hfam
  go_wp2_with fail
  refine HE.mono ?_
  rintro e w7 ⟨rfl, hb7⟩
  have hx7 := keep_blk hb7 hxr
  have hB7 := hB6.trans (hb7.mono hB6.size)
  clear HE hxr hb7 hB5 hB6
  obtain ⟨x0, x1, x2, -⟩ := now3 hx7 rfl
  go_wp2_with fail
  refine (H3 _).mono ?_
  rintro e w8 ⟨rfl, hb8⟩
  have hB8 := hB7.trans (hb8.mono hB7.size)
  clear H3 x0 x1 x2 hx7 hb8 hB7
  go_wp2
  go_ret
  exact ⟨rfl, hB8⟩
end Go.Proofs.YtgajgjlldohekaaGreat
namespace Go.Proofs.YtgajgjlldohekaaGreat
open Go.RowKit Go.Joins

end Go.Proofs.YtgajgjlldohekaaGreat
namespace Go.Proofs.YtgajgjlldohekaaGreat
open Go.RowKit Go.Joins
theorem tprimes_all {n : Nat} (hn : n ≤ 6) : ∀ k, PrimesOk n k
  | 0 => tprimes_step hn fun j h => by cases h
  | k + 1 => tprimes_step hn fun j h => by
    obtain rfl : k = j := by omega
    intro N w zb ab bm drb mm v full S C
    exact tcombine_any hn (tprimes_all hn k)
theorem tgood_any : PrimesGood (FrR 20000) DgR := tprimes_good fun n hn => tprimes_all hn n
theorem tknows_any : Knows11 := knows11_any dgok_any tgood_any tmember_any trow_any
end Go.Proofs.YtgajgjlldohekaaGreat
namespace Go.Proofs.YtgajgjlldohekaaGreat
open Go.ChangeShapes Go.WideShapes Go.ChangeAt Go.RowKit Go.Joins

theorem Tryz.cellsCube : Tryz.prog.cellsOf 23 = 2 := by kernel_rfl
theorem Tryz.cellsByte : Tryz.prog.cellsOf 5 = 1 := by kernel_rfl
theorem byte_of {H : Type} {enc : TypeId × Value → H} {w : World} {base m : Nat} {sp : Nat → Bool} {held : Bool} {c : Value} {y : DataW H × List MemPlace}
    (h : DataW.trod enc Tryz.prog w base sp held m 5 [c] = some y) : ∃ x : BitVec 8, c = bvv x := by
  obtain ⟨a, e0, _, wa⟩ := DataW.trod_int Tryz.underlying5 h
  simp at e0
  subst e0
  have hb : 0 ≤ a ∧ a ≤ 255 := by
    simp [Lit.wf, IntKind.min, IntKind.max, IntKind.signed, IntKind.bits] at wa
    omega
  obtain ⟨n, rfl⟩ := Int.eq_ofNat_of_zero_le hb.1
  refine ⟨BitVec.ofNat 8 n, ?_⟩
  unfold bvv
  rw [BitVec.toNat_ofNat, Nat.mod_eq_of_lt (by omega)]
end Go.Proofs.YtgajgjlldohekaaGreat
namespace Go.Proofs.YtgajgjlldohekaaGreat
open Go.ChangeShapes Go.WideShapes Go.ChangeAt Go.RowKit Go.Joins

end Go.Proofs.YtgajgjlldohekaaGreat
namespace Go.Proofs.YtgajgjlldohekaaGreat
open Go.ChangeShapes Go.WideShapes Go.ChangeAt Go.RowKit Go.Joins

set_option maxRecDepth 100000 in
theorem cube_of {H : Type} {enc : TypeId × Value → H} {w : World} {base n : Nat} {sp : Nat → Bool} {held : Bool} {c0 c1 : Value} {y : DataW H × List MemPlace}
    (h : DataW.trod enc Tryz.prog w base sp held n 23 [c0, c1] = some y) : ∃ m v : BitVec 8, c0 = bvv m ∧ c1 = bvv v := by
  obtain ⟨y0, y1, n, _, _, h0, h1⟩ := trod_struct2 Tryz.underlying23 h
  simp only [List.drop_zero, Tryz.cellsByte] at h0 h1
  obtain ⟨x0, e0⟩ := byte_of h0
  obtain ⟨x1, e1⟩ := byte_of h1
  exact ⟨x0, x1, e0, e1⟩
instance : Inhabited Ln := ⟨⟨0, 0, []⟩⟩
end Go.Proofs.YtgajgjlldohekaaGreat
namespace Go.Proofs.YtgajgjlldohekaaGreat
open Go.ChangeShapes Go.WideShapes Go.ChangeAt Go.RowKit Go.Joins

end Go.Proofs.YtgajgjlldohekaaGreat
namespace Go.Proofs.YtgajgjlldohekaaGreat
open Go.ChangeShapes Go.WideShapes Go.ChangeAt Go.RowKit Go.Joins

instance : Inhabited Rw := ⟨⟨0, 0, 0⟩⟩
theorem array3 {cs : Array Value} (h : cs.size = 3) : ∃ a b c, cs = #[a, b, c] := by
  match cs, h with
  | ⟨[a, b, c]⟩, _ => exact ⟨a, b, c, rfl⟩
end Go.Proofs.YtgajgjlldohekaaGreat
