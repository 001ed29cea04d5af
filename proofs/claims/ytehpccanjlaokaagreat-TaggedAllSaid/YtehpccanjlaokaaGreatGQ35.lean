/- What a draft makes of a set: the members of its primes. A region that draws its order and ends in stores that wait for all the rest: ahead of these a load may be taken first where nobody ahead of the stores writes its cell; the stores themselves may write it. -/
import Derived.Test.YtehpccanjlaokaaGreatGQ33
import Derived.Test.YtehpccanjlaokaaGreatGQxQuLaw11b
import Derived.Test.YtehpccanjlaokaaGreatGQ03
import Derived.Deep.RegionHeld3
namespace Go.Proofs.YtehpccanjlaokaaGreat
open Go.RowKit Go.Joins

set_option maxHeartbeats 1000000 in
theorem tstart_any (n : Nat) (w : World) :
    Calls Tryz.prog 47 #[.int .i64 n] w fun e w' => ∃ drb zb ab bm mm : Nat, e = .returned (.pointer (some ⟨drb, 0, none⟩)) ∧ ZdAt w' (· < w.heap.size) zb ab bm (.slice none 0 0) 20000 0 [] ∧ DrAt w' drb zb n mm ∧ RemP w' mm n [] 0 ∧ mm ≠ bm ∧ ¬ (mm < w.heap.size) ∧ Below w.heap.size w w' := by
  have HN : Calls Tryz.prog 5 #[.int .i64 20000] w fun e w' => ∃ zb ab bm : Nat, e = .returned (.tuple #[.pointer (some ⟨zb, 0, none⟩), .int .i64 0]) ∧ ZdAt w' (· < w.heap.size) zb ab bm (.slice none 0 0) 20000 0 [] ∧ Below w.heap.size w w' := znew_yes w 20000 (by omega) (· < w.heap.size) (fun _ h => h)
  have hmm := @run_makeMap Tryz.prog
  go_enter Tryz.func47, Tryz.ntmps47
  go_wp2_with fail
  refine HN.mono ?_
  rintro e w1 ⟨zb, ab, bm, rfl, hd, hb⟩
  clear HN
  have hM := RemP.made w1 n []
  have hB2 := below_alloc1 w1 (.map #[] 0)
  have hB3 := below_alloc1 (w1.alloc (.map #[] 0)) (.cells #[.pointer (some ⟨zb, 0, none⟩), .int .i64 n, .map (some w1.heap.size)] 98 (0, 0))
  have hdr := heap_alloc_new (w1.alloc (.map #[] 0)) (.cells #[.pointer (some ⟨zb, 0, none⟩), .int .i64 n, .map (some w1.heap.size)] 98 (0, 0))
  have hz : (w1.alloc (.map #[] 0)).heap.size = w1.heap.size + 1 := by simp
  rw [hz] at hdr
  have hbm := hd.ar.lt.2.2
  have hsz := hb.size
  have I := Lib.hid (And.intro ((hd.below hB2).below hB3) (And.intro (show DrAt _ _ zb n w1.heap.size from hdr) (And.intro (hM.below hB3) (hb.trans ((hB2.trans (hB3.mono hB2.size)).mono hb.size)))))
  clear hd hb hM hB2 hB3 hdr hz
  go_wp2
  go_ret
  exact ⟨_, zb, ab, bm, w1.heap.size, rfl, I.out.1, I.out.2.1, I.out.2.2.1, by omega, by omega, I.out.2.2.2⟩
theorem low_of {X : BitVec 256} {n : Nat} (h : ofB X n = true) : n ≤ 8 ∧ LowI n 0 X := by
  unfold ofB at h
  rw [Bool.and_eq_true, decide_eq_true_iff, decide_eq_true_iff, Int.toNat_natCast] at h
  obtain ⟨⟨-, h8⟩, h2⟩ := h
  have hn : n ≤ 8 := by omega
  refine ⟨hn, fun p hp => ?_⟩
  have := (and_not_zero _ _).1 h2 p hp
  unfold allB at this
  rw [bvOf_bit, Bool.and_eq_true, decide_eq_true_iff, decide_eq_true_iff] at this
  exact ⟨this.2, by rw [Nat.pow_zero, Nat.mod_one]⟩
theorem aP_some {k : Nat} (h : k ≤ 6) : aP k ≤ 162 := by
  rcases (by omega : k = 0 ∨ k = 1 ∨ k = 2 ∨ k = 3 ∨ k = 4 ∨ k = 5 ∨ k = 6) with rfl | rfl | rfl | rfl | rfl | rfl | rfl <;> decide
theorem cN_less {n : Nat} (h : n ≤ 6) : cN n ≤ 18956 := by
  have := cN_mono (6 - n) n
  rw [show n + (6 - n) = 6 by omega, cN_6] at this
  exact this
theorem eN_less {n : Nat} (h : n ≤ 6) : eN n ≤ 364 := by
  have := eN_mono (6 - n) n
  rw [show n + (6 - n) = 6 by omega, show eN 6 = 364 by decide] at this
  exact this
theorem Kz.belowW {C M : Nat → Prop} {w w1 w2 : World} (hb : Below w.heap.size w w1) (hk : Kz C M (· < w.heap.size) w1 w2) : Below w.heap.size w w2 :=
  hb.trans (hk.below hb.size)
set_option maxHeartbeats 2000000 in
theorem tcubes_any {n : Nat} (hn : n ≤ 6) (HP : PrimesOk n n) (X : BitVec 256) (hX : LowI n 0 X) (w : World) :
    Calls Tryz.prog 44 #[sv X, .int .i64 n] w fun e w' => ∃ u, e = .returned (.tuple #[u, .int .i64 0]) ∧ IntsAt w' w'.heap.size u (nI (famL 24 (FI n 0 X))) ∧ FreshV w.heap.size u ∧ Below w.heap.size w w' := by
  have hcn := cN_less hn
  have hen := eN_less hn
  have hfw := FI_few (by omega : n ≤ 8) (Nat.zero_le n) X
  have hap := aP_some (k := n - 0) (by omega)
  have hx := heap_alloc_new w (.cells (sa X) 51)
  have hb := below_alloc1 w (.cells (sa X) 51)
  have HS := fun w => tstart_any n w
  unfold sv sa wv at *
  go_enter Tryz.func44, Tryz.ntmps44
  go_upto_region 1 with (fail)
  generalize w.alloc _ = W at *
  go_wp2_with fail
  refine (HS _).mono ?_
  rintro e w1 ⟨drb, zb, ab, bm, mm, rfl, hd, hdr, hr, hne, hN, hb1⟩
  have hx1 := keep_blk hb1 hx
  have HP1 : Calls Tryz.prog 48 #[.pointer (some ⟨drb, 0, none⟩), sv X, .int .i64 0] w1 (DfPost (· < W.heap.size) w1 zb ab bm n mm [] 0 (cN n) (eN n) (FI n 0 X)) := HP hd hdr hr hne hN X 0 (by omega) hX (by show 0 + cN n < 20000; omega) (by omega)
  unfold sv wv at HP1
  obtain ⟨x0, x1, x2, x3, -⟩ := now4 hx1 rfl
  clear HS HP hx hd hr hX
  go_wp2_with fail
  refine HP1.mono ?_
  rintro e w2 ⟨v2, full2, T, f, rfl, hd2, hk2, -, hf2, -, -⟩
  clear HP1 x0 x1 x2 x3 hx1
  have hdr2 := hdr.kz hk2 (fun h => h)
  obtain ⟨d0, d1, d2, -⟩ := now3 hdr2 rfl
  have hB2 := Kz.belowW hb1 hk2
  have HL := zList_any hd2 f hf2.1 (by rw [hf2.zn]; omega)
  rw [hf2.row] at HL
  have hsz := hB2.size
  have hszW := hb.size
  clear hd2 hk2 hf2 hdr hdr2 hfw hap hcn hen hb1
  go_wp2_with fail
  refine HL.mono ?_
  rintro e w3 ⟨u, rfl, hI, hF, hb3⟩
  have hB3 := hb.trans ((hB2.trans (hb3.mono hB2.size)).mono hb.size)
  clear HL d0 d1 d2 hb3 hB2
  have hIH := Lib.hid (And.intro hI hF)
  obtain ⟨A, c, rfl, -, -⟩ := hI
  clear hF
  go_wp2
  go_ret2
  exact ⟨_, rfl, hIH.out.1, fun g hg => by have := hIH.out.2 g hg; omega, hB3⟩
/-! ### The families -/
/-- A diagram that is new. -/
def FrR (room B : Nat) (w : World) (zb : Nat) : Prop := ∃ ab bm v full, ZdAt w (· < B) zb ab bm v room full []
/-- A diagram that has a family. -/
def DgR (B : Nat) (w : World) (zb : Nat) (f : Int) (F : Nat → Bool) : Prop := ∃ ab bm v room full S, ZdAt w (· < B) zb ab bm v room full S ∧ Held S f F
theorem FrR.below {room B : Nat} {w w' : World} {zb : Nat} (h : FrR room B w zb) (hb : Below w.heap.size w w') : FrR room B w' zb := by
  obtain ⟨ab, bm, v, full, hd⟩ := h
  exact ⟨ab, bm, v, full, hd.below hb⟩
theorem DgR.below {B : Nat} {w w' : World} {zb : Nat} {f : Int} {F : Nat → Bool} (h : DgR B w zb f F) (hb : Below w.heap.size w w') : DgR B w' zb f F := by
  obtain ⟨ab, bm, v, room, full, S, hd, hf⟩ := h
  exact ⟨ab, bm, v, room, full, S, hd.below hb, hf⟩
theorem tnew_any (room : Nat) (hr : room ≤ 20000) (w : World) : Calls Tryz.prog 5 #[.int .i64 room] w fun e w' => ∃ zb : Nat, e = .returned (.tuple #[.pointer (some ⟨zb, 0, none⟩), .int .i64 0]) ∧ FrR room w.heap.size w' zb ∧ Below w.heap.size w w' :=
  (znew_yes w room hr (· < w.heap.size) (fun _ h => h)).mono fun _ _ ⟨zb, ab, bm, he, hd, hb⟩ => ⟨zb, he, ⟨ab, bm, _, _, hd⟩, hb⟩
theorem dgok_any : DgOk (FrR 20000) DgR where
  frB := fun h hb => h.below hb
  dgB := fun h hb => h.below hb
  new := fun w => tnew_any 20000 (by omega) w
  list := fun {B w zb f F} h hF => by
    obtain ⟨ab, bm, v, room, full, S, hd, hf⟩ := h
    have HL := zList_any hd f hf.1 (by rw [hf.zn]; exact hF)
    rw [hf.row] at HL
    exact HL.mono fun _ _ ⟨u, he, hI, _, hb⟩ => ⟨u, he, hI, hb⟩
  count := fun {B w zb f F} h => by
    obtain ⟨ab, bm, v, room, full, S, hd, hf⟩ := h
    have HC := zCount_any hd f hf.1
    rw [hf.zn] at HC
    exact HC
/-- The family of a set's primes is that of its members' row. -/
theorem FI_famC {X : BitVec 256} {n : Nat} (h : ofB X n = true) : FI n 0 X = famC X n := by
  obtain ⟨hn, -⟩ := low_of h
  funext x
  rw [FI_zero, Bool.eq_iff_iff, FP_cubes hn]
  unfold famC rowF
  rw [decide_eq_true_iff]
  unfold memsR rowsC prims
  simp only [List.map_map, List.mem_map, Function.comp]
  constructor
  · rintro ⟨m, v, hp, rfl⟩
    refine ⟨keyC m v, (prmL_mem X n m v).2 hp, ?_⟩
    show memB (kM (keyC m v)) (kV (keyC m v)) 0 = _
    rw [kM_key, kV_key]
  · rintro ⟨k, hk, rfl⟩
    have := (prmU_mem X n 65536 k).1 hk
    exact ⟨kM k, kV k, this.2, rfl⟩
theorem famC_list {X : BitVec 256} {n : Nat} (h : ofB X n = true) : rowF (famL 24 (FI n 0 X)) = famC X n := by
  rw [FI_famC h]
  funext x
  unfold rowF
  rw [Bool.eq_iff_iff, decide_eq_true_iff, famL_mem]
  constructor
  · exact fun h => h.2
  · intro hx
    refine ⟨?_, hx⟩
    unfold famC rowF at hx
    rw [decide_eq_true_iff] at hx
    exact mems_small X n x hx
set_option maxHeartbeats 4000000 in
theorem tprimes_good (HP : ∀ n, n ≤ 6 → PrimesOk n n) : PrimesGood (FrR 20000) DgR := by
  intro B w zb X n ho h6 hf
  obtain ⟨ab, bm, v, full, hd⟩ := hf
  have hB : B ≤ w.heap.size := by
    rcases Nat.lt_or_ge w.heap.size B with h | h
    · exact absurd (hd.off w.heap.size h).1 (Nat.lt_irrefl _)
    · exact h
  obtain ⟨h8, hlow⟩ := low_of ho
  have hw : decide (X &&& ~~~(allB n) = 0) = true := by
    unfold ofB at ho
    rw [decide_eq_true (by omega), Bool.true_and, Int.toNat_natCast] at ho
    exact ho
  have HA := fun w => all_any n h8 w
  have HW := fun w => within_any X (allB n) w
  rw [hw] at HW
  have HC := fun w => tcubes_any h6 (HP n h6) X hlow w
  have hfl := famC_list ho
  have hlen : (famL 24 (FI n 0 X)).length ≤ 162 := by
    rw [famL_len]
    exact Nat.le_trans (FI_few h8 (Nat.zero_le n) X) (aP_some (by omega))
  have hmem : ∀ x ∈ famL 24 (FI n 0 X), x < 16777216 := fun x hx => (famL_mem.1 hx).1
  clear hw ho HP hlow
  generalize famL 24 (FI n 0 X) = L at *
  generalize allB n = Y at *
  have hx := heap_alloc_new w (.cells (sa X) 51)
  have hb := below_alloc1 w (.cells (sa X) 51)
  unfold sv sa wv at *
  go_enter Tryz.func19, Tryz.ntmps19
  go_upto_region 1 with (fail)
  generalize w.alloc _ = W at *
  go_wp2_with fail
  refine (HA _).mono ?_
  rintro e w1 ⟨rfl, hb1⟩
  have hx1 := keep_blk hb1 hx
  have hB1 := hb.trans (hb1.mono hb.size)
  have hB2 := hB1.trans ((below_alloc1 w1 (.cells #[.int .u64 (wd Y 0).toNat, .int .u64 (wd Y 1).toNat, .int .u64 (wd Y 2).toNat, .int .u64 (wd Y 3).toNat] 51 (0, 0))).mono hB1.size)
  have hx2 := keep_alloc (x := .cells #[.int .u64 (wd Y 0).toNat, .int .u64 (wd Y 1).toNat, .int .u64 (wd Y 2).toNat, .int .u64 (wd Y 3).toNat] 51 (0, 0)) hx1
  have hy2 := heap_alloc_new w1 (.cells #[.int .u64 (wd Y 0).toNat, .int .u64 (wd Y 1).toNat, .int .u64 (wd Y 2).toNat, .int .u64 (wd Y 3).toNat] 51 (0, 0))
  clear HA hx hb hb1 hx1 hB1
  go_upto_region 2 with (fail)
  generalize w1.alloc _ = W2 at *
  obtain ⟨x0, x1, x2, x3, -⟩ := now4 hx2 rfl
  obtain ⟨y0, y1, y2, y3, -⟩ := now4 hy2 rfl
  clear hy2 h8
  go_wp2_with fail
  refine (HW _).mono ?_
  rintro e w3 ⟨rfl, hb3⟩
  have hx3 := keep_blk hb3 hx2
  have hB3 := hB2.trans (hb3.mono hB2.size)
  clear HW x0 x1 x2 x3 y0 y1 y2 y3 hB2 hb3 hx2
  obtain ⟨x0, x1, x2, x3, -⟩ := now4 hx3 rfl
  clear hx3
  go_wp2_with fail
  refine (HC _).mono ?_
  rintro e w4 ⟨u, rfl, hI, hF, hb4⟩
  have hB4 := hB3.trans (hb4.mono hB3.size)
  have hd4 := hd.below hB4
  have HO := zOf_any hd4 hI hmem (by omega)
  obtain ⟨A, c, rfl, -, -⟩ := hI
  clear HC x0 x1 x2 x3 hB3 hb4 hF hd
  go_wp2_with fail
  refine HO.mono ?_
  intro e w5 hM
  obtain ⟨v5, full5, T, id, rfl, hd5, hk5, hx5, hh5, hc5⟩ := made_ok hM (by show ¬ (20000 ≤ 0 + 24 * L.length); omega)
  rw [hfl] at hh5
  have hB5 := (hB4.mono hB).trans (hk5.below (Nat.le_trans hB hB4.size))
  clear HO hM hk5 hx5 hc5 hB4 hd4
  have I := Lib.hid (And.intro (show DgR B w5 zb id (famC X n) from ⟨ab, bm, v5, 20000, full5, T, hd5, hh5⟩) hB5)
  clear hd5 hh5 hB5 hfl hmem
  go_wp2
  go_ret2
  exact ⟨id, rfl, I.out.1, I.out.2⟩
end Go.Proofs.YtehpccanjlaokaaGreat
namespace Go.Proofs.YtehpccanjlaokaaGreat
open Go.RowKit Go.Joins

section
variable {P : Program} {ops : Array Oper} {md : Region.Mode} {S : World → Prop} {Q : Exit → Act → World → Prop}
/-- k of the first n operations, in whatever order they come up, S behind each; then L. -/
def HeadH (P : Program) (md : Region.Mode) (ops : Array Oper) (Q : Exit → Act → World → Prop) (S : World → Prop) (n : Nat) (L : Array Bool → Act → World → Prop) : Nat → Array Bool → Act → World → Prop
  | 0 => L
  | k + 1 => fun done a w => HeadInv md ops n done → Region.ready md ops done ≠ [] ∧ ∀ j, j ∈ Region.ready md ops done → j < n ∧ wpOp P ops Q j (fun a' w' => S w' ∧ HeadH P md ops Q S n L k (done.setIfInBounds j true) a' w') a w
theorem HeadH.any {n m : Nat} {L : Array Bool → Act → World → Prop} (hL : ∀ done a w, L done a w → wpAny P md ops Q m done a w) (k : Nat) :
    ∀ (done : Array Bool) (a : Act) (w : World), HeadInv md ops n done → HeadH P md ops Q S n L k done a w → wpAny P md ops Q (k + m) done a w := by
  induction k with
  | zero => intro done a w _ h; simpa using hL done a w h
  | succ k ih =>
    intro done a w inv h
    obtain ⟨hne, hall⟩ := h inv
    have e : k + 1 + m = (k + m) + 1 := by omega
    rw [e]
    refine ⟨fun hn => (hne hn).elim, fun j hj => ?_⟩
    exact wpOp_mono (fun a' w' h' => ih _ a' w' (inv.set hj (hall j hj).1) h'.2) (hall j hj).2
theorem HeadH.first {n j : Nat} {o : Oper} {v : Value} {L : Array Bool → Act → World → Prop} (ho : ops[j]? = some o) (hns : Region.noSelect ops = true)
    (hsink : Region.sinkB md ops n = true) (hchain : Region.chainB md ops n = true) (hn : n < ops.size) (hj : j < n)
    (hQ : ∀ c a w, Q (.panic c) (a.put o.dst v) w → Q (.panic c) a w)
    (hL : ∀ done a w, L done a w → ∀ t, t ∈ Region.ready md ops done → n ≤ t) (k : Nat) :
    ∀ (done : Array Bool) (a : Act) (w : World), FreeAt md ops done j o → j ∈ Region.ready md ops done → YieldsIf P ops S o v a → S w →
      HeadH P md ops Q S n L k (done.setIfInBounds j true) (a.put o.dst v) w → HeadH P md ops Q S n L (k + 1) done a w := by
  have sel := Region.noSelect_spec hns
  induction k with
  | zero =>
    intro done a w _ hr hy hS H inv
    have hun := (mem_ready.1 hr).1
    refine ⟨List.ne_nil_of_mem hr, fun t ht => ?_⟩
    have htn : t < n := Nat.lt_of_not_le fun h => tail_waits hsink hchain hn inv (n - j) j rfl hj hun t h ht
    by_cases e : t = j
    · rw [e]; exact ⟨hj, hy.wpOp ho hS ⟨hS, H⟩⟩
    · have := hL _ _ _ H t (ready_mono ht e)
      omega
  | succ k ih =>
    intro done a w hf hr hy hS H inv
    have hun := (mem_ready.1 hr).1
    have H' := H (inv.set hr hj)
    refine ⟨List.ne_nil_of_mem hr, fun t ht => ?_⟩
    have htn : t < n := Nat.lt_of_not_le fun h => tail_waits hsink hchain hn inv (n - j) j rfl hj hun t h ht
    by_cases e : t = j
    · rw [e]; exact ⟨hj, hy.wpOp ho hS ⟨hS, H⟩⟩
    obtain ⟨htu, ot, hot, hwaits⟩ := mem_ready.1 ht
    have nowait : ∀ x, x ∈ ot.after → Region.binds md x = true → x.on ≠ j := by
      intro x hx hb he
      have h1 := hwaits x hx hb
      rw [he, getD_both hun] at h1
      exact Bool.noConfusion h1
    have h2 := wpOp_putIf hot (hf t ot hot e htu nowait) (fun cs b => sel j o cs b ho) (fun cs b => sel t ot cs b hot) hQ hy ((H'.2 t (ready_mono ht e)).2)
    refine ⟨htn, wpOp_mono ?_ h2⟩
    rintro a' w' ⟨hy', hS', h3⟩
    refine ⟨hS', ih (done.setIfInBounds t true) a' w' (hf.later htu) (ready_mono hr (Ne.symm e)) hy' hS' ?_⟩
    rw [Array.setIfInBounds_comm _ _ e]; exact h3
end
/-- The stores, in the order of the text. -/
def TailL (P : Program) (l : List Oper) (Q : Exit → Act → World → Prop) (n : Nat) : Array Bool → Act → World → Prop :=
  fun done a w => Region.seqB .any l.toArray (l.drop n).length n done = true ∧ wpList P l.toArray Q (l.drop n) a w
def tailOk (l : List Oper) (n : Nat) : Bool := Region.noSelect l.toArray && decide (n < l.length) && Region.sinkB .any l.toArray n && Region.chainB .any l.toArray n
section
variable {P : Program} {l : List Oper} {n : Nat} {S : World → Prop} {Q : Exit → Act → World → Prop}
theorem HeadH.take {i k : Nat} {o : Oper} {v : Value} {done : Array Bool} {a : Act} {w : World} (hF : tailOk l n = true) (ho : l.toArray[i]? = some o) (hi : decide (i < n) = true)
    (hf : Region.free .any l.toArray done i = true) (hr : (Region.ready .any l.toArray done).contains i = true)
    (hQ : ∀ c a w, Q (.panic c) (a.put o.dst v) w → Q (.panic c) a w) (hy : YieldsIf P l.toArray S o v a) (hS : S w)
    (h : HeadH P .any l.toArray Q S n (TailL P l Q n) k (done.setIfInBounds i true) (a.put o.dst v) w) : HeadH P .any l.toArray Q S n (TailL P l Q n) (k + 1) done a w := by
  simp only [tailOk, Bool.and_eq_true, decide_eq_true_eq] at hF
  obtain ⟨⟨⟨hns, hn⟩, hsink⟩, hchain⟩ := hF
  exact HeadH.first ho hns hsink hchain (by simpa using hn) (of_decide_eq_true hi) hQ (fun _ _ _ hL => seqB_ready hL.1) k done a w (Region.free_spec ho hf) (by simpa using hr) hy hS h
theorem HeadH.one {i k : Nat} {o : Oper} {done : Array Bool} {a : Act} {w : World} (hr : Region.ready .any l.toArray done = [i]) (hi : decide (i < n) = true) (ho : l.toArray[i]? = some o)
    (h : ∀ K' : Act → World → Prop, Shut (∀ a w, S w → (S w → HeadH P .any l.toArray Q S n (TailL P l Q n) k (done.setIfInBounds i true) a w) → K' a w) → if Region.wanted o (yielded l.toArray a.tmps) = true then Oper.wp P o a w K' Q else K' (a.put o.dst undef) w) :
    HeadH P .any l.toArray Q S n (TailL P l Q n) (k + 1) done a w := by
  intro _
  rw [hr]
  refine ⟨by simp, fun j hj => ?_⟩
  have e : j = i := by simpa using hj
  subst e
  exact ⟨of_decide_eq_true hi, wpOp_step ho (fun K' hK => h K' (fun a w hS hW => hK a w ⟨hS, hW hS⟩))⟩
theorem wp_region_held_tail {id : Nat} {a : Act} {w : World} (n : Nat) (S : World → Prop) (hm : P.follows .mixedOrders = true) (hF : tailOk l n = true) (hS : S w.drew)
    (h : tailOk l n = true → S w.drew → HeadH P .any l.toArray Q S n (TailL P l Q n) n (Array.replicate l.toArray.size false) a w.drew) : (Code.region id l.toArray true).wp P Q a w := by
  have hF' := hF
  simp only [tailOk, Bool.and_eq_true, decide_eq_true_eq] at hF'
  obtain ⟨⟨⟨hns, hn⟩, hsink⟩, hchain⟩ := hF'
  have hg : (l.drop n).length = l.toArray.size - n := by simp
  have start : HeadInv .any l.toArray n (Array.replicate l.toArray.size false) :=
    ⟨by simp, fun t _ _ ht => Bool.noConfusion ((getD_replicate_false _ t).symm.trans ht), fun t _ ht => getD_in (by simpa using ht) (getD_replicate_false _ t)⟩
  have H2 := HeadH.any (P := P) (Q := Q) (S := S) (n := n) (m := l.toArray.size - n) (fun done a' w' hL => by
    have := wpAny_of_seq (P := P) (ops := l.toArray) (md := .any) (Q' := Q) (l.drop n) n done a' w' (fun t => by simp) hL.1 hL.2
    rwa [hg] at this) n _ a w.drew start (h hF hS)
  have hnl : n < l.length := hn
  rw [show n + (l.toArray.size - n) = l.toArray.size by simp; omega] at H2
  exact wp_region_any hm H2
end
end Go.Proofs.YtehpccanjlaokaaGreat
