/- The statements of layer 9, walked over what the package answers: PrimeHolds. -/
import Derived.Test.YtkccanedeladnaaLaw09
namespace Go.Proofs.Ytkccanedeladnaa
open Go.RowKit Go.Joins

theorem prims_mem {S : BitVec 256} {n : Int} {x : Cb} : x ∈ prims S n ↔ primB S n x.m x.v = true := by
  unfold prims
  rw [List.mem_map]
  constructor
  · rintro ⟨k, hk, rfl⟩
    exact ((prmU_mem S n 65536 k).1 hk).2
  · intro h
    refine ⟨keyC x.m x.v, (prmL_mem S n x.m x.v).2 h, ?_⟩
    unfold cbK
    rw [kM_key, kV_key]
theorem prims_rise {S : BitVec 256} {n : Int} {i : Nat} {x y : Cb} (hy : (prims S n)[i]? = some y) (hx : (prims S n)[i + 1]? = some x) : y.m.toNat < x.m.toNat ∨ (y.m = x.m ∧ y.v.toNat < x.v.toNat) := by
  unfold prims at hx hy
  rw [List.getElem?_map] at hx hy
  obtain ⟨a, ha, rfl⟩ := Option.map_eq_some_iff.1 hy
  obtain ⟨b, hb, rfl⟩ := Option.map_eq_some_iff.1 hx
  have ha2 := ((prmU_mem S n 65536 a).1 (List.mem_of_getElem? ha)).1
  have hb2 := ((prmU_mem S n 65536 b).1 (List.mem_of_getElem? hb)).1
  have hlt : a < b := by
    obtain ⟨h1, e1⟩ := List.getElem?_eq_some_iff.1 ha
    obtain ⟨h2, e2⟩ := List.getElem?_eq_some_iff.1 hb
    rw [← e1, ← e2]
    exact List.pairwise_iff_getElem.1 (prmU_srt S n 65536) i (i + 1) h1 h2 (by omega)
  unfold cbK kM kV
  simp only [BitVec.toNat_ofNat]
  rcases Nat.lt_or_ge (a / 256 % 2 ^ 8) (b / 256 % 2 ^ 8) with h | h
  · exact .inl h
  · have e : a / 256 = b / 256 := by omega
    exact .inr ⟨by rw [e], by omega⟩
/-- The points of cubes, together. -/
def unC (n : Nat) (cs : List Cb) : BitVec 256 := cs.foldl (fun U x => U ||| cpts x.m x.v n n) 0
theorem unC_step {n : Nat} {cs : List Cb} {i : Nat} {x : Cb} (hx : cs[i]? = some x) : unC n (cs.take (i + 1)) = unC n (cs.take i) ||| cpts x.m x.v n n := by
  unfold unC
  rw [List.take_add_one, hx, List.foldl_append]
  rfl
theorem foldl_bit (n : Nat) : ∀ (cs : List Cb) (U : BitVec 256) (p : Nat), (cs.foldl (fun U x => U ||| cpts x.m x.v n n) U).getLsbD p = true ↔ U.getLsbD p = true ∨ ∃ x ∈ cs, (cpts x.m x.v n n).getLsbD p = true
  | [], U, p => by simp
  | y :: cs, U, p => by
    rw [List.foldl_cons, foldl_bit n cs, BitVec.getLsbD_or, Bool.or_eq_true]
    constructor
    · rintro ((h | h) | ⟨x, hx, h⟩)
      · exact .inl h
      · exact .inr ⟨y, List.mem_cons_self, h⟩
      · exact .inr ⟨x, List.mem_cons_of_mem _ hx, h⟩
    · rintro (h | ⟨x, hx, h⟩)
      · exact .inl (.inl h)
      · rcases List.mem_cons.1 hx with rfl | hx
        · exact .inl (.inr h)
        · exact .inr ⟨x, hx, h⟩
theorem unC_all {S : BitVec 256} {n : Nat} (hn : n ≤ 8) (hS : S &&& ~~~(allB n) = 0) : unC n (prims S n) = S := by
  apply BitVec.eq_of_getLsbD_eq
  intro p _
  rw [Bool.eq_iff_iff, primes_points hn hS p]
  unfold unC
  rw [foldl_bit]
  constructor
  · rintro (h | ⟨x, hx, h⟩)
    · simp at h
    · rw [cpts_bit _ _ _ _ _ hn, Bool.and_eq_true, decide_eq_true_iff] at h
      exact ⟨x.m, x.v, prims_mem.1 hx, h.1, h.2⟩
  · rintro ⟨m, v, h1, h2, h3⟩
    refine .inr ⟨⟨m, v⟩, prims_mem.2 h1, ?_⟩
    rw [cpts_bit _ _ _ _ _ hn, h3, decide_eq_true h2]; rfl
theorem holds_any9 {S : BitVec 256} {n : Int} {m v : BitVec 8} (h : ((prims S n).any fun x => holdsB x.m x.v m v) = false) : inB S n m v = false := by
  rw [Bool.eq_false_iff]
  intro hi
  obtain ⟨m', v', h1, h2⟩ := prime_above S n _ m v (Nat.lt_succ_self _) hi
  rw [List.any_eq_false] at h
  exact h ⟨m', v'⟩ (prims_mem.2 h1) h2
theorem any_step {α : Type} (p : α → Bool) {l : List α} {k : Nat} {x : α} (h : l[k]? = some x) : (l.take (k + 1)).any p = ((l.take k).any p || p x) := by
  rw [List.take_add_one, h, List.any_append]
  simp
set_option maxHeartbeats 2000000 in
set_option maxRecDepth 100000 in
theorem holds9_no (HA : AllC) (HG : GrowX) (HP : PrimeC) (S : BitVec 256) (n : Int) (m v : BitVec 8) (ho : ofB S n = false) (w : World) : Calls Try.prog 4 #[sv S, .int .i64 n, cv m v] w fun e w' => e = .returned (.bool true) ∧ Below w.heap.size w w' := by
  have HO := fun w => rof9_any S n w
  have HK := fun w => knows9_any HA HG HP w
  have hB0 := below_alloc2 w (.cells (sa S) 24) (cb m v)
  have hb0 := heap_alloc2_old w (.cells (sa S) 24) (cb m v)
  obtain ⟨s0, s1, s2, s3, -⟩ := now4 hb0 rfl
  rw [ho] at HO
  clear HA HG HP ho
  unfold sv sa cv cb bvv at *
  unfold wv at *
  go_enter Try.func4, Try.ntmps4
  go_wp2_with fail
  refine (HO _).mono ?_
  rintro e w1 ⟨rfl, hb⟩
  have hB1 := hB0.trans (hb.mono hB0.size)
  clear HO hb0 hb hB0 s0 s1 s2 s3
  go_wp2_with fail
  refine (HK _).mono ?_
  rintro e w3 ⟨rfl, hb⟩
  go_wp2
  go_ret
  exact ⟨rfl, hB1.trans (hb.mono hB1.size)⟩
set_option maxHeartbeats 8000000 in
set_option maxRecDepth 100000 in
theorem holds9_yes (HA : AllC) (HG : GrowX) (HP : PrimeC) (S : BitVec 256) (k : Nat) (mc vc : BitVec 8) (ho : ofB S k = true) (w : World) : Calls Try.prog 4 #[sv S, .int .i64 k, cv mc vc] w fun e w' => e = .returned (.bool true) ∧ Below w.heap.size w w' := by
  have HO := fun w => rof9_any S k w
  have HK := fun w => knows9_any HA HG HP w
  have HX := fun w => all9_yes HA ho w
  have HW := fun w => rwithin9_any mc vc S k w
  have HPr := fun m v w => rprime9_any m v S k w
  have hB0 := below_alloc2 w (.cells (sa S) 24) (cb mc vc)
  have hb0 := heap_alloc2_old w (.cells (sa S) 24) (cb mc vc)
  have hc0 := heap_alloc2_new w (.cells (sa S) 24) (cb mc vc)
  have hk8 : k ≤ 8 ∧ S &&& ~~~(allB k) = 0 := by
    unfold ofB at ho
    rw [Bool.and_eq_true, decide_eq_true_iff, decide_eq_true_iff, Int.toNat_natCast] at ho
    exact ⟨by omega, ho.2⟩
  have hun := Lib.hid (unC_all hk8.1 hk8.2)
  have hno := Lib.hid (fun h => holds_any9 (S := S) (n := k) (m := mc) (v := vc) h)
  have hmem := Lib.hid (fun (i : Nat) (x : Cb) (h : (prims S k)[i]? = some x) => prims_mem.1 (List.mem_of_getElem? h))
  have hris := Lib.hid (fun (i : Nat) (x y : Cb) (hy : (prims S k)[i]? = some y) (hx : (prims S k)[i + 1]? = some x) => prims_rise hy hx)
  have hlen : (prims S k).length ≤ 65536 := by unfold prims prmL; rw [List.length_map]; exact prmU_len _ _ _
  have hk := hk8.1
  rw [ho] at HO
  clear HA HG HP ho hk8
  generalize prims S k = L at *
  obtain ⟨s0, s1, s2, s3, -⟩ := now4 hb0 rfl
  unfold sv sa cv cb bvv at *
  unfold wv at *
  go_enter Try.func4, Try.ntmps4
  go_wp2_with fail
  refine (HO _).mono ?_
  rintro e w1 ⟨rfl, hb⟩
  have hB1 := hB0.trans (hb.mono hB0.size)
  have hb1 := keep_blk hb hb0
  have hc1 := keep_blk hb hc0
  clear HO hb0 hc0 hb hB0 s0 s1 s2 s3
  obtain ⟨s0, s1, s2, s3, -⟩ := now4 hb1 rfl
  go_wp2_with fail
  refine (HX _).mono ?_
  rintro e w2 ⟨v, rfl, hC, hb⟩
  have hB2 := hB1.trans (hb.mono hB1.size)
  have hb2 := keep_blk hb hb1
  have hc2 := keep_blk hb hc1
  obtain ⟨A, c, rfl, -, hcell⟩ := hC
  clear HX hb1 hc1 hb hB1 s0 s1 s2 s3
  have hu := heap_alloc_new w2 (.cells #[.int .u64 0, .int .u64 0, .int .u64 0, .int .u64 0] 24)
  have hA := below_alloc1 w2 (.cells #[.int .u64 0, .int .u64 0, .int .u64 0, .int .u64 0] 24)
  go_wp2
  go_loopw [10, 11] (fun s t wr => ∃ (i : Nat) (h : Bool) (U : BitVec 256), i ≤ L.length ∧ t = .int .i64 i ∧ s = .bool h ∧ Hid (h = (L.take i).any fun x => holdsB x.m x.v mc vc) ∧ Hid (U = unC k (L.take i)) ∧ wr.heap[w2.heap.size]? = some (.cells #[.int .u64 (wd U 0).toNat, .int .u64 (wd U 1).toNat, .int .u64 (wd U 2).toNat, .int .u64 (wd U 3).toNat] 24 (0, 0)) ∧ Below w2.heap.size w2 wr) (fun _ t _ => L.length - (intOf t).toNat)
  case atStart => exact ⟨0, false, 0, by omega, rfl, rfl, Lib.hid (by simp), Lib.hid (by simp [unC]), hu, hA⟩
  case round =>
    clear hu hA
    obtain ⟨i, h, U, hi, rfl, rfl, hh, hU, hu, hb⟩ := hrel
    have hbr := keep_blk hb hb2
    have hcr := keep_blk hb hc2
    have hBr := hB2.trans (hb.mono hB2.size)
    by_cases hlt : i < L.length
    · obtain ⟨bl, off, rfl, hBl, hcl⟩ := hcell (by omega)
      obtain ⟨x, hx⟩ : ∃ x, L[i]? = some x := ⟨_, List.getElem?_eq_getElem hlt⟩
      obtain ⟨x0, x1⟩ := hcl i x hx
      obtain ⟨xm, xv⟩ := x
      have d0 : wr.cell? ⟨bl, off + i * 2, none⟩ = some (.int .u8 xm.toNat) := (hb.cell (p := ⟨bl, off + i * 2, none⟩) hBl).trans x0
      have d1 : wr.cell? ⟨bl, off + i * 2 + 1, none⟩ = some (.int .u8 xv.toNat) := (hb.cell (p := ⟨bl, off + i * 2 + 1, none⟩) hBl).trans x1
      have hxp : primB S k xm xv = true := hmem.out i _ hx
      have HPx := fun w => HPr xm xv w
      rw [hxp] at HPx
      have HPt := fun w => cpoints_yes (prim_right hxp) w
      have HOr := fun w => or_any U (cpts xm xv k k) w
      have HH := fun w => holds_any xm xv mc vc w
      have hst1 := Lib.hid (any_step (fun x : Cb => holdsB x.m x.v mc vc) hx)
      have hst2 := Lib.hid (unC_step (n := k) hx)
      have hpre : i = 0 ∨ ∃ j ym yv, i = j + 1 ∧ wr.cell? ⟨bl, off + j * 2, none⟩ = some (.int .u8 ym.toNat) ∧ wr.cell? ⟨bl, off + j * 2 + 1, none⟩ = some (.int .u8 yv.toNat) ∧ ((ym : BitVec 8).toNat < xm.toNat ∨ (ym = xm ∧ (yv : BitVec 8).toNat < xv.toNat)) := by
        rcases Nat.eq_zero_or_pos i with h0 | h0
        · exact .inl h0
        · obtain ⟨j, rfl⟩ : ∃ j, i = j + 1 := ⟨i - 1, by omega⟩
          obtain ⟨⟨ym, yv⟩, hy⟩ : ∃ y, L[j]? = some y := ⟨_, List.getElem?_eq_getElem (by omega)⟩
          obtain ⟨y0, y1⟩ := hcl j _ hy
          exact .inr ⟨j, ym, yv, rfl, (hb.cell (p := ⟨bl, off + j * 2, none⟩) hBl).trans y0, (hb.cell (p := ⟨bl, off + j * 2 + 1, none⟩) hBl).trans y1, hris.out j _ _ hy hx⟩
      have hBlr : bl < wr.heap.size := Nat.lt_of_lt_of_le hBl hb.size
      have i0 : (0 : Int) ≤ (i : Int) := by omega
      have i1 : (i : Int) < (L.length : Int) := by omega
      unfold sv wv at HPt HOr
      unfold cv bvv at HPt HH
      have X0 := Lib.hid x0
      have X1 := Lib.hid x1
      clear hcl hcell hx x0 x1 HPr hris hmem hxp
      go_upto_region 9 with (fail)
      go_cut [84] from 31 to 105 (fun s84 wc => s84 = .bool false ∧ Below wr.heap.size wr wc)
      case first =>
        have C0 := fun x : After wr => After.cell x d0
        have C1 := fun x : After wr => After.cell x d1
        obtain ⟨S0, S1, S2, S3, -⟩ := box4 hbr rfl
        clear HK HW HPt HOr HH hun hno hh hU hst1 hst2 hb hbr hcr hBr hb2 hc2 d0 d1 hu
        rcases hpre with rfl | ⟨j, ym, yv, rfl, e0, e1, hlt2 | ⟨rfl, hlt2⟩⟩
        · simp only [Nat.zero_mul, Nat.add_zero] at C0 C1
          refine wp_region_after (by kernel_rfl) (by kernel_rfl) ?_
          repeat (first | go_big_quiet_step ((go_at_call 10; exact Calls.after_of (HPx _))))
          refine wpQuiet_nil ?_
          intro z
          have hz := z.2
          clear C0 C1 S0 S1 S2 S3
          go_wp2_with fail
          go_meet
          exact ⟨rfl, hz⟩
        · have E0 := fun x : After wr => After.cell x e0
          have E1 := fun x : After wr => After.cell x e1
          have k0 : decide ((0 : Int) < ((j + 1 : Nat) : Int)) = true := decide_eq_true (by omega)
          have k1 : decide ((xm.toNat : Int) < (ym.toNat : Int)) = false := decide_eq_false (by omega)
          have k2 : ¬ (ym.toNat : Int) = (xm.toNat : Int) := by omega
          have k4 : decide (xm.toNat < ym.toNat) = false := decide_eq_false (by omega)
          have k5 : ¬ ym.toNat = xm.toNat := by omega
          have k6 : ((ym.toNat : Int) == (xm.toNat : Int)) = false := by rw [beq_eq_false_iff_ne]; exact k2
          have k7 : ¬ ym = xm := fun e => k5 (by rw [e])
          refine wp_region_after (by kernel_rfl) (by kernel_rfl) ?_
          repeat (first | go_big_quiet_step ((go_at_call 10; exact Calls.after_of (HPx _))))
          refine wpQuiet_nil ?_
          intro z
          have hz := z.2
          clear C0 C1 S0 S1 S2 S3 E0 E1
          go_wp2_with fail
          go_meet
          exact ⟨rfl, hz⟩
        · have E0 := fun x : After wr => After.cell x e0
          have E1 := fun x : After wr => After.cell x e1
          have k0 : decide ((0 : Int) < ((j + 1 : Nat) : Int)) = true := decide_eq_true (by omega)
          have k3 : decide ((xv.toNat : Int) ≤ (yv.toNat : Int)) = false := decide_eq_false (by omega)
          have k4 : decide (xv.toNat ≤ yv.toNat) = false := decide_eq_false (by omega)
          refine wp_region_after (by kernel_rfl) (by kernel_rfl) ?_
          repeat (first | go_big_quiet_step ((go_at_call 10; exact Calls.after_of (HPx _))))
          refine wpQuiet_nil ?_
          intro z
          have hz := z.2
          clear C0 C1 S0 S1 S2 S3 E0 E1
          go_wp2_with fail
          go_meet
          exact ⟨rfl, hz⟩
      case rest =>
        obtain ⟨rfl, hbc⟩ := hcut
        have hB3 := hBr.trans (hbc.mono hBr.size)
        have hb3 := keep_blk hbc hbr
        have hc3 := keep_blk hbc hcr
        have hu3 := keep_blk hbc hu
        have hw3 := hb.trans (hbc.mono hb.size)
        have D0 := (hbc.cell (p := ⟨bl, off + i * 2, none⟩) hBlr).trans d0
        have D1 := (hbc.cell (p := ⟨bl, off + i * 2 + 1, none⟩) hBlr).trans d1
        have hBl3 : bl < wc.heap.size := Nat.lt_of_lt_of_le hBlr hbc.size
        clear hpre hbr hcr hu hb hbc hBr d0 d1 HPx hBlr
        go_wp2_with fail
        refine (HPt _).mono ?_
        rintro e w4 ⟨rfl, hb⟩
        have hB4 := hB3.trans (hb.mono hB3.size)
        have hc4 := keep_blk hb hc3
        have hu4 := keep_blk hb hu3
        have hw4 := hw3.trans (hb.mono hw3.size)
        have hp5 := heap_alloc_new w4 (.cells #[.int .u64 (wd (cpts xm xv k k) 0).toNat, .int .u64 (wd (cpts xm xv k k) 1).toNat, .int .u64 (wd (cpts xm xv k k) 2).toNat, .int .u64 (wd (cpts xm xv k k) 3).toNat] 24)
        obtain ⟨p0, p1, p2, p3, -⟩ := now4 hp5 rfl
        obtain ⟨u0, u1, u2, u3⟩ := al4 hu4 rfl
        have hA := below_alloc1 w4 (.cells #[.int .u64 (wd (cpts xm xv k k) 0).toNat, .int .u64 (wd (cpts xm xv k k) 1).toNat, .int .u64 (wd (cpts xm xv k k) 2).toNat, .int .u64 (wd (cpts xm xv k k) 3).toNat] 24)
        have hB5 := hB4.trans (hA.mono hB4.size)
        have hc5 := keep_blk hA hc4
        have hu5 := keep_blk hA hu4
        have hw5 := hw4.trans (hA.mono hw4.size)
        clear hb hB4 hc4 hu4 hw4 hA hB3 hc3 hu3 hw3 D0 D1 HPt hp5
        go_wp2_with fail
        refine (HOr _).mono ?_
        rintro e w6 ⟨rfl, hb⟩
        have hB6 := hB5.trans (hb.mono hB5.size)
        have hc6 := keep_blk hb hc5
        have hu6 := keep_blk hb hu5
        have hw6 := hw5.trans (hb.mono hw5.size)
        clear hb hB5 hc5 hu5 hw5 HOr p0 p1 p2 p3 u0 u1 u2 u3
        obtain ⟨-, -, -, -, uf⟩ := now4 hu6 rfl
        obtain ⟨u0, u1, u2, u3, -⟩ := now4 hu6 rfl
        go_upto_region 13 with (fail)
        have hu7 := put4 (x0 := (.int .u64 (wd (U ||| cpts xm xv k k) 0).toNat)) (x1 := (.int .u64 (wd (U ||| cpts xm xv k k) 1).toNat)) (x2 := (.int .u64 (wd (U ||| cpts xm xv k k) 2).toNat)) (x3 := (.int .u64 (wd (U ||| cpts xm xv k k) 3).toNat)) hu6
        have hc7 := keep_set4 (c := w2.heap.size) (x0 := (.int .u64 (wd (U ||| cpts xm xv k k) 0).toNat)) (x1 := (.int .u64 (wd (U ||| cpts xm xv k k) 1).toNat)) (x2 := (.int .u64 (wd (U ||| cpts xm xv k k) 2).toNat)) (x3 := (.int .u64 (wd (U ||| cpts xm xv k k) 3).toNat)) (by have := size_of_block hc2; omega) hc6
        have hw7 := below4 (x0 := (.int .u64 (wd (U ||| cpts xm xv k k) 0).toNat)) (x1 := (.int .u64 (wd (U ||| cpts xm xv k k) 1).toNat)) (x2 := (.int .u64 (wd (U ||| cpts xm xv k k) 2).toNat)) (x3 := (.int .u64 (wd (U ||| cpts xm xv k k) 3).toNat)) (Nat.le_refl w2.heap.size) hw6
        generalize ((((w6.setCell ⟨w2.heap.size, 0, none⟩ (.int .u64 (wd (U ||| cpts xm xv k k) 0).toNat)).setCell ⟨w2.heap.size, 1, none⟩ (.int .u64 (wd (U ||| cpts xm xv k k) 1).toNat)).setCell ⟨w2.heap.size, 2, none⟩ (.int .u64 (wd (U ||| cpts xm xv k k) 2).toNat)).setCell ⟨w2.heap.size, 3, none⟩ (.int .u64 (wd (U ||| cpts xm xv k k) 3).toNat)) = w7 at *
        clear hu6 hc6 hw6 u0 u1 u2 u3 uf hB6
        have hU2 : Hid (U ||| cpts xm xv k k = unC k (L.take (i + 1))) := Lib.hid (by rw [hst2.out, hU.out])
        cases h
        · have C0 := fun x : After w7 => After.cell x ((hw7.cell (p := ⟨bl, off + i * 2, none⟩) hBl).trans X0.out)
          have C1 := fun x : After w7 => After.cell x ((hw7.cell (p := ⟨bl, off + i * 2 + 1, none⟩) hBl).trans X1.out)
          unfold bvv at C0 C1
          obtain ⟨A0, A1, -⟩ := box2 hc7 rfl
          have hh2 : Hid (holdsB xm xv mc vc = (L.take (i + 1)).any fun x => holdsB x.m x.v mc vc) := Lib.hid (by rw [hst1.out, ← hh.out, Bool.false_or])
          clear hst1 hst2 hh hU X0 X1
          refine wp_region_after_tail 9 (by kernel_rfl) (by kernel_rfl) ?_
          simp only [List.take_succ_cons, List.take_zero, List.drop_succ_cons, List.drop_zero]
          repeat (first | go_big_quiet_step ((go_at_call 13; exact Calls.after_of (HH _))))
          refine wpQuiet_nil ?_
          intro z
          have hu8 := z.same hu7
          have hw8 := hw7.trans (z.2.mono hw7.size)
          clear C0 C1 A0 A1 HH
          go_wp2
          go_roundw
          case rel => exact ⟨i + 1, _, _, by omega, by go_num, rfl, hh2, hU2, hu8, hw8⟩
          case measure => simp [intOf]; omega
        · have hh2 : Hid (true = (L.take (i + 1)).any fun x => holdsB x.m x.v mc vc) := Lib.hid (by rw [hst1.out, ← hh.out, Bool.true_or])
          clear hst1 hst2 hh hU X0 X1 HH
          refine wp_region_after_tail 9 (by kernel_rfl) (by kernel_rfl) ?_
          simp only [List.take_succ_cons, List.take_zero, List.drop_succ_cons, List.drop_zero]
          repeat (first | go_big_quiet_step (fail))
          refine wpQuiet_nil ?_
          intro z
          have hu8 := z.same hu7
          have hw8 := hw7.trans (z.2.mono hw7.size)
          go_wp2
          go_roundw
          case rel => exact ⟨i + 1, _, _, by omega, by go_num, rfl, hh2, hU2, hu8, hw8⟩
          case measure => simp [intOf]; omega
    · have e : i = L.length := by omega
      subst e
      have hUS : U = S := by rw [hU.out, List.take_length, hun.out]
      subst hUS
      obtain ⟨u0, u1, u2, u3, -⟩ := now4 hu rfl
      obtain ⟨s0, s1, s2, s3, -⟩ := now4 hbr rfl
      obtain ⟨A0, A1, -⟩ := now2 hcr rfl
      have HE := fun w1 => eq4_refl (wd U 0).toNat (wd U 1).toNat (wd U 2).toNat (wd U 3).toNat w1
      clear hcell hmem hris hun HPr hU hb hb2 hc2 hbr hcr hu
      cases h
      · have hin : inB U k mc vc = false := hno.out (by have := hh.out; rw [List.take_length] at this; exact this.symm)
        rw [hin] at HW
        clear hh hno hin
        go_wp2_with fail
        refine (HW _).mono ?_
        rintro e w6 ⟨rfl, hb6⟩
        have hB6 := hBr.trans (hb6.mono hBr.size)
        clear hBr hb6 HW u0 u1 u2 u3 s0 s1 s2 s3 A0 A1
        go_wp2_with fail
        refine (HK _).mono ?_
        rintro e w7 ⟨rfl, hb7⟩
        go_wp2
        go_ret
        exact ⟨rfl, hB6.trans (hb7.mono hB6.size)⟩
      · clear hh hno HW
        go_wp2_with fail
        refine (HK _).mono ?_
        rintro e w7 ⟨rfl, hb7⟩
        go_wp2
        go_ret
        exact ⟨rfl, hBr.trans (hb7.mono hBr.size)⟩
theorem primeHolds_any (HA : AllC) (HG : GrowX) (HP : PrimeC) (S : BitVec 256) (n : Int) (m v : BitVec 8) (w : World) : Calls Try.prog 4 #[sv S, .int .i64 n, cv m v] w fun e w' => e = .returned (.bool true) ∧ Below w.heap.size w w' := by
  cases ho : ofB S n
  · exact holds9_no HA HG HP S n m v ho w
  · have hn : 0 ≤ n := by
      have h := ho
      unfold ofB at h
      rw [Bool.and_eq_true, decide_eq_true_iff] at h
      exact h.1.1
    obtain ⟨k, rfl⟩ : ∃ k : Nat, n = k := ⟨n.toNat, by omega⟩
    exact holds9_yes HA HG HP S k m v ho w
end Go.Proofs.Ytkccanedeladnaa
