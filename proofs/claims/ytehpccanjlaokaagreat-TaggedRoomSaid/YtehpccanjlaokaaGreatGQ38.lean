/- The family of all prime rows. The statements of layer 11: the document's example, over what the packages answer. -/
import Derived.Test.YtehpccanjlaokaaGreatGQ37
import Derived.Test.YtehpccanjlaokaaGreatGQxQuLaw11b
namespace Go.Proofs.YtehpccanjlaokaaGreat
open Go.RowKit Go.Joins

theorem intsZ_len (l : List Int) : (intsZ l).length = l.length := by unfold intsZ; simp
theorem own_intsZ {w : World} {B n : Nat} {v : Value} {o : List Int} (h : w.ownsRow B 3 1 v n (intsZ o)) : IntsAt w w.heap.size v o := by
  have hn : o.length = n := by have := h.1; rw [intsZ_len] at this; omega
  rcases h.2 with ⟨rfl, h0⟩ | ⟨g, cap, cur, rfl, hg, hgg, hnc, hcm, hcs, htake⟩
  · have : o = [] := List.eq_nil_of_length_eq_zero (by omega)
    subst this
    exact ⟨none, 0, rfl, by decide, fun h => absurd h (by decide)⟩
  · have hm : maxLen = 9223372036854775807 := rfl
    refine ⟨some ⟨g, 0, none⟩, cap, by rw [hn], by omega, fun _ => ⟨g, 0, rfl, size_of_block hgg, fun j x hx => ?_⟩⟩
    rw [cell_of_block hgg]
    have h2 : (intsZ o)[j]? = some (Value.int .i64 x) := by unfold intsZ; rw [List.getElem?_map, hx]; rfl
    rw [← htake, List.getElem?_take] at h2
    split at h2
    · simpa using h2
    · cases h2
set_option maxRecDepth 100000 in
/-- 'append(o, v...)' for a row of the call's own. -/
theorem append11 {w : World} {B : Nat} {V v : Value} {xs l : List Int} (ty : TypeId) (hown : w.ownsRow B 3 1 V xs.length (intsZ xs)) (hB : B ≤ w.heap.size) (hz : IntsAt w w.heap.size v l) (h1 : xs.length ≤ 1000) (h2 : l.length ≤ 1000) :
    ∃ v' w', (Builtin.append_ #[36, 36] ty #[V, v]).run Tryz.prog w = .ok v' w' ∧ w'.ownsRow B 3 1 v' (xs ++ l).length (intsZ (xs ++ l)) ∧ Below B w w' := by
  obtain ⟨i0, hi0, hz0, hz1, hz2⟩ := info_parts Tryz.infoInt
  obtain ⟨A, c, rfl, hl, hc⟩ := hz
  cases A with
  | none =>
    have h0 : l = [] := by
      cases l with
      | nil => rfl
      | cons x r => obtain ⟨b, off, e, _⟩ := hc (by simp); cases e
    subst h0
    refine ⟨V, w, ?_, by rw [List.append_nil]; exact hown, Below.refl _ _⟩
    rcases hown.2 with ⟨rfl, h⟩ | ⟨g, cap, cur, rfl, _, _, hnc, _⟩
    · simp [Builtin.append_, run_underlying Tryz.underlying36, sizeOf, typeInfo, hi0, Builtin.lenOf, Builtin.firstCells]
    · simp [Builtin.append_, run_underlying Tryz.underlying36, sizeOf, typeInfo, hi0, Builtin.lenOf, Builtin.firstCells, hnc, storeCells]
  | some a =>
    obtain ⟨v', w', hrun, ho, hg, -⟩ := run_append_own (P := Tryz.prog) w B 36 ty 3 i0 (.int .i64 0) 1 8 Tryz.underlying36 hi0 hz0 hz1 hz2 rfl (by decide) V xs.length (intsZ xs) hown a l.length c (intsZ l) (by rw [intsZ_len, Nat.mul_one])
      (fun j u hj => by
        unfold intsZ at hj
        rw [List.getElem?_map] at hj
        cases hx : l[j]? with
        | none => rw [hx] at hj; cases hj
        | some x =>
          rw [hx, Option.map_some] at hj
          have hjl := (List.getElem?_eq_some_iff.1 hx).1
          obtain ⟨b, off, e, hb, hcell⟩ := hc (by omega)
          injection e with e
          subst e
          rw [Addr.add_lit, hcell j x hx]
          exact hj)
      (fun u hu => by unfold intsZ at hu; obtain ⟨x, _, rfl⟩ := List.mem_map.1 hu; rfl) (by unfold maxLen; omega) (by omega) hB
    refine ⟨v', w', hrun, ?_, (Below.refl B w).grown hg hB (fun k hk => (hown.lt k hk).1)⟩
    rw [List.length_append]
    have e : intsZ (xs ++ l) = intsZ xs ++ intsZ l := by unfold intsZ; rw [List.map_append]
    rw [e]
    exact ho
theorem wpList_append11 {ops : Array Oper} {rest : List Oper} {o : Oper} {a : Act} {Q : Exit → Act → World → Prop} {w : World}
    (hg : o.guard = none) (s x : Operand) (hop : o.op = .call { callee := .builtin .append, args := #[s, x], argTypes := #[36, 36] }) (V v v' : Value) (w' : World) (hs : a.eval s = V) (hx : a.eval x = v)
    (hrun : (Builtin.append_ #[36, 36] o.type #[V, v]).run Tryz.prog w = .ok v' w') (hK : wpList Tryz.prog ops Q rest (a.put o.dst v') w') : wpList Tryz.prog ops Q (o :: rest) a w := by
  refine wpList_plain hg fun K' hK' => ?_
  unfold Oper.wp execOp
  simp [hop, resolve, invoke, builtin, hs, hx, hrun, Result.andThen]
  exact hK' _ _ hK
/-- The members of the rows with the outputs of number j + 1. -/
def RowIn (s : Sp) (n j x : Nat) : Prop := ∃ y, FI n 0 (comS s (BitVec.ofNat 8 (j + 1))) y = true ∧ (∀ q, q < s.may.length → (BitVec.ofNat 8 (j + 1)).getLsbD q = false → FI n 0 (comS s (BitVec.ofNat 8 (j + 1) ||| BitVec.twoPow 8 q)) y = false) ∧ y + 65536 * (j + 1) = x
theorem prim_right2 {S : BitVec 256} {n : Nat} {m v : BitVec 8} (h : primB S n m v = true) : v &&& m = v := ((rightB_iff _ _ _).1 (prim_right h)).2.2.2
theorem low_com {s : Sp} {n : Nat} (hn : s.i = n) (o : BitVec 8) : LowI n 0 (comS s o) := fun p hp => by
  unfold comS at hp
  rw [comN_bit] at hp
  have := hp.1
  unfold allB at this
  rw [bvOf_bit, Bool.and_eq_true, decide_eq_true_iff, decide_eq_true_iff, hn, Int.toNat_natCast] at this
  exact ⟨this.2, by rw [Nat.pow_zero, Nat.mod_one]⟩
/-- Together they are the members of all prime rows. -/
theorem rows_all {s : Sp} {n : Nat} (hn : s.i = n) (h8 : n ≤ 8) (h4 : s.on.length ≤ 4) (hl : s.on.length = s.may.length) (x : Nat) :
    x ∈ memsR (rowsP s) ↔ ∃ j, j < 2 ^ s.may.length - 1 ∧ RowIn s n j x := by
  have hp4 : 2 ^ s.may.length ≤ 16 := Nat.le_trans (Nat.pow_le_pow_right (by decide) (show s.may.length ≤ 4 by omega)) (by decide : (2 : Nat) ^ 4 ≤ 16)
  unfold memsR
  rw [List.mem_map]
  constructor
  · rintro ⟨r, hr, rfl⟩
    obtain ⟨⟨h0, h1⟩, h2, h3⟩ := (prim_rows hn h8 (by omega) hl r).1 (rwL_mem.1 hr)
    have e : BitVec.ofNat 8 (r.o.toNat - 1 + 1) = r.o := by rw [show r.o.toNat - 1 + 1 = r.o.toNat by omega, BitVec.ofNat_toNat, BitVec.setWidth_eq]
    refine ⟨r.o.toNat - 1, by omega, memB r.m r.v 0, ?_, fun q hq hb => ?_, ?_⟩
    · rw [e, FI_zero]
      exact (FP_cubes h8 _).2 ⟨r.m, r.v, h2, rfl⟩
    · rw [e] at hb ⊢
      cases hf : FI n 0 (comS s (r.o ||| BitVec.twoPow 8 q)) (memB r.m r.v 0)
      · rfl
      · rw [FI_zero] at hf
        obtain ⟨m, v, hp, hm⟩ := (FP_cubes h8 _).1 hf
        obtain ⟨rfl, rfl⟩ := memB_inj (prim_right2 hp) (prim_right2 h2) hm
        rw [h3 q hq hb] at hp
        cases hp
    · show memB r.m r.v 0 + 65536 * (r.o.toNat - 1 + 1) = memB r.m r.v r.o
      rw [(memB_plus (o := r.o) (by omega)).1, show r.o.toNat - 1 + 1 = r.o.toNat by omega]
  · rintro ⟨j, hj, y, h1, h2, h3⟩
    have hK : (BitVec.ofNat 8 (j + 1)).toNat = j + 1 := by rw [BitVec.toNat_ofNat]; omega
    rw [FI_zero] at h1
    obtain ⟨m, v, hp, rfl⟩ := (FP_cubes h8 _).1 h1
    refine ⟨⟨m, v, BitVec.ofNat 8 (j + 1)⟩, rwL_mem.2 ((prim_rows hn h8 (by omega) hl _).2 ⟨⟨by show 0 < _; rw [hK]; omega, by show _ < 2 ^ s.may.length; rw [hK]; omega⟩, hp, fun q hq hb => ?_⟩), ?_⟩
    · cases hf : primB (comS s (BitVec.ofNat 8 (j + 1) ||| BitVec.twoPow 8 q)) n m v
      · rfl
      · have := h2 q hq hb
        rw [FI_zero] at this
        rw [(FP_cubes h8 _).2 ⟨m, v, hf, rfl⟩] at this
        cases this
    · show memB m v (BitVec.ofNat 8 (j + 1)) = x
      rw [(memB_plus (by rw [hK]; omega)).1, hK]
      exact h3
theorem famP_rows {s : Sp} {L : List Nat} (h : ∀ x, x ∈ L ↔ x ∈ memsR (rowsP s)) : rowF L = famP s := by
  funext x
  unfold famP rowF
  rw [Bool.eq_iff_iff, decide_eq_true_iff, decide_eq_true_iff]
  exact h x
theorem nI_app (a b : List Nat) : nI (a ++ b) = nI a ++ nI b := by unfold nI; rw [List.map_append]
set_option maxHeartbeats 4000000 in
set_option maxRecDepth 100000 in
/-- Whatever the room is: the family, or no node is left. -/
theorem tall_any (HP : ∀ n, n ≤ 6 → PrimesOk n n) {room B zb : Nat} (n : Nat) (A C : Value) (on may : List (BitVec 256)) (w : World) (ho : spB ⟨n, on, may⟩ = true) (hn : n ≤ 4) (hA : SetsAt w w.heap.size A on) (hC : SetsAt w w.heap.size C may) (hf : FrR room B w zb) :
    Calls Tryz.prog 9 #[.pointer (some ⟨zb, 0, none⟩), spv n A C] w fun e w' => ((∃ id : Int, e = .returned (.tuple #[.int .i64 id, .int .i64 0]) ∧ DgR B w' zb id (famP ⟨n, on, may⟩)) ∨ (e = .returned (.tuple #[.int .i64 0, .int .i64 5]) ∧ room ≤ 6480)) ∧ Below B w w' := by
  obtain ⟨⟨-, -⟩, ⟨l1, l4⟩, hl⟩ := (headS_iff _).1 (sp_iff.1 ho).1
  simp only at l1 l4 hl
  obtain ⟨ab, bm, v, full, hd⟩ := hf
  have hB : B ≤ w.heap.size := by
    rcases Nat.lt_or_ge w.heap.size B with h | h
    · exact absurd (hd.off w.heap.size h).1 (Nat.lt_irrefl _)
    · exact h
  have HR := fun w1 (hb : Below w.heap.size w w1) => sright_any n A C on may w1 ((hA.below hb).more hb.size) ((hC.below hb).more hb.size)
  rw [ho] at HR
  have HW := fun (w1 : World) (j : Nat) (hj : j < 15) (hb : Below w.heap.size w w1) => trows_any hn (HP n (by omega)) A C on may (BitVec.ofNat 8 (j + 1)) (by omega) (by rw [BitVec.toNat_ofNat]; omega) w1 ((hC.below hb).more hb.size) (fun o' => low_com (s := ⟨n, on, may⟩) rfl o')
  have hall := Lib.hid (fun x => rows_all (s := ⟨n, on, may⟩) (n := n) rfl (by omega) l4 hl x)
  have h2 : (2 : Int) ^ may.length ≤ 16 ∧ 2 ≤ (2 : Int) ^ may.length ∧ wrap64 ((2 : Int) ^ may.length) = ((2 ^ may.length : Nat) : Int) ∧ 2 ^ may.length ≤ 16 ∧ 2 ≤ 2 ^ may.length := by
    rcases (by omega : may.length = 1 ∨ may.length = 2 ∨ may.length = 3 ∨ may.length = 4) with e | e | e | e <;> (rw [e]; unfold wrap64; omega)
  have hs := heap_alloc_new w (spb n A C)
  have hb := below_alloc1 w (spb n A C)
  have hsC : ∃ c : Option Addr × Nat, C = .slice c.1 may.length c.2 := by
    obtain ⟨A', c', rfl, -, -⟩ := hC
    exact ⟨(A', c'), rfl⟩
  obtain ⟨⟨CA, cc⟩, rfl⟩ := hsC
  dsimp only at *
  have hml : may.length ≤ 4 := by omega
  clear hA hC ho HP l1 hl
  unfold spv spb at *
  go_enter Tryz.func9, Tryz.ntmps9
  go_upto_region 1 with (fail)
  have hszW := hb.size
  generalize w.alloc _ = W at *
  have HR1 := HR W hb
  obtain ⟨s0, s1, s2, -⟩ := now3 hs rfl
  clear HR
  go_wp2_with fail
  refine HR1.mono ?_
  rintro e w1 ⟨rfl, hb1⟩
  have hs1 := keep_blk hb1 hs
  have hB1 := hb.trans (hb1.mono hb.size)
  clear HR1 s0 s1 s2 hs hb1 hb
  obtain ⟨s0, s1, s2, -⟩ := now3 hs1 rfl
  go_upto_region 5 with (fail)
  have hI2 : (2 : Int) ^ may.length = ((2 ^ may.length - 1 : Nat) : Int) + 1 := by
    have e : ((2 ^ may.length : Nat) : Int) = (2 : Int) ^ may.length := by simp
    rw [← e]
    have := h2.2.2.2
    generalize 2 ^ may.length = P at *
    omega
  rw [hI2, Int.add_sub_cancel]
  have hQ15 : 2 ^ may.length - 1 ≤ 15 := by have := h2.2.2.2; omega
  clear hI2 h2
  generalize hQ : 2 ^ may.length - 1 = Q at *
  clear hQ s0 s1 s2
  go_loopw [6, 22] (fun u t wr => ∃ (k : Nat) (L : List Nat), k ≤ Q ∧ t = .int .i64 k ∧ wr.ownsRow w1.heap.size 3 1 u (nI L).length (intsZ (nI L)) ∧ Below w1.heap.size w1 wr ∧ Hid (L.length ≤ 18 * k ∧ ∀ x, x ∈ L ↔ ∃ j, j < k ∧ RowIn ⟨n, on, may⟩ n j x)) (fun _ t _ => Q - (intOf t).toNat)
  case atStart => exact ⟨0, [], Nat.zero_le _, rfl, World.ownsRow_nil _ _ _ _, Below.refl _ _, Lib.hid ⟨Nat.le_refl _, fun x => ⟨fun h => (List.not_mem_nil h).elim, fun ⟨j, h, _⟩ => by omega⟩⟩⟩
  case round =>
    obtain ⟨k, L, hk, rfl, hown, hbw, hL⟩ := hrel
    have hBw := hB1.trans (hbw.mono hB1.size)
    have hsw := keep_blk hbw hs1
    have hszw := hbw.size
    have hLl := hL.out.1
    by_cases hlt : k < Q
    · have HWk := HW wr k (by omega) hBw
      unfold bvv at HWk
      rw [show (BitVec.ofNat 8 (k + 1)).toNat = k + 1 by rw [BitVec.toNat_ofNat]; omega] at HWk
      have hk1 : ((k + 1 : Nat) : Int) = (k : Int) + 1 := rfl
      rw [hk1] at HWk
      obtain ⟨s0, s1, s2, -⟩ := now3 hsw rfl
      clear HW hall hsw hk1
      go_wp2_with fail
      refine HWk.mono ?_
      rintro e w5 ⟨u5, l5, rfl, hI5, hF5, hb5, hl5, hm5⟩
      have hown5 := owns_below hown hb5
      obtain ⟨v8, w8, hrun, ho8, hb8⟩ := append11 (w := w5) (B := w1.heap.size) 36 hown5 (Nat.le_trans hszw hb5.size) hI5 (by rw [nI_len]; omega) (by rw [nI_len]; omega)
      have hLn : Hid ((L ++ l5).length ≤ 18 * (k + 1) ∧ ∀ x, x ∈ L ++ l5 ↔ ∃ j, j < k + 1 ∧ RowIn ⟨n, on, may⟩ n j x) := Lib.hid ⟨by rw [List.length_append]; omega, fun x => by
        rw [List.mem_append, hL.out.2, hm5]
        constructor
        · rintro (⟨j, h1, h2⟩ | h)
          · exact ⟨j, by omega, h2⟩
          · exact ⟨k, by omega, h⟩
        · rintro ⟨j, h1, h2⟩
          by_cases hj : j < k
          · exact .inl ⟨j, hj, h2⟩
          · obtain rfl : j = k := by omega
            exact .inr h2⟩
      have ho9 : w8.ownsRow w1.heap.size 3 1 v8 (nI (L ++ l5)).length (intsZ (nI (L ++ l5))) := by
        rw [nI_app]; exact ho8
      have hb9 : Below w1.heap.size w1 w8 := (hbw.trans (hb5.mono hszw)).trans hb8
      obtain ⟨A5, c5, rfl, -, -⟩ := hI5
      clear HWk s0 s1 s2 hown hown5 hF5 hb5 hm5 ho8 hb8 hL hbw hBw hLl hl5
      go_wp2_with (at_builtin; go_loud (refine wpList_append11 rfl _ _ rfl _ _ v8 w8 rfl rfl hrun ?_))
      clear hrun
      go_wp2
      go_roundw
      case rel => exact ⟨k + 1, L ++ l5, by omega, by go_num, ho9, hb9, hLn⟩
      case measure => simp [intOf]; omega
    · obtain rfl : k = Q := by omega
      have hI := own_intsZ hown
      have hdw := hd.below hBw
      have hmem : ∀ x ∈ L, x < 16777216 := fun x hx => memsR_small (rowsP ⟨n, on, may⟩) x ((hall.out x).2 (by
        obtain ⟨j, h1, h2⟩ := (hL.out.2 x).1 hx
        exact ⟨j, h1, h2⟩))
      have hfam : rowF L = famP ⟨n, on, may⟩ := famP_rows fun x => by
        rw [hall.out x, hL.out.2]
      have hLl2 : L.length ≤ 270 := by omega
      have HO := zOf_any hdw hI hmem (by omega)
      rw [hfam] at HO
      obtain ⟨A9, c9, rfl⟩ := own_form hown
      clear HW hall hL hd hI hmem hfam hown hbw hsw hdw
      go_wp2_with fail
      refine HO.mono ?_
      rintro e w6 ⟨v6, full6, T, id, er, rfl, hd6, hk6, hx6, hP6⟩
      have hB6 := (hBw.mono hB).trans (hk6.below (Nat.le_trans hB hBw.size))
      clear HO hk6 hBw
      rcases hP6 with ⟨rfl, g0, g1, -⟩ | ⟨rfl, rfl, -, hE⟩
      · have I := Lib.hid (show DgR B w6 zb id (famP ⟨n, on, may⟩) from ⟨ab, bm, v6, room, full6, T, hd6, g0, g1⟩)
        clear hd6 g0 g1 hx6
        go_wp2
        go_ret2
        exact ⟨.inl ⟨id, rfl, I.out⟩, hB6⟩
      · have hE' : Hid (room ≤ 6480) := Lib.hid (by
          have h0 : cnt ([] : St) = 0 := rfl
          omega)
        clear hd6 hE hx6
        go_wp2
        go_ret2
        exact ⟨.inr ⟨rfl, hE'.out⟩, hB6⟩
end Go.Proofs.YtehpccanjlaokaaGreat
namespace Go.Proofs.YtehpccanjlaokaaGreat
open Go.RowKit Go.Joins

theorem ex11_mems : memsR (rowsC 14#256 2) = [2, 8] := by
  unfold memsR rowsC
  rw [ex9]
  have h1 : memB 1#8 1#8 0#8 = 2 := by decide +kernel
  have h2 : memB 2#8 2#8 0#8 = 8 := by decide +kernel
  show [memB 1#8 1#8 0, memB 2#8 2#8 0] = _
  rw [show (0 : BitVec 8) = 0#8 from rfl, h1, h2]
theorem ex11_fam : famL 24 (famC 14#256 2) = [2, 8] :=
  fam_row (l := memsR (rowsC 14#256 2)) (by rw [ex11_mems]; decide) (by unfold srtN; decide) (fun x => by rw [ex11_mems])
theorem ex11_bel : belB 65538 = true := by decide +kernel
theorem ex11_row : rmM 65538 = 1#8 ∧ rmV 65538 = 1#8 ∧ rmO 65538 = 1#8 := by decide +kernel
theorem ex11_mem : memB 1#8 1#8 1#8 = 65538 := by decide +kernel
set_option maxHeartbeats 4000000 in
set_option maxRecDepth 100000 in
theorem knows11_any {Fr : Nat → World → Nat → Prop} {Dg : Nat → World → Nat → Int → (Nat → Bool) → Prop} (HD : DgOk Fr Dg) (HG : PrimesGood Fr Dg) (HM : MemberT) (HR : RowT) : Knows11 := by
  intro w
  have HN := HD.new
  have HP := fun {w2 : World} {B zb : Nat} (hf : Fr B w2 zb) => HG 14#256 2 ex9o (by decide) hf
  have HLi := @DgOk.list _ _ HD
  have H2 := fun w => trow_yes HR ex11_bel w
  rw [show (65538 : Int).toNat = 65538 from rfl, ex11_row.1, ex11_row.2.1, ex11_row.2.2] at H2
  have H3 := fun w => HM 1#8 1#8 1#8 w
  rw [ex11_mem] at H3
  rw [show (.agg #[bvv 1#8, bvv 1#8, bvv 1#8] : Value) = .agg #[.int .u8 1, .int .u8 1, .int .u8 1] from rfl] at H2 H3
  have hfam := Lib.hid ex11_fam
  have hcf : cF 24 (famC 14#256 2) ≤ 100000 := by rw [← famL_len, ex11_fam]; decide
  rw [show ((2 : Nat) : Int) = 2 from rfl] at HP
  generalize famC 14#256 2 = F at *
  rw [sv14] at HP
  clear HD HG HM HR
  go_enter Tryz.func8, Tryz.ntmps8
  go_wp2_with fail
  refine (HN _).mono ?_
  rintro e w1 ⟨zb, rfl, hf, hb1⟩
  have HP1 := HP hf
  clear HN HP hf
  go_wp2_with fail
  refine HP1.mono ?_
  rintro e w2 ⟨id, rfl, hd, hb2⟩
  have hB2 := hb1.trans hb2
  have HL := HLi hd hcf
  rw [hfam.out] at HL
  clear HP1 hb1 hb2 hd HLi hcf
  go_wp2_with fail
  refine HL.mono ?_
  rintro e w3 ⟨u, rfl, hu, hb3⟩
  have hB3 := hB2.trans (hb3.mono hB2.size)
  clear HL hB2 hb3
  go_wp2_with fail
  refine (H2 _).mono ?_
  rintro e w4 ⟨rfl, hb4⟩
  have hB4 := hB3.trans (hb4.mono hB3.size)
  have hu4 := (hu.below hb4).more hb4.size
  clear H2 hB3 hb4 hu
  go_upto_region 7 with (fail)
  have hx := heap_alloc_new w4 (.cells #[.int .u8 1, .int .u8 1, .int .u8 1] 59)
  have hba := below_alloc1 w4 (.cells #[.int .u8 1, .int .u8 1, .int .u8 1] 59)
  have hB5 := hB4.trans (hba.mono hB4.size)
  have hu5 := (hu4.below hba).more hba.size
  clear hB4 hu4 hba
  generalize w4.alloc _ = w5 at *
  have hxr := keep_alloc (x := .cells #[.int .i64 2, .int .i64 8] 3) hx
  have hbb := below_alloc1 w5 (.cells #[.int .i64 2, .int .i64 8] 3)
  have hy := heap_alloc_new w5 (.cells #[.int .i64 2, .int .i64 8] 3)
  have hu6 := (hu5.below hbb).more hbb.size
  have hB6 := hB5.trans (hbb.mono hB5.size)
  have hI : IntsAt (w5.alloc (.cells #[.int .i64 2, .int .i64 8] 3)) (w5.alloc (.cells #[.int .i64 2, .int .i64 8] 3)).heap.size (.slice (some ⟨w5.heap.size, 0, none⟩) 2 2) (nI [2, 8]) := by
    obtain ⟨y0, y1, -⟩ := now2 hy rfl
    refine ⟨some ⟨w5.heap.size, 0, none⟩, 2, rfl, by decide, fun _ => ⟨w5.heap.size, 0, rfl, size_of_block hy, fun j x hj => ?_⟩⟩
    match j, hj with
    | 0, hj => simp [nI] at hj; subst hj; exact y0
    | 1, hj => simp [nI] at hj; subst hj; exact y1
  have HE := rsame8_any _ _ _ (nI [2, 8]) (nI [2, 8]) hu6 hI
  rw [show decide (nI [2, 8] = nI [2, 8]) = true from decide_eq_true rfl] at HE
  obtain ⟨ua, uc, eu, -, -⟩ := hu5
  subst eu
  clear hu6 hI hbb hy hx hfam
  go_wp2_with fail
  refine HE.mono ?_
  rintro e w7 ⟨rfl, hb7⟩
  have hx7 := keep_blk hb7 hxr
  have hB7 := hB6.trans (hb7.mono hB6.size)
  clear HE hxr hb7 hB5 hB6
  obtain ⟨x0, x1, x2, -⟩ := now3 hx7 rfl
  go_wp2_with fail
  refine (H3 _).mono ?_
  rintro e w8 ⟨rfl, hb8⟩
  have hB8 := hB7.trans (hb8.mono hB7.size)
  clear H3 x0 x1 x2 hx7 hb8 hB7
  go_wp2
  go_ret
  exact ⟨rfl, hB8⟩
end Go.Proofs.YtehpccanjlaokaaGreat
