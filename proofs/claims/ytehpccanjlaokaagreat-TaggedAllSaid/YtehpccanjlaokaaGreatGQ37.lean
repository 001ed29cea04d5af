/- Which rows are prime, output by output, plain. The members of those prime rows that have just some outputs. The members of those prime rows that have just some outputs, walked. -/
import Derived.Test.YtehpccanjlaokaaGreatGQ33
import Derived.Test.YtehpccanjlaokaaGreatGQxQuLaw11c
import Derived.Test.YtehpccanjlaokaaGreatGQ35
namespace Go.Proofs.YtehpccanjlaokaaGreat

/-- A cube that is prime in a greater set, and within a smaller one, is prime there. -/
theorem prim_down {S T : BitVec 256} {n : Nat} {m v : BitVec 8} (hST : ∀ p, T.getLsbD p = true → S.getLsbD p = true) (h : primB S n m v = true) (hi : inB T n m v = true) : primB T n m v = true := by
  rw [primB_iff] at h ⊢
  refine ⟨hi, fun i hin hm => ?_⟩
  cases hb : inB T n (drM m i) (drM v i)
  · rfl
  · have h1 := (inB_iff T n _ _).1 hb
    have h2 := (inB_iff S n (drM m i) (drM v i)).2 ⟨h1.1, fun p hp hf => hST p (h1.2 p hp hf)⟩
    rw [h.2 i hin hm] at h2
    cases h2
theorem prim_inB {S : BitVec 256} {n : Int} {m v : BitVec 8} (h : primB S n m v = true) : inB S n m v = true := ((primB_iff S n m v).1 h).1
/-- What more outputs have in common is less. -/
theorem com_less {s : Sp} {o o' : BitVec 8} (h : ∀ j, o.getLsbD j = true → o'.getLsbD j = true) (p : Nat) (hp : (comS s o').getLsbD p = true) : (comS s o).getLsbD p = true := by
  unfold comS at *
  rw [comN_bit] at *
  exact ⟨hp.1, fun j hj ho => hp.2 j hj (h j ho)⟩
theorem or_bit8 (o : BitVec 8) (j q : Nat) : (o ||| BitVec.twoPow 8 j).getLsbD q = (o.getLsbD q || (decide (j < 8) && decide (j = q))) := by
  rw [BitVec.getLsbD_or, BitVec.getLsbD_twoPow]
/-- A row is prime just if its cube is prime for its outputs, and for no more. -/
theorem prim_rows {s : Sp} {n : Nat} (hn : s.i = n) (h8 : n ≤ 8) (h4 : s.on.length ≤ 8) (hl : s.on.length = s.may.length) (x : Rw) :
    primR s x = true ↔ (0 < x.o.toNat ∧ x.o.toNat < 2 ^ s.may.length) ∧ primB (comS s x.o) n x.m x.v = true ∧ ∀ j, j < s.may.length → x.o.getLsbD j = false → primB (comS s (x.o ||| BitVec.twoPow 8 j)) n x.m x.v = false := by
  have hp8 : 2 ^ s.may.length ≤ 256 := Nat.le_trans (Nat.pow_le_pow_right (by decide) (show s.may.length ≤ 8 by omega)) (by decide : (2 : Nat) ^ 8 ≤ 256)
  have hout : ∀ j, (outS s x.m x.v).getLsbD j = true ↔ j < s.may.length ∧ inB (s.may.getD j 0) n x.m x.v = true := fun j => by
    have := outN_bit s x.m x.v j s.may.length (by omega)
    rw [hn] at this
    exact this
  have hcom : ∀ o, inB (comS s o) n x.m x.v = true ↔ rightB x.m x.v n = true ∧ ∀ j, j < s.may.length → o.getLsbD j = true → inB (s.may.getD j 0) n x.m x.v = true := fun o => com_in hn h8 o x.m x.v s.may.length
  rw [prim_com hn h8 h4 hl]
  constructor
  · rintro ⟨ho, k, hk, hp⟩
    have hK : (BitVec.ofNat 8 (k + 1)).toNat = k + 1 := by rw [BitVec.toNat_ofNat]; omega
    have hr := prim_right hp
    have hsub : ∀ j, (BitVec.ofNat 8 (k + 1)).getLsbD j = true → x.o.getLsbD j = true := fun j hj => by
      have hjl : j < s.may.length := by
        refine Classical.byContradiction fun hh => ?_
        have : (BitVec.ofNat 8 (k + 1)).getLsbD j = false := Nat.testBit_lt_two_pow (by rw [hK]; exact Nat.lt_of_lt_of_le hk (Nat.pow_le_pow_right (by decide) (by omega)))
        rw [this] at hj; cases hj
      rw [ho]
      exact (hout j).2 ⟨hjl, ((hcom _).1 (prim_inB hp)).2 j hjl hj⟩
    have hin : inB (comS s x.o) n x.m x.v = true := (hcom _).2 ⟨hr, fun j hj hb => by rw [ho] at hb; exact ((hout j).1 hb).2⟩
    refine ⟨⟨?_, ?_⟩, prim_down (com_less hsub) hp hin, fun j hj hb => ?_⟩
    · rcases Nat.eq_zero_or_pos x.o.toNat with h0 | h0
      · exfalso
        have hne : (BitVec.ofNat 8 (k + 1)) ≠ 0 := fun h => by rw [h] at hK; simp at hK
        apply hne
        apply BitVec.eq_of_getLsbD_eq
        intro j _
        cases hb : (BitVec.ofNat 8 (k + 1)).getLsbD j
        · simp
        · have := hsub j hb
          have e : x.o = 0 := BitVec.eq_of_toNat_eq h0
          rw [e] at this
          simp at this
      · exact h0
    · rw [ho]
      refine Nat.lt_pow_two_of_testBit _ fun i hi => ?_
      cases hb : (outS s x.m x.v).toNat.testBit i
      · rfl
      · have := ((hout i).1 hb).1
        omega
    · cases hq : primB (comS s (x.o ||| BitVec.twoPow 8 j)) n x.m x.v
      · rfl
      · have h1 := ((hcom _).1 (prim_inB hq)).2 j hj (by rw [or_bit8, decide_eq_true rfl, decide_eq_true (by omega)]; simp)
        have h2 := (hout j).2 ⟨hj, h1⟩
        rw [← ho, hb] at h2
        cases h2
  · rintro ⟨⟨h0, h1⟩, hp, hmore⟩
    refine ⟨?_, x.o.toNat - 1, by omega, ?_⟩
    · apply BitVec.eq_of_getLsbD_eq
      intro j _
      rw [Bool.eq_iff_iff, hout]
      constructor
      · intro hb
        have hjl : j < s.may.length := by
          refine Classical.byContradiction fun hh => ?_
          have : x.o.getLsbD j = false := Nat.testBit_lt_two_pow (Nat.lt_of_lt_of_le h1 (Nat.pow_le_pow_right (by decide) (by omega)))
          rw [this] at hb; cases hb
        exact ⟨hjl, ((hcom _).1 (prim_inB hp)).2 j hjl hb⟩
      · rintro ⟨hjl, hm⟩
        cases hb : x.o.getLsbD j
        · have hin : inB (comS s (x.o ||| BitVec.twoPow 8 j)) n x.m x.v = true := (hcom _).2 ⟨prim_right hp, fun q hq hqb => by
            rw [or_bit8, Bool.or_eq_true] at hqb
            rcases hqb with hqb | hqb
            · exact ((hcom _).1 (prim_inB hp)).2 q hq hqb
            · rw [Bool.and_eq_true, decide_eq_true_iff, decide_eq_true_iff] at hqb
              rw [← hqb.2]; exact hm⟩
          have := prim_down (com_less (fun q hq => by rw [or_bit8, hq]; rfl)) hp hin
          rw [hmore j hjl hb] at this
          cases this
        · rfl
    · rw [show x.o.toNat - 1 + 1 = x.o.toNat by omega, BitVec.ofNat_toNat, BitVec.setWidth_eq]
      exact hp
/-- A row's member: that of its cube, and its outputs' items. -/
theorem memB_plus {m v o : BitVec 8} (ho : o.toNat < 16) : memB m v o = memB m v 0 + 65536 * o.toNat ∧ memB m v 0 < 65536 := by
  have hlt : memB m v 0 < 2 ^ 16 := by
    apply Nat.lt_pow_two_of_testBit
    intro t ht
    rw [memB_bit]
    unfold mbF
    rw [if_neg (by omega)]
    simp
  refine ⟨?_, hlt⟩
  rw [Nat.add_comm, show 65536 * o.toNat = 2 ^ 16 * o.toNat from rfl, Nat.two_pow_add_eq_or_of_lt hlt]
  apply Nat.eq_of_testBit_eq
  intro t
  rw [Nat.testBit_or, memB_bit, memB_bit, Nat.mul_comm, Nat.testBit_mul_two_pow]
  by_cases h16 : t < 16
  · have e : mbF m v o t = mbF m v 0 t := by unfold mbF; rw [if_pos h16, if_pos h16]
    rw [e, decide_eq_false (show ¬ 16 ≤ t by omega)]
    simp
  · have e0 : mbF m v 0 t = false := by unfold mbF; rw [if_neg h16]; simp
    rw [e0, decide_eq_true (show 16 ≤ t by omega)]
    unfold mbF
    rw [if_neg h16]
    by_cases h20 : t < 20
    · rw [decide_eq_true h20]; simp; rfl
    · rw [decide_eq_false h20]
      have : o.toNat.testBit (t - 16) = false := Nat.testBit_lt_two_pow (Nat.lt_of_lt_of_le ho (by
        have : 2 ^ 4 ≤ 2 ^ (t - 16) := Nat.pow_le_pow_right (by decide) (by omega)
        omega))
      rw [this]; simp
end Go.Proofs.YtehpccanjlaokaaGreat
namespace Go.Proofs.YtehpccanjlaokaaGreat
open Go.RowKit Go.Joins

theorem join_tag {F : Nat → Bool} {o' : Nat} (hF : ∀ x, F x = true → x < 65536) (ho : o' < 16) (x : Nat) : joinF 24 F (rowF [65536 * o']) x = true ↔ ∃ y, F y = true ∧ y + 65536 * o' = x := by
  have hor : ∀ y, y < 65536 → y ||| 65536 * o' = y + 65536 * o' := fun y hy => by
    rw [Nat.or_comm, show 65536 * o' = 2 ^ 16 * o' from rfl, ← Nat.two_pow_add_eq_or_of_lt hy, Nat.add_comm]
  rw [joinF_iff]
  unfold rowF
  constructor
  · rintro ⟨a, b, -, -, hf, hb, h⟩
    have hb := of_decide_eq_true hb
    rw [List.mem_singleton] at hb
    subst hb
    rw [hor a (hF a hf)] at h
    exact ⟨a, hf, h⟩
  · rintro ⟨y, hy, rfl⟩
    have := hF y hy
    exact ⟨y, 65536 * o', by omega, by omega, hy, decide_eq_true (List.mem_singleton.2 rfl), hor y this⟩
theorem own_int {w : World} {base n : Nat} {v : Value} {xs : List Value} (h : w.ownsRow base 3 1 v n xs) : ∀ g, v.ownBlock = some g → ∃ A z, w.heap[g]? = some (.cells A 3 z) := fun g hg => by
  rcases h.2 with ⟨rfl, _⟩ | ⟨g', cap, cur, rfl, _, hgc, _⟩
  · simp [Value.ownBlock] at hg
  · have : g' = g := by simpa [Value.ownBlock] using hg
    subst this
    exact ⟨_, _, hgc⟩
theorem own_kz {C M N : Nat → Prop} {w w' : World} {base n : Nat} {v : Value} {xs : List Value} (h : w.ownsRow base 3 1 v n xs) (k : Kz C M N w w') (hC : ∀ g, v.ownBlock = some g → ¬ C g) : w'.ownsRow base 3 1 v n xs :=
  own_keep h fun g hg _ _ => by
    obtain ⟨A, z, hA⟩ := own_int h g hg
    rw [k.cells g A 3 z hA Tryz.neIntA6 Tryz.neIntS6 (hC g hg), hA]
/-- An append to a row of numbers. -/
theorem Kz.grownBy {C M N : Nat → Prop} {w w' : World} {row : Option Nat} (hg : w.grownBy w' row) (hrow : ∀ g, row = some g → ∃ A z, w.heap[g]? = some (.cells A 3 z)) (hC : ∀ g, row = some g → C g) (hN : ∀ g, row = some g → ¬ N g) : Kz C M N w w' :=
  ⟨hg.os, hg.tape, hg.output, hg.size, fun k A T z hk _ _ hn => (hg.block k (size_of_block hk) (fun e => hn (hC k e.symm))).trans hk,
    fun k es cl hk _ => (hg.block k (size_of_block hk) (fun e => by obtain ⟨A, z, h⟩ := hrow k e.symm; rw [h] at hk; injection hk with hk; cases hk)).trans hk,
    fun k hk hl => hg.block k hl (fun e => hN k e.symm hk)⟩
theorem ZdAt.grownBy {N : Nat → Prop} {w w' : World} {zb ab bm : Nat} {v : Value} {room full : Nat} {S : St} {row : Option Nat} (h : ZdAt w N zb ab bm v room full S) (hg : w.grownBy w' row) (hrow : ∀ g, row = some g → ∃ A z, w.heap[g]? = some (.cells A 3 z)) : ZdAt w' N zb ab bm v room full S := by
  have hz : some zb ≠ row := fun e => by
    obtain ⟨A, z, h2⟩ := hrow zb e.symm
    have := h.head
    rw [h2] at this
    injection this with this
    injection this with _ this _
    exact absurd this (by decide)
  refine ⟨(hg.block zb (size_of_block h.head) hz).trans h.head, h.ar.same (fun q hq hl => hg.block q hl (fun e => ?_)), h.ok, h.zst, h.gap, fun q hq => ⟨Nat.lt_of_lt_of_le (h.off q hq).1 hg.size, (h.off q hq).2⟩⟩
  obtain ⟨A, z, h2⟩ := hrow q e.symm
  exact h.ar.not_fp h2 (by decide) (by decide) hq
theorem RemP.grownBy {w w' : World} {mm n : Nat} {S : St} {C : Nat} {row : Option Nat} (h : RemP w mm n S C) (hg : w.grownBy w' row) (hrow : ∀ g, row = some g → ∃ A z, w.heap[g]? = some (.cells A 3 z)) : RemP w' mm n S C := by
  obtain ⟨es, clock, hm⟩ := h.obj
  exact h.keep (hg.block mm h.lt (fun e => by obtain ⟨A, z, h2⟩ := hrow mm e.symm; rw [h2] at hm; injection hm with hm; cases hm))
/-- Row's own cells, for a frame. -/
def intsZ (l : List Int) : List Value := l.map fun x => Value.int .i64 x
theorem intsZ_snoc (l : List Int) (x : Int) : intsZ (l ++ [x]) = intsZ l ++ [.int .i64 x] := by unfold intsZ; simp
/-- What the first k outputs that are not there bring. -/
def WideAt11 (s : Sp) (n : Nat) (o : BitVec 8) (k : Nat) (T : St) (gs : List Int) : Prop :=
  (∀ g ∈ gs, 0 ≤ lvl T g) ∧ gs.length ≤ k ∧ ∀ x, (gs.any fun g => zf T 24 g x) = true ↔ ∃ j, j < k ∧ o.getLsbD j = false ∧ FI n 0 (comS s (o ||| BitVec.twoPow 8 j)) x = true
theorem WideAt11.ext {s : Sp} {n : Nat} {o : BitVec 8} {k : Nat} {T U : St} {gs : List Int} (h : WideAt11 s n o k T gs) (hV : VSt T) (hx : Ext T U) : WideAt11 s n o k U gs := by
  obtain ⟨h1, h2, h3⟩ := h
  have e : ∀ x, (gs.any fun g => zf U 24 g x) = (gs.any fun g => zf T 24 g x) := fun x => by
    clear h2 h3
    induction gs with
    | nil => rfl
    | cons g gs ih =>
      rw [List.any_cons, List.any_cons, ih (fun q hq => h1 q (List.mem_cons_of_mem _ hq))]
      have := h1 g List.mem_cons_self
      rw [hx.zf hV 24 g (Nat.le_refl _) this (by omega)]
  exact ⟨fun g hg => by rw [hx.lvl (h1 g hg)]; exact h1 g hg, h2, fun x => by rw [e]; exact h3 x⟩
theorem WideAt11.skip {s : Sp} {n : Nat} {o : BitVec 8} {k : Nat} {T : St} {gs : List Int} (h : WideAt11 s n o k T gs) (ho : o.getLsbD k = true) : WideAt11 s n o (k + 1) T gs := by
  refine ⟨h.1, by have := h.2.1; omega, fun x => (h.2.2 x).trans ?_⟩
  constructor
  · rintro ⟨j, h1, h2⟩; exact ⟨j, by omega, h2⟩
  · rintro ⟨j, h1, h2, h3⟩
    refine ⟨j, ?_, h2, h3⟩
    by_cases e : j = k
    · subst e; rw [ho] at h2; cases h2
    · omega
theorem WideAt11.add {s : Sp} {n : Nat} {o : BitVec 8} {k : Nat} {T : St} {gs : List Int} {g : Int} (h : WideAt11 s n o k T gs) (ho : o.getLsbD k = false) (hg : Held T g (FI n 0 (comS s (o ||| BitVec.twoPow 8 k)))) : WideAt11 s n o (k + 1) T (gs ++ [g]) := by
  refine ⟨fun q hq => ?_, by rw [List.length_append, List.length_singleton]; have := h.2.1; omega, fun x => ?_⟩
  · rcases List.mem_append.1 hq with hq | hq
    · exact h.1 q hq
    · rw [List.mem_singleton] at hq; rw [hq]; exact hg.1
  · rw [List.any_append, Bool.or_eq_true, h.2.2, List.any_cons, List.any_nil, Bool.or_false, hg.2]
    constructor
    · rintro (⟨j, h1, h2⟩ | h1)
      · exact ⟨j, by omega, h2⟩
      · exact ⟨k, by omega, ho, h1⟩
    · rintro ⟨j, h1, h2, h3⟩
      by_cases e : j = k
      · subst e; exact .inr h3
      · exact .inl ⟨j, by omega, h2, h3⟩
end Go.Proofs.YtehpccanjlaokaaGreat
namespace Go.Proofs.YtehpccanjlaokaaGreat
open Go.RowKit Go.Joins

theorem Tryz.infoInt11 : (Tryz.prog.info? 3).map (fun i => (i.zero, i.size, i.bytes)) = some (some (.int .i64 0), 1, 8) := by kernel_rfl
set_option maxHeartbeats 8000000 in
set_option maxRecDepth 100000 in
theorem trows_any {n : Nat} (hn : n ≤ 4) (HP : PrimesOk n n) (A C : Value) (on may : List (BitVec 256)) (o : BitVec 8) (hm : may.length ≤ 4) (ho : o.toNat < 16) (w : World) (hC : SetsAt w w.heap.size C may) (hlow : ∀ o', LowI n 0 (comS ⟨n, on, may⟩ o')) :
    Calls Tryz.prog 23 #[spv n A C, bvv o] w fun e w' => ∃ (u : Value) (l : List Nat), e = .returned (.tuple #[u, .int .i64 0]) ∧ IntsAt w' w'.heap.size u (nI l) ∧ FreshV w.heap.size u ∧ Below w.heap.size w w' ∧ l.length ≤ 18 ∧
      (∀ x, x ∈ l ↔ ∃ y, FI n 0 (comS ⟨n, on, may⟩ o) y = true ∧ (∀ j, j < may.length → o.getLsbD j = false → FI n 0 (comS ⟨n, on, may⟩ (o ||| BitVec.twoPow 8 j)) y = false) ∧ y + 65536 * o.toNat = x) := by
  obtain ⟨i0, hi0, hz0, hz1, hz2⟩ := info_parts Tryz.infoInt11
  have hcn : cN n ≤ 1352 := by
    have := cN_mono (4 - n) n
    rw [show n + (4 - n) = 4 by omega, show cN 4 = 1352 by decide] at this
    exact this
  have hen := eN_less (by omega : n ≤ 6)
  have HCo := fun (w' : World) (o' : BitVec 8) (hb : Below w.heap.size w w') => tcommon_any n (by omega) A C on may o' w' ((hC.below hb).more hb.size)
  have HS := fun w => tstart_any n w
  have hor := fun k => orBit8 o k
  have hor2 : ∀ k, o.getLsbD k = true → o ||| BitVec.twoPow 8 k = o := fun k hk => by
    apply BitVec.eq_of_getLsbD_eq
    intro q _
    rw [or_bit8]
    by_cases e : k = q
    · subst e; rw [hk]; rfl
    · simp [e]
  have hor3 : ∀ k, k < 4 → o.getLsbD k = false → ¬ (o ||| BitVec.twoPow 8 k) = o := fun k hk h e => by
    have := congrArg (fun x => x.getLsbD k) e
    simp only [or_bit8, h, decide_eq_true (show k < 8 by omega), decide_true, Bool.and_self, Bool.or_true] at this
    cases this
  have hf4 := FI_few (by omega : n ≤ 8) (Nat.zero_le n) (comS ⟨n, on, may⟩ o)
  have hap : aP (n - 0) ≤ 18 := by
    rcases (by omega : n - 0 = 0 ∨ n - 0 = 1 ∨ n - 0 = 2 ∨ n - 0 = 3 ∨ n - 0 = 4) with e | e | e | e | e <;> (rw [e]; decide)
  have hbx := heap_alloc_new w (spb n A C)
  have hb := below_alloc1 w (spb n A C)
  have hsC : ∃ c : Option Addr × Nat, C = .slice c.1 may.length c.2 := by
    obtain ⟨A', c', rfl, -, -⟩ := hC
    exact ⟨(A', c'), rfl⟩
  obtain ⟨⟨CA, cc⟩, rfl⟩ := hsC
  dsimp only at *
  clear hC
  have hTag := fun w => ttag_any o w
  rw [show (o &&& 15#8).toNat = o.toNat by rw [BitVec.toNat_and, show (15#8 : BitVec 8).toNat = 2 ^ 4 - 1 from rfl, Nat.and_two_pow_sub_one_eq_mod]; omega] at hTag
  unfold spv spb bvv at *
  go_enter Tryz.func23, Tryz.ntmps23
  go_upto_region 1 with (fail)
  have hsz := hb.size
  generalize w.alloc _ = W at *
  obtain ⟨b0, b1, b2, -⟩ := now3 hbx rfl
  go_wp2_with fail
  refine (HS _).mono ?_
  rintro e w1 ⟨drb, zb, ab, bm, mm, rfl, hd, hdr, hr, hne, hN, hb1⟩
  have hbx1 := keep_blk hb1 hbx
  have hB1 := hb.trans (hb1.mono hb.size)
  have HC1 := HCo w1 o hB1
  have hP0 : ∀ (w' : World) (v : Value) (full : Nat) (S : St) (c : Nat) (X : BitVec 256), ZdAt w' (· < W.heap.size) zb ab bm v 20000 full S → DrAt w' drb zb n mm → RemP w' mm n S c → LowI n 0 X → cnt S + cN n < 20000 → c + eN n ≤ 1000000 →
      Calls Tryz.prog 48 #[.pointer (some ⟨drb, 0, none⟩), sv X, .int .i64 0] w' (DfPost (· < W.heap.size) w' zb ab bm n mm S c (cN n) (eN n) (FI n 0 X)) := fun w' v full S c X h1 h2 h3 h4 h5 h6 => HP h1 h2 h3 hne hN X 0 (by omega) h4 h5 h6
  obtain ⟨b0, b1, b2, -⟩ := now3 hbx1 rfl
  clear HS HP hbx
  unfold sv wv at HC1
  go_wp2_with fail
  refine HC1.mono ?_
  rintro e w2 ⟨rfl, hb2⟩
  have hd2 := hd.below hb2
  have hdr2 := hdr.below hb2
  have hr2 := hr.below hb2
  have hbx2 := keep_blk hb2 hbx1
  have hP1 := hP0 w2 _ _ _ _ (comS ⟨n, on, may⟩ o) hd2 hdr2 hr2 (hlow o) (by show 0 + cN n < 20000; omega) (by omega)
  unfold sv wv at hP1
  clear HC1 b0 b1 b2 hd hr
  go_wp2_with fail
  refine hP1.mono ?_
  rintro e w3 ⟨v3, full3, S3, f0, rfl, hd3, hk3, hx3, hf3, hc3, hr3⟩
  have hk13 : Kz no8 (MZ bm mm) (· < W.heap.size) w1 w3 := (Kz.of_below hb2).trans hk3
  have hdr3 := hdr2.kz hk3 (fun h => h)
  have hV3 := hd3.zst.vst
  have hbx3 := hk3.cells _ _ _ _ hbx2 (by decide) (by decide) (fun h => h)
  have hszw1 : W.heap.size ≤ w1.heap.size := hb1.size
  have hstart : Hid (Ext S3 S3 ∧ WideAt11 ⟨n, on, may⟩ n o 0 S3 [] ∧ cnt S3 ≤ (0 + 1) * cN n) := Lib.hid ⟨Ext.refl S3, ⟨fun g hg => (List.not_mem_nil hg).elim, Nat.le_refl _, fun x => ⟨fun h => by simp at h, fun ⟨j, h, _⟩ => by omega⟩⟩, by
    have : cnt ([] : St) = 0 := rfl
    omega⟩
  have hr3' : RemP w3 mm n S3 ((0 + 1) * eN n) := hr3.more (by omega)
  obtain ⟨b0, b1, b2, -⟩ := now3 hbx3 rfl
  clear hP1 hx3 hc3 hr3 hb2 hd2 hdr2 hr2 hbx2 hk3
  go_wp2_with fail
  clear b0 b1 b2
  go_loopw [8, 9, 27] (fun e u t wr => ∃ (k : Nat) (gs : List Int) (v : Value) (full : Nat) (T : St), k ≤ may.length ∧ t = .int .i64 k ∧ e = .int .i64 0 ∧ wr.ownsRow w1.heap.size 3 1 u gs.length (intsZ gs) ∧ ZdAt wr (· < W.heap.size) zb ab bm v 20000 full T ∧ DrAt wr drb zb n mm ∧ RemP wr mm n T ((k + 1) * eN n) ∧ Kz no8 (MZ bm mm) (· < W.heap.size) w1 wr ∧ Hid (Ext S3 T ∧ WideAt11 ⟨n, on, may⟩ n o k T gs ∧ cnt T ≤ (k + 1) * cN n)) (fun _ _ t _ => may.length - (intOf t).toNat)
  case atStart => exact ⟨0, [], _, _, S3, Nat.zero_le _, rfl, rfl, World.ownsRow_nil _ _ _ _, hd3, hdr3, hr3', hk13, hstart⟩
  case round =>
    clear hstart hd3 hdr3 hr3' hk13
    obtain ⟨k, gs, v, full, T, hk, rfl, rfl, hown, hdw, hdrw, hrw, hkw, hTT⟩ := hrel
    have hBw : Below w.heap.size w wr := hb.trans ((Kz.belowW hb1 hkw).mono hb.size)
    have hbxw := hkw.cells _ _ _ _ hbx1 (by decide) (by decide) (fun h => h)
    by_cases hlt : k < may.length
    · have hork := hor k
      cases hok : o.getLsbD k
      · -- one output more
        have hne3 := hor3 k (by omega) hok
        have hneq : ((((o ||| BitVec.twoPow 8 k).toNat : Nat) : Int) != ((o.toNat : Nat) : Int)) = true := by
          rw [bne_iff_ne]
          intro e
          exact hne3 (BitVec.eq_of_toNat_eq (by exact_mod_cast e))
        have hCk := HCo wr (o ||| BitVec.twoPow 8 k) hBw
        have hlk := hlow (o ||| BitVec.twoPow 8 k)
        have hwid : ∀ (U : St) (g : Int), VSt T → Ext T U → cnt U ≤ cnt T + cN n → Held U g (FI n 0 (comS ⟨n, on, may⟩ (o ||| BitVec.twoPow 8 k))) → Hid (Ext S3 U ∧ WideAt11 ⟨n, on, may⟩ n o (k + 1) U (gs ++ [g]) ∧ cnt U ≤ (k + 1 + 1) * cN n) := fun U g hV hx hc hh => Lib.hid (by
          obtain ⟨a, b, c⟩ := hTT.out
          have hV3T := b.ext hV hx
          refine ⟨a.trans hx, hV3T.add hok hh, ?_⟩
          rw [Nat.add_mul (k + 1) 1, Nat.one_mul]
          omega)
        have hcT : cnt T + cN n < 20000 := by
          have hc := hTT.out.2.2
          have : (k + 1) * cN n ≤ 4 * 1352 := Nat.mul_le_mul (by omega) hcn
          omega
        have hcr : (k + 1) * eN n + eN n ≤ 1000000 := by
          have : (k + 1) * eN n ≤ 4 * 364 := Nat.mul_le_mul (by omega) hen
          omega
        have hP2 := fun (w5 : World) (hb5 : Below wr.heap.size wr w5) => hP0 w5 _ _ _ _ (comS ⟨n, on, may⟩ (o ||| BitVec.twoPow 8 k)) (hdw.below hb5) (hdrw.below hb5) (hrw.below hb5) hlk hcT hcr
        have hVT := hdw.zst.vst
        have hgl : gs.length ≤ k := hTT.out.2.1.2.1
        clear hne3 hor hor2 hor3 hlk hcT hcr hTT HCo hP0 hf4 hf3
        generalize comS ⟨n, on, may⟩ (o ||| BitVec.twoPow 8 k) = XS at *
        generalize o ||| BitVec.twoPow 8 k = M at *
        obtain ⟨b0, b1, b2, -⟩ := now3 hbxw rfl
        unfold sv wv at hCk hP2
        go_wp2_with fail
        refine hCk.mono ?_
        rintro e w5 ⟨rfl, hb5⟩
        have hP5 := hP2 w5 hb5
        have hown5 := owns_below hown hb5
        have hk5 := hkw.more hb5
        have hdr5 := hdrw.below hb5
        clear hCk hP2 b0 b1 b2 hbxw hdw hrw hown hkw hdrw hBw
        go_wp2_with fail
        refine hP5.mono ?_
        rintro e w6 ⟨v6, full6, U, g, rfl, hd6, hk6, hx6, hf6, hc6, hr6⟩
        have hU := hwid U g hVT hx6 hc6 hf6
        have hown6 := own_kz hown5 hk6 (fun _ _ h => h)
        have hk16 := hk5.trans hk6
        have hdr6 := hdr5.kz hk6 (fun h => h)
        have hr6' : RemP w6 mm n U ((k + 1 + 1) * eN n) := hr6.more (by rw [Nat.add_mul (k + 1) 1, Nat.one_mul]; exact Nat.le_refl _)
        have hbA := below_alloc1 w6 (.cells #[.int .i64 g] 3 (0, 0))
        have hownA := hown6.alloc (.cells #[.int .i64 g] 3 (0, 0))
        have hdA := hd6.below hbA
        have hdrA := hdr6.below hbA
        have hrA := hr6'.below hbA
        have hkA := hk16.more hbA
        have hsz6 := hk16.size
        clear hP5 hown5 hk5 hdr5 hk6 hx6 hf6 hc6 hr6 hwid hVT hd6 hdr6 hr6' hk16 hbA
        go_wp2_with (at_builtin; go_loud (refine wpList_append_own _ rfl _ _ 36 rfl w1.heap.size 3 i0 (.int .i64 0) 1 8 Tryz.underlying36 hi0 hz0 hz1 hz2 rfl (by decide) _ _ _ rfl hownA ⟨w6.heap.size, 0, none⟩ 1 1 [.int .i64 g] rfl rfl ?c1 ?c2 ?c3 ?c4 ?c5 ?_))
        case c1 => exact World.news_of_block (cs := #[.int .i64 g]) (t := 3) (fr := (0, 0)) (heap_alloc_new w6 _)
        case c2 => intro u hu; simp at hu; rcases hu with rfl; rfl
        case c3 => unfold maxLen; omega
        case c4 => omega
        case c5 => simp; omega
        intro v' w8 ho8 hg8 _
        have hrow := own_int hownA
        have hd8 := hdA.grownBy hg8 hrow
        have hr8 := hrA.grownBy hg8 hrow
        have hk8 : Kz no8 (MZ bm mm) (· < W.heap.size) w1 w8 := ((hkA.mono (C' := fun q => w1.heap.size ≤ q) (M' := MZ bm mm) (N' := (· < W.heap.size)) (fun _ hq => hq.elim) (fun _ h => h) (fun _ h => h)).trans (Kz.grownBy hg8 hrow (fun q hq => (hownA.lt q hq).1) (fun q hq (hN : q < W.heap.size) => by have := (hownA.lt q hq).1; omega))).fresh (fun q hq => .inr hq) (fun q hq => .inl hq)
        have hdr8 := hdr.kz hk8 (fun h => h)
        have ho9 : w8.ownsRow w1.heap.size 3 1 v' (gs ++ [g]).length (intsZ (gs ++ [g])) := by
          rw [List.length_append, List.length_singleton, intsZ_snoc]
          exact ho8
        clear hrow hg8 ho8 hownA hdA hdrA hrA hkA hown6
        go_wp2
        go_roundw
        case rel => exact ⟨k + 1, gs ++ [g], _, _, U, by omega, by go_num, rfl, ho9, hd8, hdr8, hr8, hk8, hU⟩
        case measure => simp [intOf]; omega
      · -- that one is there
        have heq := hor2 k hok
        rw [heq] at hork
        have hneq : ((o.toNat : Int) != (o.toNat : Int)) = false := by simp
        have hU : Hid (Ext S3 T ∧ WideAt11 ⟨n, on, may⟩ n o (k + 1) T gs ∧ cnt T ≤ (k + 1 + 1) * cN n) := Lib.hid (by
          obtain ⟨a, b, c⟩ := hTT.out
          refine ⟨a, b.skip hok, ?_⟩
          rw [Nat.add_mul (k + 1) 1]
          omega)
        have hr8 : RemP wr mm n T ((k + 1 + 1) * eN n) := hrw.more (by rw [Nat.add_mul (k + 1) 1]; omega)
        clear heq hor hor2 hor3 hTT HCo hP0 hf4 hf3 hok hrw hbxw hBw
        go_wp2
        go_roundw
        case rel => exact ⟨k + 1, gs, _, _, T, by omega, by go_num, rfl, hown, hdw, hdrw, hr8, hkw, hU⟩
        case measure => simp [intOf]; omega
    · obtain rfl : k = may.length := by omega
      obtain ⟨A9, c9, rfl⟩ := own_form hown
      have hgl : gs.length ≤ may.length := hTT.out.2.1.2.1
      have hg0 := hTT.out.2.1.1
      have hTx := hTT.out.1
      have hcT : cnt T ≤ 6760 := by
        have hc := hTT.out.2.2
        have : (may.length + 1) * cN n ≤ 5 * 1352 := Nat.mul_le_mul (by omega) hcn
        omega
      have hfT := hf3.ext hV3 hTx
      have hE0 : Held T 0 (fun _ => false) := ⟨by rw [lvl_end (.inl rfl)]; decide, funext fun x => zf_zero T 24 x (by omega)⟩
      have hrw1 := cF_row_le (D := 24) [65536 * o.toNat]
      rw [List.length_singleton] at hrw1
      have hcJ : cF 24 (joinF 24 (lessF T (FI n 0 (comS ⟨n, on, may⟩ o)) gs) (rowF [65536 * o.toNat])) ≤ 18 := by
        have h1 := cF_join 24 (lessF T (FI n 0 (comS ⟨n, on, may⟩ o)) gs) (rowF [65536 * o.toNat])
        have h2 := cF_lessF T (FI n 0 (comS ⟨n, on, may⟩ o)) gs
        have h3 : cF 24 (lessF T (FI n 0 (comS ⟨n, on, may⟩ o)) gs) * cF 24 (rowF [65536 * o.toNat]) ≤ 18 * 1 := Nat.mul_le_mul (by omega) hrw1
        omega
      have htS : tS 24 (FI n 0 (comS ⟨n, on, may⟩ o)) ≤ 80 := by
        have h1 := tS_in (by omega : n ≤ 8) (Nat.zero_le n) (F := FI n 0 (comS ⟨n, on, may⟩ o)) fun x hx => FI_UI hx
        have h2 : 3 ^ (n - 0) ≤ 3 ^ 4 := Nat.pow_le_pow_right (by decide) (by omega)
        omega
      have hAd := tadd_any hdw hdrw 0 f0 (65536 * o.toNat) A9 c9 gs (FI n 0 (comS ⟨n, on, may⟩ o)) (fun _ => false) hfT hE0 (fun g hg => hg0 g hg) (by omega)
        (fun j x hj => by
          have hjl := (List.getElem?_eq_some_iff.1 hj).1
          rcases hown.2 with ⟨e, e0⟩ | ⟨g, cap, cur, e, hgb, hgc, hcap, hrest⟩
          · exact absurd e0 (by omega)
          · injection e with e _ _
            subst e
            refine ⟨g, 0, cur, rfl, hgc, ?_⟩
            have h1 := hown.cellAt j (by omega)
            rw [cell_of_block hgc] at h1
            rw [Nat.zero_add]
            refine Eq.trans h1 ?_
            simp [intsZ, hj])
        (by omega) 24 80 1440 0 (by omega) (tB_le _ _ _) htS (Nat.le_trans (tB_le _ _ _) (by omega))
        (Nat.le_trans (tB_le _ _ _) (by rw [cF_false]; simp)) (by have := Nat.mul_le_mul_right 80 (show gs.length ≤ 4 by omega); omega)
      have hJe : op2F 0 (joinF 24 (lessF T (FI n 0 (comS ⟨n, on, may⟩ o)) gs) (rowF [65536 * o.toNat])) (fun _ => false) = joinF 24 (lessF T (FI n 0 (comS ⟨n, on, may⟩ o)) gs) (rowF [65536 * o.toNat]) := by
        rw [op2_or]
        funext x
        exact Bool.or_false _
      rw [hJe] at hAd
      have hmem : Hid (∀ x, x ∈ famL 24 (joinF 24 (lessF T (FI n 0 (comS ⟨n, on, may⟩ o)) gs) (rowF [65536 * o.toNat])) ↔ ∃ y, FI n 0 (comS ⟨n, on, may⟩ o) y = true ∧ (∀ j, j < may.length → o.getLsbD j = false → FI n 0 (comS ⟨n, on, may⟩ (o ||| BitVec.twoPow 8 j)) y = false) ∧ y + 65536 * o.toNat = x) := Lib.hid fun x => by
        have hw3 := hTT.out.2.1.2.2
        have hlt : ∀ y, FI n 0 (comS ⟨n, on, may⟩ o) y = true → y < 65536 := fun y hy => by
          rw [FI_zero] at hy
          have h1 := UL_lt _ _ (FP_UL _ _ _ hy)
          have h2 : 4 ^ n ≤ 4 ^ 4 := Nat.pow_le_pow_right (by decide) hn
          omega
        rw [famL_mem, join_tag (fun y hy => hlt y (lessF_le hy)) ho]
        have hl : ∀ y, lessF T (FI n 0 (comS ⟨n, on, may⟩ o)) gs y = true ↔ FI n 0 (comS ⟨n, on, may⟩ o) y = true ∧ (∀ j, j < may.length → o.getLsbD j = false → FI n 0 (comS ⟨n, on, may⟩ (o ||| BitVec.twoPow 8 j)) y = false) := fun y => by
          unfold lessF
          rw [Bool.and_eq_true, Bool.not_eq_true', Bool.eq_false_iff, Ne, hw3]
          constructor
          · rintro ⟨h1, h2⟩
            refine ⟨h1, fun j hj hb => ?_⟩
            cases hq : FI n 0 (comS ⟨n, on, may⟩ (o ||| BitVec.twoPow 8 j)) y
            · rfl
            · exact absurd ⟨j, hj, hb, hq⟩ h2
          · rintro ⟨h1, h2⟩
            refine ⟨h1, fun ⟨j, hj, hb, hq⟩ => ?_⟩
            rw [h2 j hj hb] at hq; cases hq
        constructor
        · rintro ⟨-, y, h1, h2⟩
          obtain ⟨a, b⟩ := (hl y).1 h1
          exact ⟨y, a, b, h2⟩
        · rintro ⟨y, h1, h2, h3⟩
          refine ⟨?_, y, (hl y).2 ⟨h1, h2⟩, h3⟩
          have := hlt y h1
          omega
      have hlenL : (famL 24 (joinF 24 (lessF T (FI n 0 (comS ⟨n, on, may⟩ o)) gs) (rowF [65536 * o.toNat]))).length ≤ 18 := by rw [famL_len]; exact hcJ
      clear hJe htS hrw1 hE0 hfT hcT hTx hg0 hgl hTT hor hor2 hor3 hlt hk hf3 hf4 hP0 HCo hlow hV3 hown hrw hbxw hap hcn hen hi0 hz0 hz1 hz2 hm
      generalize joinF 24 (lessF T (FI n 0 (comS ⟨n, on, may⟩ o)) gs) (rowF [65536 * o.toNat]) = J at *
      generalize hl : 65536 * o.toNat = lit at *
      have hlH := Lib.hid hl
      clear hl
      have hBwW := Kz.belowW hb1 hkw
      have hsW := hBwW.size
      go_wp2_with fail
      refine (hTag _).mono ?_
      rintro e w5 ⟨rfl, rfl⟩
      clear hTag
      go_wp2_with fail
      refine hAd.mono ?_
      rintro e w6 ⟨v6, full6, U, id, rfl, hd6, hk6, -, hf6, -⟩
      clear hAd
      have hdr6 := hdrw.kz hk6 (fun h => h)
      have hB6 := Kz.belowW hBwW hk6
      have hZ := zList_any hd6 id hf6.1 (by rw [hf6.zn]; omega)
      rw [hf6.row] at hZ
      obtain ⟨d0, d1, d2, -⟩ := now3 hdr6 rfl
      clear hd6 hk6 hf6 hdw hdrw hkw hdr6 hBwW hcJ
      go_wp2_with fail
      refine hZ.mono ?_
      rintro e w7 ⟨u, rfl, hI, hF, hb7⟩
      have hB7 := hb.trans ((hB6.trans (hb7.mono hB6.size)).mono hb.size)
      have hs6 := hB6.size
      have hIH := Lib.hid (And.intro hI hF)
      have hLL := Lib.hid hlenL
      have e1 := hlH.out
      subst e1
      obtain ⟨A7, c7, rfl, -, -⟩ := hI
      clear hZ d0 d1 d2 hb7 hF hB6 hlenL
      go_wp2
      go_ret2
      exact ⟨_, _, rfl, hIH.out.1, fun g hg => by have := hIH.out.2 g hg; omega, hB7, hLL.out, hmem.out⟩
end Go.Proofs.YtehpccanjlaokaaGreat
