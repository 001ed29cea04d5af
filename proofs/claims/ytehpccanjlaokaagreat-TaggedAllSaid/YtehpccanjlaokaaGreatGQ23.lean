/- What is remembered of calls, in memory; recall, build: for every closure that keeps its word. -/
import Derived.Test.YtehpccanjlaokaaGreatGQ19
import Derived.Test.YtehpccanjlaokaaGreatGQ12
import Derived.Test.YtehpccanjlaokaaGreatGQ22
namespace Go.Proofs.YtehpccanjlaokaaGreat
open Go.RowKit Go.Joins
open Go.Maps (Keyed)

theorem wf_idz {S : St} (hl : S.length ≤ 20000) {id : Int} (h : 0 ≤ lvl S id) : (Lit.int .i64 id).wf = true := by
  rcases lvl_kind h with he | ⟨j, m, rfl, hm, _⟩
  · rcases he with rfl | rfl <;> decide
  · have := (List.getElem?_eq_some_iff.1 hm).1
    exact WalkArith.wf_i64 (by omega)
theorem Tryz.keyThreeZ : Tryz.prog.keyType 204 = true := by kernel_rfl
theorem Tryz.cellsThreeZ : Tryz.prog.cellsOf 204 = 3 := by kernel_rfl
theorem keyz_three {n : Nd} (h : wfN n) : keyOf Tryz.prog 204 (ndV n) = some (klN n) := by
  obtain ⟨h0, h1, h2⟩ := h
  have hm : ∃ m, Tryz.prog.types.size = m + 1 := ⟨Tryz.prog.types.size - 1, by have : 0 < Tryz.prog.types.size := of_decide_eq_true (by kernel_rfl); omega⟩
  obtain ⟨m, hm⟩ := hm
  unfold keyOf ndV
  simp only [Tryz.underlying204]
  rw [if_pos (by simp [Tryz.keyThreeZ, Value.formed, Tryz.underlying204, Tryz.cellsThreeZ]), hm]
  unfold Program.keyLits
  simp [Tryz.underlying204, Tryz.cellsThreeZ, Value.cells, Program.keyLits, Tryz.underlying3, Tryz.cellsInt1, klN]
  refine ⟨[[.int .i64 n.1], [.int .i64 n.2.1], [.int .i64 n.2.2]], ?_, rfl⟩
  rw [show List.range 3 = [0, 1, 2] from rfl]
  simp [h0, h1, h2]
theorem Tryz.threeKeyedZ : Keyed Tryz.prog 204 := Keyed.of_law (deep_law_laid Tryz.laidOut (m := 3) (by omega) (of_decide_eq_true (by kernel_rfl)) (by kernel_rfl) (by kernel_rfl))
theorem isKeyz_three {n : Nd} (h : wfN n) : WideAt.IsKeyLit (klN n) := Tryz.threeKeyedZ.key (keyz_three h)
/-- Each entry is what its call comes to. -/
def RemD (D : DataW Unit) (S0 S : St) : Prop := ∀ (k : Nat) (f x : Int), wfN ((k : Int), f, x) → Maps.has D (klN ((k : Int), f, x)) = true → ∃ r, D.atKey (klN ((k : Int), f, x)) (.lit (.int .i64 0)) = .lit (.int .i64 r) ∧ Entry S0 S k f x r
def RemZ (w : World) (mm : Nat) (S0 S : St) (C : Nat) : Prop := ∃ D n, w.ownsMap Tryz.prog 204 (plainElem Tryz.prog 3) mm n D ∧ n ≤ C ∧ RemD D S0 S
theorem RemZ.made (w : World) (S0 S : St) : RemZ (w.alloc (.map #[] 0)) w.heap.size S0 S 0 :=
  ⟨.map [], 0, World.ownsMap_made w _ _ _, Nat.le_refl _, fun k f x _ h => by simp [Maps.has] at h⟩
theorem RemZ.obj {w : World} {mm : Nat} {S0 S : St} {C : Nat} (h : RemZ w mm S0 S C) : ∃ es clock, w.heap[mm]? = some (.map es clock) := by
  obtain ⟨D, n, ⟨es, clock, hm, _⟩, _⟩ := h; exact ⟨es, clock, hm⟩
theorem RemZ.lt {w : World} {mm : Nat} {S0 S : St} {C : Nat} (h : RemZ w mm S0 S C) : mm < w.heap.size := by
  obtain ⟨es, clock, hm⟩ := h.obj; exact size_of_block hm
theorem RemZ.keep {w w' : World} {mm : Nat} {S0 S : St} {C : Nat} (h : RemZ w mm S0 S C) (hb : w'.heap[mm]? = w.heap[mm]?) : RemZ w' mm S0 S C := by
  obtain ⟨D, n, ⟨es, clock, hm, r⟩, ht⟩ := h
  exact ⟨D, n, ⟨es, clock, hb.trans hm, r⟩, ht⟩
theorem RemZ.below {w w' : World} {mm : Nat} {S0 S : St} {C : Nat} (h : RemZ w mm S0 S C) (hb : Below w.heap.size w w') : RemZ w' mm S0 S C := h.keep (hb.block _ h.lt)
theorem RemZ.kz {C M N : Nat → Prop} {w w' : World} {mm : Nat} {S0 S : St} {c : Nat} (h : RemZ w mm S0 S c) (k : Kz C M N w w') (hM : ¬ M mm) : RemZ w' mm S0 S c := by
  obtain ⟨es, clock, hm⟩ := h.obj
  exact h.keep ((k.maps mm es clock hm hM).trans hm.symm)
theorem RemZ.ext {w : World} {mm : Nat} {S0 S T : St} {C : Nat} (h : RemZ w mm S0 S C) (hV : VSt S) (hx : Ext S T) : RemZ w mm S0 T C := by
  obtain ⟨D, n, ho, hn, hr⟩ := h
  exact ⟨D, n, ho, hn, fun k f x hx' hh => by obtain ⟨r, h1, h2⟩ := hr k f x hx' hh; exact ⟨r, h1, h2.ext hV hx⟩⟩
theorem RemZ.more {w : World} {mm : Nat} {S0 S : St} {C C' : Nat} (h : RemZ w mm S0 S C) (hC : C ≤ C') : RemZ w mm S0 S C' := by
  obtain ⟨D, n, ho, hn, hr⟩ := h
  exact ⟨D, n, ho, Nat.le_trans hn hC, hr⟩
set_option maxRecDepth 100000 in
/-- What is asked of it. -/
theorem RemZ.look {w : World} {mm : Nat} {S0 S : St} {C : Nat} (h : RemZ w mm S0 S C) {k : Nat} {f x : Int} (hn : wfN ((k : Int), f, x)) :
    ∃ (c : Int) (b : Bool), (∀ y : After w, (Instr.lookup 188 (.map (some mm)) (ndV ((k : Int), f, x)) true).run Tryz.prog y.1 = .ok (.tuple #[.int .i64 c, .bool b]) y.1) ∧ (b = true → Entry S0 S k f x c) := by
  obtain ⟨D, n, ho, hk, hr⟩ := h
  have hmm := ho.lt
  obtain ⟨es, clock, hm, rest⟩ := ho
  have key : ∀ y : After w, ∃ c : Int, (Instr.lookup 188 (.map (some mm)) (ndV ((k : Int), f, x)) true).run Tryz.prog y.1 = .ok (.tuple #[.int .i64 c, .bool (Maps.has D (klN ((k : Int), f, x)))]) y.1 ∧ D.atKey (klN ((k : Int), f, x)) (.lit (.int .i64 0)) = .lit (.int .i64 c) := fun y => by
    have ho' : y.1.ownsMap Tryz.prog 204 (plainElem Tryz.prog 3) mm n D := ⟨es, clock, (y.2.block _ (size_of_block hm)).trans hm, rest⟩
    obtain ⟨v, ps, hrun, hv⟩ := ho'.look_ok Tryz.threeKeyedZ Tryz.underlying188 (zeroInt y.1) (plainElem_int Tryz.underlying3 (by decide)) (keyz_three hn)
    obtain ⟨c, rfl, hc, _⟩ := plainElem_int_inv Tryz.underlying3 hv
    simp only [Prod.mk.injEq] at hc
    exact ⟨c, hrun, hc.1⟩
  obtain ⟨c, -, hc⟩ := key (After.here w)
  refine ⟨c, Maps.has D (klN ((k : Int), f, x)), fun y => ?_, fun hb => ?_⟩
  · obtain ⟨c', h1, h2⟩ := key y
    rw [hc] at h2
    injection h2 with h2
    injection h2 with _ h2
    rw [h2]; exact h1
  · obtain ⟨r, h1, h2⟩ := hr k f x hn hb
    rw [hc] at h1
    injection h1 with h1
    injection h1 with _ h1
    rw [h1]; exact h2
set_option maxRecDepth 100000 in
theorem RemZ.store {w : World} {mm : Nat} {S0 S : St} {C : Nat} (h : RemZ w mm S0 S C) (hC : C ≤ 1000000) {k : Nat} {f x r : Int} (hn : wfN ((k : Int), f, x)) (hr : (Lit.int .i64 r).wf = true) (hg : Entry S0 S k f x r) :
    ∃ w', (Instr.mapUpdate 188 (.map (some mm)) (ndV ((k : Int), f, x)) (.int .i64 r)).run Tryz.prog w = .ok () w' ∧ RemZ w' mm S0 S (C + 1) ∧ w.mapTurned w' mm := by
  obtain ⟨D, n, ho, hk, hrem⟩ := h
  obtain ⟨w', hrun, hown, hturn⟩ := ho.store Tryz.threeKeyedZ Tryz.underlying188 (by unfold maxLen; omega) (keyz_three hn) (plainElem_int Tryz.underlying3 hr)
  have hT := ho.tidy Tryz.threeKeyedZ
  refine ⟨w', hrun, ⟨_, _, hown, by omega, fun k' f' x' hm hh => ?_⟩, hturn⟩
  by_cases e : (((k' : Int), f', x') : Nd) = ((k : Int), f, x)
  · simp only [Prod.mk.injEq] at e
    obtain ⟨e1, rfl, rfl⟩ := e
    obtain rfl : k' = k := by omega
    exact ⟨r, Maps.atKey_put_same hT.isMap (isKeyz_three hm) _ _, hg⟩
  · have hne : klN ((k' : Int), f', x') ≠ klN ((k : Int), f, x) := fun y => e (kl_inj hm hn y)
    rw [Maps.has_put_other hne] at hh
    obtain ⟨r', h1, h2⟩ := hrem k' f' x' hm hh
    exact ⟨r', by rw [Maps.atKey_put_other hne]; exact h1, h2⟩
/-- 'm[k] = v' at the operation, for this map. -/
theorem wpList_store_remz (w : World) {ops : Array Oper} {rest : List Oper} {o : Oper} {a : Act} {Q : Exit → Act → World → Prop}
    (hg : o.guard = none) (m x v : Operand) (hop : o.op = Op.mapUpdate 188 m x v) (mm : Nat) (S0 S : St) (C : Nat) (k : Nat) (f y r : Int) (hm : a.eval m = .map (some mm)) (hx : a.eval x = ndV ((k : Int), f, y)) (hv : a.eval v = .int .i64 r)
    (h : RemZ w mm S0 S C) (hC : C ≤ 1000000) (hn : wfN ((k : Int), f, y)) (hr : (Lit.int .i64 r).wf = true) (hgd : Entry S0 S k f y r)
    (hK : ∀ w', RemZ w' mm S0 S (C + 1) → w.mapTurned w' mm → wpList Tryz.prog ops Q rest (a.put o.dst undef) w') : wpList Tryz.prog ops Q (o :: rest) a w := by
  refine wpList_plain hg fun K' hK' => ?_
  obtain ⟨w', hrun, r1, r2⟩ := h.store hC hn hr hgd
  unfold Oper.wp
  simp [execOp, hop, hm, hx, hv, hrun, Result.andThen]
  exact hK' _ _ (hK w' r1 r2)
theorem Kz.turned {C M N : Nat → Prop} {w w' : World} {mm : Nat} (h : w.mapTurned w' mm) (hM : M mm) (hN : ¬ N mm) : Kz C M N w w' := by
  have hb := fun k (hk : k ≠ mm) => turned_block h hk
  have hg := h.grown
  obtain ⟨es, clock, es', clock', hm, -⟩ := h
  refine ⟨hg.os, hg.tape, hg.output, hg.size, fun k A T z hk _ _ _ => ?_, fun k e1 c1 hk hn => ?_, fun k hk _ => hb k (fun e => hN (e ▸ hk))⟩
  · exact (hb k (fun e => by subst e; rw [hm] at hk; injection hk with hk; cases hk)).trans hk
  · exact (hb k (fun e => hn (by rw [e]; exact hM))).trans hk
theorem ZdAt.turned {N : Nat → Prop} {w w' : World} {zb ab bm mm : Nat} {v : Value} {room full : Nat} {S : St} (h : ZdAt w N zb ab bm v room full S) (ht : w.mapTurned w' mm) (hne : mm ≠ bm) : ZdAt w' N zb ab bm v room full S := by
  have hg := ht.grown
  have hb := fun k (hk : k ≠ mm) => turned_block ht hk
  obtain ⟨es, clock, es', clock', hm, -⟩ := ht
  refine ⟨(hb zb (fun e => by subst e; have := h.head; rw [hm] at this; injection this with this; cases this)).trans h.head, h.ar.same (fun k hk _ => hb k fun e => ?_), h.ok, h.zst, h.gap, fun k hk => ⟨Nat.lt_of_lt_of_le (h.off k hk).1 hg.size, (h.off k hk).2⟩⟩
  subst e
  exact h.ar.not_fp_map hm hne hk

/-! ### What is left behind a call that makes families -/
def MadeZ (C M N : Nat → Prop) (w : World) (zb ab bm room : Nat) (P : World → St → Int → Int → Prop) (e : Ending) (w' : World) : Prop :=
  ∃ (v' : Value) (full' : Nat) (T : St) (id er : Int), e = .returned (.tuple #[.int .i64 id, .int .i64 er]) ∧ ZdAt w' N zb ab bm v' room full' T ∧ Kz C M N w w' ∧ P w' T id er
theorem MadeZ.mono {C M N : Nat → Prop} {w : World} {zb ab bm room : Nat} {P P' : World → St → Int → Int → Prop} {e : Ending} {w' : World} (h : MadeZ C M N w zb ab bm room P e w') (hP : ∀ T id er, P w' T id er → P' w' T id er) : MadeZ C M N w zb ab bm room P' e w' := by
  obtain ⟨v', f, T, id, er, h1, h2, h3, h4⟩ := h
  exact ⟨v', f, T, id, er, h1, h2, h3, hP _ _ _ h4⟩
theorem MadeZ.from {C M N : Nat → Prop} {w0 w : World} {zb ab bm room : Nat} {P : World → St → Int → Int → Prop} {e : Ending} {w' : World} (h : MadeZ C M N w zb ab bm room P e w') (k : Kz C M N w0 w) : MadeZ C M N w0 zb ab bm room P e w' := by
  obtain ⟨v', f, T, id, er, h1, h2, h3, h4⟩ := h
  exact ⟨v', f, T, id, er, h1, h2, k.trans h3, h4⟩
def MZ (bm mm : Nat) : Nat → Prop := fun k => k = bm ∨ k = mm
theorem OutZ.kind {D room B : Nat} {S T : St} {F : Nat → Bool} {id e : Int} (h : OutZ D room S F B T id e) : e = 0 ∨ (e = 5 ∧ id = 0) := by
  rcases h.res with ⟨h1, -⟩ | ⟨h1, h2, -⟩
  · exact .inl h1
  · exact .inr ⟨h1, h2⟩
/-- The work of a call. -/
def WkAt (w : World) (wk zb mm : Nat) : Prop := w.heap[wk]? = some (.cells #[.pointer (some ⟨zb, 0, none⟩), .map (some mm)] 190 (0, 0))
theorem WkAt.kz {C M N : Nat → Prop} {w w' : World} {wk zb mm : Nat} (h : WkAt w wk zb mm) (k : Kz C M N w w') (hC : ¬ C wk) : WkAt w' wk zb mm := k.cells _ _ _ _ h (by decide) (by decide) hC
theorem WkAt.below {w w' : World} {wk zb mm : Nat} (h : WkAt w wk zb mm) (k : Below w.heap.size w w') : WkAt w' wk zb mm := keep_blk k h
set_option maxHeartbeats 1000000 in
/-- Both halves, and the node above them. -/
theorem zbuildT_any {F F0 F1 : Nat → Bool} {C M N : Nat → Prop} {w : World} {zb ab bm room : Nat} {S : St} (R1 R2 R : World → St → Prop) (fk : Nat) (caps : Array Value)
    (hcf : ∀ (args : Array Value) (w1 : World), (Sem.run Tryz.prog (callFunc fk args) w1) = .ok (.enter fk args) w1)
    (hM : M bm) (i : Int) (k B0 B1 B : Nat) (hi : i + (k + 1 : Nat) = 24) (hi0 : 0 ≤ i)
    (e0 : half0 F = F0) (e1 : half1 F = F1) (hBB : B0 + B1 ≤ B) (hBn : 1 ≤ cF k F1 → B0 + B1 + 1 ≤ B)
    (hlow : Calls Tryz.prog fk (#[.bool false] ++ caps) w (MadeZ C M N w zb ab bm room fun w' T id er => OutZ k room S F0 B0 T id er ∧ R1 w' T))
    (hhigh : ∀ w1 v1 full1 T a, ZdAt w1 N zb ab bm v1 room full1 T → Kz C M N w w1 → OutZ k room S F0 B0 T a 0 → R1 w1 T →
      Calls Tryz.prog fk (#[.bool true] ++ caps) w1 (MadeZ C M N w1 zb ab bm room fun w' U id er => OutZ k room T F1 B1 U id er ∧ R2 w' U))
    (hR1 : ∀ w' T, R1 w' T → R w' T) (hR2 : ∀ w' U, R2 w' U → R w' U)
    (hR3 : ∀ w1 w2 U V, R2 w1 U → Kz no8 (· = bm) N w1 w2 → VSt U → VSt V → Ext U V → R w2 V) :
    Calls Tryz.prog 86 #[.pointer (some ⟨zb, 0, none⟩), .int .i64 i, .func (.func fk) #[] caps] w
      (MadeZ C M N w zb ab bm room fun w' T id er => OutZ (k + 1) room S F B T id er ∧ R w' T) := by
  go_enter Tryz.func86, Tryz.ntmps86
  go_wp2_with fail
  refine hlow.mono ?_
  rintro e w1 ⟨v1, full1, T, a, er1, rfl, hd1, hk1, hO1, hr1⟩
  clear hlow
  rcases hO1.kind with rfl | ⟨rfl, rfl⟩
  · have HH := hhigh w1 v1 full1 T a hd1 hk1 hO1 hr1
    clear hhigh hr1
    go_wp2_with fail
    refine HH.mono ?_
    rintro e w2 ⟨v2, full2, U, b, er2, rfl, hd2, hk2, hO2, hr2⟩
    clear HH
    rcases hO2.kind with rfl | ⟨rfl, rfl⟩
    · have hOO := Lib.hid hO1
      have hOP := Lib.hid hO2
      by_cases hb : b = 0
      · subst hb
        have hOR := Lib.hid ((hO1.low (by omega) hO2 e0 e1).more (B' := B) (by omega))
        clear hO1 hO2
        go_wp2
        go_ret2
        exact ⟨v2, full2, U, a, 0, rfl, hd2, hk1.trans hk2, hOR.out, hR2 _ _ hr2⟩
      · have HM := make_anyF hd2.ar hd2.ok i a b
        have hbb : (b == 0) = false := by simpa using hb
        have hc1 : 1 ≤ cF k F1 := by
          obtain ⟨m0, m1, m2⟩ := hO2.ok
          have := zc_pos hO2.zst (by omega) m0 m1 hb
          unfold zc at this
          rwa [m2] at this
        have hOM := Lib.hid ((hO1.make hi hi0 hO2 hb e0 e1).more (hBn hc1))
        have hbH := Lib.hid hb
        obtain ⟨c0, cf⟩ := nowz1 hd2.head rfl
        unfold MakeDoneF at HM
        clear hO1 hO2 hb
        go_wp2_with fail
        refine HM.mono ?_
        rintro e w3 ⟨rfl, v3, full3, hA3, hok3, hoff3, hfp3⟩
        have hk3 := Kz.of_off (C := no8) hd2.ar hd2.off hoff3
        have hZ3 := hd2.zst.made room (i, a, b) hbH.out
        have hG3 := hd2.gap.made room (i, a, b)
        have hF3 : ∀ k, N k → k < w3.heap.size ∧ ¬ Fp ab bm v3 k := fun k hk => by
          obtain ⟨n1, n2⟩ := hd2.off k hk
          exact ⟨Nat.lt_of_lt_of_le n1 hk3.size, fun hf => (hfp3 k hf).elim n2 (fun hge => by omega)⟩
        have hd3 : ZdAt w3 N zb ab bm v3 room full3 (mkS room U (i, a, b)).1 := ⟨hk3.cells _ _ _ _ hd2.head Tryz.neZddA Tryz.neZddS (fun h => h), hA3, hok3, hZ3, hG3, hF3⟩
        have hr3 := hR3 _ _ _ _ hr2 hk3 hd2.zst.vst hZ3.vst (Ext.mk room U (i, a, b))
        clear HM c0 cf
        go_wp2
        go_ret2
        exact ⟨v3, full3, _, _, _, rfl, hd3, hk1.trans (hk2.trans (hk3.mono (fun k hk => hk.elim) (fun k hk => by rw [hk]; exact hM) (fun k hk => hk))), hOM.out, hr3⟩
    · have hOO := Lib.hid (hO1.fail1 (D' := k + 1) (G := F) (B' := B) hO2 (by decide) (by omega))
      clear hO1 hO2
      go_wp2
      go_ret2
      exact ⟨v2, full2, U, 0, 5, rfl, hd2, hk1.trans hk2, hOO.out, hR2 _ _ hr2⟩
  · have hOO := Lib.hid (hO1.fail0 (D' := k + 1) (G := F) (B' := B) (by decide) (by omega))
    clear hO1 hhigh
    go_wp2
    go_ret2
    exact ⟨v1, full1, T, 0, 5, rfl, hd1, hk1, hOO.out, hR1 _ _ hr1⟩
theorem zbuild_any {F F0 F1 : Nat → Bool} {C M N : Nat → Prop} {w : World} {zb ab bm room : Nat} {S : St} (R1 R2 R : World → St → Prop) (fk : Nat) (caps : Array Value)
    (hcf : ∀ (args : Array Value) (w1 : World), (Sem.run Tryz.prog (callFunc fk args) w1) = .ok (.enter fk args) w1)
    (hM : M bm) (i : Int) (k B0 B1 : Nat) (hi : i + (k + 1 : Nat) = 24) (hi0 : 0 ≤ i)
    (e0 : half0 F = F0) (e1 : half1 F = F1)
    (hlow : Calls Tryz.prog fk (#[.bool false] ++ caps) w (MadeZ C M N w zb ab bm room fun w' T id er => OutZ k room S F0 B0 T id er ∧ R1 w' T))
    (hhigh : ∀ w1 v1 full1 T a, ZdAt w1 N zb ab bm v1 room full1 T → Kz C M N w w1 → OutZ k room S F0 B0 T a 0 → R1 w1 T →
      Calls Tryz.prog fk (#[.bool true] ++ caps) w1 (MadeZ C M N w1 zb ab bm room fun w' U id er => OutZ k room T F1 B1 U id er ∧ R2 w' U))
    (hR1 : ∀ w' T, R1 w' T → R w' T) (hR2 : ∀ w' U, R2 w' U → R w' U)
    (hR3 : ∀ w1 w2 U V, R2 w1 U → Kz no8 (· = bm) N w1 w2 → VSt U → VSt V → Ext U V → R w2 V) :
    Calls Tryz.prog 86 #[.pointer (some ⟨zb, 0, none⟩), .int .i64 i, .func (.func fk) #[] caps] w
      (MadeZ C M N w zb ab bm room fun w' T id er => OutZ (k + 1) room S F (B0 + B1 + 1) T id er ∧ R w' T) :=
  zbuildT_any R1 R2 R fk caps hcf hM i k B0 B1 (B0 + B1 + 1) hi hi0 e0 e1 (by omega) (fun _ => Nat.le_refl _) hlow hhigh hR1 hR2 hR3
set_option maxHeartbeats 2000000 in
set_option maxRecDepth 100000 in
/-- A call whose answer is remembered. -/
theorem zrecall_any {F : Nat → Bool} {M N : Nat → Prop} {w : World} {zb ab bm wk mm : Nat} {v : Value} {room full : Nat} {S0 S : St} {c : Nat} (hd : ZdAt w N zb ab bm v room full S) (hw : WkAt w wk zb mm) (hr : RemZ w mm S0 S c) (hne : mm ≠ bm) (hMm : M mm) (hN : ¬ N mm)
    (k : Nat) (nm f x : Int) (hnm : nm = (k : Int)) (hwf : wfN ((k : Int), f, x)) (fk : Nat) (caps : Array Value)
    (hcf : ∀ (args : Array Value) (w1 : World), (Sem.run Tryz.prog (callFunc fk args) w1) = .ok (.enter fk args) w1)
    (D B B' : Nat) (hlook : ∀ r, Entry S0 S k f x r → OutZ D room S F B S r 0)
    (hfind : ∀ y : After w, Calls Tryz.prog fk caps y.1 (MadeZ no8 M N y.1 zb ab bm room fun w' T id er => OutZ D room S F B T id er ∧ RemZ w' mm S0 T (c + B')))
    (hsto : ∀ T id, OutZ D room S F B T id 0 → Entry S0 T k f x id) (hB : c + B' ≤ 1000000) :
    Calls Tryz.prog 148 #[.pointer (some ⟨wk, 0, none⟩), .int .i64 nm, .int .i64 f, .int .i64 x, .func (.func fk) #[] caps] w
      (MadeZ no8 M N w zb ab bm room fun w' T id er => OutZ D room S F B T id er ∧ RemZ w' mm S0 T (c + B' + 1)) := by
  subst hnm
  have hB1 := below_alloc1 w (.cells #[.int .i64 k, .int .i64 f, .int .i64 x] 204 (0, 0))
  have hk1 := heap_alloc_new w (.cells #[.int .i64 k, .int .i64 f, .int .i64 x] 204 (0, 0))
  go_enter Tryz.func148, Tryz.ntmps148
  go_upto_region 2 with (fail)
  have hd1 := hd.below hB1
  have hw1 := hw.below hB1
  have hr1 := hr.below hB1
  have hf1 := fun y : After (w.alloc (.cells #[.int .i64 k, .int .i64 f, .int .i64 x] 204 (0, 0))) => hfind ⟨y.1, hB1.trans (y.2.mono hB1.size)⟩
  generalize w.alloc (.cells #[.int .i64 k, .int .i64 f, .int .i64 x] 204 (0, 0)) = W at *
  obtain ⟨c', b, hlk, hgood⟩ := hr1.look hwf
  unfold ndV at hlk
  dsimp only at hlk hgood
  obtain ⟨e0, e1, -⟩ := box2 hw1 rfl
  obtain ⟨k0, k1, k2, -⟩ := box3 hk1 rfl
  refine wp_region_after (by kernel_rfl) (by kernel_rfl) ?_
  repeat (first | go_big_quiet_step (fail))
  refine wpQuiet_nil ?_
  intro y
  obtain ⟨W1, hy⟩ := y
  have hf2 := hf1 ⟨W1, hy⟩
  dsimp only at *
  have hB6 := hB1.trans (hy.mono hB1.size)
  have hk6 := keep_blk hy hk1
  have hd6 := hd1.below hy
  have hw6 := hw1.below hy
  have hr6 := hr1.below hy
  clear e0 e1 k0 k1 k2 hlk hB1 hk1 hd1 hw1 hr1 hy hd hr hw hfind hf1
  cases b
  · clear hgood hlook
    go_wp2_with fail
    refine hf2.mono ?_
    rintro e w2 ⟨v2, full2, T, id, er, rfl, hd8, hk8, hO8, hr8⟩
    clear hf2
    rcases hO8.kind with rfl | ⟨rfl, rfl⟩
    · have hgd := hsto T id hO8
      have hwid := wf_idz hd8.max hO8.ok.1
      have hw8 := hw6.kz hk8 (fun h => h)
      have hkk := hk8.cells _ _ _ _ hk6 (by decide) (by decide) (fun h => h)
      have hKK := (Kz.of_below (C := no8) (M := M) (N := N) hB6).trans hk8
      have hO := Lib.hid hO8
      clear hO8 hw6 hk6 hd6 hr6 hk8 hsto hB6
      obtain ⟨e0, e1, -⟩ := box2 hw8 rfl
      obtain ⟨k0, k1, k2, -⟩ := box3 hkk rfl
      clear hw8 hkk
      go_wp2
      refine wp_region_after_tail 6 (by kernel_rfl) (by kernel_rfl) ?_
      simp only [List.take_succ_cons, List.take_zero, List.drop_succ_cons, List.drop_zero]
      repeat (first | go_big_quiet_step (fail))
      refine wpQuiet_nil ?_
      intro z
      have hr9 := hr8.below z.2
      have hd9 := hd8.below z.2
      have hK9 := hKK.more z.2
      clear e0 e1 k0 k1 k2 hr8 hd8 hKK
      go_wp2_with (at_mapUpdate; refine wpList_store_remz _ rfl _ _ _ rfl mm S0 T _ k f x id rfl rfl rfl hr9 hB hwf hwid hgd ?_)
      intro w9 hr10 ht10
      have hk10 : Kz no8 M N z.1 w9 := Kz.turned ht10 hMm hN
      have hd10 := hd9.turned ht10 hne
      clear hr9 hd9 ht10
      go_wp2
      go_ret2
      exact ⟨v2, full2, T, id, 0, rfl, hd10, hK9.trans hk10, hO.out, hr10⟩
    · have hO := Lib.hid hO8
      have hKK := (Kz.of_below (C := no8) (M := M) (N := N) hB6).trans hk8
      clear hO8 hw6 hk6 hd6 hr6 hk8 hsto hB6
      go_wp2
      go_ret2
      exact ⟨v2, full2, T, 0, 5, rfl, hd8, hKK, hO.out, hr8.more (by omega)⟩
  · have hO := Lib.hid (hlook c' (hgood rfl))
    clear hgood hlook hf2 hsto
    go_wp2
    go_ret2
    exact ⟨v, full, S, c', 0, rfl, hd6, Kz.of_below hB6, hO.out, hr6.more (by omega)⟩
end Go.Proofs.YtehpccanjlaokaaGreat
