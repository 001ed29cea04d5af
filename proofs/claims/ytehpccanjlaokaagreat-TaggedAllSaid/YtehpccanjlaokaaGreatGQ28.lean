/- How many members, how many nodes: count, Count, Size. The members of an id in a row: each, and the library's Sort. Count, Size, List as they are called. -/
import Derived.Test.YtehpccanjlaokaaGreatGQ23
import Derived.Test.YtehpccanjlaokaaGreatGQ13
import Derived.Test.YtehpccanjlaokaaGreatShelf
import Derived.Test.YtehpccanjlaokaaGreatGQ27
import Derived.Sort.OwnSortedInts
namespace Go.Proofs.YtehpccanjlaokaaGreat
open Go.RowKit Go.Joins
open Go.Maps (Keyed)

theorem Tryz.intKeyedZ : Keyed Tryz.prog 3 := Maps.int_keyed Tryz.underlying3
theorem keyz_int {a : Int} (h : (Lit.int .i64 a).wf = true) : keyOf Tryz.prog 3 (.int .i64 a) = some (.int .i64 a) := Maps.keyOf_int_mk Tryz.underlying3 h
/-- What is known of counts. -/
structure CntD (D : DataW Unit) (S : St) : Prop where
  right : ∀ id : Int, (Lit.int .i64 id).wf = true → Maps.has D (.int .i64 id) = true → 0 ≤ lvl S id ∧ D.atKey (.int .i64 id) (.lit (.int .i64 0)) = .lit (.int .i64 (zn S id : Int))
  zero : Maps.has D (.int .i64 0) = true
  one : Maps.has D (.int .i64 1) = true
def CntIs (w : World) (km : Nat) (S : St) (C : Nat) : Prop := ∃ D n, w.ownsMap Tryz.prog 3 (plainElem Tryz.prog 3) km n D ∧ n ≤ C ∧ CntD D S
theorem CntIs.lt {w : World} {km : Nat} {S : St} {C : Nat} (h : CntIs w km S C) : km < w.heap.size := by
  obtain ⟨D, n, h, _⟩ := h; exact h.lt
theorem CntIs.keep {w w' : World} {km : Nat} {S : St} {C : Nat} (h : CntIs w km S C) (hb : w'.heap[km]? = w.heap[km]?) : CntIs w' km S C := by
  obtain ⟨D, n, ⟨es, clock, hm, r⟩, ht⟩ := h
  exact ⟨D, n, ⟨es, clock, hb.trans hm, r⟩, ht⟩
theorem CntIs.below {w w' : World} {km : Nat} {S : St} {C : Nat} (h : CntIs w km S C) (hb : Below w.heap.size w w') : CntIs w' km S C := h.keep (hb.block _ h.lt)
theorem CntIs.more {w : World} {km : Nat} {S : St} {C C' : Nat} (h : CntIs w km S C) (hC : C ≤ C') : CntIs w km S C' := by
  obtain ⟨D, n, ho, hn, hr⟩ := h
  exact ⟨D, n, ho, Nat.le_trans hn hC, hr⟩
set_option maxRecDepth 100000 in
theorem CntIs.look {w : World} {km : Nat} {S : St} {C : Nat} (h : CntIs w km S C) {id : Int} (hn : (Lit.int .i64 id).wf = true) :
    ∃ (c : Int) (b : Bool), (Instr.lookup 79 (.map (some km)) (.int .i64 id) true).run Tryz.prog w = .ok (.tuple #[.int .i64 c, .bool b]) w ∧ (b = true → c = (zn S id : Int)) ∧ (id = 0 ∨ id = 1 → b = true) := by
  obtain ⟨D, n, ho, hk, hr⟩ := h
  obtain ⟨v, ps, hrun, hv⟩ := ho.look_ok Tryz.intKeyedZ Tryz.underlying79 (zeroInt w) (plainElem_int Tryz.underlying3 (by decide)) (keyz_int hn)
  obtain ⟨c, rfl, hc, _⟩ := plainElem_int_inv Tryz.underlying3 hv
  simp only [Prod.mk.injEq] at hc
  refine ⟨c, _, hrun, fun hb => ?_, fun he => ?_⟩
  · have h1 := (hr.right id hn hb).2
    rw [hc.1] at h1
    injection h1 with h1
    injection h1 with _ h1
  · rcases he with rfl | rfl
    · exact hr.zero
    · exact hr.one
set_option maxRecDepth 100000 in
theorem CntIs.store {w : World} {km : Nat} {S : St} {C : Nat} (h : CntIs w km S C) (hC : C ≤ 1000000000) {id : Int} (hn : (Lit.int .i64 id).wf = true) (h0 : 0 ≤ lvl S id) (hz : zn S id ≤ 1000000000) :
    ∃ w', (Instr.mapUpdate 79 (.map (some km)) (.int .i64 id) (.int .i64 (zn S id : Int))).run Tryz.prog w = .ok () w' ∧ CntIs w' km S (C + 1) ∧ w.mapTurned w' km := by
  obtain ⟨D, n, ho, hk, hr⟩ := h
  obtain ⟨w', hrun, hown, hturn⟩ := ho.store Tryz.intKeyedZ Tryz.underlying79 (by unfold maxLen; omega) (keyz_int hn) (plainElem_int Tryz.underlying3 (WalkArith.wf_i64 (n := (zn S id : Int)) (by omega)))
  have hT := ho.tidy Tryz.intKeyedZ
  have hkey : WideAt.IsKeyLit (.int .i64 id) := Tryz.intKeyedZ.key (keyz_int hn)
  refine ⟨w', hrun, ⟨_, _, hown, by omega, ⟨fun id' hm hh => ?_, ?_, ?_⟩⟩, hturn⟩
  · by_cases e : id' = id
    · subst e
      exact ⟨h0, Maps.atKey_put_same hT.isMap hkey _ _⟩
    · have hne : (Lit.int .i64 id') ≠ Lit.int .i64 id := fun y => by injection y with _ y; exact e y
      rw [Maps.has_put_other hne] at hh
      rw [Maps.atKey_put_other hne]
      exact hr.right id' hm hh
  · by_cases e : (0 : Int) = id
    · subst e; exact Maps.has_put_same hT.isMap hkey _
    · rw [Maps.has_put_other (fun y => by injection y with _ y; exact e y)]; exact hr.zero
  · by_cases e : (1 : Int) = id
    · subst e; exact Maps.has_put_same hT.isMap hkey _
    · rw [Maps.has_put_other (fun y => by injection y with _ y; exact e y)]; exact hr.one
/-- What is known while the first two are laid. -/
def CntI (w : World) (km : Nat) (S : St) (C : Nat) (p q : Prop) : Prop := ∃ (D : DataW Unit) (n : Nat), w.ownsMap Tryz.prog 3 (plainElem Tryz.prog 3) km n D ∧ n ≤ C ∧ (∀ id : Int, (Lit.int .i64 id).wf = true → Maps.has D (.int .i64 id) = true → 0 ≤ lvl S id ∧ D.atKey (.int .i64 id) (.lit (.int .i64 0)) = .lit (.int .i64 (zn S id : Int))) ∧ (p → Maps.has D (.int .i64 0) = true) ∧ (q → Maps.has D (.int .i64 1) = true)
theorem CntI.made (w : World) (S : St) : CntI (w.alloc (.map #[] 0)) w.heap.size S 0 False False :=
  ⟨(.map [] : DataW Unit), 0, World.ownsMap_made w Tryz.prog 3 (plainElem Tryz.prog 3), Nat.le_refl _, fun id _ hh => by simp [Maps.has] at hh, fun h => h.elim, fun h => h.elim⟩
theorem CntI.cnt {w : World} {km : Nat} {S : St} {C : Nat} {p q : Prop} (h : CntI w km S C p q) (hp : p) (hq : q) : CntIs w km S C := by
  obtain ⟨D, n, h1, h2, h3, h4, h5⟩ := h
  exact ⟨D, n, h1, h2, ⟨h3, h4 hp, h5 hq⟩⟩
set_option maxRecDepth 100000 in
theorem CntI.store {w : World} {km : Nat} {S : St} {C : Nat} {p q : Prop} (h : CntI w km S C p q) (hC : C ≤ 1000000000) {id : Int} (hn : (Lit.int .i64 id).wf = true) (h0 : 0 ≤ lvl S id) (hz : zn S id ≤ 1000000000) :
    ∃ w', (Instr.mapUpdate 79 (.map (some km)) (.int .i64 id) (.int .i64 (zn S id : Int))).run Tryz.prog w = .ok () w' ∧ CntI w' km S (C + 1) (p ∨ id = 0) (q ∨ id = 1) ∧ w.mapTurned w' km := by
  obtain ⟨D, n, ho, hk, hr, hr0, hr1⟩ := h
  obtain ⟨w', hrun, hown, hturn⟩ := ho.store Tryz.intKeyedZ Tryz.underlying79 (by unfold maxLen; omega) (keyz_int hn) (plainElem_int Tryz.underlying3 (WalkArith.wf_i64 (n := (zn S id : Int)) (by omega)))
  have hT := ho.tidy Tryz.intKeyedZ
  have hkey : WideAt.IsKeyLit (.int .i64 id) := Tryz.intKeyedZ.key (keyz_int hn)
  refine ⟨w', hrun, ⟨_, _, hown, by omega, fun id' hm hh => ?_, fun hp => ?_, fun hq => ?_⟩, hturn⟩
  · by_cases e : id' = id
    · subst e
      exact ⟨h0, Maps.atKey_put_same hT.isMap hkey _ _⟩
    · have hne : (Lit.int .i64 id') ≠ Lit.int .i64 id := fun y => by injection y with _ y; exact e y
      rw [Maps.has_put_other hne] at hh
      rw [Maps.atKey_put_other hne]
      exact hr id' hm hh
  · by_cases e : (0 : Int) = id
    · subst e; exact Maps.has_put_same hT.isMap hkey _
    · rw [Maps.has_put_other (fun y => by injection y with _ y; exact e y)]; exact hr0 (hp.elim (fun h => h) (fun h => absurd h.symm e))
  · by_cases e : (1 : Int) = id
    · subst e; exact Maps.has_put_same hT.isMap hkey _
    · rw [Maps.has_put_other (fun y => by injection y with _ y; exact e y)]; exact hr1 (hq.elim (fun h => h) (fun h => absurd h.symm e))
/-- 'm[k] = v' at the operation, for this map. -/
theorem wpList_store_cnt (w : World) {ops : Array Oper} {rest : List Oper} {o : Oper} {a : Act} {Q : Exit → Act → World → Prop}
    (hg : o.guard = none) (m x v : Operand) (hop : o.op = Op.mapUpdate 79 m x v) (km : Nat) (S : St) (C : Nat) (id : Int) (hm : a.eval m = .map (some km)) (hx : a.eval x = .int .i64 id) (hv : a.eval v = .int .i64 (zn S id : Int))
    (h : CntIs w km S C) (hC : C ≤ 1000000000) (hn : (Lit.int .i64 id).wf = true) (h0 : 0 ≤ lvl S id) (hz : zn S id ≤ 1000000000)
    (hK : ∀ w', CntIs w' km S (C + 1) → w.mapTurned w' km → wpList Tryz.prog ops Q rest (a.put o.dst undef) w') : wpList Tryz.prog ops Q (o :: rest) a w := by
  refine wpList_plain hg fun K' hK' => ?_
  obtain ⟨w', hrun, r1, r2⟩ := h.store hC hn h0 hz
  unfold Oper.wp
  simp [execOp, hop, hm, hx, hv, hrun, Result.andThen]
  exact hK' _ _ (hK w' r1 r2)
def CountOk (S : St) (D : Nat) : Prop := ∀ {N : Nat → Prop} {w : World} {zb ab bm km : Nat} {v : Value} {room full : Nat} {c : Nat}, ZdAt w N zb ab bm v room full S → CntIs w km S c → km ≠ bm →
  ∀ f : Int, 0 ≤ lvl S f → 24 ≤ lvl S f + D → D ≤ 24 → c + D * zn S f ≤ 1000000000 → zn S f ≤ 1000000000 →
  Calls Tryz.prog 39 #[.pointer (some ⟨zb, 0, none⟩), .int .i64 f, .map (some km)] w fun e w' => e = .returned (.int .i64 (zn S f : Int)) ∧ CntIs w' km S (c + D * zn S f) ∧ ZdAt w' N zb ab bm v room full S ∧ Off (· = km) w w'
set_option maxHeartbeats 4000000 in
set_option maxRecDepth 100000 in
theorem zcount_step {S : St} (D : Nat) (IH : ∀ j, j < D → CountOk S j) : CountOk S D := by
  intro N w zb ab bm km v room full c hd hm hne f f0 fk hk hc hz
  have hwf := wf_idz hd.max f0
  obtain ⟨c0, b, hlk, hgood, hend⟩ := hm.look hwf
  cases b
  · have hnode : ∃ nd, ndAt S f = some nd := by
      cases hn : ndAt S f with
      | some nd => exact ⟨nd, rfl⟩
      | none =>
        have he : f = 0 ∨ f = 1 := by
          by_cases h : f = 0 ∨ f = 1
          · exact h
          · rw [lvl_not h hn] at f0; omega
        exact absurd (hend he) (by decide)
    obtain ⟨nd, hn⟩ := hnode
    have hV := hd.zst.vst
    obtain ⟨⟨k0, k1⟩, k2, k3⟩ := kids_lvl hV hn
    have hl := lvl_node hn
    have hzn := zn_node hV hn
    have z1 : 1 ≤ zn S f := zn_pos hd.zst f0 (by rintro rfl; exact absurd (hend (.inl rfl)) (by decide))
    obtain ⟨j, hj⟩ : ∃ j : Nat, nd.1 + (j + 1 : Nat) = 24 := ⟨(23 - nd.1).toNat, by omega⟩
    have hst := (show j * zn S nd.2.1 + j * zn S nd.2.2 + 1 ≤ (j + 1) * zn S f by
      rw [hzn, Nat.add_mul, Nat.mul_add, Nat.one_mul]; omega)
    have hjD : (j + 1) * zn S f ≤ D * zn S f := Nat.mul_le_mul_right _ (by omega)
    have HN := node_any hd.ar hd.max f
    rw [hn] at HN
    unfold ndT at HN
    obtain ⟨z0, -⟩ := nowz1 hd.head rfl
    clear hgood hend
    go_enter Tryz.func39, Tryz.ntmps39
    go_wp2_with fail
    refine HN.mono ?_
    rintro e w1 ⟨rfl, hb1⟩
    have hd1 := hd.below hb1
    have hm1 := hm.below hb1
    have H1 := IH j (by omega) hd1 hm1 hne nd.2.1 (by omega) (by omega) (by omega) (by omega) (by omega)
    have hk1 : Off (· = km) w w1 := Off.of_below hb1
    clear HN z0 hlk hd hm hb1 hd1 hm1
    go_wp2_with fail
    refine H1.mono ?_
    rintro e w2 ⟨rfl, hm2, hd2, hk2⟩
    have H2 := IH j (by omega) hd2 hm2 hne nd.2.2 (by omega) (by omega) (by omega) (by omega) (by omega)
    clear H1 hm2 hd2
    go_wp2_with fail
    refine H2.mono ?_
    rintro e w3 ⟨rfl, hm3, hd3, hk3⟩
    have hsum : Hid ((zn S nd.2.1 : Int) + (zn S nd.2.2 : Int) = (zn S f : Int)) := Lib.hid (by omega)
    have hk13 := (hk1.then hk2).then hk3
    clear H2 hk1 hk2 hk3
    go_wp2_with (at_mapUpdate; refine wpList_store_cnt _ rfl _ _ _ rfl km S _ f rfl rfl (congrArg (Value.int .i64) hsum.out) hm3 (by omega) hwf f0 hz ?_)
    intro w4 hm4 ht4
    have hd4 := hd3.turned ht4 hne
    have hk4 : Off (· = km) w w4 := hk13.grown ht4.grown (.inl rfl)
    clear hm3 hd3 ht4
    go_wp2
    go_ret
    exact ⟨congrArg (fun x => Ending.returned (Value.int .i64 x)) hsum.out, hm4.more (by omega), hd4, hk4⟩
  · have hcc := Lib.hid (hgood rfl)
    clear hgood hend
    go_enter Tryz.func39, Tryz.ntmps39
    go_wp2
    go_ret
    exact ⟨by rw [← hcc.out]; rfl, hm.more (Nat.le_add_right _ _), hd, Off.refl _ _⟩
theorem zcount_any {S : St} (D : Nat) : CountOk S D := by
  induction D using Nat.strongRecOn with
  | _ D ih => exact zcount_step D ih

/-- The members in the order in which they are met. -/
def trav (S : St) : Nat → Int → Nat → List Nat
  | 0, id, it => if id = 1 then [it] else []
  | D + 1, id, it => match (if lvl S id + (D + 1 : Nat) = 24 then ndAt S id else none) with
    | some nd => trav S D nd.2.1 it ++ trav S D nd.2.2 (it ||| 2 ^ (23 - D))
    | none => trav S D id it
theorem trav_skip {S : St} {D : Nat} {id : Int} (h : 24 < lvl S id + (D + 1 : Nat)) (it : Nat) : trav S (D + 1) id it = trav S D id it := by
  rw [trav, if_neg (by omega)]
theorem trav_node {S : St} {D : Nat} {id : Int} {nd : Nd} (hn : ndAt S id = some nd) (h : lvl S id + (D + 1 : Nat) = 24) (it : Nat) : trav S (D + 1) id it = trav S D nd.2.1 it ++ trav S D nd.2.2 (it ||| 2 ^ (23 - D)) := by
  rw [trav, if_pos h, hn]
theorem or_pow {a i : Nat} (h : a < 2 ^ i) : a ||| 2 ^ i = a + 2 ^ i := by
  have h1 := Nat.two_pow_add_eq_or_of_lt h 1
  rw [Nat.mul_one] at h1
  rw [Nat.or_comm, ← h1, Nat.add_comm]
theorem trav_mem {S : St} (hV : VSt S) : ∀ (D : Nat) (id : Int) (it : Nat), D ≤ 24 → 0 ≤ lvl S id → 24 ≤ lvl S id + D → it < 2 ^ (24 - D) → ∀ x, x ∈ trav S D id it ↔ ∃ n, zf S D id n = true ∧ x = it + n * 2 ^ (24 - D)
  | 0, id, it, _, _, _, _, x => by
    rw [trav]
    constructor
    · intro h
      by_cases e : id = 1
      · rw [if_pos e] at h
        exact ⟨0, by rw [zf, decide_eq_true e]; rfl, by have := List.mem_singleton.1 h; omega⟩
      · rw [if_neg e] at h; cases h
    · rintro ⟨n, hn, hx⟩
      rw [zf, Bool.and_eq_true] at hn
      rw [if_pos (of_decide_eq_true hn.1)]
      have : n = 0 := of_decide_eq_true hn.2
      subst this
      rw [hx]; simp
  | D + 1, id, it, hD, h0, hl, hit, x => by
    have e24 : 24 - D = 24 - (D + 1) + 1 := by omega
    have e23 : 23 - D = 24 - (D + 1) := by omega
    have hp : 2 ^ (24 - D) = 2 ^ (24 - (D + 1)) + 2 ^ (24 - (D + 1)) := by rw [e24, Nat.pow_succ]; omega
    rcases z_kind hV h0 hl with ⟨nd, hn, he, l0, l1, l2, l3⟩ | ⟨hs, hl2⟩
    · rw [trav_node hn he, List.mem_append, e23, or_pow hit, trav_mem hV D nd.2.1 it (by omega) l0 l2 (by omega), trav_mem hV D nd.2.2 _ (by omega) l1 l3 (by omega), hp]
      constructor
      · rintro (⟨n, h1, h2⟩ | ⟨n, h1, h2⟩)
        · exact ⟨2 * n, by rw [zf_node hn he, if_neg (by omega), show 2 * n / 2 = n by omega]; exact h1, by rw [h2, Nat.mul_comm 2 n, Nat.mul_assoc]; congr 2; omega⟩
        · exact ⟨2 * n + 1, by rw [zf_node hn he, if_pos (by omega), show (2 * n + 1) / 2 = n by omega]; exact h1, by rw [h2, Nat.add_mul, Nat.one_mul, Nat.mul_comm 2 n, Nat.mul_assoc, Nat.two_mul, Nat.mul_add]; omega⟩
      · rintro ⟨n, h1, h2⟩
        rw [zf_node hn he] at h1
        by_cases hodd : n % 2 = 1
        · rw [if_pos hodd] at h1
          refine .inr ⟨n / 2, h1, ?_⟩
          rw [h2, Nat.mul_add]
          have : n = n / 2 + n / 2 + 1 := by omega
          generalize n / 2 = m at *
          rw [this, Nat.add_mul, Nat.add_mul, Nat.one_mul]
          omega
        · rw [if_neg hodd] at h1
          refine .inl ⟨n / 2, h1, ?_⟩
          rw [h2, Nat.mul_add]
          have : n = n / 2 + n / 2 := by omega
          generalize n / 2 = m at *
          rw [this, Nat.add_mul]
    · rw [trav_skip hs, trav_mem hV D id it (by omega) h0 hl2 (by omega), hp]
      constructor
      · rintro ⟨n, h1, h2⟩
        exact ⟨2 * n, by rw [zf_skip hs, show 2 * n / 2 = n by omega, h1, decide_eq_true (by omega)]; rfl, by rw [h2, Nat.mul_comm 2 n, Nat.mul_assoc]; congr 2; omega⟩
      · rintro ⟨n, h1, h2⟩
        rw [zf_skip hs, Bool.and_eq_true] at h1
        have hev : n % 2 = 0 := of_decide_eq_true h1.1
        refine ⟨n / 2, h1.2, ?_⟩
        rw [h2, Nat.mul_add]
        have : n = n / 2 + n / 2 := by omega
        generalize n / 2 = m at *
        rw [this, Nat.add_mul]
theorem trav_nodup {S : St} (hV : VSt S) : ∀ (D : Nat) (id : Int) (it : Nat), D ≤ 24 → 0 ≤ lvl S id → 24 ≤ lvl S id + D → it < 2 ^ (24 - D) → (trav S D id it).Nodup ∧ (trav S D id it).length = zc S D id
  | 0, id, it, _, _, hl, _ => by
    rw [trav]
    unfold zc
    rw [cF]
    rcases z_end hV hl with e | e
    · subst e
      rw [if_neg (by decide), zf]
      exact ⟨List.nodup_nil, rfl⟩
    · subst e
      rw [if_pos rfl, zf]
      exact ⟨by simp, rfl⟩
  | D + 1, id, it, hD, h0, hl, hit => by
    have e24 : 24 - D = 24 - (D + 1) + 1 := by omega
    have e23 : 23 - D = 24 - (D + 1) := by omega
    have hp : 2 ^ (24 - D) = 2 ^ (24 - (D + 1)) + 2 ^ (24 - (D + 1)) := by rw [e24, Nat.pow_succ]; omega
    have hpos := Nat.two_pow_pos (24 - (D + 1))
    rcases z_kind hV h0 hl with ⟨nd, hn, he, l0, l1, l2, l3⟩ | ⟨hs, hl2⟩
    · rw [trav_node hn he, zc_node hn he, e23, or_pow hit]
      obtain ⟨n0, c0⟩ := trav_nodup hV D nd.2.1 it (by omega) l0 l2 (by omega)
      obtain ⟨n1, c1⟩ := trav_nodup hV D nd.2.2 (it + 2 ^ (24 - (D + 1))) (by omega) l1 l3 (by omega)
      refine ⟨List.nodup_append.2 ⟨n0, n1, fun a ha b hb e => ?_⟩, by rw [List.length_append, c0, c1]⟩
      rw [trav_mem hV D nd.2.1 it (by omega) l0 l2 (by omega)] at ha
      rw [trav_mem hV D nd.2.2 _ (by omega) l1 l3 (by omega)] at hb
      obtain ⟨n, -, h1⟩ := ha
      obtain ⟨m, -, h2⟩ := hb
      rw [h1, h2] at e
      have q1 : (it + n * 2 ^ (24 - D)) % 2 ^ (24 - D) = it := by rw [Nat.add_mul_mod_self_right, Nat.mod_eq_of_lt (by omega)]
      have q2 : (it + 2 ^ (24 - (D + 1)) + m * 2 ^ (24 - D)) % 2 ^ (24 - D) = it + 2 ^ (24 - (D + 1)) := by rw [Nat.add_mul_mod_self_right, Nat.mod_eq_of_lt (by omega)]
      rw [e, q2] at q1
      omega
    · rw [trav_skip hs, zc_skip hs]
      exact trav_nodup hV D id it (by omega) h0 hl2 (by omega)
/-! ### The closure -/
def LsAt (w : World) (B bx : Nat) (L : List Nat) : Prop := ∃ A c, w.heap[bx]? = some (.cells #[.slice A L.length c] 36 (0, 0)) ∧ w.ownsRow B 3 1 (.slice A L.length c) L.length (intsV L)
set_option maxHeartbeats 1000000 in
set_option maxRecDepth 100000 in
theorem zlist1_any {w : World} {B bx : Nat} {L : List Nat} (m : Nat) (h : LsAt w B bx L) (hB : B ≤ w.heap.size) (hbx : B ≤ bx) (hL : L.length ≤ 1000000) :
    Calls Tryz.prog 35 #[.int .i64 m, .pointer (some ⟨bx, 0, none⟩)] w fun e w' => e = .returned (.tuple #[]) ∧ LsAt w' B bx (L ++ [m]) ∧ Below B w w' := by
  obtain ⟨A, c, hb, hrow⟩ := h
  obtain ⟨i0, hi0, hz0, hz1, hz2⟩ := info_parts Tryz.infoInt
  obtain ⟨b0, -⟩ := nowz1 hb rfl
  have hbl := size_of_block hb
  go_enter Tryz.func35, Tryz.ntmps35
  go_wp2_with (at_builtin; refine wpList_append_own_at _ rfl _ _ 36 rfl B 3 i0 (.int .i64 0) 1 8 Tryz.underlying36 hi0 hz0 hz1 hz2 rfl (by decide) _ _ _ rfl (hrow.alloc _) ⟨w.heap.size, 0, none⟩ 1 1 [.int .i64 (m : Int)] rfl rfl one_news one_cell ?c3 ?c4 ?c5 ?_)
  case c3 => unfold maxLen; omega
  case c4 => omega
  case c5 => simp; omega
  intro v' w8 ho8 hg8 _ hloc
  have hnb : (Value.slice A L.length c).ownBlock ≠ some bx := own_ne hrow hb (by decide)
  have hb8 : w8.heap[bx]? = some (.cells #[.slice A L.length c] 36 (0, 0)) := (hg8.block bx (by simp; omega) (fun e => hnb e.symm)).trans ((Below.heap_alloc _ _ _ hbl).trans hb)
  have hB8 : Below B w w8 := (((Below.refl B w).alloc hB _).grown hg8 (by simp; omega) (fun k hk => (hrow.lt k hk).1))
  obtain ⟨A', c', rfl⟩ := own_form8 ho8
  have hrr : w8.ownsRow B 3 1 (.slice A' (L ++ [m]).length c') (L ++ [m]).length (intsV (L ++ [m])) := by
    have e : intsV (L ++ [m]) = intsV L ++ [.int .i64 (m : Int)] := by unfold intsV; rw [List.map_append]; rfl
    rw [e, List.length_append]
    exact ho8
  have hne8 := own_ne hrr hb8 (by decide)
  have hfin : (w8.setCell ⟨bx, 0, none⟩ (.slice A' (L ++ [m]).length c')).heap[bx]? = some (.cells #[.slice A' (L ++ [m]).length c'] 36 (0, 0)) := by rw [block_setCell hb8]; rfl
  have hrr2 := Lib.hid (own_set hrr hne8 0 (.slice A' (L ++ [m]).length c'))
  have hBf := hB8.setCell (p := ⟨bx, 0, none⟩) hbx (.slice A' (L ++ [m]).length c')
  obtain ⟨y0, yf⟩ := nowz1 hb8 rfl
  clear hrr hb8 hB8 ho8 hg8 hloc hrow hb b0
  rw [List.length_append, List.length_singleton] at hfin hBf
  have hrr3 := hrr2
  rw [List.length_append, List.length_singleton] at hrr3
  go_wp2
  go_end0
  exact ⟨rfl, ⟨A', c', by rw [List.length_append, List.length_singleton]; exact hfin, by rw [List.length_append, List.length_singleton]; exact hrr3.out⟩, hBf⟩
theorem or_ofz (p i : Nat) (hp : p < 16777216) (hi : i < 24) : bits BinOp.or IntKind.i64 (p : Int) (wrap64 ((2 : Int) ^ i)) = ((p ||| 2 ^ i : Nat) : Int) := by
  have h2 := two24 (k := i) (by omega)
  have e : wrap64 ((2 : Int) ^ i) = ((2 ^ i : Nat) : Int) := by
    have e : ((2 : Int) ^ i) = ((2 ^ i : Nat) : Int) := by simp
    rw [e]
    generalize 2 ^ i = m at h2
    unfold wrap64
    omega
  rw [e]
  have := i64_nat true p (2 ^ i) (by omega) (by generalize 2 ^ i = m at h2; omega)
  simpa using this
def EachOk (S : St) (D : Nat) : Prop := ∀ {N : Nat → Prop} {w0 w : World} {zb ab bm bx : Nat} {v : Value} {room full : Nat} {L : List Nat}, ZdAt w0 N zb ab bm v room full S → Below w0.heap.size w0 w → LsAt w w0.heap.size bx L → w0.heap.size ≤ bx →
  ∀ (f : Int) (it : Nat), 0 ≤ lvl S f → 24 ≤ lvl S f + D → D ≤ 24 → it < 2 ^ (24 - D) → L.length + zn S f ≤ 100000 →
  Calls Tryz.prog 34 #[.pointer (some ⟨zb, 0, none⟩), .int .i64 f, .int .i64 it, .func (.func 35) #[] #[.pointer (some ⟨bx, 0, none⟩)]] w
    fun e w' => e = .returned (.tuple #[]) ∧ LsAt w' w0.heap.size bx (L ++ trav S D f it) ∧ Below w0.heap.size w0 w'
theorem trav_lower {S : St} {f : Int} {D : Nat} (hl : 24 ≤ lvl S f + D) (it : Nat) : ∀ d, trav S (D + d) f it = trav S D f it
  | 0 => rfl
  | d + 1 => by rw [show D + (d + 1) = (D + d) + 1 by omega, trav_skip (by omega), trav_lower hl it d]
set_option maxHeartbeats 4000000 in
set_option maxRecDepth 100000 in
theorem zeach_step {S : St} (D : Nat) (IH : ∀ j, j < D → EachOk S j) : EachOk S D := by
  intro N w0 w zb ab bm bx v room full L hd hb hL hbx f it f0 fk hk hit hlen
  have hdw := hd.below hb
  have HN := node_any hdw.ar hd.max f
  obtain ⟨z0, -⟩ := nowz1 hdw.head rfl
  cases hn : ndAt S f with
  | none =>
    rw [hn] at HN
    unfold ndT at HN
    have he : f = 0 ∨ f = 1 := by
      by_cases h : f = 0 ∨ f = 1
      · exact h
      · rw [lvl_not h hn] at f0; omega
    have htr : Hid (trav S D f it = if f = 1 then [it] else []) := Lib.hid (by
      have h24 : lvl S f = 24 := lvl_end he
      have h0 := trav_lower (S := S) (f := f) (D := 0) (by omega) it D
      rw [Nat.zero_add] at h0
      rw [h0, trav])
    rcases he with rfl | rfl
    · go_enter Tryz.func34, Tryz.ntmps34
      go_wp2_with fail
      refine HN.mono ?_
      rintro e w1 ⟨rfl, hb1⟩
      have hL1 : LsAt w1 w0.heap.size bx (L ++ trav S D 0 it) := by
        rw [htr.out, if_neg (by decide), List.append_nil]
        obtain ⟨A, c, h1, h2⟩ := hL
        exact ⟨A, c, keep_blk hb1 h1, owns_below h2 hb1⟩
      clear HN z0 hL
      go_wp2
      go_end0
      exact ⟨rfl, hL1, hb.trans (hb1.mono hb.size)⟩
    · go_enter Tryz.func34, Tryz.ntmps34
      go_wp2_with fail
      refine HN.mono ?_
      rintro e w1 ⟨rfl, hb1⟩
      have hb' := hb.trans (hb1.mono hb.size)
      have hL1 : LsAt w1 w0.heap.size bx L := by
        obtain ⟨A, c, h1, h2⟩ := hL
        exact ⟨A, c, keep_blk hb1 h1, owns_below h2 hb1⟩
      have HC := zlist1_any it hL1 hb'.size hbx (by omega)
      clear HN z0 hL hL1
      go_wp2_with fail
      refine HC.mono ?_
      rintro e w2 ⟨rfl, hL2, hb2⟩
      have hL3 : LsAt w2 w0.heap.size bx (L ++ trav S D 1 it) := by rw [htr.out]; first | (rw [if_pos rfl]; exact hL2) | (rw [if_pos trivial]; exact hL2)
      clear HC hL2
      go_wp2
      go_end0
      exact ⟨rfl, hL3, hb'.trans hb2⟩
  | some nd =>
    rw [hn] at HN
    unfold ndT at HN
    have hV := hd.zst.vst
    obtain ⟨⟨k0, k1⟩, k2, k3⟩ := kids_lvl hV hn
    have hl := lvl_node hn
    have hzn := zn_node hV hn
    obtain ⟨j, hj⟩ : ∃ j : Nat, nd.1 + (j + 1 : Nat) = 24 := ⟨(23 - nd.1).toNat, by omega⟩
    obtain ⟨q, hq⟩ : ∃ q : Nat, nd.1 = (q : Int) := ⟨nd.1.toNat, by omega⟩
    have hq24 : q < 24 := by omega
    have hqj : q = 23 - j := by omega
    have hpow : 2 ^ (24 - D) ≤ 2 ^ q := Nat.pow_le_pow_right (by decide) (by omega)
    have hit2 : it < 2 ^ q := by omega
    have hit3 : it < 16777216 := Nat.lt_of_lt_of_le hit2 (two24 (by omega))
    have hor := or_ofz it q hit3 hq24
    have hor2 : it ||| 2 ^ q < 2 ^ (24 - j) := by
      rw [or_pow hit2, show 24 - j = q + 1 by omega, Nat.pow_succ]; omega
    have htr : Hid (trav S D f it = trav S j nd.2.1 it ++ trav S j nd.2.2 (it ||| 2 ^ q)) := Lib.hid (by
      obtain ⟨d, rfl⟩ : ∃ d, D = (j + 1) + d := ⟨D - (j + 1), by omega⟩
      rw [trav_lower (by omega), trav_node hn (by omega), hqj])
    have hlc : (trav S j nd.2.1 it).length = zn S nd.2.1 := by
      rw [(trav_nodup hV j nd.2.1 it (by omega) (by omega) (by omega) (by rw [show 24 - j = q + 1 by omega, Nat.pow_succ]; omega)).2, zn_eq (by omega) (by omega)]
    dsimp only at HN
    rw [hq] at HN
    clear hqj
    go_enter Tryz.func34, Tryz.ntmps34
    go_wp2_with fail
    refine HN.mono ?_
    rintro e w1 ⟨rfl, hb1⟩
    have hb' := hb.trans (hb1.mono hb.size)
    have hL1 : LsAt w1 w0.heap.size bx L := by
      obtain ⟨A, c, h1, h2⟩ := hL
      exact ⟨A, c, keep_blk hb1 h1, owns_below h2 hb1⟩
    have H1 := IH j (by omega) hd hb' hL1 hbx nd.2.1 it (by omega) (by omega) (by omega) (by rw [show 24 - j = q + 1 by omega, Nat.pow_succ]; omega) (by omega)
    clear HN z0 hL hL1
    go_wp2_with fail
    refine H1.mono ?_
    rintro e w2 ⟨rfl, hL2, hb2⟩
    have H2 := IH j (by omega) hd hb2 hL2 hbx nd.2.2 (it ||| 2 ^ q) (by omega) (by omega) (by omega) hor2 (by rw [List.length_append, hlc]; omega)
    clear H1 hL2 hpow
    go_wp2_with fail
    refine H2.mono ?_
    rintro e w3 ⟨rfl, hL3, hb3⟩
    have hL4 : LsAt w3 w0.heap.size bx (L ++ trav S D f it) := by rw [htr.out, ← List.append_assoc]; exact hL3
    clear H2 hL3
    go_wp2
    go_end0
    exact ⟨rfl, hL4, hb3⟩
theorem zeach_any {S : St} (D : Nat) : EachOk S D := by
  induction D using Nat.strongRecOn with
  | _ D ih => exact zeach_step D ih
open Go.Sort

theorem zn_max (S : St) (id : Int) : zn S id ≤ 16777216 := by
  rw [zn_def]
  show cF 24 _ ≤ _
  rw [← cF_count]
  exact Nat.le_trans List.countP_le_length (by rw [List.length_range]; decide)
set_option maxHeartbeats 1000000 in
set_option maxRecDepth 100000 in
theorem zCount_any {N : Nat → Prop} {w : World} {zb ab bm : Nat} {v : Value} {room full : Nat} {S : St} (h : ZdAt w N zb ab bm v room full S) (f : Int) (f0 : 0 ≤ lvl S f) :
    Calls Tryz.prog 14 #[.pointer (some ⟨zb, 0, none⟩), .int .i64 f] w fun e w' => e = .returned (.int .i64 (zn S f : Int)) ∧ Below w.heap.size w w' := by
  have hmm := @run_makeMap Tryz.prog
  have hB1 := below_alloc1 w (.cells #[.int .i64 f] 3 (0, 0))
  have hU := zuses_any (h.below hB1) w.heap.size 1 [f] (by simp) (fun j x hj => by
    match j, hj with
    | 0, hj => simp at hj; subst hj; rw [cell_of_block (heap_alloc_new _ _)]; rfl)
  simp only [List.length_cons, List.length_nil, List.all_cons, List.all_nil, used8 f0, Bool.and_true, Nat.zero_add] at hU
  have q0 := zn_zero S
  have q1 := zn_one S
  have q2 := zn_max S f
  go_enter Tryz.func14, Tryz.ntmps14
  go_wp2_with fail
  refine hU.mono ?_
  rintro e w2 ⟨rfl, hb2⟩
  have hB2 := hB1.trans (hb2.mono hB1.size)
  have hd2 := h.below hB2
  have hB3 := hB2.trans ((below_alloc1 w2 (.map #[] 0)).mono hB2.size)
  have hI := CntI.made w2 S
  have hd3 := hd2.below (below_alloc1 w2 (.map #[] 0))
  have hbm : bm < w2.heap.size := hd2.ar.fp_lt _ (by unfold Fp; exact .inr (.inl rfl))
  clear hU hB1 hd2 h
  obtain ⟨w4, hrun4, hI4, ht4⟩ := hI.store (id := 0) (by omega) (by decide) (by rw [lvl_end (.inl rfl)]; decide) (by omega)
  have hd4 := hd3.turned ht4 (by omega)
  have ho4 := (Off.of_below hB3 : Off (· = w2.heap.size) w _).grown ht4.grown (.inl rfl)
  obtain ⟨w5, hrun5, hI5, ht5⟩ := hI4.store (id := 1) (by omega) (by decide) (by rw [lvl_end (.inr rfl)]; decide) (by omega)
  have hd5 := hd4.turned ht5 (by omega)
  have ho5 := ho4.grown ht5.grown (.inl rfl)
  have q0' : ((zn S 0 : Nat) : Int) = 0 := by omega
  have q1' : ((zn S 1 : Nat) : Int) = 1 := by omega
  rw [q0'] at hrun4
  rw [q1'] at hrun5
  have hC := hI5.cnt (.inl (.inr rfl)) (.inr rfl)
  have HC := zcount_any 24 hd5 hC (by omega) f f0 (by omega) (by omega) (by omega) (by omega)
  clear hI4 hI5 hd4 hd5 ht5 ht4 hC hd3 hI q0' q1' q0 q1 hB3 ho4
  go_wp2_with fail
  refine HC.mono ?_
  rintro e w6 ⟨rfl, hC6, hd6, ho6⟩
  clear HC
  go_wp2
  go_ret
  exact ⟨rfl, (ho5.then ho6).below (Nat.le_refl _) (fun k hk => by subst hk; exact hB2.size)⟩
/-! ### Sort, List -/
/-- Of numbers: sorted, each once. -/
theorem sort_nI {L : List Nat} (hd : L.Nodup) : ∃ M : List Nat, (nI L).mergeSort (fun x y => decide (x ≤ y)) = nI M ∧ srtN M ∧ (∀ x, x ∈ M ↔ x ∈ L) ∧ M.length = L.length := by
  have hp := List.mergeSort_perm (nI L) (fun x y => decide (x ≤ y))
  have hs := List.pairwise_mergeSort (le := fun x y : Int => decide (x ≤ y)) (fun a b c h1 h2 => by simp at *; omega) (fun a b => by simp; omega) (nI L)
  generalize (nI L).mergeSort (fun x y => decide (x ≤ y)) = Z at hp hs
  have hm : ∀ x ∈ Z, ∃ n : Nat, x = (n : Int) := fun x hx => by
    have := hp.mem_iff.1 hx
    unfold nI at this
    obtain ⟨n, -, e⟩ := List.mem_map.1 this
    exact ⟨n, e.symm⟩
  obtain ⟨M, rfl⟩ : ∃ M, Z = nI M := ⟨Z.map Int.toNat, by
    unfold nI
    rw [List.map_map]
    conv => lhs; rw [← List.map_id Z]
    refine List.map_congr_left fun x hx => ?_
    obtain ⟨n, rfl⟩ := hm x hx
    rfl⟩
  have hL : (nI L).Nodup := by
    unfold nI
    rw [List.nodup_iff_pairwise_ne, List.pairwise_map]
    rw [List.nodup_iff_pairwise_ne] at hd
    exact List.Pairwise.imp (fun h e => h (by omega)) hd
  have hM : (nI M).Nodup := hp.nodup_iff.2 hL
  refine ⟨M, rfl, ?_, fun x => ?_, ?_⟩
  · unfold srtN
    unfold nI at hs hM
    rw [List.nodup_iff_pairwise_ne, List.pairwise_map] at hM
    rw [List.pairwise_map] at hs
    refine List.Pairwise.imp ?_ (List.Pairwise.and hs hM)
    rintro a b ⟨h1, h2⟩
    have := of_decide_eq_true h1
    omega
  · have h1 := hp.mem_iff (a := (x : Int))
    unfold nI at h1
    have q : ∀ R : List Nat, ((x : Int) ∈ R.map fun i : Nat => (i : Int)) ↔ x ∈ R := fun R => ⟨fun hx => by obtain ⟨a, ha, e⟩ := List.mem_map.1 hx; have e : a = x := by omega
                                                                                                            exact e ▸ ha, fun hx => List.mem_map.2 ⟨x, hx, rfl⟩⟩
    rwa [q, q] at h1
  · have := hp.length_eq
    rw [nI_len, nI_len] at this
    exact this
set_option maxRecDepth 100000 in
theorem zsort_any {w : World} {B : Nat} {L : List Nat} {A : Option Addr} {c : Nat} (h : w.ownsRow B 3 1 (.slice A L.length c) L.length (intsV L)) (hB : B ≤ w.heap.size) (hd : L.Nodup) (hl : L.length ≤ 1000000) :
    Calls Tryz.prog 36 #[.slice A L.length c] w fun e w' => e = .returned (.tuple #[]) ∧ (∃ M : List Nat, srtN M ∧ (∀ x, x ∈ M ↔ x ∈ L) ∧ M.length = L.length ∧ w'.ownsRow B 3 1 (.slice A L.length c) M.length (intsV M)) ∧ Below B w w' ∧ (∀ k, k < w.heap.size → (Value.slice A L.length c).ownBlock ≠ some k → w'.heap[k]? = w.heap[k]?) := by
  obtain ⟨M, hM, hs, hmem, hlen⟩ := sort_nI hd
  obtain ⟨h1, h2⟩ := h
  rcases h2 with ⟨e0, h0⟩ | ⟨g, cap, cur, hv, hg, hb, hn, hcap, hsz, htk⟩
  · injection e0 with e1 e2 e3
    subst e1
    have : L = [] := List.length_eq_zero_iff.1 e2
    subst this
    refine (Tryz.slices_Sort_int_none none c w).mono ?_
    rintro e w' ⟨rfl, rfl⟩
    subst e3
    exact ⟨rfl, ⟨[], List.Pairwise.nil, fun x => Iff.rfl, rfl, World.ownsRow_nil _ _ _ _⟩, Below.refl _ _, fun _ _ _ => rfl⟩
  · injection hv with e1 e2 e3
    subst e1
    subst e3
    have hH : Holds (Value.int .i64) w g 0 (nI L).toArray := holds_of_blockI hb (by rw [nI_len, ← intsV_nI, ← htk, Nat.mul_one])
    have hSrt := Tryz.slices_Sort_int g 0 c (nI L) w hH (size_of_block hb) (by rw [nI_len]; omega)
    rw [nI_len] at hSrt
    refine hSrt.mono ?_
    rintro e w' ⟨rfl, n, os, rfl⟩
    rw [hM]
    have hown := ownsRow_sortedI (n := n) (os := os) (ss := nI L) (ts := nI M) (by rw [nI_len, nI_len, hlen]) hg hb (by rw [nI_len]; exact hn) hcap hsz
    rw [nI_len, ← intsV_nI] at hown
    have hgr := grownBy_sortedI (w := w) (g := g) (n := n) (os := os) (nI M).toArray
    exact ⟨rfl, ⟨M, hs, hmem, hlen, by rw [hlen]; exact hown⟩, (Below.refl B w).grown hgr hB (by intro k hk; injection hk with hk; omega), fun k hk hne => hgr.block k hk (fun e => hne e.symm)⟩
/-- A slice whose block is new. -/
def FreshV (B : Nat) (v : Value) : Prop := ∀ g, v.ownBlock = some g → B ≤ g
/-- The members of an id as a row. -/
def famR (S : St) (f : Int) : List Nat := famL 24 (zf S 24 f)
set_option maxHeartbeats 2000000 in
set_option maxRecDepth 100000 in
theorem zList_any {N : Nat → Prop} {w : World} {zb ab bm : Nat} {v : Value} {room full : Nat} {S : St} (h : ZdAt w N zb ab bm v room full S) (f : Int) (f0 : 0 ≤ lvl S f) (hz : zn S f ≤ 100000) :
    Calls Tryz.prog 11 #[.pointer (some ⟨zb, 0, none⟩), .int .i64 f] w fun e w' => ∃ u, e = .returned (.tuple #[u, .int .i64 0]) ∧ IntsAt w' w'.heap.size u (nI (famR S f)) ∧ FreshV w.heap.size u ∧ Below w.heap.size w w' := by
  have hB1 := below_alloc1 w (.cells #[.int .i64 f] 3 (0, 0))
  have hU := zuses_any (h.below hB1) w.heap.size 1 [f] (by simp) (fun j x hj => by
    match j, hj with
    | 0, hj => simp at hj; subst hj; rw [cell_of_block (heap_alloc_new _ _)]; rfl)
  simp only [List.length_cons, List.length_nil, List.all_cons, List.all_nil, used8 f0, Bool.and_true, Nat.zero_add] at hU
  go_enter Tryz.func11, Tryz.ntmps11
  go_wp2_with fail
  refine hU.mono ?_
  rintro e w2 ⟨rfl, hb2⟩
  have hB2 := hB1.trans (hb2.mono hB1.size)
  have hd2 := h.below hB2
  have HC := zCount_any hd2 f f0
  clear hU hB1 hb2
  go_wp2_with fail
  refine HC.mono ?_
  rintro e w3 ⟨rfl, hb3⟩
  have hB3 := hB2.trans (hb3.mono hB2.size)
  have hd3 := hd2.below hb3
  clear HC hb3 hd2 hB2
  obtain ⟨i0, hi0, hz0, hz1, hz2⟩ := info_parts Tryz.infoInt
  obtain ⟨w4, hmk, hown4, hg4⟩ := run_make_own (P := Tryz.prog) (w := w3) w.heap.size 36 3 i0 (.int .i64 0) 1 Tryz.underlying36 hi0 hz0 hz1 .i64 .i64 (zn S f) (by rw [hz2]; omega) (by unfold maxLen; omega) hB3.size
  have hb4 : Below w3.heap.size w3 w4 := (Below.refl _ w3).grown hg4 (Nat.le_refl _) (by simp)
  have hB4 := hB3.trans (hb4.mono hB3.size)
  have hd4 := hd3.below hb4
  have hL5 : LsAt (w4.alloc (.cells #[.slice (some ⟨w3.heap.size, 0, none⟩) 0 (zn S f)] 36 (0, 0))) w.heap.size w4.heap.size [] := ⟨_, _, heap_alloc_new _ _, hown4.alloc _⟩
  clear hi0 hz0 hz1 hz2 hown4 hg4 hb4 hd3 hB3
  have hB5 := hB4.alloc hB4.size (.cells #[.slice (some ⟨w3.heap.size, 0, none⟩) 0 (zn S f)] 36 (0, 0))
  have HE := zeach_any 24 h hB5 hL5 hB4.size f 0 f0 (by omega) (Nat.le_refl _) (by decide) (by rw [List.length_nil]; omega)
  rw [show ((0 : Nat) : Int) = 0 from rfl, List.nil_append] at HE
  have hV := h.zst.vst
  obtain ⟨hnd, hlc⟩ := trav_nodup hV 24 f 0 (Nat.le_refl _) f0 (by omega) (by decide)
  rw [← zn_def] at hlc
  have hmem := trav_mem hV 24 f 0 (Nat.le_refl _) f0 (by omega) (by decide)
  have hA := Lib.hid (And.intro hnd (And.intro hlc hmem))
  clear hnd hlc hmem hV hd4 hL5 hB5 hB4
  go_wp2_with fail
  refine HE.mono ?_
  rintro e w6 ⟨rfl, ⟨A, c, hb6, hr6⟩, hB6⟩
  obtain ⟨r6, -⟩ := nowz1 hb6 rfl
  obtain ⟨hnd, hlc, hmem⟩ := hA.out
  have HS := zsort_any hr6 hB6.size hnd (by rw [hlc]; omega)
  have hne := own_ne hr6 hb6 (by decide)
  have hbl6 := size_of_block hb6
  clear HE hnd hlc hmem hr6
  go_wp2_with fail
  refine HS.mono ?_
  rintro e w7 ⟨rfl, ⟨M, m1, m2, m3, m4⟩, hB7, hk7⟩
  have hb7 := (hk7 _ hbl6 hne).trans hb6
  obtain ⟨r7, -⟩ := nowz1 hb7 rfl
  clear HS hb6 r6 hk7
  go_wp2
  go_ret2
  have hM : famR S f = M := famL_eq m1 fun x => by
    obtain ⟨-, -, hmem⟩ := hA.out
    rw [m2, hmem]
    constructor
    · rintro ⟨n, h1, h2⟩
      obtain rfl : x = n := by omega
      exact ⟨zf_lt 24 f _ h1, h1⟩
    · rintro ⟨h1, h2⟩
      exact ⟨x, h2, by omega⟩
  refine ⟨.slice A (trav S 24 f 0).length c, rfl, ?_, fun g hg => (m4.lt g hg).1, hB6.trans hB7⟩
  rw [hM]
  exact own_nI m4
end Go.Proofs.YtehpccanjlaokaaGreat
