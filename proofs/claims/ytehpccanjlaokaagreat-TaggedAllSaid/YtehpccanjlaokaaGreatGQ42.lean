/- Maps keyed by cubes, with counts: what is read, counted up, ranged over. Package prime: the first level. -/
import Derived.Test.YtehpccanjlaokaaGreatGQ39
import Derived.Test.YtehpccanjlaokaaGreatGQ10
import Derived.Maps.RangeWalk
import Derived.Maps.OwnOps
import Derived.WideKeyEntry
import Derived.Deep.RegionHeld3
namespace Go.Proofs.YtehpccanjlaokaaGreat
open Go.RowKit Go.Joins
open Go.Maps (Keyed)
open Go.ChangeMaps (setBlock)

def klC (m v : BitVec 8) : Lit := .string (keyBytes [.int .u8 m.toNat, .int .u8 v.toNat])
theorem Tryz.keyCube : Tryz.prog.keyType 57 = true := by kernel_rfl
theorem Tryz.cellsCubeM : Tryz.prog.cellsOf 57 = 2 := by kernel_rfl
theorem Tryz.cellsU8 : Tryz.prog.cellsOf 5 = 1 := by kernel_rfl
theorem wf_u8 (b : BitVec 8) : (Lit.int .u8 (b.toNat : Int)).wf = true := by
  have := b.isLt
  have e1 : IntKind.u8.min = 0 := by rfl
  have e2 : IntKind.u8.max = 255 := by rfl
  simp [Lit.wf, e1, e2]
  omega
theorem key_cb (m v : BitVec 8) : keyOf Tryz.prog 57 (cv m v) = some (klC m v) := by
  have hm : ∃ m, Tryz.prog.types.size = m + 1 := ⟨Tryz.prog.types.size - 1, by have : 0 < Tryz.prog.types.size := of_decide_eq_true (by kernel_rfl); omega⟩
  obtain ⟨k, hk⟩ := hm
  unfold keyOf cv bvv
  simp only [Tryz.underlying57]
  rw [if_pos (by simp [Tryz.keyCube, Value.formed, Tryz.underlying57, Tryz.cellsCubeM]), hk]
  unfold Program.keyLits
  simp [Tryz.underlying57, Tryz.cellsCubeM, Value.cells, Program.keyLits, Tryz.underlying5, Tryz.cellsU8, wf_u8, klC]
theorem Tryz.cubeLaw : Go.WideMaps.KeyLaw Tryz.prog 57 := deep_law_laid Tryz.laidOut (m := 3) (by omega) (of_decide_eq_true (by kernel_rfl)) (by kernel_rfl) (by kernel_rfl)
theorem Tryz.cubeKeyed : Keyed Tryz.prog 57 := Keyed.of_law Tryz.cubeLaw
theorem klC_inj {m v m' v' : BitVec 8} (h : klC m v = klC m' v') : m = m' ∧ v = v' := by
  have e := Tryz.cubeKeyed.inj (key_cb m v) (h ▸ key_cb m' v')
  unfold cv bvv at e
  simp at e
  exact ⟨BitVec.eq_of_toNat_eq (by exact_mod_cast e.1), BitVec.eq_of_toNat_eq (by exact_mod_cast e.2)⟩
theorem isKey_cb (m v : BitVec 8) : WideAt.IsKeyLit (klC m v) := Tryz.cubeKeyed.key (key_cb m v)
theorem u8_inv {n : Int} (h : (Lit.int .u8 n).wf = true) : ∃ b : BitVec 8, n = b.toNat := by
  have e1 : IntKind.u8.min = 0 := by rfl
  have e2 : IntKind.u8.max = 255 := by rfl
  simp [Lit.wf, e1, e2] at h
  exact ⟨BitVec.ofNat 8 n.toNat, by rw [BitVec.toNat_ofNat]; omega⟩
set_option maxRecDepth 100000 in
/-- What is a key is a cube. -/
theorem key_inv {key : Value} {kl : Lit} (h : keyOf Tryz.prog 57 key = some kl) : ∃ m v, key = cv m v ∧ kl = klC m v := by
  have hm : ∃ m, Tryz.prog.types.size = m + 1 := ⟨Tryz.prog.types.size - 1, by have : 0 < Tryz.prog.types.size := of_decide_eq_true (by kernel_rfl); omega⟩
  obtain ⟨k, hk⟩ := hm
  have h0 := h
  unfold keyOf at h
  simp only [Tryz.underlying57] at h
  split at h
  · rename_i hf
    cases key <;> simp [Value.formed, Tryz.underlying57, Tryz.cellsCubeM] at hf
    rename_i cs
    obtain ⟨a, b, rfl⟩ : ∃ a b, cs = #[a, b] := by
      obtain ⟨l⟩ := cs
      match l, hf.2 with
      | [a, b], _ => exact ⟨a, b, rfl⟩
    rw [hk] at h
    unfold Program.keyLits at h
    cases a <;> cases b <;> simp [Tryz.underlying57, Tryz.cellsCubeM, Value.cells, Program.keyLits, Tryz.underlying5, Tryz.cellsU8] at h
    rename_i k1 n1 k2 n2
    by_cases c1 : k1 = IntKind.u8 ∧ (Lit.int IntKind.u8 n1).wf = true
    · by_cases c2 : k2 = IntKind.u8 ∧ (Lit.int IntKind.u8 n2).wf = true
      · obtain ⟨rfl, w1⟩ := c1
        obtain ⟨rfl, w2⟩ := c2
        obtain ⟨m, rfl⟩ := u8_inv w1
        obtain ⟨v, rfl⟩ := u8_inv w2
        have e := key_cb m v
        unfold cv bvv at e
        rw [e] at h0
        injection h0 with h0
        exact ⟨m, v, rfl, h0.symm⟩
      · rw [if_pos c1, if_neg c2] at h
        simp at h
    · rw [if_neg c1] at h
      simp at h
  · cases h
/-- 'm[k]++' writes in two steps: the entry, then its count. A look-up between the two answers as ahead of them. -/
theorem entry_two {P : Program} {w : World} {t k e : TypeId} {b n : Nat} {D : DataW Unit} (K : Go.WideMaps.KeyLaw P k) (ht : P.underlying t = some (.map k e)) (he : P.underlying e = some (.int .i64)) (hz : ∀ u : World, (zeroValue e).run P u = .ok (.int .i64 0) u)
    (h : w.ownsMap P k (plainElem P e) b n D) (hn : n < maxLen) {key : Value} {kl : Lit} (hkey : keyOf P k key = some kl) :
    ∃ (c : Int) (v0 : Value) (st : Nat) (w1 : World), D.atKey kl (.lit (.int .i64 0)) = .lit (.int .i64 c) ∧ (Instr.lookup t (.map (some b)) key false).run P w = .ok (.int .i64 c) w ∧
      (Instr.mapEntry t (.map (some b)) key).run P w = .ok (.tuple #[v0, goInt st]) w1 ∧ (Instr.lookup t (.map (some b)) key false).run P w1 = .ok (.int .i64 c) w1 ∧
      ∀ c' : Int, (Lit.int .i64 c').wf = true → ∃ w3, (Instr.entryStore t (.map (some b)) (goInt st) (.int .i64 c')).run P w1 = .ok () w3 ∧ w3.ownsMap P k (plainElem P e) b (n + 1) (D.put kl (.lit (.int .i64 c'))) ∧ w.mapTurned w3 b := by
  have K' : Keyed P k := Keyed.of_law K
  obtain ⟨c, hrun, hat, -⟩ := h.lookup_int K' ht he (hz w) hkey
  obtain ⟨es, clock, hb, F, hs, hD⟩ := id h
  obtain ⟨v0, st, es1, clock1, hE, -, hS⟩ := Go.WideElems.entry_then_store K ht hz hb F hkey
  have hb1 : (setBlock w b (.map es1 clock1)).heap[b]? = some (.map es1 clock1) := Go.ChangeMaps.heap_setBlock_same hb _
  have hst : ∀ c' : Int, (Lit.int .i64 c').wf = true → ∃ w3, (Instr.entryStore t (.map (some b)) (goInt st) (.int .i64 c')).run P (setBlock w b (.map es1 clock1)) = .ok () w3 ∧ w3.ownsMap P k (plainElem P e) b (n + 1) (D.put kl (.lit (.int .i64 c'))) ∧ w.mapTurned w3 b := fun c' hc' => by
    obtain ⟨es', clock', h1, h2⟩ := hS (setBlock w b (.map es1 clock1)) (.int .i64 c') hb1
    obtain ⟨w', h3, h4, h5⟩ := h.store K' ht hn hkey (plainElem_int he hc')
    rw [h2] at h3
    have h3 := (Result.ok.inj h3).2
    have e2 : setBlock (setBlock w b (.map es1 clock1)) b (.map es' clock') = setBlock w b (.map es' clock') := by
      simp [setBlock]
    rw [e2, h3] at h1
    exact ⟨w', h1, h4, h5⟩
  refine ⟨c, v0, st, setBlock w b (.map es1 clock1), hat, hrun, hE, ?_, hst⟩
  rcases K.find w hkey es.toList F.keys with ⟨h1, h2⟩ | ⟨j, e0, h1, h2, h3⟩
  · have hE2 : (Instr.mapEntry t (.map (some b)) key).run P w = .ok (.tuple #[.int .i64 0, goInt clock]) (setBlock w b (.map (es.push ⟨key, .int .i64 0, clock⟩) (clock + 1))) := by
      simp [Instr.mapEntry, run_underlying ht, MapKept.run_getObj_map hb, K.check w false hkey, h1, hz, MapKept.run_setObj_map _ hb, Result.andThen, setBlock]
    have hU : (Instr.mapUpdate t (.map (some b)) key (.int .i64 0)).run P w = .ok () (setBlock w b (.map (es.push ⟨key, .int .i64 0, clock⟩) (clock + 1))) := by
      simp [Instr.mapUpdate, run_underlying ht, MapKept.run_getObj_map hb, K.check w false hkey, h1, MapKept.run_setObj_map _ hb, Result.andThen, setBlock]
    have hL : (Instr.lookup t (.map (some b)) key false).run P w = .ok (.int .i64 0) w := by
      simp [Instr.lookup, run_underlying ht, MapKept.run_getObj_map hb, K.check w es.isEmpty hkey, h1, hz, Result.andThen]
    rw [hL] at hrun
    have e0 : (0 : Int) = c := (Value.int.inj (Result.ok.inj hrun).1).2
    subst e0
    rw [hE2] at hE
    have hw := (Result.ok.inj hE).2
    obtain ⟨w', h3, h4, -⟩ := h.store K' ht hn hkey (plainElem_int he (by decide : (Lit.int .i64 0).wf = true))
    rw [hU] at h3
    have h3 := (Result.ok.inj h3).2
    rw [← hw, h3]
    obtain ⟨c2, hr2, ha2, -⟩ := h4.lookup_int K' ht he (hz w') hkey
    rw [Maps.atKey_put_same h.isMap (K'.key hkey)] at ha2
    have e2 := (Lit.int.inj (DataW.lit.inj ha2)).2
    rw [← e2] at hr2
    exact hr2
  · have hj : es[j]? = some e0 := by simpa using h2
    have hE2 : ∃ es2, (Instr.mapEntry t (.map (some b)) key).run P w = .ok (.tuple #[e0.val, goInt e0.born]) (setBlock w b (.map es2 clock)) ∧ es2 = es.modify j (fun e => { e with key := key }) := by
      refine ⟨_, ?_, rfl⟩
      simp [Instr.mapEntry, run_underlying ht, MapKept.run_getObj_map hb, K.check w false hkey, h1, hj, h3, K.stays w hkey, MapKept.run_setObj_map _ hb, Result.andThen, setBlock]
    obtain ⟨es2, hE2, hes2⟩ := hE2
    have hsame : es2 = es := by
      rw [hes2]
      apply Array.ext_getElem?
      intro q
      rw [Array.getElem?_modify]
      split
      · rename_i hq
        subst hq
        rw [hj]
        simp [← h3]
      · rfl
    rw [hE2, hsame] at hE
    have hw := (Result.ok.inj hE).2
    rw [← hw]
    have h4 : (setBlock w b (.map es clock)).ownsMap P k (plainElem P e) b n D := ⟨es, clock, Go.ChangeMaps.heap_setBlock_same hb _, F, hs, hD⟩
    obtain ⟨c2, hr2, ha2, -⟩ := h4.lookup_int K' ht he (hz _) hkey
    rw [hat] at ha2
    have e2 := (Lit.int.inj (DataW.lit.inj ha2)).2
    rw [← e2] at hr2
    exact hr2

/-- Block b is a map whose keys are the cubes of f, each with a count from 1 to T; at most N entries. -/
def MpAt (w : World) (b N T : Nat) (f : BitVec 8 → BitVec 8 → Prop) (D : DataW Unit) : Prop :=
  w.ownsMap Tryz.prog 57 (plainElem Tryz.prog 3) b N D ∧ (∀ m v, Maps.has D (klC m v) = true ↔ f m v) ∧ (∀ m v, f m v → ∃ c : Nat, 1 ≤ c ∧ c ≤ T ∧ D.atKey (klC m v) (.lit (.int .i64 0)) = .lit (.int .i64 c))
theorem zeroInt9 (u : World) : (zeroValue 3).run Tryz.prog u = .ok (.int .i64 0) u := by kernel_rfl
theorem MpAt.keep {w w' : World} {b N T : Nat} {f : BitVec 8 → BitVec 8 → Prop} {D : DataW Unit} (h : MpAt w b N T f D) (hb : w'.heap[b]? = w.heap[b]?) : MpAt w' b N T f D := by
  obtain ⟨⟨es, clock, hm, r⟩, ht⟩ := h
  exact ⟨⟨es, clock, hb.trans hm, r⟩, ht⟩
theorem MpAt.lt {w : World} {b N T : Nat} {f : BitVec 8 → BitVec 8 → Prop} {D : DataW Unit} (h : MpAt w b N T f D) : b < w.heap.size := h.1.lt
theorem MpAt.obj {w : World} {b N T : Nat} {f : BitVec 8 → BitVec 8 → Prop} {D : DataW Unit} (h : MpAt w b N T f D) : ∃ es clock, w.heap[b]? = some (.map es clock) := by
  obtain ⟨⟨es, clock, hm, _⟩, _⟩ := h; exact ⟨es, clock, hm⟩
theorem MpAt.ne {w : World} {b N T : Nat} {f : BitVec 8 → BitVec 8 → Prop} {D : DataW Unit} (h : MpAt w b N T f D) {k : Nat} {C : Array Value} {A : TypeId} {z : Nat × Nat} (hk : w.heap[k]? = some (.cells C A z)) : b ≠ k := by
  intro e
  subst e
  obtain ⟨es, clock, hm⟩ := h.obj
  rw [hm] at hk
  injection hk with hk
  cases hk
theorem MpAt.made (w : World) : MpAt (w.alloc (.map #[] 0)) w.heap.size 0 0 (fun _ _ => False) (.map []) :=
  ⟨World.ownsMap_made w _ _ _, fun _ _ => ⟨fun h => by simp [Maps.has] at h, fun h => h.elim⟩, fun _ _ h => h.elim⟩
theorem MpAt.look {w : World} {b N T : Nat} {f : BitVec 8 → BitVec 8 → Prop} {D : DataW Unit} (h : MpAt w b N T f D) (m v : BitVec 8) :
    ∃ c : Nat, (Instr.lookup 111 (.map (some b)) (cv m v) false).run Tryz.prog w = .ok (.int .i64 c) w ∧ (0 < c ↔ f m v) ∧ c ≤ T := by
  obtain ⟨ho, hk, hc⟩ := h
  obtain ⟨c, hrun, hat, -⟩ := ho.lookup_int Tryz.cubeKeyed Tryz.underlying111 Tryz.underlying3 (zeroInt9 w) (key_cb m v)
  by_cases hf : f m v
  · obtain ⟨n, h1, h2, h3⟩ := hc m v hf
    rw [h3] at hat
    have e := (Lit.int.inj (DataW.lit.inj hat)).2
    subst e
    exact ⟨n, hrun, ⟨fun _ => hf, fun _ => by omega⟩, h2⟩
  · have h0 : Maps.has D (klC m v) = false := by
      cases hh : Maps.has D (klC m v)
      · rfl
      · exact absurd ((hk m v).1 hh) hf
    rw [Maps.atKey_of_not_has h0] at hat
    have e := (Lit.int.inj (DataW.lit.inj hat)).2
    subst e
    exact ⟨0, hrun, ⟨fun h => by omega, fun h => absurd h hf⟩, Nat.zero_le _⟩
theorem MpAt.len {w : World} {b N T : Nat} {f : BitVec 8 → BitVec 8 → Prop} {D : DataW Unit} (h : MpAt w b N T f D) (ty : TypeId) :
    ∃ c : Nat, (Builtin.len_ #[111] ty #[.map (some b)]).run Tryz.prog w = .ok (.int .i64 c) w ∧ (c = 0 → ∀ m v, ¬ f m v) ∧ ((∀ m v, ¬ f m v) → c = 0) := by
  obtain ⟨ho, hk, -⟩ := h
  refine ⟨Maps.size D, ho.len Tryz.underlying111 ty, fun h0 m v hf => ?_, fun hn => ?_⟩
  · obtain ⟨es, rfl, -⟩ := ho.entries Tryz.cubeKeyed
    rw [Maps.size_eq] at h0
    have : es = [] := List.eq_nil_of_length_eq_zero h0
    subst this
    have := (hk m v).2 hf
    simp [Maps.has] at this
  · obtain ⟨es, clock, hb, F, hs, hD⟩ := id ho
    obtain ⟨l, hl, -, -⟩ := ho.entries Tryz.cubeKeyed
    rcases l with _ | ⟨p, l⟩
    · rw [hl]; rfl
    · exfalso
      have hp : p ∈ (es.toList.map (WideElems.rg Tryz.prog 57 (plainElem Tryz.prog 3))).foldr DataW.insert [] := by
        have := hD.symm.trans hl
        injection this with this
        rw [this]
        exact List.mem_cons_self
      obtain ⟨x, hx, hxp⟩ := List.mem_map.1 (mem_sorted.1 hp)
      obtain ⟨y, hy⟩ := F.reads x hx
      have hkey := WideElems.rd_key hy
      obtain ⟨m, v, -, hkl⟩ := key_inv hkey
      refine hn m v ((hk m v).1 ?_)
      rw [hl, Maps.has_eq]
      refine List.any_eq_true.2 ⟨p, List.mem_cons_self, ?_⟩
      rw [← hxp, WideElems.rg_of hy, hkl]
      exact WideAt.sameKey_self (isKey_cb m v)
/-- One more of the cube m, v: what its two steps do. -/
theorem MpAt.count {w : World} {b N T : Nat} {f : BitVec 8 → BitVec 8 → Prop} {D : DataW Unit} (h : MpAt w b N T f D) (hN : N < 9223372036854775807) (hT : T < 9223372036854775807) (m v : BitVec 8) :
    ∃ (c : Nat) (v0 : Value) (st : Nat) (w1 : World), c ≤ T ∧ (Instr.lookup 111 (.map (some b)) (cv m v) false).run Tryz.prog w = .ok (.int .i64 c) w ∧
      (Instr.mapEntry 111 (.map (some b)) (cv m v)).run Tryz.prog w = .ok (.tuple #[v0, goInt st]) w1 ∧ (Instr.lookup 111 (.map (some b)) (cv m v) false).run Tryz.prog w1 = .ok (.int .i64 c) w1 ∧
      ∃ w3 D', (Instr.entryStore 111 (.map (some b)) (goInt st) (.int .i64 ((c : Int) + 1))).run Tryz.prog w1 = .ok () w3 ∧ MpAt w3 b (N + 1) (T + 1) (fun m' v' => f m' v' ∨ (m' = m ∧ v' = v)) D' ∧ w.mapTurned w3 b := by
  obtain ⟨c0, hr0, -, hcT⟩ := h.look m v
  obtain ⟨ho, hk, hc⟩ := h
  obtain ⟨c, v0, st, w1, hat, h1, h2, h3, h4⟩ := entry_two Tryz.cubeLaw Tryz.underlying111 Tryz.underlying3 zeroInt9 ho (by unfold maxLen; omega) (key_cb m v)
  rw [hr0] at h1
  have e := (Value.int.inj (Result.ok.inj h1).1).2
  subst e
  obtain ⟨w3, h5, h6, h7⟩ := h4 ((c0 : Int) + 1) (WalkArith.wf_i64 (by omega))
  refine ⟨c0, v0, st, w1, hcT, hr0, h2, h3, w3, _, h5, ⟨h6, fun m' v' => ?_, fun m' v' hf => ?_⟩, h7⟩
  · by_cases e : m' = m ∧ v' = v
    · obtain ⟨rfl, rfl⟩ := e
      rw [Maps.has_put_same ho.isMap (isKey_cb _ _)]
      simp
    · have hne : klC m' v' ≠ klC m v := fun x => e (klC_inj x)
      rw [Maps.has_put_other hne, hk m' v']
      exact ⟨Or.inl, fun h => h.elim id fun h => absurd h e⟩
  · by_cases e : m' = m ∧ v' = v
    · obtain ⟨rfl, rfl⟩ := e
      refine ⟨c0 + 1, by omega, by omega, ?_⟩
      rw [Maps.atKey_put_same ho.isMap (isKey_cb _ _)]
      rfl
    · have hne : klC m' v' ≠ klC m v := fun x => e (klC_inj x)
      rw [Maps.atKey_put_other hne]
      obtain ⟨c, h1, h2, h3⟩ := hc m' v' (hf.elim id fun h => absurd h e)
      exact ⟨c, h1, by omega, h3⟩
theorem MpAt.same {w : World} {b N N' T T' : Nat} {f f' : BitVec 8 → BitVec 8 → Prop} {D : DataW Unit} (h : MpAt w b N T f D) (hf : ∀ m v, f m v ↔ f' m v) (hN : N ≤ N') (hT : T ≤ T') : MpAt w b N' T' f' D := by
  obtain ⟨ho, hk, hc⟩ := h
  refine ⟨ho.mono hN, fun m v => (hk m v).trans (hf m v), fun m v h => ?_⟩
  obtain ⟨c, h1, h2, h3⟩ := hc m v ((hf m v).2 h)
  exact ⟨c, h1, by omega, h3⟩
end Go.Proofs.YtehpccanjlaokaaGreat
namespace Go.Proofs.YtehpccanjlaokaaGreat
open Go.RowKit Go.Joins
open Go.Maps (Keyed)

theorem allB_low9 (n p : Nat) (hn : n ≤ 8) : (allB n).getLsbD p = decide (p < 2 ^ n) := by
  unfold allB
  rw [bvOf_bit]
  by_cases h : p < 2 ^ n
  · have h2 : 2 ^ n ≤ 2 ^ 8 := Nat.pow_le_pow_right (by decide) hn
    simp [h, show p < 256 by omega]
  · simp [h]
theorem full_shift (n : Nat) (hn : n ≤ 8) (w : World) : (Op.shift BinOp.shr IntKind.u8 255 IntKind.i64 (IntKind.i64.wrap (8 - (n : Int)))).run Tryz.prog w = .ok (.int .u8 ((BitVec.ofNat 8 (2 ^ n - 1)).toNat : Int)) w := by
  rcases (by omega : n = 0 ∨ n = 1 ∨ n = 2 ∨ n = 3 ∨ n = 4 ∨ n = 5 ∨ n = 6 ∨ n = 7 ∨ n = 8) with rfl | rfl | rfl | rfl | rfl | rfl | rfl | rfl | rfl <;> kernel_rfl
theorem low_wrap (p : Nat) : IntKind.u8.wrap (p : Int) = ((BitVec.ofNat 8 p).toNat : Int) := by
  rw [IntKind.wrap_u8, BitVec.toNat_ofNat]
  omega
theorem pts_get (S : BitVec 256) {j p : Nat} (h : (pts S)[j]? = some p) : p < 256 ∧ S.getLsbD p = true := by
  have := List.mem_of_getElem? h
  unfold pts at this
  rw [List.mem_filter, List.mem_range] at this
  exact this
theorem pts_has (S : BitVec 256) {p : Nat} (hp : p < 256) (h : S.getLsbD p = true) : ∃ j : Nat, (pts S)[j]? = some p := by
  have : p ∈ pts S := by unfold pts; rw [List.mem_filter, List.mem_range]; exact ⟨hp, h⟩
  exact List.getElem?_of_mem this
/-- The cubes of the first i points. -/
def SgF (S : BitVec 256) (n i : Nat) (m v : BitVec 8) : Prop := m = BitVec.ofNat 8 (2 ^ n - 1) ∧ ∃ j p, j < i ∧ (pts S)[j]? = some p ∧ v = BitVec.ofNat 8 p
theorem sgF_zero (S : BitVec 256) (n : Nat) (m v : BitVec 8) : False ↔ SgF S n 0 m v := ⟨False.elim, fun ⟨_, j, _, h, _⟩ => by omega⟩
theorem sgF_next (S : BitVec 256) (n i p : Nat) (h : (pts S)[i]? = some p) (m v : BitVec 8) : (SgF S n i m v ∨ (m = BitVec.ofNat 8 (2 ^ n - 1) ∧ v = BitVec.ofNat 8 p)) ↔ SgF S n (i + 1) m v := by
  constructor
  · rintro (⟨e, j, q, h1, h2, h3⟩ | ⟨e1, e2⟩)
    · exact ⟨e, j, q, by omega, h2, h3⟩
    · exact ⟨e1, i, p, by omega, h, e2⟩
  · rintro ⟨e, j, q, h1, h2, h3⟩
    by_cases hj : j < i
    · exact Or.inl ⟨e, j, q, hj, h2, h3⟩
    · obtain rfl : j = i := by omega
      rw [h] at h2
      injection h2 with h2
      subst h2
      exact Or.inr ⟨e, h3⟩
theorem sgF_all {S : BitVec 256} {n : Nat} (hn : n ≤ 8) (hS : S &&& ~~~(allB n) = 0) (m v : BitVec 8) : SgF S n (pts S).length m v ↔ Lv S n 0 m v := by
  rw [lv_zero hn]
  constructor
  · rintro ⟨e, j, p, -, h2, h3⟩
    obtain ⟨-, hp⟩ := pts_get S h2
    have := (and_not_zero _ _).1 hS p hp
    rw [allB_low9 n p hn] at this
    exact ⟨e, p, by simpa using this, hp, h3⟩
  · rintro ⟨e, p, hp, hS', h3⟩
    have h2 : 2 ^ n ≤ 2 ^ 8 := Nat.pow_le_pow_right (by decide) hn
    obtain ⟨j, hj⟩ := pts_has S (show p < 256 by omega) hS'
    exact ⟨e, j, p, (List.getElem?_eq_some_iff.1 hj).1, hj, h3⟩
set_option maxHeartbeats 4000000 in
set_option maxRecDepth 100000 in
theorem single_any (S : BitVec 256) (n : Nat) (hn : n ≤ 8) (w : World) :
    Calls Tryz.prog 61 #[sv S, .int .i64 n] w fun e w' => ∃ b D, e = .returned (.map (some b)) ∧ w.heap.size ≤ b ∧ MpAt w' b 256 256 (SgF S n (pts S).length) D ∧ Below w.heap.size w w' := by
  have HL := fun w => list_any S w
  have hpl : (pts S).length ≤ 256 := by unfold pts; exact Nat.le_trans (List.length_filter_le _ _) (by simp)
  have hx := heap_alloc_new w (.cells (sa S) 51)
  have hb := below_alloc1 w (.cells (sa S) 51)
  have hmm := @run_makeMap Tryz.prog
  have hget := Lib.hid (fun (j p : Nat) => pts_get S (j := j) (p := p))
  have hnx := Lib.hid (fun i p h => sgF_next S n i p h)
  unfold sv sa wv at *
  go_enter Tryz.func61, Tryz.ntmps61
  go_upto_region 1 with (fail)
  generalize w.alloc _ = W at *
  go_upto_region 2 with (fail)
  have hM : MpAt (W.alloc (.map #[] 0)) W.heap.size 0 0 (SgF S n 0) (.map []) := (MpAt.made W).same (sgF_zero S n) (Nat.le_refl _) (Nat.le_refl _)
  have hx2 := keep_alloc (x := .map #[] 0) hx
  have hb2 := hb.trans ((below_alloc1 W (.map #[] 0)).mono hb.size)
  have hbs : w.heap.size ≤ W.heap.size := hb.size
  clear hx hb
  generalize W.alloc _ = W2 at *
  generalize W.heap.size = mb at *
  obtain ⟨x0, x1, x2, x3, -⟩ := now4 hx2 rfl
  go_wp2_with fail
  refine (HL _).mono ?_
  rintro e w3 ⟨L, rfl, hown, hb3⟩
  have hM3 := hM.keep (hb3.block mb hM.lt)
  have hb4 := hb2.trans (hb3.mono hb2.size)
  have hmlow := hM.lt
  clear HL x0 x1 x2 x3 hx2 hM hb2
  obtain ⟨A, c, rfl⟩ := own_form hown
  have hcell : Hid (∀ (j p : Nat), (pts S)[j]? = some p → ∃ g, A = some ⟨g, 0, none⟩ ∧ g ≠ mb ∧ w3.cell? ⟨g, j, none⟩ = some (.int .i64 p) ∧ W2.heap.size ≤ g ∧ g < w3.heap.size) := Lib.hid fun j p hj => by
    have hjl := (List.getElem?_eq_some_iff.1 hj).1
    obtain ⟨g, c', e⟩ := ownsRow_form hown (by omega)
    injection e with e _ _
    subst e
    have hg := hown.lt g rfl
    refine ⟨g, rfl, by omega, ?_, hg.1, hg.2⟩
    rw [hown.cellAt j (by omega)]
    simp [intsV, hj]
  clear hown
  generalize hN : (pts S).length = N at *
  have hNo := Lib.hid hN
  clear hN
  go_wp2_with fail
  go_loopw [12] (fun t wr => ∃ (i : Nat) (D : DataW Unit), i ≤ N ∧ t = .int .i64 i ∧ MpAt wr mb i i (SgF S n i) D ∧ Off (· = mb) w3 wr) (fun t _ => N - (intOf t).toNat)
  case atStart => exact ⟨0, _, Nat.zero_le _, rfl, hM3, Off.refl _ _⟩
  case round =>
    clear hM3
    obtain ⟨i, D, hi, rfl, hM, hO⟩ := hrel
    by_cases hlt : i < N
    · have d1 : decide ((i : Int) < (N : Int)) = true := decide_eq_true (by omega)
      obtain ⟨p, hp⟩ : ∃ p, (pts S)[i]? = some p := ⟨_, List.getElem?_eq_getElem (by rw [hNo.out]; exact hlt)⟩
      obtain ⟨g, rfl, hgm, hc, hg1, hg2⟩ := hcell.out i p hp
      have hc' : wr.cell? ⟨g, i, none⟩ = some (.int .i64 p) := (World.cell?_of_block (hO.block g hg2 hgm)).trans hc
      obtain ⟨hp256, -⟩ := hget.out i p hp
      have hn0 : ¬ (i : Int) < 0 := by omega
      have hnl : (i : Int) < (N : Int) := by omega
      have hst := Lib.hid (hnx.out i p hp)
      clear hp hc hnx
      have hsh := full_shift n hn
      have hwp := low_wrap p
      go_upto_region 5 with (fail)
      generalize BitVec.ofNat 8 (2 ^ n - 1) = M at *
      generalize BitVec.ofNat 8 p = V at *
      refine wp_region_held_drew (S := fun _ => True) rfl trivial (fun _ => ?_)
      obtain ⟨X0, hX0⟩ : ∃ X0, X0 = wr.drew := ⟨_, rfl⟩
      have hM0 : MpAt X0 mb i i (SgF S n i) D := hM.keep (by rw [hX0]; rfl)
      have hO0 : Off (· = mb) w3 X0 := by rw [hX0]; exact hO.drew
      rw [← hX0]
      clear hX0 hM hO hc'
      obtain ⟨cn, v0, st, w1, hcT, r1, r2, r3, w5, D', r4, hM5, ht5⟩ := hM0.count (by omega) (by omega) M V
      unfold cv bvv at r1 r2 r3
      unfold goInt at r2 r4
      have hO5 := hO0.grown ht5.grown (Or.inl rfl)
      have hM6 := hM5.same hst.out (Nat.le_refl _) (Nat.le_refl _)
      have hcw : IntKind.i64.wrap ((cn : Int) + 1) = (cn : Int) + 1 := by rw [IntKind.wrap_i64]; omega
      clear hM5 ht5 hst hM0 hO0
      refine wpAnyH_take (i := 0) (oi := _) (v := ?_) rfl (by kernel_rfl) (by kernel_rfl) (by kernel_rfl) (fun _ _ _ h => h) (Or.inl ⟨by rfl, ?_⟩) trivial ?_
      rotate_left 1
      · intro w_ hSw
        go_simp
        try with_reducible rfl
      try simp only [Act.put, List.setIfInBounds_toArray]
      refine wpAnyH_take (i := 1) (oi := _) (v := ?_) rfl (by kernel_rfl) (by kernel_rfl) (by kernel_rfl) (fun _ _ _ h => h) (Or.inl ⟨by rfl, ?_⟩) trivial ?_
      rotate_left 1
      · intro w_ hSw
        go_simp
        try with_reducible rfl
      try simp only [Act.put]
      refine wpAnyH_take (i := 2) (oi := _) (v := ?_) rfl (by kernel_rfl) (by kernel_rfl) (by kernel_rfl) (fun _ _ _ h => h) (Or.inl ⟨by rfl, ?_⟩) trivial ?_
      rotate_left 1
      · intro w_ hSw
        go_simp
        try with_reducible rfl
      try simp only [Act.put]
      refine wpAnyH_take (i := 3) (oi := _) (v := ?_) rfl (by kernel_rfl) (by kernel_rfl) (by kernel_rfl) (fun _ _ _ h => h) (Or.inl ⟨by rfl, ?_⟩) trivial ?_
      rotate_left 1
      · intro w_ hSw
        go_simp
        try with_reducible rfl
      try simp only [Act.put]
      refine wpAnyH_take (i := 4) (oi := _) (v := ?_) rfl (by kernel_rfl) (by kernel_rfl) (by kernel_rfl) (fun _ _ _ h => h) (Or.inl ⟨by rfl, ?_⟩) trivial ?_
      rotate_left 1
      · intro w_ hSw
        go_simp
        try with_reducible rfl
      try simp only [Act.put]
      refine wpAnyH_take (i := 5) (oi := _) (v := ?_) rfl (by kernel_rfl) (by kernel_rfl) (by kernel_rfl) (fun _ _ _ h => h) (Or.inl ⟨by rfl, ?_⟩) trivial ?_
      rotate_left 1
      · intro w_ hSw
        go_simp
        try with_reducible rfl
      try simp only [Act.put]
      refine wpAnyH_take (i := 6) (oi := _) (v := ?_) rfl (by kernel_rfl) (by kernel_rfl) (by kernel_rfl) (fun _ _ _ h => h) (Or.inl ⟨by rfl, ?_⟩) trivial ?_
      rotate_left 1
      · intro w_ hSw
        go_simp
        try with_reducible rfl
      try simp only [Act.put]
      refine wpAnyH_ready (rs := [7, 9]) (by kernel_rfl) (by simp) ?_
      refine AllReadyH.cons (o := _) rfl (fun _ hK => ?_) ?_
      · go_simp
        refine hK.out _ _ trivial (fun _ => ?_)
        clear hK
        try simp only [Act.put, List.setIfInBounds_toArray, List.set_cons_zero, List.set_cons_succ]
        refine wpAnyH_take (i := 8) (oi := _) (v := ?_) rfl (by kernel_rfl) (by kernel_rfl) (by kernel_rfl) (fun _ _ _ h => h) (Or.inl ⟨by rfl, ?_⟩) trivial ?_
        rotate_left 1
        · intro w_ hSw
          go_simp
          try with_reducible rfl
        try simp only [Act.put, List.setIfInBounds_toArray]
        refine wpAnyH_ready (rs := [9]) (by kernel_rfl) (by simp) ?_
        refine AllReadyH.cons (o := _) rfl (fun _ hK => ?_) AllReadyH.nil
        go_simp
        refine hK.out _ _ trivial (fun _ => ?_)
        clear hK
        try simp only [Act.put, List.setIfInBounds_toArray, List.set_cons_zero, List.set_cons_succ]
        refine wpAnyH_take (i := 10) (oi := _) (v := ?_) rfl (by kernel_rfl) (by kernel_rfl) (by kernel_rfl) (fun _ _ _ h => h) (Or.inl ⟨by rfl, ?_⟩) trivial ?_
        rotate_left 1
        · intro w_ hSw
          go_simp
          try with_reducible rfl
        try simp only [Act.put, List.setIfInBounds_toArray]
        refine wpAnyH_ready (rs := [11]) (by kernel_rfl) (by simp) ?_
        refine AllReadyH.cons (o := _) rfl (fun _ hK => ?_) AllReadyH.nil
        go_simp
        refine hK.out _ _ trivial (fun _ => ?_)
        clear hK
        try simp only [Act.put, List.setIfInBounds_toArray, List.set_cons_zero, List.set_cons_succ]
        refine wpAnyH_done (by kernel_rfl) ?_ _
        go_wp2
        go_roundw
        case rel => exact ⟨i + 1, D', by omega, by go_num, hM6, hO5⟩
        case measure => simp [intOf]; omega
      · refine AllReadyH.cons (o := _) rfl (fun _ hK => ?_) AllReadyH.nil
        go_simp
        refine hK.out _ _ trivial (fun _ => ?_)
        clear hK
        try simp only [Act.put, List.setIfInBounds_toArray, List.set_cons_zero, List.set_cons_succ]
        refine wpAnyH_take (i := 10) (oi := _) (v := ?_) rfl (by kernel_rfl) (by kernel_rfl) (by kernel_rfl) (fun _ _ _ h => h) (Or.inl ⟨by rfl, ?_⟩) trivial ?_
        rotate_left 1
        · intro w_ hSw
          go_simp
          try with_reducible rfl
        try simp only [Act.put, List.setIfInBounds_toArray]
        refine wpAnyH_ready (rs := [7]) (by kernel_rfl) (by simp) ?_
        refine AllReadyH.cons (o := _) rfl (fun _ hK => ?_) AllReadyH.nil
        go_simp
        refine hK.out _ _ trivial (fun _ => ?_)
        clear hK
        try simp only [Act.put, List.setIfInBounds_toArray, List.set_cons_zero, List.set_cons_succ]
        refine wpAnyH_take (i := 8) (oi := _) (v := ?_) rfl (by kernel_rfl) (by kernel_rfl) (by kernel_rfl) (fun _ _ _ h => h) (Or.inl ⟨by rfl, ?_⟩) trivial ?_
        rotate_left 1
        · intro w_ hSw
          go_simp
          try with_reducible rfl
        try simp only [Act.put, List.setIfInBounds_toArray]
        refine wpAnyH_ready (rs := [11]) (by kernel_rfl) (by simp) ?_
        refine AllReadyH.cons (o := _) rfl (fun _ hK => ?_) AllReadyH.nil
        go_simp
        refine hK.out _ _ trivial (fun _ => ?_)
        clear hK
        try simp only [Act.put, List.setIfInBounds_toArray, List.set_cons_zero, List.set_cons_succ]
        refine wpAnyH_done (by kernel_rfl) ?_ _
        go_wp2
        go_roundw
        case rel => exact ⟨i + 1, D', by omega, by go_num, hM6, hO5⟩
        case measure => simp [intOf]; omega
    · obtain rfl : i = N := by omega
      have d1 : decide ((i : Int) < (i : Int)) = false := decide_eq_false (by omega)
      go_wp2
      go_ret
      refine ⟨mb, D, rfl, hbs, ?_, hb4.trans ((hO.below (B := w.heap.size) hb4.size (fun k hk => by subst hk; exact hbs)))⟩
      exact hM.same (fun _ _ => by rw [hNo.out]) (by omega) (by omega)
end Go.Proofs.YtehpccanjlaokaaGreat
