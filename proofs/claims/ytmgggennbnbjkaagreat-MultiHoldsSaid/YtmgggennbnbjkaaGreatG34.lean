/- Maps keyed by cubes, with counts: what is read, counted up, ranged over. -/
import Derived.Test.YtmgggennbnbjkaaGreatG21
import Derived.Test.YtmgggennbnbjkaaGreatG33
import Derived.Maps.RangeWalk
import Derived.Maps.OwnOps
import Derived.WideKeyEntry
namespace Go.Proofs.YtmgggennbnbjkaaGreat
open Go.RowKit Go.Joins
open Go.Maps (Keyed)
open Go.ChangeMaps (setBlock)

def klC (m v : BitVec 8) : Lit := .string (keyBytes [.int .u8 m.toNat, .int .u8 v.toNat])
theorem Tryz.keyCube : Tryz.prog.keyType 26 = true := by kernel_rfl
theorem Tryz.cellsCube : Tryz.prog.cellsOf 26 = 2 := by kernel_rfl
theorem Tryz.cellsU8 : Tryz.prog.cellsOf 5 = 1 := by kernel_rfl
theorem wf_u8 (b : BitVec 8) : (Lit.int .u8 (b.toNat : Int)).wf = true := by
  have := b.isLt
  have e1 : IntKind.u8.min = 0 := by rfl
  have e2 : IntKind.u8.max = 255 := by rfl
  simp [Lit.wf, e1, e2]
  omega
theorem key_cb (m v : BitVec 8) : keyOf Tryz.prog 26 (cv m v) = some (klC m v) := by
  have hm : ∃ m, Tryz.prog.types.size = m + 1 := ⟨Tryz.prog.types.size - 1, by have : 0 < Tryz.prog.types.size := of_decide_eq_true (by kernel_rfl); omega⟩
  obtain ⟨k, hk⟩ := hm
  unfold keyOf cv bvv
  simp only [Tryz.underlying26]
  rw [if_pos (by simp [Tryz.keyCube, Value.formed, Tryz.underlying26, Tryz.cellsCube]), hk]
  unfold Program.keyLits
  simp [Tryz.underlying26, Tryz.cellsCube, Value.cells, Program.keyLits, Tryz.underlying5, Tryz.cellsU8, wf_u8, klC]
theorem Tryz.cubeLaw : Go.WideMaps.KeyLaw Tryz.prog 26 := deep_law_laid Tryz.laidOut (m := 3) (by omega) (of_decide_eq_true (by kernel_rfl)) (by kernel_rfl) (by kernel_rfl)
theorem Tryz.cubeKeyed : Keyed Tryz.prog 26 := Keyed.of_law Tryz.cubeLaw
theorem klC_inj {m v m' v' : BitVec 8} (h : klC m v = klC m' v') : m = m' ∧ v = v' := by
  have e := Tryz.cubeKeyed.inj (key_cb m v) (h ▸ key_cb m' v')
  unfold cv bvv at e
  simp at e
  exact ⟨BitVec.eq_of_toNat_eq (by exact_mod_cast e.1), BitVec.eq_of_toNat_eq (by exact_mod_cast e.2)⟩
theorem isKey_cb (m v : BitVec 8) : WideAt.IsKeyLit (klC m v) := Tryz.cubeKeyed.key (key_cb m v)
theorem u8_inv {n : Int} (h : (Lit.int .u8 n).wf = true) : ∃ b : BitVec 8, n = b.toNat := by
  have e1 : IntKind.u8.min = 0 := by rfl
  have e2 : IntKind.u8.max = 255 := by rfl
  simp [Lit.wf, e1, e2] at h
  exact ⟨BitVec.ofNat 8 n.toNat, by rw [BitVec.toNat_ofNat]; omega⟩
set_option maxRecDepth 100000 in
/-- What is a key is a cube. -/
theorem key_inv {key : Value} {kl : Lit} (h : keyOf Tryz.prog 26 key = some kl) : ∃ m v, key = cv m v ∧ kl = klC m v := by
  have hm : ∃ m, Tryz.prog.types.size = m + 1 := ⟨Tryz.prog.types.size - 1, by have : 0 < Tryz.prog.types.size := of_decide_eq_true (by kernel_rfl); omega⟩
  obtain ⟨k, hk⟩ := hm
  have h0 := h
  unfold keyOf at h
  simp only [Tryz.underlying26] at h
  split at h
  · rename_i hf
    cases key <;> simp [Value.formed, Tryz.underlying26, Tryz.cellsCube] at hf
    rename_i cs
    obtain ⟨a, b, rfl⟩ : ∃ a b, cs = #[a, b] := by
      obtain ⟨l⟩ := cs
      match l, hf.2 with
      | [a, b], _ => exact ⟨a, b, rfl⟩
    rw [hk] at h
    unfold Program.keyLits at h
    cases a <;> cases b <;> simp [Tryz.underlying26, Tryz.cellsCube, Value.cells, Program.keyLits, Tryz.underlying5, Tryz.cellsU8] at h
    rename_i k1 n1 k2 n2
    by_cases c1 : k1 = IntKind.u8 ∧ (Lit.int IntKind.u8 n1).wf = true
    · by_cases c2 : k2 = IntKind.u8 ∧ (Lit.int IntKind.u8 n2).wf = true
      · obtain ⟨rfl, w1⟩ := c1
        obtain ⟨rfl, w2⟩ := c2
        obtain ⟨m, rfl⟩ := u8_inv w1
        obtain ⟨v, rfl⟩ := u8_inv w2
        have e := key_cb m v
        unfold cv bvv at e
        rw [e] at h0
        injection h0 with h0
        exact ⟨m, v, rfl, h0.symm⟩
      · rw [if_pos c1, if_neg c2] at h
        simp at h
    · rw [if_neg c1] at h
      simp at h
  · cases h
/-- 'm[k]++' writes in two steps: the entry, then its count. A look-up between the two answers as ahead of them. -/
theorem entry_two {P : Program} {w : World} {t k e : TypeId} {b n : Nat} {D : DataW Unit} (K : Go.WideMaps.KeyLaw P k) (ht : P.underlying t = some (.map k e)) (he : P.underlying e = some (.int .i64)) (hz : ∀ u : World, (zeroValue e).run P u = .ok (.int .i64 0) u)
    (h : w.ownsMap P k (plainElem P e) b n D) (hn : n < maxLen) {key : Value} {kl : Lit} (hkey : keyOf P k key = some kl) :
    ∃ (c : Int) (v0 : Value) (st : Nat) (w1 : World), D.atKey kl (.lit (.int .i64 0)) = .lit (.int .i64 c) ∧ (Instr.lookup t (.map (some b)) key false).run P w = .ok (.int .i64 c) w ∧
      (Instr.mapEntry t (.map (some b)) key).run P w = .ok (.tuple #[v0, goInt st]) w1 ∧ (Instr.lookup t (.map (some b)) key false).run P w1 = .ok (.int .i64 c) w1 ∧
      ∀ c' : Int, (Lit.int .i64 c').wf = true → ∃ w3, (Instr.entryStore t (.map (some b)) (goInt st) (.int .i64 c')).run P w1 = .ok () w3 ∧ w3.ownsMap P k (plainElem P e) b (n + 1) (D.put kl (.lit (.int .i64 c'))) ∧ w.mapTurned w3 b := by
  have K' : Keyed P k := Keyed.of_law K
  obtain ⟨c, hrun, hat, -⟩ := h.lookup_int K' ht he (hz w) hkey
  obtain ⟨es, clock, hb, F, hs, hD⟩ := id h
  obtain ⟨v0, st, es1, clock1, hE, -, hS⟩ := Go.WideElems.entry_then_store K ht hz hb F hkey
  have hb1 : (setBlock w b (.map es1 clock1)).heap[b]? = some (.map es1 clock1) := Go.ChangeMaps.heap_setBlock_same hb _
  have hst : ∀ c' : Int, (Lit.int .i64 c').wf = true → ∃ w3, (Instr.entryStore t (.map (some b)) (goInt st) (.int .i64 c')).run P (setBlock w b (.map es1 clock1)) = .ok () w3 ∧ w3.ownsMap P k (plainElem P e) b (n + 1) (D.put kl (.lit (.int .i64 c'))) ∧ w.mapTurned w3 b := fun c' hc' => by
    obtain ⟨es', clock', h1, h2⟩ := hS (setBlock w b (.map es1 clock1)) (.int .i64 c') hb1
    obtain ⟨w', h3, h4, h5⟩ := h.store K' ht hn hkey (plainElem_int he hc')
    rw [h2] at h3
    have h3 := (Result.ok.inj h3).2
    have e2 : setBlock (setBlock w b (.map es1 clock1)) b (.map es' clock') = setBlock w b (.map es' clock') := by
      simp [setBlock]
    rw [e2, h3] at h1
    exact ⟨w', h1, h4, h5⟩
  refine ⟨c, v0, st, setBlock w b (.map es1 clock1), hat, hrun, hE, ?_, hst⟩
  rcases K.find w hkey es.toList F.keys with ⟨h1, h2⟩ | ⟨j, e0, h1, h2, h3⟩
  · have hE2 : (Instr.mapEntry t (.map (some b)) key).run P w = .ok (.tuple #[.int .i64 0, goInt clock]) (setBlock w b (.map (es.push ⟨key, .int .i64 0, clock⟩) (clock + 1))) := by
      simp [Instr.mapEntry, run_underlying ht, MapKept.run_getObj_map hb, K.check w false hkey, h1, hz, MapKept.run_setObj_map _ hb, Result.andThen, setBlock]
    have hU : (Instr.mapUpdate t (.map (some b)) key (.int .i64 0)).run P w = .ok () (setBlock w b (.map (es.push ⟨key, .int .i64 0, clock⟩) (clock + 1))) := by
      simp [Instr.mapUpdate, run_underlying ht, MapKept.run_getObj_map hb, K.check w false hkey, h1, MapKept.run_setObj_map _ hb, Result.andThen, setBlock]
    have hL : (Instr.lookup t (.map (some b)) key false).run P w = .ok (.int .i64 0) w := by
      simp [Instr.lookup, run_underlying ht, MapKept.run_getObj_map hb, K.check w es.isEmpty hkey, h1, hz, Result.andThen]
    rw [hL] at hrun
    have e0 : (0 : Int) = c := (Value.int.inj (Result.ok.inj hrun).1).2
    subst e0
    rw [hE2] at hE
    have hw := (Result.ok.inj hE).2
    obtain ⟨w', h3, h4, -⟩ := h.store K' ht hn hkey (plainElem_int he (by decide : (Lit.int .i64 0).wf = true))
    rw [hU] at h3
    have h3 := (Result.ok.inj h3).2
    rw [← hw, h3]
    obtain ⟨c2, hr2, ha2, -⟩ := h4.lookup_int K' ht he (hz w') hkey
    rw [Maps.atKey_put_same h.isMap (K'.key hkey)] at ha2
    have e2 := (Lit.int.inj (DataW.lit.inj ha2)).2
    rw [← e2] at hr2
    exact hr2
  · have hj : es[j]? = some e0 := by simpa using h2
    have hE2 : ∃ es2, (Instr.mapEntry t (.map (some b)) key).run P w = .ok (.tuple #[e0.val, goInt e0.born]) (setBlock w b (.map es2 clock)) ∧ es2 = es.modify j (fun e => { e with key := key }) := by
      refine ⟨_, ?_, rfl⟩
      simp [Instr.mapEntry, run_underlying ht, MapKept.run_getObj_map hb, K.check w false hkey, h1, hj, h3, K.stays w hkey, MapKept.run_setObj_map _ hb, Result.andThen, setBlock]
    obtain ⟨es2, hE2, hes2⟩ := hE2
    have hsame : es2 = es := by
      rw [hes2]
      apply Array.ext_getElem?
      intro q
      rw [Array.getElem?_modify]
      split
      · rename_i hq
        subst hq
        rw [hj]
        simp [← h3]
      · rfl
    rw [hE2, hsame] at hE
    have hw := (Result.ok.inj hE).2
    rw [← hw]
    have h4 : (setBlock w b (.map es clock)).ownsMap P k (plainElem P e) b n D := ⟨es, clock, Go.ChangeMaps.heap_setBlock_same hb _, F, hs, hD⟩
    obtain ⟨c2, hr2, ha2, -⟩ := h4.lookup_int K' ht he (hz _) hkey
    rw [hat] at ha2
    have e2 := (Lit.int.inj (DataW.lit.inj ha2)).2
    rw [← e2] at hr2
    exact hr2

/-- Block b is a map whose keys are the cubes of f, each with a count from 1 to T; at most N entries. -/
def MpAt (w : World) (b N T : Nat) (f : BitVec 8 → BitVec 8 → Prop) (D : DataW Unit) : Prop :=
  w.ownsMap Tryz.prog 26 (plainElem Tryz.prog 3) b N D ∧ (∀ m v, Maps.has D (klC m v) = true ↔ f m v) ∧ (∀ m v, f m v → ∃ c : Nat, 1 ≤ c ∧ c ≤ T ∧ D.atKey (klC m v) (.lit (.int .i64 0)) = .lit (.int .i64 c))
theorem zeroInt9 (u : World) : (zeroValue 3).run Tryz.prog u = .ok (.int .i64 0) u := by kernel_rfl
theorem MpAt.keep {w w' : World} {b N T : Nat} {f : BitVec 8 → BitVec 8 → Prop} {D : DataW Unit} (h : MpAt w b N T f D) (hb : w'.heap[b]? = w.heap[b]?) : MpAt w' b N T f D := by
  obtain ⟨⟨es, clock, hm, r⟩, ht⟩ := h
  exact ⟨⟨es, clock, hb.trans hm, r⟩, ht⟩
theorem MpAt.lt {w : World} {b N T : Nat} {f : BitVec 8 → BitVec 8 → Prop} {D : DataW Unit} (h : MpAt w b N T f D) : b < w.heap.size := h.1.lt
theorem MpAt.obj {w : World} {b N T : Nat} {f : BitVec 8 → BitVec 8 → Prop} {D : DataW Unit} (h : MpAt w b N T f D) : ∃ es clock, w.heap[b]? = some (.map es clock) := by
  obtain ⟨⟨es, clock, hm, _⟩, _⟩ := h; exact ⟨es, clock, hm⟩
theorem MpAt.ne {w : World} {b N T : Nat} {f : BitVec 8 → BitVec 8 → Prop} {D : DataW Unit} (h : MpAt w b N T f D) {k : Nat} {C : Array Value} {A : TypeId} {z : Nat × Nat} (hk : w.heap[k]? = some (.cells C A z)) : b ≠ k := by
  intro e
  subst e
  obtain ⟨es, clock, hm⟩ := h.obj
  rw [hm] at hk
  injection hk with hk
  cases hk
theorem MpAt.made (w : World) : MpAt (w.alloc (.map #[] 0)) w.heap.size 0 0 (fun _ _ => False) (.map []) :=
  ⟨World.ownsMap_made w _ _ _, fun _ _ => ⟨fun h => by simp [Maps.has] at h, fun h => h.elim⟩, fun _ _ h => h.elim⟩
theorem MpAt.look {w : World} {b N T : Nat} {f : BitVec 8 → BitVec 8 → Prop} {D : DataW Unit} (h : MpAt w b N T f D) (m v : BitVec 8) :
    ∃ c : Nat, (Instr.lookup 72 (.map (some b)) (cv m v) false).run Tryz.prog w = .ok (.int .i64 c) w ∧ (0 < c ↔ f m v) ∧ c ≤ T := by
  obtain ⟨ho, hk, hc⟩ := h
  obtain ⟨c, hrun, hat, -⟩ := ho.lookup_int Tryz.cubeKeyed Tryz.underlying72 Tryz.underlying3 (zeroInt9 w) (key_cb m v)
  by_cases hf : f m v
  · obtain ⟨n, h1, h2, h3⟩ := hc m v hf
    rw [h3] at hat
    have e := (Lit.int.inj (DataW.lit.inj hat)).2
    subst e
    exact ⟨n, hrun, ⟨fun _ => hf, fun _ => by omega⟩, h2⟩
  · have h0 : Maps.has D (klC m v) = false := by
      cases hh : Maps.has D (klC m v)
      · rfl
      · exact absurd ((hk m v).1 hh) hf
    rw [Maps.atKey_of_not_has h0] at hat
    have e := (Lit.int.inj (DataW.lit.inj hat)).2
    subst e
    exact ⟨0, hrun, ⟨fun h => by omega, fun h => absurd h hf⟩, Nat.zero_le _⟩
theorem MpAt.len {w : World} {b N T : Nat} {f : BitVec 8 → BitVec 8 → Prop} {D : DataW Unit} (h : MpAt w b N T f D) (ty : TypeId) :
    ∃ c : Nat, (Builtin.len_ #[72] ty #[.map (some b)]).run Tryz.prog w = .ok (.int .i64 c) w ∧ (c = 0 → ∀ m v, ¬ f m v) ∧ ((∀ m v, ¬ f m v) → c = 0) := by
  obtain ⟨ho, hk, -⟩ := h
  refine ⟨Maps.size D, ho.len Tryz.underlying72 ty, fun h0 m v hf => ?_, fun hn => ?_⟩
  · obtain ⟨es, rfl, -⟩ := ho.entries Tryz.cubeKeyed
    rw [Maps.size_eq] at h0
    have : es = [] := List.eq_nil_of_length_eq_zero h0
    subst this
    have := (hk m v).2 hf
    simp [Maps.has] at this
  · obtain ⟨es, clock, hb, F, hs, hD⟩ := id ho
    obtain ⟨l, hl, -, -⟩ := ho.entries Tryz.cubeKeyed
    rcases l with _ | ⟨p, l⟩
    · rw [hl]; rfl
    · exfalso
      have hp : p ∈ (es.toList.map (WideElems.rg Tryz.prog 26 (plainElem Tryz.prog 3))).foldr DataW.insert [] := by
        have := hD.symm.trans hl
        injection this with this
        rw [this]
        exact List.mem_cons_self
      obtain ⟨x, hx, hxp⟩ := List.mem_map.1 (mem_sorted.1 hp)
      obtain ⟨y, hy⟩ := F.reads x hx
      have hkey := WideElems.rd_key hy
      obtain ⟨m, v, -, hkl⟩ := key_inv hkey
      refine hn m v ((hk m v).1 ?_)
      rw [hl, Maps.has_eq]
      refine List.any_eq_true.2 ⟨p, List.mem_cons_self, ?_⟩
      rw [← hxp, WideElems.rg_of hy, hkl]
      exact WideAt.sameKey_self (isKey_cb m v)
/-- One more of the cube m, v: what its two steps do. -/
theorem MpAt.count {w : World} {b N T : Nat} {f : BitVec 8 → BitVec 8 → Prop} {D : DataW Unit} (h : MpAt w b N T f D) (hN : N < 9223372036854775807) (hT : T < 9223372036854775807) (m v : BitVec 8) :
    ∃ (c : Nat) (v0 : Value) (st : Nat) (w1 : World), c ≤ T ∧ (Instr.lookup 72 (.map (some b)) (cv m v) false).run Tryz.prog w = .ok (.int .i64 c) w ∧
      (Instr.mapEntry 72 (.map (some b)) (cv m v)).run Tryz.prog w = .ok (.tuple #[v0, goInt st]) w1 ∧ (Instr.lookup 72 (.map (some b)) (cv m v) false).run Tryz.prog w1 = .ok (.int .i64 c) w1 ∧
      ∃ w3 D', (Instr.entryStore 72 (.map (some b)) (goInt st) (.int .i64 ((c : Int) + 1))).run Tryz.prog w1 = .ok () w3 ∧ MpAt w3 b (N + 1) (T + 1) (fun m' v' => f m' v' ∨ (m' = m ∧ v' = v)) D' ∧ w.mapTurned w3 b := by
  obtain ⟨c0, hr0, -, hcT⟩ := h.look m v
  obtain ⟨ho, hk, hc⟩ := h
  obtain ⟨c, v0, st, w1, hat, h1, h2, h3, h4⟩ := entry_two Tryz.cubeLaw Tryz.underlying72 Tryz.underlying3 zeroInt9 ho (by unfold maxLen; omega) (key_cb m v)
  rw [hr0] at h1
  have e := (Value.int.inj (Result.ok.inj h1).1).2
  subst e
  obtain ⟨w3, h5, h6, h7⟩ := h4 ((c0 : Int) + 1) (WalkArith.wf_i64 (by omega))
  refine ⟨c0, v0, st, w1, hcT, hr0, h2, h3, w3, _, h5, ⟨h6, fun m' v' => ?_, fun m' v' hf => ?_⟩, h7⟩
  · by_cases e : m' = m ∧ v' = v
    · obtain ⟨rfl, rfl⟩ := e
      rw [Maps.has_put_same ho.isMap (isKey_cb _ _)]
      simp
    · have hne : klC m' v' ≠ klC m v := fun x => e (klC_inj x)
      rw [Maps.has_put_other hne, hk m' v']
      exact ⟨Or.inl, fun h => h.elim id fun h => absurd h e⟩
  · by_cases e : m' = m ∧ v' = v
    · obtain ⟨rfl, rfl⟩ := e
      refine ⟨c0 + 1, by omega, by omega, ?_⟩
      rw [Maps.atKey_put_same ho.isMap (isKey_cb _ _)]
      rfl
    · have hne : klC m' v' ≠ klC m v := fun x => e (klC_inj x)
      rw [Maps.atKey_put_other hne]
      obtain ⟨c, h1, h2, h3⟩ := hc m' v' (hf.elim id fun h => absurd h e)
      exact ⟨c, h1, by omega, h3⟩
theorem MpAt.same {w : World} {b N N' T T' : Nat} {f f' : BitVec 8 → BitVec 8 → Prop} {D : DataW Unit} (h : MpAt w b N T f D) (hf : ∀ m v, f m v ↔ f' m v) (hN : N ≤ N') (hT : T ≤ T') : MpAt w b N' T' f' D := by
  obtain ⟨ho, hk, hc⟩ := h
  refine ⟨ho.mono hN, fun m v => (hk m v).trans (hf m v), fun m v h => ?_⟩
  obtain ⟨c, h1, h2, h3⟩ := hc m v ((hf m v).2 h)
  exact ⟨c, h1, by omega, h3⟩
end Go.Proofs.YtmgggennbnbjkaaGreat
