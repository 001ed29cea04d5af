/- Package prime: one level makes the next, and keeps what needs each of its literals. -/
import Derived.Test.YtkccanedeladnaaSng09
import Derived.Test.YtkccanedeladnaaKep09
import Derived.Test.YtkccanedeladnaaWtp09
namespace Go.Proofs.Ytkccanedeladnaa
open Go.RowKit Go.Joins
open Go.Maps (Keyed)

theorem below_grown {w w' : World} (hb : Below w.heap.size w w') : w.grownBy w' none := ⟨hb.os, hb.tape, hb.output, hb.size, fun k hk _ => hb.block k hk⟩
/-- Where merge stands: the range over the level, the level that is made, the primes that are kept. -/
structure MgI (B : Nat) (w wr : World) (bl r ba pb N : Nat) (D : DataW Unit) (left : Lit → Bool) (cnt : Nat) (f : BitVec 8 → BitVec 8 → Prop) (M : Nat) (D2 : DataW Unit) (V : Value) (ks : List Nat) : Prop where
  rg : wr.ranges Try.prog 34 (plainElem Try.prog 3) bl r N D left cnt
  mp : MpAt wr ba M M f D2
  pr : PrmAt wr B pb V ks
  be : Below B w wr
section
variable {B : Nat} {w wr w' : World} {bl r ba pb N : Nat} {D : DataW Unit} {left : Lit → Bool} {cnt : Nat} {f : BitVec 8 → BitVec 8 → Prop} {M : Nat} {D2 : DataW Unit} {V : Value} {ks : List Nat}
theorem MgI.below (h : MgI B w wr bl r ba pb N D left cnt f M D2 V ks) (hB : B ≤ wr.heap.size) (hb : Below wr.heap.size wr w') : MgI B w w' bl r ba pb N D left cnt f M D2 V ks :=
  ⟨h.rg.kept (below_grown hb) (by simp) (by simp), h.mp.keep (hb.block ba h.mp.lt), h.pr.below hb, h.be.trans (hb.mono hB)⟩
theorem ranges_iter (h : wr.ranges Try.prog 34 (plainElem Try.prog 3) bl r N D left cnt) : ∃ a b c d, wr.heap[r]? = some (.mapIter a b c d) := by
  obtain ⟨es, clock, since, seen, c0, _, _, _, _, hr, _⟩ := h
  exact ⟨_, _, _, _, hr⟩
theorem ranges_map (h : wr.ranges Try.prog 34 (plainElem Try.prog 3) bl r N D left cnt) : ∃ es clock, wr.heap[bl]? = some (.map es clock) := by
  obtain ⟨es, clock, since, seen, c0, hb, _⟩ := h
  exact ⟨_, _, hb⟩
theorem PrmAt.ne_own (h : PrmAt wr B pb V ks) {k : Nat} (hk : ∀ C A z, wr.heap[k]? ≠ some (.cells C A z)) : k ≠ pb ∧ V.ownBlock ≠ some k := by
  refine ⟨fun e => ?_, fun e => ?_⟩
  · subst e
    exact hk _ _ _ h.box
  · rcases h.row.2 with ⟨rfl, -⟩ | ⟨g, cap, cur, rfl, -, hg, -⟩
    · cases e
    · injection e with e
      exact hk _ _ _ (by rw [← show g = k from e]; exact hg)
theorem MgI.parts (h : MgI B w wr bl r ba pb N D left cnt f M D2 V ks) : (bl ≠ pb ∧ V.ownBlock ≠ some bl) ∧ (r ≠ pb ∧ V.ownBlock ≠ some r) ∧ (ba ≠ pb ∧ V.ownBlock ≠ some ba) ∧ r ≠ ba := by
  obtain ⟨a, b, c, d, hr⟩ := ranges_iter h.rg
  obtain ⟨es, cl, hm⟩ := ranges_map h.rg
  obtain ⟨es2, cl2, hm2⟩ := h.mp.obj
  refine ⟨h.pr.ne_own fun C A z e => ?_, h.pr.ne_own fun C A z e => ?_, h.pr.ne_own fun C A z e => ?_, fun e => ?_⟩
  · rw [hm] at e; injection e with e; cases e
  · rw [hr] at e; injection e with e; cases e
  · rw [hm2] at e; injection e with e; cases e
  · rw [e, hm2] at hr; injection hr with hr; cases hr
/-- Only block x has turned. -/
theorem PrmAt.grown (h : PrmAt wr B pb V ks) {x : Nat} (hg : wr.grownBy w' (some x)) (h1 : x ≠ pb) (h2 : V.ownBlock ≠ some x) : PrmAt w' B pb V ks := by
  refine ⟨(hg.block pb (size_of_block h.box) (fun e => h1 (by injection e with e; exact e.symm))).trans h.box, h.row.kept hg ?_⟩
  exact Or.inr h2
theorem MgI.next (h : MgI B w wr bl r ba pb N D left cnt f M D2 V ks) (hB : B ≤ r) {left' : Lit → Bool} {cnt' : Nat} (hg : wr.grownBy w' (some r)) (hr : w'.ranges Try.prog 34 (plainElem Try.prog 3) bl r N D left' cnt') : MgI B w w' bl r ba pb N D left' cnt' f M D2 V ks := by
  obtain ⟨-, ⟨h1, h2⟩, -, h3⟩ := h.parts
  exact ⟨hr, h.mp.keep (hg.block ba h.mp.lt (fun e => h3 (by injection e with e; exact e.symm))), h.pr.grown hg h1 h2, h.be.grown hg (by have := h.rg.lt; omega) (fun j e => by injection e with e; omega)⟩
theorem MgI.turned (h : MgI B w wr bl r ba pb N D left cnt f M D2 V ks) (hB : B ≤ ba) (hbl : bl ≠ ba) {f' : BitVec 8 → BitVec 8 → Prop} {M' : Nat} {D' : DataW Unit} (ht : wr.mapTurned w' ba) (hm : MpAt w' ba M' M' f' D') : MgI B w w' bl r ba pb N D left cnt f' M' D' V ks := by
  obtain ⟨-, -, ⟨h1, h2⟩, h3⟩ := h.parts
  have hg := ht.grown
  exact ⟨h.rg.kept hg (by simpa using hbl) (by simpa using h3), hm, h.pr.grown hg h1 h2, h.be.grown hg (by have := h.mp.lt; omega) (fun j e => by injection e with e; omega)⟩
theorem MgI.kept (h : MgI B w wr bl r ba pb N D left cnt f M D2 V ks) (hB : B ≤ pb) (hBr : B ≤ wr.heap.size) {V' : Value} {ks' : List Nat} (ho : Off (KepF pb V) wr w') (hp : PrmAt w' B pb V' ks') : MgI B w w' bl r ba pb N D left cnt f M D2 V' ks' := by
  obtain ⟨⟨a1, a2⟩, ⟨b1, b2⟩, ⟨c1, c2⟩, -⟩ := h.parts
  have hbl : w'.heap[bl]? = wr.heap[bl]? := ho.block bl h.rg.owns.lt (fun e => e.elim a1 a2)
  have hr : w'.heap[r]? = wr.heap[r]? := ho.block r h.rg.lt (fun e => e.elim b1 b2)
  have hba : w'.heap[ba]? = wr.heap[ba]? := ho.block ba h.mp.lt (fun e => e.elim c1 c2)
  refine ⟨?_, h.mp.keep hba, hp, h.be.trans (ho.below hBr fun k hk => ?_)⟩
  · obtain ⟨es, clock, since, seen, c0, hb, F, hs, hD, hr0, rest⟩ := h.rg
    exact ⟨es, clock, since, seen, c0, hbl.trans hb, F, hs, hD, hr.trans hr0, rest⟩
  · rcases hk with rfl | hk
    · exact hB
    · exact (h.pr.row.lt k hk).1
theorem MgI.same (h : MgI B w wr bl r ba pb N D left cnt f M D2 V ks) {f' : BitVec 8 → BitVec 8 → Prop} {M' : Nat} (hf : ∀ m v, f m v ↔ f' m v) (hM : M ≤ M') : MgI B w wr bl r ba pb N D left cnt f' M' D2 V ks :=
  ⟨h.rg, h.mp.same hf hM hM, h.pr, h.be⟩
end
/-- What the cubes that have come, and the first literals of one more, make. -/
def AbF (S : BitVec 256) (n k : Nat) (G : BitVec 8 → BitVec 8 → Prop) (m' v' : BitVec 8) : Prop := ∃ m v i, Lv S n k m v ∧ G m v ∧ i < n ∧ Lv S n k m (flV v i) ∧ m' = drM m i ∧ v' = drM v i
def OneF (S : BitVec 256) (n k : Nat) (m v : BitVec 8) (i : Nat) (m' v' : BitVec 8) : Prop := ∃ j, j < i ∧ j < n ∧ Lv S n k m (flV v j) ∧ m' = drM m j ∧ v' = drM v j
theorem oneF_zero {S : BitVec 256} {n k : Nat} {m v m' v' : BitVec 8} : ¬ OneF S n k m v 0 m' v' := fun ⟨_, h, _⟩ => by omega
theorem oneF_no {S : BitVec 256} {n k i : Nat} {m v : BitVec 8} (h : ¬ Lv S n k m (flV v i)) (m' v' : BitVec 8) : OneF S n k m v i m' v' ↔ OneF S n k m v (i + 1) m' v' := by
  constructor
  · rintro ⟨j, a, b, c⟩; exact ⟨j, by omega, b, c⟩
  · rintro ⟨j, a, b, c, d⟩
    by_cases e : j = i
    · subst e; exact absurd c h
    · exact ⟨j, by omega, b, c, d⟩
theorem oneF_yes {S : BitVec 256} {n k i : Nat} {m v : BitVec 8} (hi : i < n) (h : Lv S n k m (flV v i)) (m' v' : BitVec 8) : (OneF S n k m v i m' v' ∨ (m' = drM m i ∧ v' = drM v i)) ↔ OneF S n k m v (i + 1) m' v' := by
  constructor
  · rintro (⟨j, a, b, c⟩ | ⟨a, b⟩)
    · exact ⟨j, by omega, b, c⟩
    · exact ⟨i, by omega, hi, h, a, b⟩
  · rintro ⟨j, a, b, c, d⟩
    by_cases e : j = i
    · subst e; exact Or.inr d
    · exact Or.inl ⟨j, by omega, b, c, d⟩
theorem abF_one {S : BitVec 256} {n k : Nat} {G G' : BitVec 8 → BitVec 8 → Prop} {m v : BitVec 8} (hl : Lv S n k m v) (hG : ∀ a b, G' a b ↔ G a b ∨ (a = m ∧ b = v)) (m' v' : BitVec 8) : (AbF S n k G m' v' ∨ OneF S n k m v n m' v') ↔ AbF S n k G' m' v' := by
  constructor
  · rintro (⟨a, b, i, h1, h2, h3⟩ | ⟨j, h1, h2, h3⟩)
    · exact ⟨a, b, i, h1, (hG a b).2 (Or.inl h2), h3⟩
    · exact ⟨m, v, j, hl, (hG m v).2 (Or.inr ⟨rfl, rfl⟩), h2, h3⟩
  · rintro ⟨a, b, i, h1, h2, h3, h4⟩
    rcases (hG a b).1 h2 with h | ⟨rfl, rfl⟩
    · exact Or.inl ⟨a, b, i, h1, h, h3, h4⟩
    · exact Or.inr ⟨i, h3, h3, h4⟩
theorem abF_all {S : BitVec 256} {n k : Nat} {G : BitVec 8 → BitVec 8 → Prop} (hG : ∀ a b, G a b) (m' v' : BitVec 8) : AbF S n k G m' v' ↔ Lv S n (k + 1) m' v' := by
  rw [lv_up]
  exact ⟨fun ⟨a, b, i, h1, _, h3⟩ => ⟨a, b, i, h1, h3⟩, fun ⟨a, b, i, h1, h3⟩ => ⟨a, b, i, h1, hG a b, h3⟩⟩
/-- Which keys have come. -/
theorem come_next {left : Lit → Bool} {m v : BitVec 8} (a b : BitVec 8) : (left (klC a b) && !(klC a b).sameKey (klC m v)) = false ↔ left (klC a b) = false ∨ (a = m ∧ b = v) := by
  by_cases e : a = m ∧ b = v
  · obtain ⟨rfl, rfl⟩ := e
    rw [WideAt.sameKey_self (isKey_cb a b)]
    simp
  · have hne : klC a b ≠ klC m v := fun x => e (klC_inj x)
    rw [Maps.sameKey_ne hne]
    simp [e]
end Go.Proofs.Ytkccanedeladnaa
