/- Package prime: the function that keeps a cube at its place. Package prime: one level makes the next, and keeps what needs each of its literals. -/
import Derived.Test.YtehpccanjlaokaaGreatGQ44
import Derived.Test.YtehpccanjlaokaaGreatGQ10
import Derived.Test.YtehpccanjlaokaaGreatGQ42
import Derived.Test.YtehpccanjlaokaaGreatGQ21
namespace Go.Proofs.YtehpccanjlaokaaGreat
open Go.RowKit Go.Joins

theorem nowP {w : World} {b : Nat} {T : TypeId} {x0 : Value} (h : w.heap[b]? = some (.cells #[x0] T (0, 0))) : w.cell? ⟨b, 0, none⟩ = some x0 ∧ ∀ j, w.frozen? ⟨b, j, none⟩ = false :=
  ⟨by rw [cell_of_block h]; rfl, fun j => by simp [World.frozen?, h]⟩
theorem insK_map (ks : List Nat) (i : Nat) (m v : BitVec 8) : (insK ks i (keyC m v)).map cbK = insC (ks.map cbK) i ⟨m, v⟩ := by
  unfold insK insC
  rw [List.map_append, List.map_cons, List.map_take, List.map_drop]
  unfold cbK
  rw [kM_key, kV_key]
theorem own_ne_cell {w : World} {B n : Nat} {V u : Value} {xs : List Value} {pb : Nat} (h : w.ownsRow B 57 2 V n xs) (hp : w.heap[pb]? = some (.cells #[u] 65 (0, 0))) : V.ownBlock ≠ some pb := by
  intro e
  rcases h.2 with ⟨rfl, -⟩ | ⟨g, cap, cur, rfl, -, hg, -⟩
  · cases e
  · injection e with e
    rw [show g = pb from e, hp] at hg
    injection hg with hg
    injection hg with _ he
    exact absurd he (by decide)
/-- What is kept: the primes so far, in the variable's box. -/
structure PrmAt (w : World) (B pb : Nat) (V : Value) (ks : List Nat) : Prop where
  box : w.heap[pb]? = some (.cells #[V] 65 (0, 0))
  row : w.ownsRow B 57 2 V ks.length (cbsV (ks.map cbK))
/-- The blocks that keeping a cube may write. -/
def KepF (pb : Nat) (V : Value) (k : Nat) : Prop := k = pb ∨ V.ownBlock = some k
theorem PrmAt.off {w w' : World} {B pb : Nat} {V : Value} {ks : List Nat} {F : Nat → Prop} (h : PrmAt w B pb V ks) (ho : Off F w w') (h1 : ¬ F pb) (h2 : ∀ g, V.ownBlock = some g → ¬ F g) : PrmAt w' B pb V ks := by
  refine ⟨(ho.block pb (size_of_block h.box) h1).trans h.box, ?_⟩
  refine ⟨h.row.1, ?_⟩
  rcases h.row.2 with hn | ⟨g, cap, cur, rfl, hb, hg, rest⟩
  · exact .inl hn
  · exact .inr ⟨g, cap, cur, rfl, hb, (ho.block g (size_of_block hg) (h2 g rfl)).trans hg, rest⟩
theorem PrmAt.below {w w' : World} {B pb : Nat} {V : Value} {ks : List Nat} (h : PrmAt w B pb V ks) (hb : Below w.heap.size w w') : PrmAt w' B pb V ks :=
  h.off (F := fun _ => False) ((Off.of_below hb).mono fun _ f => f) id fun _ _ => id
set_option maxHeartbeats 1000000 in
set_option maxRecDepth 100000 in
theorem keep_any (m v : BitVec 8) (B pb : Nat) (V : Value) (ks : List Nat) (hp : ks.Pairwise (· < ·)) (hk : ∀ x ∈ ks, x < 65536) (w : World) (hB : B ≤ w.heap.size) (h : PrmAt w B pb V ks) :
    Calls Tryz.prog 57 #[cv m v, .pointer (some ⟨pb, 0, none⟩)] w fun e w' =>
      ∃ (i : Nat) (V' : Value), e = .returned (.tuple #[]) ∧ LoK ks i (keyC m v) ∧ HiK ks i (keyC m v) ∧ PrmAt w' B pb V' (insK ks i (keyC m v)) ∧ Off (KepF pb V) w w' := by
  have hlen : ks.length ≤ 65536 := rise_len (lo := 0) hp fun x hx => ⟨Nat.zero_le _, hk x hx⟩
  have hpb := size_of_block h.box
  have HB := fun w hC => bsearch_any m v ks hp hk V w hC
  have HI := fun i vb w hi hB hvb hown hv => insert_any B V (ks.map cbK) i ⟨m, v⟩ vb w (by rw [List.length_map]; exact hlen) (by rw [List.length_map]; exact hi) hB hvb hown hv
  have h1 := h.below (below_alloc1 w (cb m v))
  have hx := heap_alloc_new w (cb m v)
  have hb := below_alloc1 w (cb m v)
  unfold cv cb bvv at *
  go_enter Tryz.func57, Tryz.ntmps57
  go_upto_region 1 with (fail)
  generalize w.alloc _ = W at *
  obtain ⟨x0, x1, -⟩ := now2 hx rfl
  obtain ⟨p0, -⟩ := nowP h1.box
  go_wp2_with fail
  refine (HB W (own_cbs (cs := ks.map cbK) (by rw [List.length_map]; exact h1.row))).mono ?_
  rintro e w1 ⟨i, bq, rfl, hi, hlo, hhi, hb1⟩
  have h2 := h1.below hb1
  have hx1 := keep_blk hb1 hx
  have hB1 := hb.trans (hb1.mono hb.size)
  clear HB x0 x1 p0 hx hb hb1 h1
  obtain ⟨x0, x1, -⟩ := now2 hx1 rfl
  obtain ⟨p0, -⟩ := nowP h2.box
  go_wp2_with fail
  have hz := heap_alloc_new w1 (.cells #[.int .u8 m.toNat, .int .u8 v.toNat] 57)
  have hB2 := hB1.trans ((below_alloc1 w1 (.cells #[.int .u8 m.toNat, .int .u8 v.toNat] 57)).mono hB1.size)
  have h3 := h2.below (below_alloc1 w1 (.cells #[.int .u8 m.toNat, .int .u8 v.toNat] 57))
  have hne : V.ownBlock ≠ some w1.heap.size := fun e => by
    have := (h2.row.lt _ e).2
    omega
  clear x0 x1 p0 h2 hx1 hB1
  generalize w1.alloc _ = W2 at *
  generalize w1.heap.size = zb at *
  refine (HI i zb W2 hi (by have := hB2.size; omega) hne (by rw [List.length_map]; exact h3.row) hz).mono ?_
  rintro e w3 ⟨V', rfl, hown, hg⟩
  obtain ⟨A', c', eV⟩ := own_form hown
  have hnp := own_ne_cell h3.row h3.box
  have hbx : w3.heap[pb]? = some (.cells #[V] 65 (0, 0)) := (hg.block pb (size_of_block h3.box) (fun e => hnp e.symm)).trans h3.box
  have hO : Off (KepF pb V) w w3 := (Off.of_below (F := KepF pb V) hB2).grownNew hg (fun b e => Or.inl (Or.inr e))
  have hO2 := hO.setCell (b := pb) (o := 0) (Or.inl (Or.inl rfl)) V'
  have hbx2 : (w3.setCell ⟨pb, 0, none⟩ V').heap[pb]? = some (.cells #[V'] 65 (0, 0)) := by rw [block_setCell hbx V']; rfl
  have hrow2 := hown.kept (grown_set (j := 0) (u := V') (⟨rfl, rfl, rfl, Nat.le_refl _, fun _ _ _ => rfl⟩ : w3.grownBy w3 (some pb))) (Or.inr (own_ne_cell hown hbx))
  obtain ⟨p0, pf⟩ := nowP hbx
  rw [← insK_map, List.length_map] at hrow2
  clear HI hne hz hB2 h3 hg hO hown
  subst eV
  go_wp2
  go_end0
  exact ⟨i, _, rfl, hlo, hhi, ⟨hbx2, hrow2⟩, hO2⟩
end Go.Proofs.YtehpccanjlaokaaGreat
namespace Go.Proofs.YtehpccanjlaokaaGreat
open Go.RowKit Go.Joins
open Go.Maps (Keyed)

theorem below_grown {w w' : World} (hb : Below w.heap.size w w') : w.grownBy w' none := ⟨hb.os, hb.tape, hb.output, hb.size, fun k hk _ => hb.block k hk⟩
/-- Where merge stands: the range over the level, the level that is made, the primes that are kept. -/
structure MgI (B : Nat) (w wr : World) (bl r ba pb N : Nat) (D : DataW Unit) (left : Lit → Bool) (cnt : Nat) (f : BitVec 8 → BitVec 8 → Prop) (M : Nat) (D2 : DataW Unit) (V : Value) (ks : List Nat) : Prop where
  rg : wr.ranges Tryz.prog 57 (plainElem Tryz.prog 3) bl r N D left cnt
  mp : MpAt wr ba M M f D2
  pr : PrmAt wr B pb V ks
  be : Below B w wr
section
variable {B : Nat} {w wr w' : World} {bl r ba pb N : Nat} {D : DataW Unit} {left : Lit → Bool} {cnt : Nat} {f : BitVec 8 → BitVec 8 → Prop} {M : Nat} {D2 : DataW Unit} {V : Value} {ks : List Nat}
theorem MgI.below (h : MgI B w wr bl r ba pb N D left cnt f M D2 V ks) (hB : B ≤ wr.heap.size) (hb : Below wr.heap.size wr w') : MgI B w w' bl r ba pb N D left cnt f M D2 V ks :=
  ⟨h.rg.kept (below_grown hb) (by simp) (by simp), h.mp.keep (hb.block ba h.mp.lt), h.pr.below hb, h.be.trans (hb.mono hB)⟩
theorem ranges_iter (h : wr.ranges Tryz.prog 57 (plainElem Tryz.prog 3) bl r N D left cnt) : ∃ a b c d, wr.heap[r]? = some (.mapIter a b c d) := by
  obtain ⟨es, clock, since, seen, c0, _, _, _, _, hr, _⟩ := h
  exact ⟨_, _, _, _, hr⟩
theorem ranges_map (h : wr.ranges Tryz.prog 57 (plainElem Tryz.prog 3) bl r N D left cnt) : ∃ es clock, wr.heap[bl]? = some (.map es clock) := by
  obtain ⟨es, clock, since, seen, c0, hb, _⟩ := h
  exact ⟨_, _, hb⟩
theorem PrmAt.ne_own (h : PrmAt wr B pb V ks) {k : Nat} (hk : ∀ C A z, wr.heap[k]? ≠ some (.cells C A z)) : k ≠ pb ∧ V.ownBlock ≠ some k := by
  refine ⟨fun e => ?_, fun e => ?_⟩
  · subst e
    exact hk _ _ _ h.box
  · rcases h.row.2 with ⟨rfl, -⟩ | ⟨g, cap, cur, rfl, -, hg, -⟩
    · cases e
    · injection e with e
      exact hk _ _ _ (by rw [← show g = k from e]; exact hg)
theorem MgI.parts (h : MgI B w wr bl r ba pb N D left cnt f M D2 V ks) : (bl ≠ pb ∧ V.ownBlock ≠ some bl) ∧ (r ≠ pb ∧ V.ownBlock ≠ some r) ∧ (ba ≠ pb ∧ V.ownBlock ≠ some ba) ∧ r ≠ ba := by
  obtain ⟨a, b, c, d, hr⟩ := ranges_iter h.rg
  obtain ⟨es, cl, hm⟩ := ranges_map h.rg
  obtain ⟨es2, cl2, hm2⟩ := h.mp.obj
  refine ⟨h.pr.ne_own fun C A z e => ?_, h.pr.ne_own fun C A z e => ?_, h.pr.ne_own fun C A z e => ?_, fun e => ?_⟩
  · rw [hm] at e; injection e with e; cases e
  · rw [hr] at e; injection e with e; cases e
  · rw [hm2] at e; injection e with e; cases e
  · rw [e, hm2] at hr; injection hr with hr; cases hr
/-- Only block x has turned. -/
theorem PrmAt.grown (h : PrmAt wr B pb V ks) {x : Nat} (hg : wr.grownBy w' (some x)) (h1 : x ≠ pb) (h2 : V.ownBlock ≠ some x) : PrmAt w' B pb V ks := by
  refine ⟨(hg.block pb (size_of_block h.box) (fun e => h1 (by injection e with e; exact e.symm))).trans h.box, h.row.kept hg ?_⟩
  exact Or.inr h2
theorem MgI.next (h : MgI B w wr bl r ba pb N D left cnt f M D2 V ks) (hB : B ≤ r) {left' : Lit → Bool} {cnt' : Nat} (hg : wr.grownBy w' (some r)) (hr : w'.ranges Tryz.prog 57 (plainElem Tryz.prog 3) bl r N D left' cnt') : MgI B w w' bl r ba pb N D left' cnt' f M D2 V ks := by
  obtain ⟨-, ⟨h1, h2⟩, -, h3⟩ := h.parts
  exact ⟨hr, h.mp.keep (hg.block ba h.mp.lt (fun e => h3 (by injection e with e; exact e.symm))), h.pr.grown hg h1 h2, h.be.grown hg (by have := h.rg.lt; omega) (fun j e => by injection e with e; omega)⟩
theorem MgI.turned (h : MgI B w wr bl r ba pb N D left cnt f M D2 V ks) (hB : B ≤ ba) (hbl : bl ≠ ba) {f' : BitVec 8 → BitVec 8 → Prop} {M' : Nat} {D' : DataW Unit} (ht : wr.mapTurned w' ba) (hm : MpAt w' ba M' M' f' D') : MgI B w w' bl r ba pb N D left cnt f' M' D' V ks := by
  obtain ⟨-, -, ⟨h1, h2⟩, h3⟩ := h.parts
  have hg := ht.grown
  exact ⟨h.rg.kept hg (by simpa using hbl) (by simpa using h3), hm, h.pr.grown hg h1 h2, h.be.grown hg (by have := h.mp.lt; omega) (fun j e => by injection e with e; omega)⟩
theorem MgI.kept (h : MgI B w wr bl r ba pb N D left cnt f M D2 V ks) (hB : B ≤ pb) (hBr : B ≤ wr.heap.size) {V' : Value} {ks' : List Nat} (ho : Off (KepF pb V) wr w') (hp : PrmAt w' B pb V' ks') : MgI B w w' bl r ba pb N D left cnt f M D2 V' ks' := by
  obtain ⟨⟨a1, a2⟩, ⟨b1, b2⟩, ⟨c1, c2⟩, -⟩ := h.parts
  have hbl : w'.heap[bl]? = wr.heap[bl]? := ho.block bl h.rg.owns.lt (fun e => e.elim a1 a2)
  have hr : w'.heap[r]? = wr.heap[r]? := ho.block r h.rg.lt (fun e => e.elim b1 b2)
  have hba : w'.heap[ba]? = wr.heap[ba]? := ho.block ba h.mp.lt (fun e => e.elim c1 c2)
  refine ⟨?_, h.mp.keep hba, hp, h.be.trans (ho.below hBr fun k hk => ?_)⟩
  · obtain ⟨es, clock, since, seen, c0, hb, F, hs, hD, hr0, rest⟩ := h.rg
    exact ⟨es, clock, since, seen, c0, hbl.trans hb, F, hs, hD, hr.trans hr0, rest⟩
  · rcases hk with rfl | hk
    · exact hB
    · exact (h.pr.row.lt k hk).1
theorem MgI.same (h : MgI B w wr bl r ba pb N D left cnt f M D2 V ks) {f' : BitVec 8 → BitVec 8 → Prop} {M' : Nat} (hf : ∀ m v, f m v ↔ f' m v) (hM : M ≤ M') : MgI B w wr bl r ba pb N D left cnt f' M' D2 V ks :=
  ⟨h.rg, h.mp.same hf hM hM, h.pr, h.be⟩
end
/-- What the cubes that have come, and the first literals of one more, make. -/
def AbF (S : BitVec 256) (n k : Nat) (G : BitVec 8 → BitVec 8 → Prop) (m' v' : BitVec 8) : Prop := ∃ m v i, Lv S n k m v ∧ G m v ∧ i < n ∧ Lv S n k m (flV v i) ∧ m' = drM m i ∧ v' = drM v i
def OneF (S : BitVec 256) (n k : Nat) (m v : BitVec 8) (i : Nat) (m' v' : BitVec 8) : Prop := ∃ j, j < i ∧ j < n ∧ Lv S n k m (flV v j) ∧ m' = drM m j ∧ v' = drM v j
theorem oneF_zero {S : BitVec 256} {n k : Nat} {m v m' v' : BitVec 8} : ¬ OneF S n k m v 0 m' v' := fun ⟨_, h, _⟩ => by omega
theorem oneF_no {S : BitVec 256} {n k i : Nat} {m v : BitVec 8} (h : ¬ Lv S n k m (flV v i)) (m' v' : BitVec 8) : OneF S n k m v i m' v' ↔ OneF S n k m v (i + 1) m' v' := by
  constructor
  · rintro ⟨j, a, b, c⟩; exact ⟨j, by omega, b, c⟩
  · rintro ⟨j, a, b, c, d⟩
    by_cases e : j = i
    · subst e; exact absurd c h
    · exact ⟨j, by omega, b, c, d⟩
theorem oneF_yes {S : BitVec 256} {n k i : Nat} {m v : BitVec 8} (hi : i < n) (h : Lv S n k m (flV v i)) (m' v' : BitVec 8) : (OneF S n k m v i m' v' ∨ (m' = drM m i ∧ v' = drM v i)) ↔ OneF S n k m v (i + 1) m' v' := by
  constructor
  · rintro (⟨j, a, b, c⟩ | ⟨a, b⟩)
    · exact ⟨j, by omega, b, c⟩
    · exact ⟨i, by omega, hi, h, a, b⟩
  · rintro ⟨j, a, b, c, d⟩
    by_cases e : j = i
    · subst e; exact Or.inr d
    · exact Or.inl ⟨j, by omega, b, c, d⟩
theorem abF_one {S : BitVec 256} {n k : Nat} {G G' : BitVec 8 → BitVec 8 → Prop} {m v : BitVec 8} (hl : Lv S n k m v) (hG : ∀ a b, G' a b ↔ G a b ∨ (a = m ∧ b = v)) (m' v' : BitVec 8) : (AbF S n k G m' v' ∨ OneF S n k m v n m' v') ↔ AbF S n k G' m' v' := by
  constructor
  · rintro (⟨a, b, i, h1, h2, h3⟩ | ⟨j, h1, h2, h3⟩)
    · exact ⟨a, b, i, h1, (hG a b).2 (Or.inl h2), h3⟩
    · exact ⟨m, v, j, hl, (hG m v).2 (Or.inr ⟨rfl, rfl⟩), h2, h3⟩
  · rintro ⟨a, b, i, h1, h2, h3, h4⟩
    rcases (hG a b).1 h2 with h | ⟨rfl, rfl⟩
    · exact Or.inl ⟨a, b, i, h1, h, h3, h4⟩
    · exact Or.inr ⟨i, h3, h3, h4⟩
theorem abF_all {S : BitVec 256} {n k : Nat} {G : BitVec 8 → BitVec 8 → Prop} (hG : ∀ a b, G a b) (m' v' : BitVec 8) : AbF S n k G m' v' ↔ Lv S n (k + 1) m' v' := by
  rw [lv_up]
  exact ⟨fun ⟨a, b, i, h1, _, h3⟩ => ⟨a, b, i, h1, h3⟩, fun ⟨a, b, i, h1, h3⟩ => ⟨a, b, i, h1, hG a b, h3⟩⟩
/-- Which keys have come. -/
theorem come_next {left : Lit → Bool} {m v : BitVec 8} (a b : BitVec 8) : (left (klC a b) && !(klC a b).sameKey (klC m v)) = false ↔ left (klC a b) = false ∨ (a = m ∧ b = v) := by
  by_cases e : a = m ∧ b = v
  · obtain ⟨rfl, rfl⟩ := e
    rw [WideAt.sameKey_self (isKey_cb a b)]
    simp
  · have hne : klC a b ≠ klC m v := fun x => e (klC_inj x)
    rw [Maps.sameKey_ne hne]
    simp [e]
end Go.Proofs.YtehpccanjlaokaaGreat
