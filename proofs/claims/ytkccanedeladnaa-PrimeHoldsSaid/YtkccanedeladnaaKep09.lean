/- Package prime: the function that keeps a cube at its place. -/
import Derived.Test.YtkccanedeladnaaIns09
import Derived.Test.YtkccanedeladnaaArn05
namespace Go.Proofs.Ytkccanedeladnaa
open Go.RowKit Go.Joins

theorem nowP {w : World} {b : Nat} {T : TypeId} {x0 : Value} (h : w.heap[b]? = some (.cells #[x0] T (0, 0))) : w.cell? ⟨b, 0, none⟩ = some x0 ∧ ∀ j, w.frozen? ⟨b, j, none⟩ = false :=
  ⟨by rw [cell_of_block h]; rfl, fun j => by simp [World.frozen?, h]⟩
theorem insK_map (ks : List Nat) (i : Nat) (m v : BitVec 8) : (insK ks i (keyC m v)).map cbK = insC (ks.map cbK) i ⟨m, v⟩ := by
  unfold insK insC
  rw [List.map_append, List.map_cons, List.map_take, List.map_drop]
  unfold cbK
  rw [kM_key, kV_key]
theorem own_ne_cell {w : World} {B n : Nat} {V u : Value} {xs : List Value} {pb : Nat} (h : w.ownsRow B 34 2 V n xs) (hp : w.heap[pb]? = some (.cells #[u] 27 (0, 0))) : V.ownBlock ≠ some pb := by
  intro e
  rcases h.2 with ⟨rfl, -⟩ | ⟨g, cap, cur, rfl, -, hg, -⟩
  · cases e
  · injection e with e
    rw [show g = pb from e, hp] at hg
    injection hg with hg
    injection hg with _ he
    exact absurd he (by decide)
/-- What is kept: the primes so far, in the variable's box. -/
structure PrmAt (w : World) (B pb : Nat) (V : Value) (ks : List Nat) : Prop where
  box : w.heap[pb]? = some (.cells #[V] 27 (0, 0))
  row : w.ownsRow B 34 2 V ks.length (cbsV (ks.map cbK))
/-- The blocks that keeping a cube may write. -/
def KepF (pb : Nat) (V : Value) (k : Nat) : Prop := k = pb ∨ V.ownBlock = some k
theorem PrmAt.off {w w' : World} {B pb : Nat} {V : Value} {ks : List Nat} {F : Nat → Prop} (h : PrmAt w B pb V ks) (ho : Off F w w') (h1 : ¬ F pb) (h2 : ∀ g, V.ownBlock = some g → ¬ F g) : PrmAt w' B pb V ks := by
  refine ⟨(ho.block pb (size_of_block h.box) h1).trans h.box, ?_⟩
  refine ⟨h.row.1, ?_⟩
  rcases h.row.2 with hn | ⟨g, cap, cur, rfl, hb, hg, rest⟩
  · exact .inl hn
  · exact .inr ⟨g, cap, cur, rfl, hb, (ho.block g (size_of_block hg) (h2 g rfl)).trans hg, rest⟩
theorem PrmAt.below {w w' : World} {B pb : Nat} {V : Value} {ks : List Nat} (h : PrmAt w B pb V ks) (hb : Below w.heap.size w w') : PrmAt w' B pb V ks :=
  h.off (F := fun _ => False) ((Off.of_below hb).mono fun _ f => f) id fun _ _ => id
set_option maxHeartbeats 1000000 in
set_option maxRecDepth 100000 in
theorem keep_any (m v : BitVec 8) (B pb : Nat) (V : Value) (ks : List Nat) (hp : ks.Pairwise (· < ·)) (hk : ∀ x ∈ ks, x < 65536) (w : World) (hB : B ≤ w.heap.size) (h : PrmAt w B pb V ks) :
    Calls Try.prog 22 #[cv m v, .pointer (some ⟨pb, 0, none⟩)] w fun e w' =>
      ∃ (i : Nat) (V' : Value), e = .returned (.tuple #[]) ∧ LoK ks i (keyC m v) ∧ HiK ks i (keyC m v) ∧ PrmAt w' B pb V' (insK ks i (keyC m v)) ∧ Off (KepF pb V) w w' := by
  have hlen : ks.length ≤ 65536 := rise_len (lo := 0) hp fun x hx => ⟨Nat.zero_le _, hk x hx⟩
  have hpb := size_of_block h.box
  have HB := fun w hC => bsearch_any m v ks hp hk V w hC
  have HI := fun i vb w hi hB hvb hown hv => insert_any B V (ks.map cbK) i ⟨m, v⟩ vb w (by rw [List.length_map]; exact hlen) (by rw [List.length_map]; exact hi) hB hvb hown hv
  have h1 := h.below (below_alloc1 w (cb m v))
  have hx := heap_alloc_new w (cb m v)
  have hb := below_alloc1 w (cb m v)
  unfold cv cb bvv at *
  go_enter Try.func22, Try.ntmps22
  go_upto_region 1 with (fail)
  generalize w.alloc _ = W at *
  obtain ⟨x0, x1, -⟩ := now2 hx rfl
  obtain ⟨p0, -⟩ := nowP h1.box
  go_wp2_with fail
  refine (HB W (own_cbs (cs := ks.map cbK) (by rw [List.length_map]; exact h1.row))).mono ?_
  rintro e w1 ⟨i, bq, rfl, hi, hlo, hhi, hb1⟩
  have h2 := h1.below hb1
  have hx1 := keep_blk hb1 hx
  have hB1 := hb.trans (hb1.mono hb.size)
  clear HB x0 x1 p0 hx hb hb1 h1
  obtain ⟨x0, x1, -⟩ := now2 hx1 rfl
  obtain ⟨p0, -⟩ := nowP h2.box
  go_wp2_with fail
  have hz := heap_alloc_new w1 (.cells #[.int .u8 m.toNat, .int .u8 v.toNat] 34)
  have hB2 := hB1.trans ((below_alloc1 w1 (.cells #[.int .u8 m.toNat, .int .u8 v.toNat] 34)).mono hB1.size)
  have h3 := h2.below (below_alloc1 w1 (.cells #[.int .u8 m.toNat, .int .u8 v.toNat] 34))
  have hne : V.ownBlock ≠ some w1.heap.size := fun e => by
    have := (h2.row.lt _ e).2
    omega
  clear x0 x1 p0 h2 hx1 hB1
  generalize w1.alloc _ = W2 at *
  generalize w1.heap.size = zb at *
  refine (HI i zb W2 hi (by have := hB2.size; omega) hne (by rw [List.length_map]; exact h3.row) hz).mono ?_
  rintro e w3 ⟨V', rfl, hown, hg⟩
  obtain ⟨A', c', eV⟩ := own_form hown
  have hnp := own_ne_cell h3.row h3.box
  have hbx : w3.heap[pb]? = some (.cells #[V] 27 (0, 0)) := (hg.block pb (size_of_block h3.box) (fun e => hnp e.symm)).trans h3.box
  have hO : Off (KepF pb V) w w3 := (Off.of_below (F := KepF pb V) hB2).grownNew hg (fun b e => Or.inl (Or.inr e))
  have hO2 := hO.setCell (b := pb) (o := 0) (Or.inl (Or.inl rfl)) V'
  have hbx2 : (w3.setCell ⟨pb, 0, none⟩ V').heap[pb]? = some (.cells #[V'] 27 (0, 0)) := by rw [block_setCell hbx V']; rfl
  have hrow2 := hown.kept (grown_set (j := 0) (u := V') (⟨rfl, rfl, rfl, Nat.le_refl _, fun _ _ _ => rfl⟩ : w3.grownBy w3 (some pb))) (Or.inr (own_ne_cell hown hbx))
  obtain ⟨p0, pf⟩ := nowP hbx
  rw [← insK_map, List.length_map] at hrow2
  clear HI hne hz hB2 h3 hg hO hown
  subst eV
  go_wp2
  go_end0
  exact ⟨i, _, rfl, hlo, hhi, ⟨hbx2, hrow2⟩, hO2⟩
end Go.Proofs.Ytkccanedeladnaa
