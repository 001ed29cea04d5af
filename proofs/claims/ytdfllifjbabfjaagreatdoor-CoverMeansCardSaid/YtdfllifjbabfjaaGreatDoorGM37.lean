/- A slice that reads as flags; one that comes in. -/
import Derived.Test.YtdfllifjbabfjaaGreatDoorGM32
import Derived.Deep.Slices
import Derived.ChangeSlices
import Derived.ChangeArms
namespace Go.Proofs.YtdfllifjbabfjaaGreatDoor
open Go.ChangeShapes Go.WideShapes Go.ChangeAt Go.RowKit Go.Joins

/-- The slice v reads as the flags o; what it reads lies below block B. -/
def BolsAt (w : World) (B : Nat) (v : Value) (o : List Bool) : Prop :=
  ∃ A c, v = .slice A o.length c ∧ o.length ≤ 9223372036854775807 ∧
    (0 < o.length → ∃ b off, A = some ⟨b, off, none⟩ ∧ b < B ∧ ∀ j x, o[j]? = some x → w.cell? ⟨b, off + j, none⟩ = some (.bool x))
theorem BolsAt.below {w w' : World} {B : Nat} {v : Value} {o : List Bool} (h : BolsAt w B v o) (hb : Below B w w') : BolsAt w' B v o := by
  obtain ⟨A, c, e, hl, h⟩ := h
  refine ⟨A, c, e, hl, fun h0 => ?_⟩
  obtain ⟨b, off, eA, hB, hc⟩ := h h0
  exact ⟨b, off, eA, hB, fun j x hx => (hb.cell (p := ⟨b, off + j, none⟩) hB).trans (hc j x hx)⟩
theorem BolsAt.more {w : World} {B B' : Nat} {v : Value} {o : List Bool} (h : BolsAt w B v o) (hB : B ≤ B') : BolsAt w B' v o := by
  obtain ⟨A, c, e, hl, h⟩ := h
  refine ⟨A, c, e, hl, fun h0 => ?_⟩
  obtain ⟨b, off, eA, hb, hc⟩ := h h0
  exact ⟨b, off, eA, by omega, hc⟩
theorem Tryz.cellsBool13 : Tryz.prog.cellsOf 4 = 1 := by kernel_rfl
set_option maxRecDepth 100000 in
theorem bols_of {H : Type} {enc : TypeId × Value → H} {w : World} {base m : Nat} {sp : Nat → Bool} {held : Bool} {c : Value} {y : DataW H × List MemPlace}
    (h : DataW.trod enc Tryz.prog w base sp held m 38 [c] = some y) : ∃ o, BolsAt w w.heap.size c o := by
  rcases Go.Deep.open_slice Tryz.underlying38 h with ⟨e, _⟩ | ⟨a, len, cap, m, n, D, Pl, e, hb, hl, hm, hmm, hx, hel⟩
  · simp at e
    subst e
    exact ⟨[], none, 0, rfl, by decide, fun h => absurd h (by simp)⟩
  · simp at e
    subst e
    have hle : len ≤ m := by rw [hmm]; split <;> omega
    have hmx : maxLen = 9223372036854775807 := rfl
    have each : ∀ i, i < len → ∃ x : Bool, w.cell? (a.add i) = some (.bool x) := by
      intro i hi
      obtain ⟨cs, hcs, ht⟩ := hel i (by omega)
      rw [Tryz.cellsBool13, Nat.mul_one] at hcs
      obtain ⟨_, hn, hat⟩ := World.cells?_some hcs
      match cs, hn with
      | [c0], _ =>
        have a0 := hat 0 (by decide)
        obtain ⟨x, e0, -⟩ := DataW.trod_bool Tryz.underlying4 ht
        injection e0 with e0 _
        subst e0
        exact ⟨x, by simpa [Addr.add] using a0⟩
    obtain ⟨F, hF⟩ := Go.Deep.choose_lt each
    refine ⟨(List.range len).map F, some a, cap, by simp, by simp; omega, fun h0 => ?_⟩
    have hl0 : 0 < len := by simpa using h0
    have z0 := hF 0 hl0
    obtain ⟨ea, hblk⟩ := plain_addr z0
    refine ⟨a.block, a.off, congrArg some ea, hblk, fun j l hj => ?_⟩
    rw [List.getElem?_map] at hj
    obtain ⟨j', hj', rfl⟩ := Option.map_eq_some_iff.1 hj
    obtain ⟨hlt, e⟩ := List.getElem?_eq_some_iff.1 hj'
    have e' : j' = j := by simpa using e.symm
    subst e'
    have q0 := hF j' (by simpa using hlt)
    rw [ea, add_plain] at q0
    exact q0
theorem open_bols {H : Type} {enc : TypeId × Value → H} {w : World} {base : Nat} {sp : Nat → Bool} {held : Bool} {v : Value} {d : DataW H} {p : List MemPlace}
    (hc : v.cells = #[v]) (h : DataW.Trod enc Tryz.prog w base sp held 38 v d p) : ∃ ks, BolsAt w w.heap.size v ks := by
  obtain ⟨fuel, hf⟩ := h
  rw [hc] at hf
  exact bols_of hf
end Go.Proofs.YtdfllifjbabfjaaGreatDoor
