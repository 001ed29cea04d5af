/- A slice that reads as numbers. -/
import Derived.Test.YtkccanedeladnaaTail
namespace Go.Proofs.Ytkccanedeladnaa
open Go.RowKit Go.Joins

/-- The slice v reads as the numbers o; what it reads lies below block B. -/
def IntsAt (w : World) (B : Nat) (v : Value) (o : List Int) : Prop :=
  ∃ A c, v = .slice A o.length c ∧ o.length ≤ 9223372036854775807 ∧
    (0 < o.length → ∃ b off, A = some ⟨b, off, none⟩ ∧ b < B ∧ ∀ j x, o[j]? = some x → w.cell? ⟨b, off + j, none⟩ = some (.int .i64 x))
theorem IntsAt.below {w w' : World} {B : Nat} {v : Value} {o : List Int} (h : IntsAt w B v o) (hb : Below B w w') : IntsAt w' B v o := by
  obtain ⟨A, c, e, hl, h⟩ := h
  refine ⟨A, c, e, hl, fun h0 => ?_⟩
  obtain ⟨b, off, eA, hB, hc⟩ := h h0
  exact ⟨b, off, eA, hB, fun j x hx => (hb.cell (p := ⟨b, off + j, none⟩) hB).trans (hc j x hx)⟩
theorem IntsAt.more {w : World} {B B' : Nat} {v : Value} {o : List Int} (h : IntsAt w B v o) (hB : B ≤ B') : IntsAt w B' v o := by
  obtain ⟨A, c, e, hl, h⟩ := h
  refine ⟨A, c, e, hl, fun h0 => ?_⟩
  obtain ⟨b, off, eA, hb, hc⟩ := h h0
  exact ⟨b, off, eA, by omega, hc⟩
end Go.Proofs.Ytkccanedeladnaa
