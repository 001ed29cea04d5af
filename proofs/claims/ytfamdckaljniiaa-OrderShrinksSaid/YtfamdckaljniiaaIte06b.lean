/- Ite, whole: by induction on the levels to come. -/
import Derived.Test.YtfamdckaljniiaaIte06
namespace Go.Proofs.Ytfamdckaljniiaa
open Go.RowKit Go.Joins

/-- Another map turned: the arena is as it was. -/
theorem ArAt.turned {w w' : World} {B ab bm mm : Nat} {v : Value} {room full : Nat} {S : St} (h : ArAt w B ab bm v room full S) (ht : w.mapTurned w' mm) (hne : mm ≠ bm) : ArAt w' B ab bm v room full S := by
  have hg := ht.grown
  obtain ⟨es, clock, es', clock', hm, -⟩ := ht
  have hn := h.not_fp_map hm hne
  have hk : ∀ k, k < w.heap.size → Fp ab bm v k → w'.heap[k]? = w.heap[k]? := fun k hk hf => hg.block k hk (by intro e; injection e with e; subst e; exact hn hf)
  exact ⟨h.base, (hk ab h.lt.2.1 (.inl rfl)).trans h.head, own_keep h.rows (fun g hv _ hl => hk g hl (.inr (.inr hv))), h.ids.keep (hk bm h.lt.2.2 (.inr (.inl rfl)))⟩
end Go.Proofs.Ytfamdckaljniiaa
