/- A diagram in memory: what stays while only an arena and some maps are written; level, half, uses. -/
import Derived.Test.YtkkdfpmjmommcaaRch05
import Derived.Test.YtkkdfpmjmommcaaPnt06
import Derived.Test.YtkkdfpmjmommcaaLaw01d
namespace Go.Proofs.Ytkkdfpmjmommcaa
open Go.RowKit Go.Joins

/-- w' has what w has, but for arenas' own blocks and the maps of M. -/
structure Kep (M : Nat → Prop) (w w' : World) : Prop where
  os : w'.os = w.os
  tape : w'.tape = w.tape
  output : w'.output = w.output
  size : w.heap.size ≤ w'.heap.size
  cells : ∀ (k : Nat) (C : Array Value) (T : TypeId) (z : Nat × Nat), w.heap[k]? = some (.cells C T z) → T ≠ 79 → T ≠ 113 → w'.heap[k]? = some (.cells C T z)
  maps : ∀ (k : Nat) es cl, w.heap[k]? = some (.map es cl) → ¬ M k → w'.heap[k]? = some (.map es cl)
theorem Kep.refl (M : Nat → Prop) (w : World) : Kep M w w := ⟨rfl, rfl, rfl, Nat.le_refl _, fun _ _ _ _ h _ _ => h, fun _ _ _ h _ => h⟩
theorem Kep.trans {M : Nat → Prop} {a b c : World} (h : Kep M a b) (k : Kep M b c) : Kep M a c :=
  ⟨k.os.trans h.os, k.tape.trans h.tape, k.output.trans h.output, Nat.le_trans h.size k.size, fun i C T z hi h1 h2 => k.cells i C T z (h.cells i C T z hi h1 h2) h1 h2, fun i es cl hi hn => k.maps i es cl (h.maps i es cl hi hn) hn⟩
theorem Kep.of_below {M : Nat → Prop} {w w' : World} (h : Below w.heap.size w w') : Kep M w w' :=
  ⟨h.os, h.tape, h.output, h.size, fun _ _ _ _ hi _ _ => keep_blk h hi, fun _ _ _ hi _ => keep_blk h hi⟩
theorem Kep.more {M : Nat → Prop} {a w w' : World} (h : Kep M a w) (k : Below w.heap.size w w') : Kep M a w' := h.trans (Kep.of_below k)
theorem Kep.mono {M N : Nat → Prop} {w w' : World} (h : Kep M w w') (hM : ∀ k, M k → N k) : Kep N w w' :=
  ⟨h.os, h.tape, h.output, h.size, h.cells, fun k es cl hi hn => h.maps k es cl hi fun m => hn (hM k m)⟩
theorem ArAt.not_fp_map {w : World} {B ab bm : Nat} {v : Value} {room full : Nat} {S : St} (h : ArAt w B ab bm v room full S) {k : Nat} {es clock} (hk : w.heap[k]? = some (.map es clock)) (hne : k ≠ bm) : ¬ Fp ab bm v k := by
  rintro (rfl | rfl | hv)
  · rw [h.head] at hk; unfold arV at hk; injection hk with hk; cases hk
  · exact hne rfl
  · rcases h.rows.2 with ⟨e, _⟩ | ⟨g, cap, cur, e, _, hg, _⟩
    · rw [e] at hv; simp [Value.ownBlock] at hv
    · rw [e] at hv
      have : g = k := by simpa [Value.ownBlock] using hv
      subst this
      rw [hg] at hk; injection hk with hk; cases hk
theorem Kep.of_off {w w' : World} {B ab bm : Nat} {v : Value} {room full : Nat} {S : St} (h : ArAt w B ab bm v room full S) (ho : Off (Fp ab bm v) w w') : Kep (· = bm) w w' :=
  ⟨ho.os, ho.tape, ho.output, ho.size, fun _ _ _ _ hi h1 h2 => h.keep ho hi h1 h2, fun k _ _ hi hn => (ho.block k (size_of_block hi) (h.not_fp_map hi hn)).trans hi⟩
theorem Kep.row {M : Nat → Prop} {w w' : World} (h : Kep M w w') {base size n : Nat} {T : TypeId} {u : Value} {xs : List Value} (hk : w.ownsRow base T size u n xs) (h1 : T ≠ 79) (h2 : T ≠ 113) : w'.ownsRow base T size u n xs :=
  ⟨hk.1, by
    rcases hk.2 with hn | ⟨g, cap, cur, hv, hg, hh, r⟩
    · exact .inl hn
    · exact .inr ⟨g, cap, cur, hv, hg, h.cells g _ _ _ hh h1 h2, r⟩⟩
theorem Try.neIntA6 : (3 : TypeId) ≠ 79 := by decide
theorem Try.neIntS6 : (3 : TypeId) ≠ 113 := by decide
/-- An id that is used. -/
def usedB (S : St) (id : Int) : Bool := decide (0 ≤ lvl S id)
theorem used_cases {S : St} (hV : VSt S) (id : Int) : (∃ m, ndAt S id = some m ∧ usedB S id = true ∧ id ≠ 0 ∧ id ≠ 1) ∨ (ndAt S id = none ∧ usedB S id = decide (id = 0 ∨ id = 1)) := by
  cases hn : ndAt S id with
  | some m =>
    obtain ⟨h2, hm⟩ := ndAt_some.1 hn
    have h1 := (kids_lvl hV hn).1
    exact .inl ⟨m, rfl, by unfold usedB; rw [lvl_node hn]; simpa using h1.1, by omega, by omega⟩
  | none =>
    refine .inr ⟨rfl, ?_⟩
    unfold usedB
    by_cases he : id = 0 ∨ id = 1
    · rw [lvl_end he]; simp [he]
    · rw [lvl_not he hn]; simp; omega
end Go.Proofs.Ytkkdfpmjmommcaa
