/- What is kept: Sweep, for every arena and all ids. -/
import Derived.Test.YtfamdckaljniiaaMke05
import Derived.Maps.OwnSet
namespace Go.Proofs.Ytfamdckaljniiaa
open Go.RowKit Go.Joins

theorem seenA_made (n : Nat) : madeCells #[Value.bool false] n = seenA n fun _ => false := by
  unfold seenA
  apply Array.toList_inj.1
  rw [toList_madeCells_one]
  apply List.ext_getElem?
  intro j
  by_cases hj : j < n <;> simp [hj]
theorem make_seen (n : Nat) (hn : n ≤ 1000000) (w : World) : (Instr.makeSlice 61 (.int .i64 n) (.int .i64 n)).run Try.prog w = .ok (.slice (some ⟨w.heap.size, 0, none⟩) n n) (w.alloc (seenO n fun _ => false)) := by
  obtain ⟨i0, hi, hz0, hz1, hz2⟩ := info_parts Try.infoBool
  have h := run_makeSlice (P := Try.prog) w 61 4 i0 (.bool false) Try.underlying61 hi hz0 .i64 .i64 n n (by omega) (by omega) (by rw [hz1]; simp; omega) (by rw [hz2]; omega) (by omega)
  rw [h, hz1]
  unfold seenO
  rw [← seenA_made]
  simp [Value.cells]
/-- 'delete(m, k)' at the operation, for the arena's map. -/
theorem wpList_drop_is (w : World) {ops : Array Oper} {rest : List Oper} {o : Oper} {a : Act} {Q : Exit → Act → World → Prop}
    (hg : o.guard = none) (m x : Operand) (hop : o.op = .call { callee := .builtin .delete, args := #[m, x], argTypes := #[73, 93] }) (bm : Nat) (S : St) (i : Nat) (n : Nd) (hm : a.eval m = .map (some bm)) (hx : a.eval x = ndV n)
    (h : MapIs w bm S) (hi : S[i]? = some (some n)) (hn : wfN n) (hV : ∀ (j : Nat) (m : Nd), S[j]? = some (some m) → wfN m) (h1 : ∀ (i j : Nat) (n : Nd), S[i]? = some (some n) → S[j]? = some (some n) → i = j)
    (hK : ∀ w', MapIs w' bm (S.set i none) → w.mapTurned w' bm → wpList Try.prog ops Q rest (a.put o.dst (.tuple #[])) w') : wpList Try.prog ops Q (o :: rest) a w := by
  refine wpList_plain hg fun K' hK' => ?_
  obtain ⟨w', hrun, r1, r2⟩ := h.drop hi hn hV h1 o.type
  unfold Oper.wp execOp
  simp [hop, resolve, invoke, builtin, hm, hx, hrun, Result.andThen]
  exact hK' _ _ (hK w' r1 r2)
/-- The places behind k steps of a sweep. -/
def swpK (S : St) (f : Nat → Bool) (k : Nat) : St := S.mapIdx fun i o => if decide (i < k) && !f i then none else o
theorem swpK_zero (S : St) (f : Nat → Bool) : swpK S f 0 = S := by
  apply List.ext_getElem?
  intro i
  unfold swpK
  rw [List.getElem?_mapIdx]
  cases S[i]? <;> simp
theorem swpK_len (S : St) (f : Nat → Bool) (k : Nat) : (swpK S f k).length = S.length := by unfold swpK; simp
theorem swpK_all (S : St) (f : Nat → Bool) : swpK S f S.length = swp S f := by
  apply List.ext_getElem?
  intro i
  unfold swpK swp
  rw [List.getElem?_mapIdx, List.getElem?_mapIdx]
  cases hx : S[i]? with
  | none => rfl
  | some o =>
    have := (List.getElem?_eq_some_iff.1 hx).1
    cases hf : f i <;> simp [this]
theorem swpK_at {S : St} {f : Nat → Bool} {k i : Nat} {o : Option Nd} (h : S[i]? = some o) : (swpK S f k)[i]? = some (if decide (i < k) && !f i then none else o) := by
  unfold swpK; rw [List.getElem?_mapIdx, h]; rfl
theorem swpK_some {S : St} {f : Nat → Bool} {k i : Nat} {n : Nd} (h : (swpK S f k)[i]? = some (some n)) : S[i]? = some (some n) := by
  unfold swpK at h
  rw [List.getElem?_mapIdx] at h
  cases hx : S[i]? with
  | none => rw [hx] at h; cases h
  | some o =>
    rw [hx] at h
    simp only [Option.map_some, Option.some.injEq] at h
    split at h
    · cases h
    · rw [h]
/-- A place that stays. -/
theorem swpK_keep {S : St} {f : Nat → Bool} {k : Nat} {o : Option Nd} (h : S[k]? = some o) (hs : o = none ∨ f k = true) : swpK S f (k + 1) = swpK S f k := by
  apply List.ext_getElem?
  intro i
  unfold swpK
  rw [List.getElem?_mapIdx, List.getElem?_mapIdx]
  by_cases e : i = k
  · subst e
    rw [h]
    rcases hs with rfl | hs
    · simp
    · simp [hs]
  · have : decide (i < k + 1) = decide (i < k) := by rw [Bool.eq_iff_iff]; simp; omega
    rw [this]
theorem swpK_drop {S : St} {f : Nat → Bool} {k : Nat} {o : Option Nd} (h : S[k]? = some o) (hs : f k = false) : swpK S f (k + 1) = (swpK S f k).set k none := by
  have hl := (List.getElem?_eq_some_iff.1 h).1
  apply List.ext_getElem?
  intro i
  by_cases e : i = k
  · subst e
    rw [List.getElem?_set_self (by rw [swpK_len]; exact hl), swpK_at h]
    simp [hs]
  · rw [List.getElem?_set_ne (Ne.symm e)]
    unfold swpK
    rw [List.getElem?_mapIdx, List.getElem?_mapIdx]
    have : decide (i < k + 1) = decide (i < k) := by rw [Bool.eq_iff_iff]; simp; omega
    rw [this]
theorem take_rch {S : St} {K : List Int} {k : Nat} {x : Int} (h : K[k]? = some x) (j : Nat) : Rch S (K.take (k + 1)) j ↔ Rch S (K.take k) j ∨ Rch S [x] j := by
  rw [List.take_add_one, h]; exact Rch.append
def SweepDone (w : World) (B ab bm : Nat) (v : Value) (room : Nat) (S : St) (K : List Int) (e : Ending) (w' : World) : Prop :=
  e = .returned (.tuple #[]) ∧ ∃ f : Nat → Bool, (∀ i, i < S.length → (f i = true ↔ Rch S K i)) ∧ ArAt w' B ab bm v room 0 (swp S f) ∧ ArOk room 0 (swp S f) ∧ Off (Fp ab bm v) w w'
end Go.Proofs.Ytfamdckaljniiaa
