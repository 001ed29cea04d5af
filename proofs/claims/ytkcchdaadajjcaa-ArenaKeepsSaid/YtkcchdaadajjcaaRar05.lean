/- The document's own arena: its nodes in memory, its level and its Len. -/
import Derived.Test.YtkcchdaadajjcaaRch05
namespace Go.Proofs.Ytkcchdaadajjcaa
open Go.RowKit Go.Joins

/-- A node of the document's row, and whether it is gone. -/
abbrev Rn := Nd × Bool
def nodeL (x : Rn) : List Value := [.int .i64 x.1.1, .int .i64 x.1.2.1, .int .i64 x.1.2.2, .bool x.2]
theorem nodeL_len (x : Rn) : (nodeL x).length = 4 := rfl
def nodesV (L : List Rn) : List Value := L.flatMap nodeL
def stOf (L : List Rn) : St := L.map fun x => if x.2 then none else some x.1
theorem stOf_len (L : List Rn) : (stOf L).length = L.length := by unfold stOf; simp
theorem stOf_at {L : List Rn} {i : Nat} {x : Rn} (h : L[i]? = some x) : (stOf L)[i]? = some (if x.2 then none else some x.1) := by unfold stOf; rw [List.getElem?_map, h]; rfl
def raV (room : Nat) (v : Value) : Value := .agg #[.int .i64 room, v]
def raB (room : Nat) (v : Value) : Obj := .cells #[.int .i64 room, v] 30 (0, 0)
abbrev RefAt (w : World) (B : Nat) (v : Value) (L : List Rn) : Prop := w.ownsRow B 45 4 v L.length (nodesV L)
theorem nodes_at {w : World} {base g cap : Nat} {L : List Rn} {i : Nat} {x : Rn} (h : RefAt w base (.slice (some ⟨g, 0, none⟩) L.length cap) L) (hi : L[i]? = some x) :
    w.cell? ⟨g, i * 4, none⟩ = some (.int .i64 x.1.1) ∧ w.cell? ⟨g, i * 4 + 1, none⟩ = some (.int .i64 x.1.2.1) ∧ w.cell? ⟨g, i * 4 + 2, none⟩ = some (.int .i64 x.1.2.2) ∧ w.cell? ⟨g, i * 4 + 3, none⟩ = some (.bool x.2) := by
  have hl := (List.getElem?_eq_some_iff.1 hi).1
  refine ⟨?_, ?_, ?_, ?_⟩
  · rw [h.cellAt (i * 4) (by omega)]; exact flat4_get nodeL nodeL_len L i 0 x hi (by omega)
  · rw [h.cellAt (i * 4 + 1) (by omega)]; exact flat4_get nodeL nodeL_len L i 1 x hi (by omega)
  · rw [h.cellAt (i * 4 + 2) (by omega)]; exact flat4_get nodeL nodeL_len L i 2 x hi (by omega)
  · rw [h.cellAt (i * 4 + 3) (by omega)]; exact flat4_get nodeL nodeL_len L i 3 x hi (by omega)
set_option maxHeartbeats 1000000 in
theorem rlevel_any {w : World} {B : Nat} {v : Value} {L : List Rn} (room : Nat) (h : RefAt w B v L) (hl : L.length ≤ 20000) (id : Int) :
    Calls Try.prog 20 #[raV room v, .int .i64 id] w fun e w' => e = .returned (.int .i64 (lvl (stOf L) id)) ∧ Below w.heap.size w w' := by
  obtain ⟨A, c, rfl⟩ := own_form h
  have hB := below_alloc1 w (raB room (.slice A L.length c))
  have hb := heap_alloc_new w (raB room (.slice A L.length c))
  have h1 := owns_below h hB
  unfold raV raB at *
  by_cases h0 : id = 0
  · have hR := Lib.hid (lvl_end (S := stOf L) (id := id) (.inl h0))
    go_enter Try.func20, Try.ntmps20
    go_wp2
    go_ret
    exact ⟨by rw [hR.out]; rfl, hB⟩
  · by_cases h1' : id = 1
    · have hR := Lib.hid (lvl_end (S := stOf L) (id := id) (.inr h1'))
      have hz : (id == 0) = false := by rw [beq_eq_false_iff_ne]; exact h0
      have hz1 : (id == 1) = true := by rw [beq_iff_eq]; exact h1'
      clear h0 h1'
      go_enter Try.func20, Try.ntmps20
      go_wp2
      go_ret
      exact ⟨by rw [hR.out]; rfl, hB⟩
    · have hz : (id == 0) = false := by rw [beq_eq_false_iff_ne]; exact h0
      have hz1 : (id == 1) = false := by rw [beq_eq_false_iff_ne]; exact h1'
      have hne : ¬ (id = 0 ∨ id = 1) := by omega
      clear h0 h1'
      by_cases hlo : id < 0
      · have hR := Lib.hid (lvl_not (S := stOf L) hne (ndAt_not (.inl (by omega))))
        clear hne
        go_enter Try.func20, Try.ntmps20
        go_wp2
        go_ret
        exact ⟨by rw [hR.out]; rfl, hB⟩
      · by_cases hhi : (L.length : Int) + 2 ≤ id
        · have hR := Lib.hid (lvl_not (S := stOf L) hne (ndAt_not (.inr (by rw [stOf_len]; exact hhi))))
          clear hne
          go_enter Try.func20, Try.ntmps20
          go_wp2
          go_ret
          exact ⟨by rw [hR.out]; rfl, hB⟩
        · obtain ⟨i, rfl⟩ : ∃ i : Nat, id = (i : Int) + 2 := ⟨(id - 2).toNat, by omega⟩
          have hi : i < L.length := by omega
          obtain ⟨x, hx⟩ : ∃ x, L[i]? = some x := ⟨_, List.getElem?_eq_getElem hi⟩
          obtain ⟨g, cg, hA⟩ := own_some h (by omega)
          obtain rfl : A = some ⟨g, 0, none⟩ := by injection hA
          obtain ⟨d0, d1, d2, d3⟩ := nodes_at h1 hx
          have hlt : (i : Int) < L.length := by omega
          have hS := stOf_at hx
          obtain ⟨⟨l, lo, hi'⟩, gone⟩ := x
          dsimp only at *
          cases gone
          · have hR := Lib.hid (lvl_node (ndAt_out hS))
            clear hne hS hx hA h1 h
            go_enter Try.func20, Try.ntmps20
            go_wp2
            go_ret
            exact ⟨by rw [hR.out]; rfl, hB⟩
          · have hR := Lib.hid (lvl_not hne (ndAt_out hS))
            clear hne hS hx hA h1 h
            go_enter Try.func20, Try.ntmps20
            go_wp2
            go_ret
            exact ⟨by rw [hR.out]; rfl, hB⟩
theorem cnt_take_succ {S : St} {k : Nat} {o : Option Nd} (h : S[k]? = some o) : cnt (S.take (k + 1)) = cnt (S.take k) + if o.isSome then 1 else 0 := by
  rw [List.take_add_one, h]
  unfold cnt
  cases o <;> simp [List.countP_append]
set_option maxHeartbeats 1000000 in
theorem rlen_any {w : World} {B : Nat} {v : Value} {L : List Rn} (room : Nat) (h : RefAt w B v L) (hl : L.length ≤ 20000) :
    Calls Try.prog 13 #[raV room v] w fun e w' => e = .returned (.int .i64 (cnt (stOf L))) ∧ Below w.heap.size w w' := by
  obtain ⟨A, c, rfl⟩ := own_form h
  have hB := below_alloc1 w (raB room (.slice A L.length c))
  have hb := heap_alloc_new w (raB room (.slice A L.length c))
  have h1 := owns_below h hB
  unfold raV raB at *
  obtain ⟨b0, b1, bf⟩ := now2 hb rfl
  go_enter Try.func13, Try.ntmps13
  go_wp2
  go_loop [3, 4] (fun n t => ∃ k : Nat, k ≤ L.length ∧ t = .int .i64 k ∧ n = .int .i64 (cnt ((stOf L).take k))) (fun _ t => L.length - (intOf t).toNat)
  case atStart => exact ⟨0, by omega, rfl, rfl⟩
  case round =>
    obtain ⟨k, hk, rfl, rfl⟩ := hrel
    by_cases hlt : k < L.length
    · obtain ⟨x, hx⟩ : ∃ x, L[k]? = some x := ⟨_, List.getElem?_eq_getElem hlt⟩
      obtain ⟨g, cg, hA⟩ := own_some h (by omega)
      obtain rfl : A = some ⟨g, 0, none⟩ := by injection hA
      obtain ⟨-, -, -, d3⟩ := nodes_at h1 hx
      have hc := cnt_take_succ (stOf_at hx)
      have hcl : cnt ((stOf L).take k) ≤ 20000 := by have := cnt_le ((stOf L).take k); have := List.length_take_le k (stOf L); omega
      obtain ⟨⟨l, lo, hi'⟩, gone⟩ := x
      dsimp only at *
      cases gone
      · have hc' := Lib.hid hc
        clear hc hx hA
        go_wp2
        go_round
        case rel => exact ⟨k + 1, by omega, by go_num, by rw [hc'.out]; simp⟩
        case measure => simp [intOf]; omega
      · have hc' := Lib.hid hc
        clear hc hx hA
        go_wp2
        go_round
        case rel => exact ⟨k + 1, by omega, by go_num, by rw [hc'.out]; simp⟩
        case measure => simp [intOf]; omega
    · have e : k = L.length := by omega
      have hR : Hid (cnt ((stOf L).take k) = cnt (stOf L)) := Lib.hid (by rw [e, ← stOf_len, List.take_length])
      clear e
      go_wp2
      go_ret
      exact ⟨by rw [← hR.out]; rfl, hB⟩
end Go.Proofs.Ytkcchdaadajjcaa
