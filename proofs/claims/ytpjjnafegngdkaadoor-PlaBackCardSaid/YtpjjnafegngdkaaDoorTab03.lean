/- A table in memory: its lines are a slice, of each line the outputs are one; a line that is too long, or too many of them. -/
import Derived.Test.YtpjjnafegngdkaaDoorPla03b
namespace Go.Proofs.YtpjjnafegngdkaaDoor
open Go.RowKit Go.Joins

/-- The slice v reads as the numbers o; what it reads lies below block B. -/
def IntsAt (w : World) (B : Nat) (v : Value) (o : List Int) : Prop :=
  ∃ A c, v = .slice A o.length c ∧ o.length ≤ 9223372036854775807 ∧
    (0 < o.length → ∃ b off, A = some ⟨b, off, none⟩ ∧ b < B ∧ ∀ j x, o[j]? = some x → w.cell? ⟨b, off + j, none⟩ = some (.int .i64 x))
/-- The slice v reads as the lines ls. -/
def LinesAt (w : World) (B : Nat) (v : Value) (ls : List Ln) : Prop :=
  ∃ A c, v = .slice A ls.length c ∧ ls.length ≤ 9223372036854775807 ∧
    (0 < ls.length → ∃ b off, A = some ⟨b, off, none⟩ ∧ b < B ∧ ∀ j l, ls[j]? = some l → ∃ ov, w.cell? ⟨b, off + j * 3, none⟩ = some (bvv l.m) ∧ w.cell? ⟨b, off + j * 3 + 1, none⟩ = some (bvv l.v) ∧
      w.cell? ⟨b, off + j * 3 + 2, none⟩ = some ov ∧ IntsAt w B ov l.o)
def tv (k i n : Int) (L : Value) : Value := .agg #[.int .i64 k, .int .i64 i, .int .i64 n, L]
def tb (k i n : Int) (L : Value) : Obj := .cells #[.int .i64 k, .int .i64 i, .int .i64 n, L] 24 (0, 0)
def lv (m v : BitVec 8) (O : Value) : Value := .agg #[bvv m, bvv v, O]
def lb (m v : BitVec 8) (O : Value) : Obj := .cells #[bvv m, bvv v, O] 39 (0, 0)

theorem IntsAt.below {w w' : World} {B : Nat} {v : Value} {o : List Int} (h : IntsAt w B v o) (hb : Below B w w') : IntsAt w' B v o := by
  obtain ⟨A, c, e, hl, h⟩ := h
  refine ⟨A, c, e, hl, fun h0 => ?_⟩
  obtain ⟨b, off, eA, hB, hc⟩ := h h0
  exact ⟨b, off, eA, hB, fun j x hx => (hb.cell (p := ⟨b, off + j, none⟩) hB).trans (hc j x hx)⟩
theorem IntsAt.more {w : World} {B B' : Nat} {v : Value} {o : List Int} (h : IntsAt w B v o) (hB : B ≤ B') : IntsAt w B' v o := by
  obtain ⟨A, c, e, hl, h⟩ := h
  refine ⟨A, c, e, hl, fun h0 => ?_⟩
  obtain ⟨b, off, eA, hb, hc⟩ := h h0
  exact ⟨b, off, eA, by omega, hc⟩
theorem LinesAt.below {w w' : World} {B : Nat} {v : Value} {ls : List Ln} (h : LinesAt w B v ls) (hb : Below B w w') : LinesAt w' B v ls := by
  obtain ⟨A, c, e, hl, h⟩ := h
  refine ⟨A, c, e, hl, fun h0 => ?_⟩
  obtain ⟨b, off, eA, hB, hc⟩ := h h0
  refine ⟨b, off, eA, hB, fun j l hx => ?_⟩
  obtain ⟨ov, c0, c1, c2, hi⟩ := hc j l hx
  exact ⟨ov, (hb.cell (p := ⟨b, off + j * 3, none⟩) hB).trans c0, (hb.cell (p := ⟨b, off + j * 3 + 1, none⟩) hB).trans c1, (hb.cell (p := ⟨b, off + j * 3 + 2, none⟩) hB).trans c2, hi.below hb⟩
theorem LinesAt.more {w : World} {B B' : Nat} {v : Value} {ls : List Ln} (h : LinesAt w B v ls) (hB : B ≤ B') : LinesAt w B' v ls := by
  obtain ⟨A, c, e, hl, h⟩ := h
  refine ⟨A, c, e, hl, fun h0 => ?_⟩
  obtain ⟨b, off, eA, hb, hc⟩ := h h0
  refine ⟨b, off, eA, by omega, fun j l hx => ?_⟩
  obtain ⟨ov, c0, c1, c2, hi⟩ := hc j l hx
  exact ⟨ov, c0, c1, c2, hi.more hB⟩
/-- A box of three cells, here and now. -/
theorem now3 {w : World} {b : Nat} {T : TypeId} {C : Array Value} {x0 x1 x2 : Value} (h : w.heap[b]? = some (.cells C T (0, 0))) (hC : C = #[x0, x1, x2]) :
    w.cell? ⟨b, 0, none⟩ = some x0 ∧ w.cell? ⟨b, 1, none⟩ = some x1 ∧ w.cell? ⟨b, 2, none⟩ = some x2 ∧ (∀ j : Nat, w.frozen? ⟨b, j, none⟩ = false) := by
  subst hC
  exact ⟨by rw [cell_of_block h]; rfl, by rw [cell_of_block h]; rfl, by rw [cell_of_block h]; rfl, unfrozen_of_block h⟩
def greatL (ls : List Ln) : Bool := (ls.any fun l : Ln => decide (20 < l.o.length)) || decide (100 < ls.length)
theorem greatL_no {ls : List Ln} (h : greatL ls = false) : ls.length ≤ 100 := by
  unfold greatL at h; simp at h; exact h.2
set_option maxHeartbeats 1000000 in
set_option maxRecDepth 100000 in
theorem great_any (k i n : Int) (L : Value) (ls : List Ln) (w : World) (hL : LinesAt w w.heap.size L ls) :
    Calls Tryd.prog 5 #[tv k i n L] w fun e w' => e = .returned (.bool (greatL ls)) ∧ Below w.heap.size w w' := by
  obtain ⟨A, c, rfl, hlen, hc⟩ := hL
  unfold tv
  have hany : Hid (∀ j, (∀ x, x < j → x < ls.length → ¬ 20 < (ls.getD x ⟨0, 0, []⟩).o.length) → j = ls.length → greatL ls = decide (100 < ls.length)) := Lib.hid (by
    intro j hj hjl
    unfold greatL
    have : (ls.any fun l : Ln => decide (20 < l.o.length)) = false := by
      rw [List.any_eq_false]
      intro l hl
      obtain ⟨x, hx, rfl⟩ := List.mem_iff_getElem.1 hl
      have := hj x (by omega) hx
      simpa [List.getD, hx] using this
    rw [this]; simp)
  have hyes : Hid (∀ (j : Nat) (l : Ln), ls[j]? = some l → 20 < l.o.length → greatL ls = true) := Lib.hid (by
    intro j l hj hl
    unfold greatL
    have : (ls.any fun l : Ln => decide (20 < l.o.length)) = true := by
      rw [List.any_eq_true]
      exact ⟨l, List.mem_of_getElem? hj, by simpa using hl⟩
    rw [this]; simp)
  go_enter Tryd.func5, Tryd.ntmps5
  go_wp2
  go_loop [3] (fun t => ∃ j : Nat, j ≤ ls.length ∧ t = .int .i64 j ∧ Hid (∀ x, x < j → x < ls.length → ¬ 20 < (ls.getD x ⟨0, 0, []⟩).o.length)) (fun t => ls.length - (intOf t).toNat)
  case atStart => exact ⟨0, by omega, rfl, Lib.hid (fun x hx => by omega)⟩
  case round =>
    obtain ⟨j, hj, rfl, hH⟩ := hrel
    by_cases hlt : j < ls.length
    · obtain ⟨b, off, rfl, hB, hc⟩ := hc (by omega)
      obtain ⟨l, hl⟩ : ∃ l, ls[j]? = some l := ⟨_, List.getElem?_eq_getElem hlt⟩
      obtain ⟨ov, -, -, c2, A2, cap2, rfl, hol, -⟩ := hc j l hl
      have c2' : (w.alloc (tb k i n (.slice (some ⟨b, off, none⟩) ls.length c))).cell? ⟨b, off + j * 3 + 2, none⟩ = some (.slice A2 l.o.length cap2) := by
        rw [World.cell?_alloc_lt _ _ _ (by exact hB)]; exact c2
      unfold tb at c2'
      have hgl := Lib.hid hl
      clear hl hc c2
      by_cases hg : 20 < l.o.length
      · have hr := Lib.hid (hyes.out j l hgl.out hg)
        go_wp2
        go_ret
        exact ⟨by rw [hr.out]; rfl, below_alloc1 w _⟩
      · go_wp2
        go_round
        case rel => exact ⟨j + 1, by omega, by go_num, Lib.hid (fun x hx hxl => by
          by_cases e : x = j
          · subst e
            simpa [List.getD, hgl.out] using hg
          · exact hH.out x (by omega) hxl)⟩
        case measure => simp [intOf]; omega
    · have e : j = ls.length := by omega
      have hr := Lib.hid (hany.out j hH.out e)
      subst e
      go_wp2
      go_ret
      exact ⟨by rw [hr.out]; exact ret_bool (by rw [Bool.eq_iff_iff]; simp; omega), below_alloc1 w _⟩
end Go.Proofs.YtpjjnafegngdkaaDoor
