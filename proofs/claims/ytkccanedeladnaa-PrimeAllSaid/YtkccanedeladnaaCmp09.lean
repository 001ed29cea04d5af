/- The order of cubes: cmp.Compare and cmp.Or, package prime's compare. -/
import Derived.Test.YtkccanedeladnaaLvl09
import Derived.Test.YtkccanedeladnaaMid06
import Derived.Test.YtkccanedeladnaaPkg02c
namespace Go.Proofs.Ytkccanedeladnaa
open Go.RowKit Go.Joins

def cmpI (a b : Nat) : Int := if a < b then -1 else if b < a then 1 else 0
theorem compare8_any (a b : BitVec 8) (w : World) : Calls Try.prog 46 #[.int .u8 a.toNat, .int .u8 b.toNat] w fun e w' => e = .returned (.int .i64 (cmpI a.toNat b.toNat)) ∧ w' = w := by
  by_cases h1 : a.toNat < b.toNat
  · have e : cmpI a.toNat b.toNat = -1 := by unfold cmpI; rw [if_pos h1]
    rw [e]
    have d1 : decide ((a.toNat : Int) < b.toNat) = true := decide_eq_true (by omega)
    have d2 : decide (a.toNat < b.toNat) = true := decide_eq_true h1
    clear e
    go_enter Try.func46, Try.ntmps46
    go_wp2
    go_ret
    exact ⟨rfl, rfl⟩
  · have d1 : decide ((a.toNat : Int) < b.toNat) = false := decide_eq_false (by omega)
    have d2 : decide (a.toNat < b.toNat) = false := decide_eq_false h1
    by_cases h2 : b.toNat < a.toNat
    · have e : cmpI a.toNat b.toNat = 1 := by unfold cmpI; rw [if_neg h1, if_pos h2]
      rw [e]
      have d3 : decide ((b.toNat : Int) < a.toNat) = true := decide_eq_true (by omega)
      have d4 : decide (b.toNat < a.toNat) = true := decide_eq_true h2
      clear e
      go_enter Try.func46, Try.ntmps46
      go_wp2
      go_ret
      exact ⟨rfl, rfl⟩
    · have e : cmpI a.toNat b.toNat = 0 := by unfold cmpI; rw [if_neg h1, if_neg h2]
      rw [e]
      have d3 : decide ((b.toNat : Int) < a.toNat) = false := decide_eq_false (by omega)
      have d4 : decide (b.toNat < a.toNat) = false := decide_eq_false h2
      clear e
      go_enter Try.func46, Try.ntmps46
      go_wp2
      go_ret
      exact ⟨rfl, rfl⟩
/-- Of two numbers the first that is not 0. -/
theorem or2_any (x y : Int) (g c : Nat) (w : World) (h0 : w.cell? ⟨g, 0, none⟩ = some (.int .i64 x)) (h1 : w.cell? ⟨g, 1, none⟩ = some (.int .i64 y)) :
    Calls Try.prog 45 #[.slice (some ⟨g, 0, none⟩) 2 c] w fun e w' => e = .returned (.int .i64 (if x = 0 then y else x)) ∧ w' = w := by
  go_enter Try.func45, Try.ntmps45
  go_wp2
  go_loopw [8] (fun t wr => ∃ k : Nat, k ≤ 2 ∧ t = .int .i64 k ∧ wr = w ∧ Hid (1 ≤ k → x = 0) ∧ Hid (2 ≤ k → y = 0)) (fun t _ => 2 - (intOf t).toNat)
  case atStart => exact ⟨0, by omega, rfl, rfl, Lib.hid (by omega), Lib.hid (by omega)⟩
  case round =>
    obtain ⟨k, hk, rfl, rfl, hx, hy⟩ := hrel
    rcases (by omega : k = 0 ∨ k = 1 ∨ k = 2) with rfl | rfl | rfl
    · cases hd : ((x : Int) != 0)
      · have e : x = 0 := by simpa using hd
        clear hx hy
        go_wp2
        go_roundw
        case rel => exact ⟨1, by omega, by simp, by simp, Lib.hid fun _ => e, Lib.hid (by omega)⟩
        case measure => simp [intOf]
      · have e : ¬ x = 0 := by simpa using hd
        have e2 : Hid ((if x = 0 then y else x) = x) := Lib.hid (if_neg e)
        generalize (if x = 0 then y else x) = r at *
        clear hx hy
        go_wp2
        go_ret
        exact ⟨rfl, rfl⟩
    · have e := hx.out (by omega)
      subst e
      cases hd : ((y : Int) != 0)
      · have e : y = 0 := by simpa using hd
        clear hx hy
        go_wp2
        go_roundw
        case rel => exact ⟨2, by omega, by simp, by simp, Lib.hid (by simp), Lib.hid fun _ => e⟩
        case measure => simp [intOf]
      · clear hx hy
        go_wp2
        go_ret
        exact ⟨rfl, rfl⟩
    · have e := hx.out (by omega)
      have e' := hy.out (by omega)
      subst e
      subst e'
      clear hx hy
      go_wp2
      go_ret
      exact ⟨rfl, rfl⟩
theorem cmp_key (m v m' v' : BitVec 8) : (if cmpI m.toNat m'.toNat = 0 then cmpI v.toNat v'.toNat else cmpI m.toNat m'.toNat) = cmpI (keyC m v) (keyC m' v') := by
  unfold cmpI keyC
  have := v.isLt
  have := v'.isLt
  split <;> split <;> (try split) <;> (try split) <;> (try split) <;> (try split) <;> omega
theorem pcompare_any (m v m' v' : BitVec 8) (w : World) : Calls Try.prog 24 #[cv m v, cv m' v'] w fun e w' => e = .returned (.int .i64 (cmpI (keyC m v) (keyC m' v'))) ∧ Below w.heap.size w w' := by
  have HM := fun w => compare8_any m m' w
  have HV := fun w => compare8_any v v' w
  have HO := fun g c w h0 h1 => or2_any (cmpI m.toNat m'.toNat) (cmpI v.toNat v'.toNat) g c w h0 h1
  rw [cmp_key] at HO
  generalize cmpI (keyC m v) (keyC m' v') = r at *
  generalize cmpI m.toNat m'.toNat = r1 at *
  generalize cmpI v.toNat v'.toNat = r2 at *
  have hx : ((w.alloc (cb m v)).alloc (cb m' v')).heap[w.heap.size]? = some (cb m v) := by rw [heap_alloc2_old]
  have hy : ((w.alloc (cb m v)).alloc (cb m' v')).heap[w.heap.size + 1]? = some (cb m' v') := by rw [heap_alloc2_new]
  have hb := below_alloc2 w (cb m v) (cb m' v')
  unfold cv cb bvv at *
  go_enter Try.func24, Try.ntmps24
  go_upto_region 1 with (fail)
  generalize (w.alloc _).alloc _ = W at *
  obtain ⟨x0, x1, -⟩ := box2 hx rfl
  obtain ⟨y0, y1, -⟩ := box2 hy rfl
  refine wp_region_mid_after 10 _ rfl rfl (by kernel_rfl) (by kernel_rfl) ?_
  simp only [List.take_succ_cons, List.take_zero, List.drop_succ_cons, List.drop_zero]
  repeat (first | go_big_quiet_step (first | (go_at_call_of 46 (Value.int .u8 m.toNat); exact Calls.after_of ((HM _).mono fun e w' ⟨h, h'⟩ => ⟨h, by rw [h']; exact Below.refl _ _⟩)) | (go_at_call_of 46 (Value.int .u8 v.toNat); exact Calls.after_of ((HV _).mono fun e w' ⟨h, h'⟩ => ⟨h, by rw [h']; exact Below.refl _ _⟩))))
  refine wpQuiet_nil ?_
  intro z K hK
  go_simp
  refine hK.out _ _ ?_
  clear hK x0 x1 y0 y1 hx hy HM HV
  have hz := heap_alloc_new z.1 (.cells #[.int .i64 r1, .int .i64 r2] 3)
  have hbz := (hb.trans (z.2.mono hb.size)).alloc (hb.trans (z.2.mono hb.size)).size (.cells #[.int .i64 r1, .int .i64 r2] 3)
  generalize hW2 : z.1.alloc _ = w2 at *
  generalize z.1.heap.size = zb at *
  clear hW2 z hb
  obtain ⟨z0, z1, -⟩ := now2 hz rfl
  have HO1 := HO zb 2 w2 z0 z1
  clear HO
  repeat (first | go_big_quiet_step ((exact HO1 _)))
  refine wpQuiet_nil ?_
  go_wp2
  go_ret
  exact ⟨rfl, hbz⟩
end Go.Proofs.Ytkccanedeladnaa
