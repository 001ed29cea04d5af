/- Make of the package cover, for every spec and all rows. -/
import Derived.Test.YtdfllifjbabfjaaGreatDoorGM22
import Derived.Test.YtdfllifjbabfjaaGreatDoorGM25
import Derived.Test.YtdfllifjbabfjaaGreatDoorGM27
import Derived.Test.YtdfllifjbabfjaaGreatDoorGM29
namespace Go.Proofs.YtdfllifjbabfjaaGreatDoor
open Go.RowKit Go.Joins
open Go.Maps (has string_keyed)

theorem crow13_any (x : Rw) (bx : Nat) (i : Int) (A C : Value) (w : World) (h : w.heap[bx]? = some (spb i A C)) :
    Calls Tryz.prog 19 #[rwv x, .pointer (some ⟨bx, 0, none⟩)] w fun e w' => e = .returned (.bool (!rightB x.m x.v i)) ∧ Below w.heap.size w w' := by
  have HR := fun w => right_any x.m x.v i w
  unfold spb at h
  have hk := keep_alloc (x := .cells #[bvv x.m, bvv x.v, bvv x.o] 44 (0, 0)) h
  obtain ⟨u0, u1, u2, -⟩ := now3 hk rfl
  generalize rightB x.m x.v i = q at *
  unfold rwv cv bvv at *
  clear h hk
  go_enter Tryz.func19, Tryz.ntmps19
  go_wp2_with fail
  refine (HR _).mono ?_
  rintro e w1 ⟨rfl, hb1⟩
  go_wp2
  go_ret
  exact ⟨rfl, (below_alloc1 w _).trans (hb1.mono (by simp))⟩
theorem crows13_any (L : Value) (rs : List Rw) (bx : Nat) (i : Int) (A C : Value) (w : World) (hL : RwsAt w w.heap.size L rs) (h : w.heap[bx]? = some (spb i A C)) :
    Calls Tryz.prog 18 #[L, .func (.func 19) #[] #[.pointer (some ⟨bx, 0, none⟩)]] w fun e w' => e = .returned (.bool (!(rs.all fun x => rightB x.m x.v i))) ∧ Below w.heap.size w w' := by
  have e : (!(rs.all fun x => rightB x.m x.v i)) = rs.any fun x => !rightB x.m x.v i := by rw [← not_any13, Bool.not_not]
  rw [e]
  exact containsRows_any 19 #[.pointer (some ⟨bx, 0, none⟩)] (fun x => !rightB x.m x.v i) L rs w (fun _ _ => by kernel_rfl) (fun x w1 hb => crow13_any x bx i A C w1 (keep_blk hb h)) hL
/-- The covering that is told with an error. -/
def mtZ : Obj := .cells #[.int .i64 0, .slice none 0 0] 30 (0, 0)
set_option maxHeartbeats 2000000 in
set_option maxRecDepth 100000 in
theorem cmakebad13 : MakeBad := by
  intro i A C L on may rs w hA hC hL hn
  have hB0 := below_alloc2 w (spb i A C) mtZ
  have hs0 := heap_alloc2_old w (spb i A C) mtZ
  have hm0 := heap_alloc2_new w (spb i A C) mtZ
  have hmf : ∀ (fn : Fn) (first cap : Array Value) (w : World), (Instr.makeFunc fn first cap).run Tryz.prog w = .ok (.func fn first cap) w := fun _ _ _ _ => rfl
  have HR := sright_any i A C on may _ ((hA.below hB0).more hB0.size) ((hC.below hB0).more hB0.size)
  have HC := fun w1 (hb : Below w.heap.size w w1) (hs : w1.heap[w.heap.size]? = some (spb i A C)) => crows13_any L rs w.heap.size i A C w1 ((hL.below hb).more hb.size) hs
  have hE : Hid (mayE ⟨i, on, may⟩ rs = if spB ⟨i, on, may⟩ && rs.all (fun x => rightB x.m x.v i) then (if 4000 < rs.length then 3 else 0) else 1) := Lib.hid rfl
  obtain ⟨A1, c1, rfl, -, -⟩ := hA
  obtain ⟨A2, c2, rfl, -, -⟩ := hC
  obtain ⟨A3, c3, rfl, -, -⟩ := hL
  generalize mayE ⟨i, on, may⟩ rs = E at *
  generalize (rs.all fun x => rightB x.m x.v i) = q at *
  cases hS : spB ⟨i, on, may⟩
  · rw [hS] at HR
    have hE1 : E = 1 := by rw [hE.out, hS]; rfl
    subst hE1
    clear hS hE hn HC
    unfold spv spb mtZ at *
    go_enter Tryz.func7, Tryz.ntmps7
    go_wp2_with fail
    refine HR.mono ?_
    rintro e w1 ⟨rfl, hb1⟩
    have hB1 := hB0.trans (hb1.mono hB0.size)
    have hm1 := keep_blk hb1 hm0
    obtain ⟨m0, m1, mf⟩ := now2 hm1 rfl
    clear HR hb1 hs0 hm0 hB0
    go_wp2
    exact bodyPost_ret (v := .tuple #[.agg #[.int .i64 0, .slice none 0 0], .int .i64 1]) (by simp [results, Tryz.results7, go_sem, m0, m1]) rfl ⟨none, 0, rfl, below2 (by omega) hB1⟩
  · rw [hS] at HR
    cases q
    · have hE1 : E = 1 := by rw [hE.out, hS]; rfl
      subst hE1
      clear hS hE hn
      unfold spv at *
      unfold mtZ at *
      go_enter Tryz.func7, Tryz.ntmps7
      unfold spb at *
      go_wp2_with fail
      refine HR.mono ?_
      rintro e w1 ⟨rfl, hb1⟩
      have hB1 := hB0.trans (hb1.mono hB0.size)
      have hm1 := keep_blk hb1 hm0
      have hC1 := HC w1 hB1 (keep_blk hb1 hs0)
      clear HR hb1 hs0 hm0 hB0 HC
      go_wp2_with fail
      refine hC1.mono ?_
      rintro e w2 ⟨rfl, hb2⟩
      have hB2 := hB1.trans (hb2.mono hB1.size)
      have hm2 := keep_blk hb2 hm1
      obtain ⟨m0, m1, mf⟩ := now2 hm2 rfl
      clear hC1 hb2 hm1 hB1
      go_wp2
      exact bodyPost_ret (v := .tuple #[.agg #[.int .i64 0, .slice none 0 0], .int .i64 1]) (by simp [results, Tryz.results7, go_sem, m0, m1]) rfl ⟨none, 0, rfl, below2 (by omega) hB2⟩
    · have h4 : 4000 < rs.length := by
        by_cases h : 4000 < rs.length
        · exact h
        · exact absurd (by rw [hE.out, hS]; simp [h]) hn
      have hE1 : E = 3 := by rw [hE.out, hS]; simp [h4]
      subst hE1
      have hd : decide ((4000 : Int) < (rs.length : Int)) = true := decide_eq_true (by omega)
      clear hS hE hn h4
      unfold spv at *
      unfold mtZ at *
      go_enter Tryz.func7, Tryz.ntmps7
      unfold spb at *
      go_wp2_with fail
      refine HR.mono ?_
      rintro e w1 ⟨rfl, hb1⟩
      have hB1 := hB0.trans (hb1.mono hB0.size)
      have hm1 := keep_blk hb1 hm0
      have hC1 := HC w1 hB1 (keep_blk hb1 hs0)
      clear HR hb1 hs0 hm0 hB0 HC
      go_wp2_with fail
      refine hC1.mono ?_
      rintro e w2 ⟨rfl, hb2⟩
      have hB2 := hB1.trans (hb2.mono hB1.size)
      have hm2 := keep_blk hb2 hm1
      obtain ⟨m0, m1, mf⟩ := now2 hm2 rfl
      clear hC1 hb2 hm1 hB1
      go_wp2
      exact bodyPost_ret (v := .tuple #[.agg #[.int .i64 0, .slice none 0 0], .int .i64 3]) (by simp [results, Tryz.results7, go_sem, m0, m1]) rfl ⟨none, 0, rfl, below2 (by omega) hB2⟩
end Go.Proofs.YtdfllifjbabfjaaGreatDoor
