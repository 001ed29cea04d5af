/- The statements of layer 9, walked over what the package answers: knows, PrimeAll. -/
import Derived.Test.YtkccanedeladnaaCbs09
import Derived.Test.YtkccanedeladnaaPkg02c
namespace Go.Proofs.Ytkccanedeladnaa
open Go.RowKit Go.Joins

/-- What All of the package answers. -/
def AllC : Prop := ∀ (S : BitVec 256) (n : Int) (w : World), Calls Try.prog 7 #[sv S, .int .i64 n] w fun e w' =>
  ∃ v, e = .returned (.tuple #[v, .int .i64 (if ofB S n = true then 0 else 1)]) ∧ CbsAt w' w'.heap.size v (if ofB S n = true then prims S n else []) ∧ Below w.heap.size w w'
theorem all9_yes (h : AllC) {S : BitVec 256} {n : Int} (ho : ofB S n = true) (w : World) : Calls Try.prog 7 #[sv S, .int .i64 n] w fun e w' => ∃ v, e = .returned (.tuple #[v, .int .i64 0]) ∧ CbsAt w' w'.heap.size v (prims S n) ∧ Below w.heap.size w w' := by
  have := h S n w
  rwa [if_pos ho, if_pos ho] at this
theorem all9_no (h : AllC) {S : BitVec 256} {n : Int} (ho : ofB S n = false) (w : World) : Calls Try.prog 7 #[sv S, .int .i64 n] w fun e w' => ∃ A c, e = .returned (.tuple #[.slice A 0 c, .int .i64 1]) ∧ Below w.heap.size w w' := by
  have := h S n w
  rw [ho] at this
  refine this.mono ?_
  rintro e w' ⟨v, rfl, ⟨A, c, rfl, -⟩, hb⟩
  exact ⟨A, c, rfl, hb⟩
theorem ex9 : prims 14#256 2 = [⟨1#8, 1#8⟩, ⟨2#8, 2#8⟩] := by
  have h1 : prmU 14#256 2 1024 = [257, 514] := by decide +kernel
  have h2 : prmU 14#256 2 1024 = prmU 14#256 2 65536 := prmU_all (S := 14#256) (n := 2) (by decide)
  unfold prims prmL
  rw [← h2, h1]
  rfl
theorem ex9p : primB 14#256 2 2#8 2#8 = true := by decide +kernel
theorem ex9o : ofB 14#256 2 = true := by decide +kernel
/-- What the package answers to the examples. -/
def GrowX : Prop := ∀ w : World, Calls Try.prog 18 #[cv 3#8 3#8, sv 14#256, .int .i64 2] w fun e w' => e = .returned (.tuple #[cv 2#8 2#8, .int .i64 0]) ∧ Below w.heap.size w w'
def PrimeC : Prop := ∀ (m v : BitVec 8) (S : BitVec 256) (n : Int) (w : World), Calls Try.prog 19 #[cv m v, sv S, .int .i64 n] w fun e w' => e = .returned (.bool (primB S n m v)) ∧ Below w.heap.size w w'
theorem wd14 : wd 14#256 0 = 14#64 ∧ wd 14#256 1 = 0#64 ∧ wd 14#256 2 = 0#64 ∧ wd 14#256 3 = 0#64 := by decide +kernel
theorem sv14 : sv 14#256 = .agg #[.int .u64 14, .int .u64 0, .int .u64 0, .int .u64 0] := by
  unfold sv
  rw [wd14.1, wd14.2.1, wd14.2.2.1, wd14.2.2.2]
  rfl
set_option maxHeartbeats 2000000 in
set_option maxRecDepth 100000 in
theorem knows9_any (HA : AllC) (HG : GrowX) (HP : PrimeC) (w : World) : Calls Try.prog 6 #[] w fun e w' => e = .returned (.bool true) ∧ Below w.heap.size w w' := by
  have HA1 := fun w => all9_yes HA ex9o w
  rw [ex9] at HA1
  have HG1 := HG
  unfold GrowX at HG1
  have HP1 := fun w => HP 2#8 2#8 14#256 2 w
  rw [ex9p] at HP1
  rw [sv14] at HA1 HG1 HP1
  rw [show cv 3#8 3#8 = .agg #[.int .u8 3, .int .u8 3] from rfl, show cv 2#8 2#8 = .agg #[.int .u8 2, .int .u8 2] from rfl] at HG1
  rw [show cv 2#8 2#8 = .agg #[.int .u8 2, .int .u8 2] from rfl] at HP1
  clear HA HG HP
  go_enter Try.func6, Try.ntmps6
  go_wp2_with fail
  refine (HA1 _).mono ?_
  rintro e w1 ⟨v, rfl, hC, hb⟩
  obtain ⟨A, c, rfl, -, hc⟩ := hC
  obtain ⟨b, off, rfl, hB, hcell⟩ := hc (by decide)
  obtain ⟨x0, x1⟩ := hcell 0 _ rfl
  obtain ⟨y0, y1⟩ := hcell 1 _ rfl
  clear HA1 hc hcell
  go_wp2_with fail
  refine (HG1 _).mono ?_
  rintro e w2 ⟨rfl, hb2⟩
  have hB2 := hb.trans (hb2.mono hb.size)
  have bs := hb2.size
  have e0 := (hb2.cell (p := ⟨b, off + 0 * 2, none⟩) hB).trans x0
  have e1 := (hb2.cell (p := ⟨b, off + 0 * 2 + 1, none⟩) hB).trans x1
  have f0 := (hb2.cell (p := ⟨b, off + 1 * 2, none⟩) hB).trans y0
  have f1 := (hb2.cell (p := ⟨b, off + 1 * 2 + 1, none⟩) hB).trans y1
  rw [show bvv 1#8 = .int .u8 1 from rfl] at e0 e1
  rw [show bvv 2#8 = .int .u8 2 from rfl] at f0 f1
  simp only [Nat.zero_mul, Nat.add_zero, Nat.one_mul] at e0 e1 f0 f1
  clear HG1 x0 x1 y0 y1 hb hb2
  have hbl : b < w2.heap.size := by omega
  have hz := heap_alloc_new w2 (.cells #[.int .u8 2, .int .u8 2] 34)
  obtain ⟨z0, z1, -⟩ := now2 hz rfl
  have e0' := fun o => (World.cell?_alloc_lt w2 o ⟨b, off, none⟩ hbl).trans e0
  have e1' := fun o => (World.cell?_alloc_lt w2 o ⟨b, off + 1, none⟩ hbl).trans e1
  have f0' := fun o => (World.cell?_alloc_lt w2 o ⟨b, off + 2, none⟩ hbl).trans f0
  have f1' := fun o => (World.cell?_alloc_lt w2 o ⟨b, off + 2 + 1, none⟩ hbl).trans f1
  have hA := hB2.trans ((below_alloc1 w2 (.cells #[.int .u8 2, .int .u8 2] 34)).mono hB2.size)
  clear e0 e1 f0 f1 hz hB2
  go_wp2_with fail
  refine (HP1 _).mono ?_
  rintro e w3 ⟨rfl, hb3⟩
  have hB3 := hA.trans (hb3.mono hA.size)
  clear HP1 e0' e1' f0' f1' z0 z1
  go_wp2
  go_ret
  exact ⟨rfl, hB3⟩
end Go.Proofs.Ytkccanedeladnaa
