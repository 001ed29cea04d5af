/- The statements of layer 9, walked over what the package answers: knows, PrimeAll. -/
import Derived.Test.YtnddepijbbchiaaCbs09
import Derived.Test.YtnddepijbbchiaaPkg02c
namespace Go.Proofs.Ytnddepijbbchiaa
open Go.RowKit Go.Joins

theorem ex9 : prims 14#256 2 = [⟨1#8, 1#8⟩, ⟨2#8, 2#8⟩] := by
  have h1 : prmU 14#256 2 1024 = [257, 514] := by decide +kernel
  have h2 : prmU 14#256 2 1024 = prmU 14#256 2 65536 := prmU_all (S := 14#256) (n := 2) (by decide)
  unfold prims prmL
  rw [← h2, h1]
  rfl
theorem ex9p : primB 14#256 2 2#8 2#8 = true := by decide +kernel
theorem ex9o : ofB 14#256 2 = true := by decide +kernel
/-- What the package answers to the examples. -/
def GrowX : Prop := ∀ w : World, Calls Try.prog 40 #[cv 3#8 3#8, sv 14#256, .int .i64 2] w fun e w' => e = .returned (.tuple #[cv 2#8 2#8, .int .i64 0]) ∧ Below w.heap.size w w'
theorem wd14 : wd 14#256 0 = 14#64 ∧ wd 14#256 1 = 0#64 ∧ wd 14#256 2 = 0#64 ∧ wd 14#256 3 = 0#64 := by decide +kernel
theorem sv14 : sv 14#256 = .agg #[.int .u64 14, .int .u64 0, .int .u64 0, .int .u64 0] := by
  unfold sv
  rw [wd14.1, wd14.2.1, wd14.2.2.1, wd14.2.2.2]
  rfl
end Go.Proofs.Ytnddepijbbchiaa
