/- What Text of the package cube answers, for every input. -/
import Derived.Test.YtnddepijbbchiaaPkg02b
import Derived.Lib.SlBytesRow
namespace Go.Proofs.Ytnddepijbbchiaa
open Go.RowKit Go.Joins

/-- The byte of a literal. -/
def litC (x : Nat) : UInt8 := if x = 2 then 45 else if x = 1 then 49 else 48
/-- The text of the first n inputs. -/
def txtL (m v : BitVec 8) (n : Nat) : List UInt8 := (List.range n).map fun i => litC (lit m v i)
theorem txtL_succ (m v : BitVec 8) (n : Nat) : txtL m v (n + 1) = txtL m v n ++ [litC (lit m v n)] := by
  unfold txtL; rw [List.range_succ, List.map_append]; rfl
theorem txtL_len (m v : BitVec 8) (n : Nat) : (txtL m v n).length = n := by simp [txtL]
def str (l : List UInt8) : ByteArray := ⟨l.toArray⟩
def byteV (l : List UInt8) : List Value := l.map fun c => .int .u8 (c.toNat : Int)
theorem byteV_len (l : List UInt8) : (byteV l).length = l.length := by simp [byteV]
theorem Try.infoU8 : (Try.prog.info? 5).map (fun i => (i.zero, i.size, i.bytes)) = some (some (.int .u8 0), 1, 1) := by kernel_rfl
end Go.Proofs.Ytnddepijbbchiaa
