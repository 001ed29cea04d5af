/- A set that comes in reads as 256 bits. -/
import Derived.Test.YtkcchdaadajjcaaRows
import Derived.Test.YtkcchdaadajjcaaBits
import Derived.ProofKit
import Derived.OpenShut
import Derived.Lib.SmallJoins
namespace Go.Proofs.Ytkcchdaadajjcaa
open Go.ChangeShapes Go.WideShapes Go.ChangeAt Go.RowKit Go.Joins

theorem Try.own : ownKnob Try.prog.godebug = none := by kernel_rfl
theorem Try.laidOut : laidOutB Try.prog = true := by kernel_rfl
end Go.Proofs.Ytkcchdaadajjcaa
