/-
  No cell of these rows narrows 'for every input' (looked for: loops, veiled, ifaces, maps, wideKeys, modest, calm, conditions, laid).
  DERIVED. THE GIVEN ROWS OF THIS SEAT. 4 by the template 'for every input the law returns true; each argument reads behind the call as it read before'; 0 by the template 'total and deterministic' (their statements: YtjjpobpcpgcbaaaTotals.lean).
  GIVEN WITH THE SEED: the statements are not yours to turn. If you find one false, say at which input.
  Laid BY PROGRAM, IN A SANDBOX (cutbox-rows.mjs): the forced cells as the released guide's own fill.sh prints them over the translation cf7157f43bedfbfc… (all of the seat's roots in one cut). By AI agents, Wed Nov 11 2026. No macro, syntax, notation, axiom, sorry.
-/
import Derived.Test.YtjjpobpcpgcbaaaChecked
import GoSem.Claim
import GoSem.ClaimJoined
import GoSem.ClaimMapViews
import Derived.JoinedTies
import Derived.KernelRfl
namespace Go.Proofs.Ytjjpobpcpgcbaaa
/- THE CELL 'sum', in the pinned program and in every row, IS THE sha256 OF THE DUMP (.gsa) THAT YtjjpobpcpgcbaaaProg.lean LOADS. Nothing in Lean hashes anything: it is a label: what it is worth is what the hold of that sum in a sandbox is worth. -/
noncomputable def Try.pinned : Pinned := { name := "ytjjpobpcpgcbaaa", sum := "cf7157f43bedfbfc94c06e808b5ca3036da35e5f3ea07bc1d8721ff7dd328321", checked := Try.checked }
namespace Rows
def none {H : Type} : Left H := { results := [], args := [] }

/-- 'drawknifelaw14.ReduceSteps': WHATEVER THE INPUT: true; the input reads as it did. -/
def reduceStepsSpec : ChangeSpec := { name := "reduceSteps", fn := fun _ => fun
  | [d] => { results := [.lit (.bool true)], args := [d] }
  | _ => none }
def reduceStepsRow : OpenClaim := { program := "ytjjpobpcpgcbaaa", sum := "cf7157f43bedfbfc94c06e808b5ca3036da35e5f3ea07bc1d8721ff7dd328321", func := "drawknife/drawknifelaw14.ReduceSteps", spec := "reduceSteps", unfollowed := true, recurses := true, apart := false }
def ReduceStepsSaid : Prop := reduceStepsRow.holds Try.pinned (OpenSpec.ofChange reduceStepsSpec)

/-- ITS FALSE NEIGHBOUR: 'it returns false'. Refute it at one input. -/
def reduceStepsWrong : ChangeSpec := { name := "reduceSteps", fn := fun _ => fun
  | [d] => { results := [.lit (.bool false)], args := [d] }
  | _ => none }
def ReduceStepsWrongFalsely : Prop := reduceStepsRow.holds Try.pinned (OpenSpec.ofChange reduceStepsWrong)

/-- 'drawknifelaw14.ReduceAll': WHATEVER THE INPUT: true; the input reads as it did. -/
def reduceAllSpec : ChangeSpec := { name := "reduceAll", fn := fun _ => fun
  | [d] => { results := [.lit (.bool true)], args := [d] }
  | _ => none }
def reduceAllRow : OpenClaim := { program := "ytjjpobpcpgcbaaa", sum := "cf7157f43bedfbfc94c06e808b5ca3036da35e5f3ea07bc1d8721ff7dd328321", func := "drawknife/drawknifelaw14.ReduceAll", spec := "reduceAll", unfollowed := true, recurses := true, apart := false }
def ReduceAllSaid : Prop := reduceAllRow.holds Try.pinned (OpenSpec.ofChange reduceAllSpec)

/-- ITS FALSE NEIGHBOUR: 'it returns false'. Refute it at one input. -/
def reduceAllWrong : ChangeSpec := { name := "reduceAll", fn := fun _ => fun
  | [d] => { results := [.lit (.bool false)], args := [d] }
  | _ => none }
def ReduceAllWrongFalsely : Prop := reduceAllRow.holds Try.pinned (OpenSpec.ofChange reduceAllWrong)

/-- 'drawknifelaw14.ReduceBest': WHATEVER THE INPUT: true; the input reads as it did. -/
def reduceBestSpec : ChangeSpec := { name := "reduceBest", fn := fun _ => fun
  | [d] => { results := [.lit (.bool true)], args := [d] }
  | _ => none }
def reduceBestRow : OpenClaim := { program := "ytjjpobpcpgcbaaa", sum := "cf7157f43bedfbfc94c06e808b5ca3036da35e5f3ea07bc1d8721ff7dd328321", func := "drawknife/drawknifelaw14.ReduceBest", spec := "reduceBest", unfollowed := true, recurses := true, apart := false }
def ReduceBestSaid : Prop := reduceBestRow.holds Try.pinned (OpenSpec.ofChange reduceBestSpec)

/-- ITS FALSE NEIGHBOUR: 'it returns false'. Refute it at one input. -/
def reduceBestWrong : ChangeSpec := { name := "reduceBest", fn := fun _ => fun
  | [d] => { results := [.lit (.bool false)], args := [d] }
  | _ => none }
def ReduceBestWrongFalsely : Prop := reduceBestRow.holds Try.pinned (OpenSpec.ofChange reduceBestWrong)

/-- 'drawknifelaw14.ReduceSolves': WHATEVER THE INPUT: true; the input reads as it did. -/
def reduceSolvesSpec : ChangeSpec := { name := "reduceSolves", fn := fun _ => fun
  | [d1, d2] => { results := [.lit (.bool true)], args := [d1, d2] }
  | _ => none }
def reduceSolvesRow : OpenClaim := { program := "ytjjpobpcpgcbaaa", sum := "cf7157f43bedfbfc94c06e808b5ca3036da35e5f3ea07bc1d8721ff7dd328321", func := "drawknife/drawknifelaw14.ReduceSolves", spec := "reduceSolves", unfollowed := true, recurses := true, apart := false }
def ReduceSolvesSaid : Prop := reduceSolvesRow.holds Try.pinned (OpenSpec.ofChange reduceSolvesSpec)

/-- ITS FALSE NEIGHBOUR: 'it returns false'. Refute it at one input. -/
def reduceSolvesWrong : ChangeSpec := { name := "reduceSolves", fn := fun _ => fun
  | [d1, d2] => { results := [.lit (.bool false)], args := [d1, d2] }
  | _ => none }
def ReduceSolvesWrongFalsely : Prop := reduceSolvesRow.holds Try.pinned (OpenSpec.ofChange reduceSolvesWrong)

/- THE SECOND FORM. 'bulk': how many values and letters a reading holds, each counted each time it is reached (what is shared counts as often as it is met; a slice's spare places count too). A statement '..UptoSaid' is the law's where the arguments, and the package variables that the reading takes, are together of bulk at most 1048576: NARROWER than '..Said'. Prove '..Said' where nothing that the law and all that it calls make is longer than what came in: it says more and counts as full. Else prove '..UptoSaid'. A law counts once. -/
mutual
def uptoBulk {H : Type} : DataW H → Nat
  | .lit (.string bytes) => bytes.length + 1
  | .lit _ => 1
  | .nil => 1
  | .ptr d => uptoBulk d + 1
  | .slice elems spare => uptoBulkAll elems + uptoBulkAll spare + 1
  | .agg parts => uptoBulkAll parts + 1
  | .iface _ d => uptoBulk d + 1
  | .map entries => uptoBulkEntries entries + 1
  | .held _ => 1
def uptoBulkAll {H : Type} : List (DataW H) → Nat
  | [] => 0
  | d :: r => uptoBulk d + uptoBulkAll r
def uptoBulkEntries {H : Type} : List (Lit × DataW H) → Nat
  | [] => 0
  | x :: r => uptoBulkEntry x + uptoBulkEntries r
def uptoBulkEntry {H : Type} : Lit × DataW H → Nat
  | (.string bytes, d) => bytes.length + uptoBulk d + 1
  | (_, d) => uptoBulk d + 1
 end
def uptoSmall : (H : Type) → List (DataW H) → Bool := fun _ ds => decide (uptoBulkAll ds ≤ 1048576)
def OpenSpec.upto (s : _root_.Go.ChangeSpec) : _root_.Go.OpenSpec := { _root_.Go.OpenSpec.ofChange s with cond := some uptoSmall }

/-- 'drawknifelaw14.ReduceSteps', WHERE WHAT IT READS IS OF BULK AT MOST 1048576: true; the input reads as it did. -/
def reduceStepsUptoRow : OpenClaim := { program := "ytjjpobpcpgcbaaa", sum := "cf7157f43bedfbfc94c06e808b5ca3036da35e5f3ea07bc1d8721ff7dd328321", func := "drawknife/drawknifelaw14.ReduceSteps", spec := "reduceSteps", unfollowed := true, recurses := true, apart := false, narrowed := true }
def ReduceStepsUptoSaid : Prop := reduceStepsUptoRow.holds Try.pinned (OpenSpec.upto reduceStepsSpec)

/-- 'drawknifelaw14.ReduceAll', WHERE WHAT IT READS IS OF BULK AT MOST 1048576: true; the input reads as it did. -/
def reduceAllUptoRow : OpenClaim := { program := "ytjjpobpcpgcbaaa", sum := "cf7157f43bedfbfc94c06e808b5ca3036da35e5f3ea07bc1d8721ff7dd328321", func := "drawknife/drawknifelaw14.ReduceAll", spec := "reduceAll", unfollowed := true, recurses := true, apart := false, narrowed := true }
def ReduceAllUptoSaid : Prop := reduceAllUptoRow.holds Try.pinned (OpenSpec.upto reduceAllSpec)

/-- 'drawknifelaw14.ReduceBest', WHERE WHAT IT READS IS OF BULK AT MOST 1048576: true; the input reads as it did. -/
def reduceBestUptoRow : OpenClaim := { program := "ytjjpobpcpgcbaaa", sum := "cf7157f43bedfbfc94c06e808b5ca3036da35e5f3ea07bc1d8721ff7dd328321", func := "drawknife/drawknifelaw14.ReduceBest", spec := "reduceBest", unfollowed := true, recurses := true, apart := false, narrowed := true }
def ReduceBestUptoSaid : Prop := reduceBestUptoRow.holds Try.pinned (OpenSpec.upto reduceBestSpec)

/-- 'drawknifelaw14.ReduceSolves', WHERE WHAT IT READS IS OF BULK AT MOST 1048576: true; the input reads as it did. -/
def reduceSolvesUptoRow : OpenClaim := { program := "ytjjpobpcpgcbaaa", sum := "cf7157f43bedfbfc94c06e808b5ca3036da35e5f3ea07bc1d8721ff7dd328321", func := "drawknife/drawknifelaw14.ReduceSolves", spec := "reduceSolves", unfollowed := true, recurses := true, apart := false, narrowed := true }
def ReduceSolvesUptoSaid : Prop := reduceSolvesUptoRow.holds Try.pinned (OpenSpec.upto reduceSolvesSpec)

end Rows
end Go.Proofs.Ytjjpobpcpgcbaaa
