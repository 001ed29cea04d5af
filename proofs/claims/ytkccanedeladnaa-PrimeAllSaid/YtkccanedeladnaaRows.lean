/-
  No cell of these rows narrows 'for every input' (looked for: loops, veiled, ifaces, maps, wideKeys, modest, calm, conditions, laid).
  DERIVED. THE GIVEN ROWS OF THIS SEAT. 2 by the template 'for every input the law returns true; each argument reads behind the call as it read before'; 0 by the template 'total and deterministic' (their statements: YtkccanedeladnaaTotals.lean).
  GIVEN WITH THE SEED: the statements are not yours to turn. If you find one false, say at which input.
  Laid BY PROGRAM, IN A SANDBOX (cutbox-rows.mjs): the forced cells as the released guide's own fill.sh prints them over the translation fce3e0d48cf0ea67… (all of the seat's roots in one cut). By AI agents, Wed Nov 11 2026. No macro, syntax, notation, axiom, sorry.
-/
import Derived.Test.YtkccanedeladnaaChecked
import GoSem.Claim
import GoSem.ClaimJoined
import GoSem.ClaimMapViews
import Derived.JoinedTies
import Derived.KernelRfl
namespace Go.Proofs.Ytkccanedeladnaa
/- THE CELL 'sum', in the pinned program and in every row, IS THE sha256 OF THE DUMP (.gsa) THAT YtkccanedeladnaaProg.lean LOADS. Nothing in Lean hashes anything: it is a label: what it is worth is what the hold of that sum in a sandbox is worth. -/
noncomputable def Try.pinned : Pinned := { name := "ytkccanedeladnaa", sum := "fce3e0d48cf0ea6741445c91befcca094f9271bbff8fbfe2c0a1b5523b712316", checked := Try.checked }
namespace Rows
def none {H : Type} : Left H := { results := [], args := [] }

/-- 'drawknifelaw09.PrimeAll': WHATEVER THE INPUT: true; the input reads as it did. -/
def primeAllSpec : ChangeSpec := { name := "primeAll", fn := fun _ => fun
  | [d1, d2] => { results := [.lit (.bool true)], args := [d1, d2] }
  | _ => none }
def primeAllRow : OpenClaim := { program := "ytkccanedeladnaa", sum := "fce3e0d48cf0ea6741445c91befcca094f9271bbff8fbfe2c0a1b5523b712316", func := "drawknife/drawknifelaw09.PrimeAll", spec := "primeAll", inPlace := ["slices.overlaps[drawknife/api.Cube]"], unfollowed := true, recurses := true, plainKeys := false, apart := false }
def PrimeAllSaid : Prop := primeAllRow.holds Try.pinned (OpenSpec.ofChange primeAllSpec)

/-- ITS FALSE NEIGHBOUR: 'it returns false'. Refute it at one input. -/
def primeAllWrong : ChangeSpec := { name := "primeAll", fn := fun _ => fun
  | [d1, d2] => { results := [.lit (.bool false)], args := [d1, d2] }
  | _ => none }
def PrimeAllWrongFalsely : Prop := primeAllRow.holds Try.pinned (OpenSpec.ofChange primeAllWrong)

/-- 'drawknifelaw09.PrimeHolds': WHATEVER THE INPUT: true; the input reads as it did. -/
def primeHoldsSpec : ChangeSpec := { name := "primeHolds", fn := fun _ => fun
  | [d1, d2, d3] => { results := [.lit (.bool true)], args := [d1, d2, d3] }
  | _ => none }
def primeHoldsRow : OpenClaim := { program := "ytkccanedeladnaa", sum := "fce3e0d48cf0ea6741445c91befcca094f9271bbff8fbfe2c0a1b5523b712316", func := "drawknife/drawknifelaw09.PrimeHolds", spec := "primeHolds", inPlace := ["slices.overlaps[drawknife/api.Cube]"], unfollowed := true, recurses := true, plainKeys := false, apart := false }
def PrimeHoldsSaid : Prop := primeHoldsRow.holds Try.pinned (OpenSpec.ofChange primeHoldsSpec)

/-- ITS FALSE NEIGHBOUR: 'it returns false'. Refute it at one input. -/
def primeHoldsWrong : ChangeSpec := { name := "primeHolds", fn := fun _ => fun
  | [d1, d2, d3] => { results := [.lit (.bool false)], args := [d1, d2, d3] }
  | _ => none }
def PrimeHoldsWrongFalsely : Prop := primeHoldsRow.holds Try.pinned (OpenSpec.ofChange primeHoldsWrong)

/- THE SECOND FORM. 'bulk': how many values and letters a reading holds, each counted each time it is reached (what is shared counts as often as it is met; a slice's spare places count too). A statement '..UptoSaid' is the law's where the arguments, and the package variables that the reading takes, are together of bulk at most 1048576: NARROWER than '..Said'. Prove '..Said' where nothing that the law and all that it calls make is longer than what came in: it says more and counts as full. Else prove '..UptoSaid'. A law counts once. -/
mutual
def uptoBulk {H : Type} : DataW H → Nat
  | .lit (.string bytes) => bytes.length + 1
  | .lit _ => 1
  | .nil => 1
  | .ptr d => uptoBulk d + 1
  | .slice elems spare => uptoBulkAll elems + uptoBulkAll spare + 1
  | .agg parts => uptoBulkAll parts + 1
  | .iface _ d => uptoBulk d + 1
  | .map entries => uptoBulkEntries entries + 1
  | .held _ => 1
def uptoBulkAll {H : Type} : List (DataW H) → Nat
  | [] => 0
  | d :: r => uptoBulk d + uptoBulkAll r
def uptoBulkEntries {H : Type} : List (Lit × DataW H) → Nat
  | [] => 0
  | x :: r => uptoBulkEntry x + uptoBulkEntries r
def uptoBulkEntry {H : Type} : Lit × DataW H → Nat
  | (.string bytes, d) => bytes.length + uptoBulk d + 1
  | (_, d) => uptoBulk d + 1
 end
def uptoSmall : (H : Type) → List (DataW H) → Bool := fun _ ds => decide (uptoBulkAll ds ≤ 1048576)
def OpenSpec.upto (s : _root_.Go.ChangeSpec) : _root_.Go.OpenSpec := { _root_.Go.OpenSpec.ofChange s with cond := some uptoSmall }

/-- 'drawknifelaw09.PrimeAll', WHERE WHAT IT READS IS OF BULK AT MOST 1048576: true; the input reads as it did. -/
def primeAllUptoRow : OpenClaim := { program := "ytkccanedeladnaa", sum := "fce3e0d48cf0ea6741445c91befcca094f9271bbff8fbfe2c0a1b5523b712316", func := "drawknife/drawknifelaw09.PrimeAll", spec := "primeAll", inPlace := ["slices.overlaps[drawknife/api.Cube]"], unfollowed := true, recurses := true, plainKeys := false, apart := false, narrowed := true }
def PrimeAllUptoSaid : Prop := primeAllUptoRow.holds Try.pinned (OpenSpec.upto primeAllSpec)

/-- 'drawknifelaw09.PrimeHolds', WHERE WHAT IT READS IS OF BULK AT MOST 1048576: true; the input reads as it did. -/
def primeHoldsUptoRow : OpenClaim := { program := "ytkccanedeladnaa", sum := "fce3e0d48cf0ea6741445c91befcca094f9271bbff8fbfe2c0a1b5523b712316", func := "drawknife/drawknifelaw09.PrimeHolds", spec := "primeHolds", inPlace := ["slices.overlaps[drawknife/api.Cube]"], unfollowed := true, recurses := true, plainKeys := false, apart := false, narrowed := true }
def PrimeHoldsUptoSaid : Prop := primeHoldsUptoRow.holds Try.pinned (OpenSpec.upto primeHoldsSpec)

end Rows
end Go.Proofs.Ytkccanedeladnaa
