/-
  No cell of these rows narrows 'for every input' (looked for: loops, veiled, ifaces, maps, wideKeys, modest, calm, conditions, laid).
  DERIVED. THE GIVEN ROWS OF THIS SEAT. 4 by the template 'for every input the law returns true; each argument reads behind the call as it read before'; 0 by the template 'total and deterministic' (their statements: YtmgggennbnbjkaaTotals.lean).
  GIVEN WITH THE SEED: the statements are not yours to turn. If you find one false, say at which input.
  Laid BY PROGRAM, IN A SANDBOX (cutbox-rows.mjs): the forced cells as the released guide's own fill.sh prints them over the translation 29daf45a3c19b99a… (all of the seat's roots in one cut). By AI agents, Wed Nov 11 2026. No macro, syntax, notation, axiom, sorry.
-/
import Derived.Test.YtmgggennbnbjkaaChecked
import GoSem.Claim
import GoSem.ClaimJoined
import GoSem.ClaimMapViews
import Derived.JoinedTies
import Derived.KernelRfl
namespace Go.Proofs.Ytmgggennbnbjkaa
/- THE CELL 'sum', in the pinned program and in every row, IS THE sha256 OF THE DUMP (.gsa) THAT YtmgggennbnbjkaaProg.lean LOADS. Nothing in Lean hashes anything: it is a label: what it is worth is what the hold of that sum in a sandbox is worth. -/
noncomputable def Try.pinned : Pinned := { name := "ytmgggennbnbjkaa", sum := "29daf45a3c19b99aa7a7b5bf972ab2c152736d26c78aaa3db2941b94043e3438", checked := Try.checked }
namespace Rows
def none {H : Type} : Left H := { results := [], args := [] }

/-- 'drawknifelaw10.MultiTells': WHATEVER THE INPUT: true; the input reads as it did. -/
def multiTellsSpec : ChangeSpec := { name := "multiTells", fn := fun _ => fun
  | [d1, d2, d3] => { results := [.lit (.bool true)], args := [d1, d2, d3] }
  | _ => none }
def multiTellsRow : OpenClaim := { program := "ytmgggennbnbjkaa", sum := "29daf45a3c19b99aa7a7b5bf972ab2c152736d26c78aaa3db2941b94043e3438", func := "drawknife/drawknifelaw10.MultiTells", spec := "multiTells", inPlace := ["slices.overlaps[drawknife/api.Cube]"], unfollowed := true, recurses := true, plainKeys := false, apart := false }
def MultiTellsSaid : Prop := multiTellsRow.holds Try.pinned (OpenSpec.ofChange multiTellsSpec)

/-- ITS FALSE NEIGHBOUR: 'it returns false'. Refute it at one input. -/
def multiTellsWrong : ChangeSpec := { name := "multiTells", fn := fun _ => fun
  | [d1, d2, d3] => { results := [.lit (.bool false)], args := [d1, d2, d3] }
  | _ => none }
def MultiTellsWrongFalsely : Prop := multiTellsRow.holds Try.pinned (OpenSpec.ofChange multiTellsWrong)

/-- 'drawknifelaw10.MultiAll': WHATEVER THE INPUT: true; the input reads as it did. -/
def multiAllSpec : ChangeSpec := { name := "multiAll", fn := fun _ => fun
  | [d] => { results := [.lit (.bool true)], args := [d] }
  | _ => none }
def multiAllRow : OpenClaim := { program := "ytmgggennbnbjkaa", sum := "29daf45a3c19b99aa7a7b5bf972ab2c152736d26c78aaa3db2941b94043e3438", func := "drawknife/drawknifelaw10.MultiAll", spec := "multiAll", inPlace := ["slices.overlaps[drawknife/api.Cube]"], unfollowed := true, recurses := true, plainKeys := false, apart := false }
def MultiAllSaid : Prop := multiAllRow.holds Try.pinned (OpenSpec.ofChange multiAllSpec)

/-- ITS FALSE NEIGHBOUR: 'it returns false'. Refute it at one input. -/
def multiAllWrong : ChangeSpec := { name := "multiAll", fn := fun _ => fun
  | [d] => { results := [.lit (.bool false)], args := [d] }
  | _ => none }
def MultiAllWrongFalsely : Prop := multiAllRow.holds Try.pinned (OpenSpec.ofChange multiAllWrong)

/-- 'drawknifelaw10.MultiGrows': WHATEVER THE INPUT: true; the input reads as it did. -/
def multiGrowsSpec : ChangeSpec := { name := "multiGrows", fn := fun _ => fun
  | [d1, d2] => { results := [.lit (.bool true)], args := [d1, d2] }
  | _ => none }
def multiGrowsRow : OpenClaim := { program := "ytmgggennbnbjkaa", sum := "29daf45a3c19b99aa7a7b5bf972ab2c152736d26c78aaa3db2941b94043e3438", func := "drawknife/drawknifelaw10.MultiGrows", spec := "multiGrows", inPlace := ["slices.overlaps[drawknife/api.Cube]"], unfollowed := true, recurses := true, plainKeys := false, apart := false }
def MultiGrowsSaid : Prop := multiGrowsRow.holds Try.pinned (OpenSpec.ofChange multiGrowsSpec)

/-- ITS FALSE NEIGHBOUR: 'it returns false'. Refute it at one input. -/
def multiGrowsWrong : ChangeSpec := { name := "multiGrows", fn := fun _ => fun
  | [d1, d2] => { results := [.lit (.bool false)], args := [d1, d2] }
  | _ => none }
def MultiGrowsWrongFalsely : Prop := multiGrowsRow.holds Try.pinned (OpenSpec.ofChange multiGrowsWrong)

/-- 'drawknifelaw10.MultiOne': WHATEVER THE INPUT: true; the input reads as it did. -/
def multiOneSpec : ChangeSpec := { name := "multiOne", fn := fun _ => fun
  | [d1, d2] => { results := [.lit (.bool true)], args := [d1, d2] }
  | _ => none }
def multiOneRow : OpenClaim := { program := "ytmgggennbnbjkaa", sum := "29daf45a3c19b99aa7a7b5bf972ab2c152736d26c78aaa3db2941b94043e3438", func := "drawknife/drawknifelaw10.MultiOne", spec := "multiOne", inPlace := ["slices.overlaps[drawknife/api.Cube]"], unfollowed := true, recurses := true, plainKeys := false, apart := false }
def MultiOneSaid : Prop := multiOneRow.holds Try.pinned (OpenSpec.ofChange multiOneSpec)

/-- ITS FALSE NEIGHBOUR: 'it returns false'. Refute it at one input. -/
def multiOneWrong : ChangeSpec := { name := "multiOne", fn := fun _ => fun
  | [d1, d2] => { results := [.lit (.bool false)], args := [d1, d2] }
  | _ => none }
def MultiOneWrongFalsely : Prop := multiOneRow.holds Try.pinned (OpenSpec.ofChange multiOneWrong)

/- THE SECOND FORM. 'bulk': how many values and letters a reading holds, each counted each time it is reached (what is shared counts as often as it is met; a slice's spare places count too). A statement '..UptoSaid' is the law's where the arguments, and the package variables that the reading takes, are together of bulk at most 1048576: NARROWER than '..Said'. Prove '..Said' where nothing that the law and all that it calls make is longer than what came in: it says more and counts as full. Else prove '..UptoSaid'. A law counts once. -/
mutual
def uptoBulk {H : Type} : DataW H → Nat
  | .lit (.string bytes) => bytes.length + 1
  | .lit _ => 1
  | .nil => 1
  | .ptr d => uptoBulk d + 1
  | .slice elems spare => uptoBulkAll elems + uptoBulkAll spare + 1
  | .agg parts => uptoBulkAll parts + 1
  | .iface _ d => uptoBulk d + 1
  | .map entries => uptoBulkEntries entries + 1
  | .held _ => 1
def uptoBulkAll {H : Type} : List (DataW H) → Nat
  | [] => 0
  | d :: r => uptoBulk d + uptoBulkAll r
def uptoBulkEntries {H : Type} : List (Lit × DataW H) → Nat
  | [] => 0
  | x :: r => uptoBulkEntry x + uptoBulkEntries r
def uptoBulkEntry {H : Type} : Lit × DataW H → Nat
  | (.string bytes, d) => bytes.length + uptoBulk d + 1
  | (_, d) => uptoBulk d + 1
 end
def uptoSmall : (H : Type) → List (DataW H) → Bool := fun _ ds => decide (uptoBulkAll ds ≤ 1048576)
def OpenSpec.upto (s : _root_.Go.ChangeSpec) : _root_.Go.OpenSpec := { _root_.Go.OpenSpec.ofChange s with cond := some uptoSmall }

/-- 'drawknifelaw10.MultiTells', WHERE WHAT IT READS IS OF BULK AT MOST 1048576: true; the input reads as it did. -/
def multiTellsUptoRow : OpenClaim := { program := "ytmgggennbnbjkaa", sum := "29daf45a3c19b99aa7a7b5bf972ab2c152736d26c78aaa3db2941b94043e3438", func := "drawknife/drawknifelaw10.MultiTells", spec := "multiTells", inPlace := ["slices.overlaps[drawknife/api.Cube]"], unfollowed := true, recurses := true, plainKeys := false, apart := false, narrowed := true }
def MultiTellsUptoSaid : Prop := multiTellsUptoRow.holds Try.pinned (OpenSpec.upto multiTellsSpec)

/-- 'drawknifelaw10.MultiAll', WHERE WHAT IT READS IS OF BULK AT MOST 1048576: true; the input reads as it did. -/
def multiAllUptoRow : OpenClaim := { program := "ytmgggennbnbjkaa", sum := "29daf45a3c19b99aa7a7b5bf972ab2c152736d26c78aaa3db2941b94043e3438", func := "drawknife/drawknifelaw10.MultiAll", spec := "multiAll", inPlace := ["slices.overlaps[drawknife/api.Cube]"], unfollowed := true, recurses := true, plainKeys := false, apart := false, narrowed := true }
def MultiAllUptoSaid : Prop := multiAllUptoRow.holds Try.pinned (OpenSpec.upto multiAllSpec)

/-- 'drawknifelaw10.MultiGrows', WHERE WHAT IT READS IS OF BULK AT MOST 1048576: true; the input reads as it did. -/
def multiGrowsUptoRow : OpenClaim := { program := "ytmgggennbnbjkaa", sum := "29daf45a3c19b99aa7a7b5bf972ab2c152736d26c78aaa3db2941b94043e3438", func := "drawknife/drawknifelaw10.MultiGrows", spec := "multiGrows", inPlace := ["slices.overlaps[drawknife/api.Cube]"], unfollowed := true, recurses := true, plainKeys := false, apart := false, narrowed := true }
def MultiGrowsUptoSaid : Prop := multiGrowsUptoRow.holds Try.pinned (OpenSpec.upto multiGrowsSpec)

/-- 'drawknifelaw10.MultiOne', WHERE WHAT IT READS IS OF BULK AT MOST 1048576: true; the input reads as it did. -/
def multiOneUptoRow : OpenClaim := { program := "ytmgggennbnbjkaa", sum := "29daf45a3c19b99aa7a7b5bf972ab2c152736d26c78aaa3db2941b94043e3438", func := "drawknife/drawknifelaw10.MultiOne", spec := "multiOne", inPlace := ["slices.overlaps[drawknife/api.Cube]"], unfollowed := true, recurses := true, plainKeys := false, apart := false, narrowed := true }
def MultiOneUptoSaid : Prop := multiOneUptoRow.holds Try.pinned (OpenSpec.upto multiOneSpec)

end Rows
end Go.Proofs.Ytmgggennbnbjkaa
