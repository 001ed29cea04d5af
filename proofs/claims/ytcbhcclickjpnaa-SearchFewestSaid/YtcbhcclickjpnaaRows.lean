/-
  No cell of these rows narrows 'for every input' (looked for: loops, veiled, ifaces, maps, wideKeys, modest, calm, conditions, laid).
  DERIVED. THE GIVEN ROWS OF THIS SEAT. 3 by the template 'for every input the law returns true; each argument reads behind the call as it read before'; 0 by the template 'total and deterministic' (their statements: YtcbhcclickjpnaaTotals.lean).
  GIVEN WITH THE SEED: the statements are not yours to turn. If you find one false, say at which input.
  Laid BY PROGRAM, IN A SANDBOX (cutbox-rows.mjs): the forced cells as the released guide's own fill.sh prints them over the translation 1c3669ac581c5920… (all of the seat's roots in one cut). By AI agents, Wed Nov 11 2026. No macro, syntax, notation, axiom, sorry.
-/
import Derived.Test.YtcbhcclickjpnaaChecked
import GoSem.Claim
import GoSem.ClaimJoined
import GoSem.ClaimMapViews
import Derived.JoinedTies
import Derived.KernelRfl
namespace Go.Proofs.Ytcbhcclickjpnaa
/- THE CELL 'sum', in the pinned program and in every row, IS THE sha256 OF THE DUMP (.gsa) THAT YtcbhcclickjpnaaProg.lean LOADS. Nothing in Lean hashes anything: it is a label: what it is worth is what the hold of that sum in a sandbox is worth. -/
noncomputable def Try.pinned : Pinned := { name := "ytcbhcclickjpnaa", sum := "1c3669ac581c59209ed013dea7716aa33d7bea7f8b62509236b6b6c79d8cc0d7", checked := Try.checked }
namespace Rows
def none {H : Type} : Left H := { results := [], args := [] }

/-- 'drawknifelaw15.SearchBounds': WHATEVER THE INPUT: true; the input reads as it did. -/
def searchBoundsSpec : ChangeSpec := { name := "searchBounds", fn := fun _ => fun
  | [d] => { results := [.lit (.bool true)], args := [d] }
  | _ => none }
def searchBoundsRow : OpenClaim := { program := "ytcbhcclickjpnaa", sum := "1c3669ac581c59209ed013dea7716aa33d7bea7f8b62509236b6b6c79d8cc0d7", func := "drawknife/drawknifelaw15.SearchBounds", spec := "searchBounds", unfollowed := true, recurses := true, apart := false }
def SearchBoundsSaid : Prop := searchBoundsRow.holds Try.pinned (OpenSpec.ofChange searchBoundsSpec)

/-- ITS FALSE NEIGHBOUR: 'it returns false'. Refute it at one input. -/
def searchBoundsWrong : ChangeSpec := { name := "searchBounds", fn := fun _ => fun
  | [d] => { results := [.lit (.bool false)], args := [d] }
  | _ => none }
def SearchBoundsWrongFalsely : Prop := searchBoundsRow.holds Try.pinned (OpenSpec.ofChange searchBoundsWrong)

/-- 'drawknifelaw15.SearchFewest': WHATEVER THE INPUT: true; the input reads as it did. -/
def searchFewestSpec : ChangeSpec := { name := "searchFewest", fn := fun _ => fun
  | [d] => { results := [.lit (.bool true)], args := [d] }
  | _ => none }
def searchFewestRow : OpenClaim := { program := "ytcbhcclickjpnaa", sum := "1c3669ac581c59209ed013dea7716aa33d7bea7f8b62509236b6b6c79d8cc0d7", func := "drawknife/drawknifelaw15.SearchFewest", spec := "searchFewest", unfollowed := true, recurses := true, apart := false }
def SearchFewestSaid : Prop := searchFewestRow.holds Try.pinned (OpenSpec.ofChange searchFewestSpec)

/-- ITS FALSE NEIGHBOUR: 'it returns false'. Refute it at one input. -/
def searchFewestWrong : ChangeSpec := { name := "searchFewest", fn := fun _ => fun
  | [d] => { results := [.lit (.bool false)], args := [d] }
  | _ => none }
def SearchFewestWrongFalsely : Prop := searchFewestRow.holds Try.pinned (OpenSpec.ofChange searchFewestWrong)

/-- 'drawknifelaw15.SearchNone': WHATEVER THE INPUT: true; the input reads as it did. -/
def searchNoneSpec : ChangeSpec := { name := "searchNone", fn := fun _ => fun
  | [d1, d2] => { results := [.lit (.bool true)], args := [d1, d2] }
  | _ => none }
def searchNoneRow : OpenClaim := { program := "ytcbhcclickjpnaa", sum := "1c3669ac581c59209ed013dea7716aa33d7bea7f8b62509236b6b6c79d8cc0d7", func := "drawknife/drawknifelaw15.SearchNone", spec := "searchNone", unfollowed := true, recurses := true, apart := false }
def SearchNoneSaid : Prop := searchNoneRow.holds Try.pinned (OpenSpec.ofChange searchNoneSpec)

/-- ITS FALSE NEIGHBOUR: 'it returns false'. Refute it at one input. -/
def searchNoneWrong : ChangeSpec := { name := "searchNone", fn := fun _ => fun
  | [d1, d2] => { results := [.lit (.bool false)], args := [d1, d2] }
  | _ => none }
def SearchNoneWrongFalsely : Prop := searchNoneRow.holds Try.pinned (OpenSpec.ofChange searchNoneWrong)

/- THE SECOND FORM. 'bulk': how many values and letters a reading holds, each counted each time it is reached (what is shared counts as often as it is met; a slice's spare places count too). A statement '..UptoSaid' is the law's where the arguments, and the package variables that the reading takes, are together of bulk at most 1048576: NARROWER than '..Said'. Prove '..Said' where nothing that the law and all that it calls make is longer than what came in: it says more and counts as full. Else prove '..UptoSaid'. A law counts once. -/
mutual
def uptoBulk {H : Type} : DataW H → Nat
  | .lit (.string bytes) => bytes.length + 1
  | .lit _ => 1
  | .nil => 1
  | .ptr d => uptoBulk d + 1
  | .slice elems spare => uptoBulkAll elems + uptoBulkAll spare + 1
  | .agg parts => uptoBulkAll parts + 1
  | .iface _ d => uptoBulk d + 1
  | .map entries => uptoBulkEntries entries + 1
  | .held _ => 1
def uptoBulkAll {H : Type} : List (DataW H) → Nat
  | [] => 0
  | d :: r => uptoBulk d + uptoBulkAll r
def uptoBulkEntries {H : Type} : List (Lit × DataW H) → Nat
  | [] => 0
  | x :: r => uptoBulkEntry x + uptoBulkEntries r
def uptoBulkEntry {H : Type} : Lit × DataW H → Nat
  | (.string bytes, d) => bytes.length + uptoBulk d + 1
  | (_, d) => uptoBulk d + 1
 end
def uptoSmall : (H : Type) → List (DataW H) → Bool := fun _ ds => decide (uptoBulkAll ds ≤ 1048576)
def OpenSpec.upto (s : _root_.Go.ChangeSpec) : _root_.Go.OpenSpec := { _root_.Go.OpenSpec.ofChange s with cond := some uptoSmall }

/-- 'drawknifelaw15.SearchBounds', WHERE WHAT IT READS IS OF BULK AT MOST 1048576: true; the input reads as it did. -/
def searchBoundsUptoRow : OpenClaim := { program := "ytcbhcclickjpnaa", sum := "1c3669ac581c59209ed013dea7716aa33d7bea7f8b62509236b6b6c79d8cc0d7", func := "drawknife/drawknifelaw15.SearchBounds", spec := "searchBounds", unfollowed := true, recurses := true, apart := false, narrowed := true }
def SearchBoundsUptoSaid : Prop := searchBoundsUptoRow.holds Try.pinned (OpenSpec.upto searchBoundsSpec)

/-- 'drawknifelaw15.SearchFewest', WHERE WHAT IT READS IS OF BULK AT MOST 1048576: true; the input reads as it did. -/
def searchFewestUptoRow : OpenClaim := { program := "ytcbhcclickjpnaa", sum := "1c3669ac581c59209ed013dea7716aa33d7bea7f8b62509236b6b6c79d8cc0d7", func := "drawknife/drawknifelaw15.SearchFewest", spec := "searchFewest", unfollowed := true, recurses := true, apart := false, narrowed := true }
def SearchFewestUptoSaid : Prop := searchFewestUptoRow.holds Try.pinned (OpenSpec.upto searchFewestSpec)

/-- 'drawknifelaw15.SearchNone', WHERE WHAT IT READS IS OF BULK AT MOST 1048576: true; the input reads as it did. -/
def searchNoneUptoRow : OpenClaim := { program := "ytcbhcclickjpnaa", sum := "1c3669ac581c59209ed013dea7716aa33d7bea7f8b62509236b6b6c79d8cc0d7", func := "drawknife/drawknifelaw15.SearchNone", spec := "searchNone", unfollowed := true, recurses := true, apart := false, narrowed := true }
def SearchNoneUptoSaid : Prop := searchNoneUptoRow.holds Try.pinned (OpenSpec.upto searchNoneSpec)

end Rows
end Go.Proofs.Ytcbhcclickjpnaa
