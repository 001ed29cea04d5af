/-
  DERIVED. GIVEN WITH THE SEED: THE CARDS: each row of YtckmjampgeojbaaGreatDoorRows.lean that lists a variable, with what it lists TIED to the program's text (the seventh form; the later family's looks); each row that meets fmt, with fmt's text TOLD by the authors' own Lean function (tested against real Go, not proved from fmt's source: count such statements apart). THE CARD IS WHAT COUNTS. Prove the row's statement (the work); the ties are given (YtckmjampgeojbaaGreatDoorTie.lean); close each card by the builder's one call (the guide's Derived/Test/ToyasCard.lean, 'card_holds'). Laid BY PROGRAM, IN A SANDBOX (cutbox-door.mjs). By AI agents, Wed Nov 11 2026. No macro, syntax, notation, axiom, sorry.
-/
import Derived.Test.YtckmjampgeojbaaGreatDoorRows
import GoSem.ClaimSeven
namespace Go.Proofs.YtckmjampgeojbaaGreatDoor
namespace Rows

/-- THE TIED CARD OF 'drawknifelaw04.SpecCovers'. -/
def specCoversCard : Claim7 := { stood := { row := specCoversRow, standIns := [], harness := (true, "8b107dbafdfd41fec2c95c6c304e3142a609c877f6a12643ac0dcda1798a24c2"), looks := false }, kinds := [], alts := [], laidByText := true, laidKinds := [.data], laidTests := true, laidLooks := .later }
def SpecCoversCardSaid : Prop := Claim7.holds Tryz.pinned (.plain (OpenSpec.ofChange specCoversSpec)) specCoversCard

/-- THE SECOND FORM's CARD OF 'drawknifelaw04.SpecCovers'. -/
def specCoversUptoCard : Claim7 := { stood := { row := specCoversUptoRow, standIns := [], harness := (true, "8b107dbafdfd41fec2c95c6c304e3142a609c877f6a12643ac0dcda1798a24c2"), looks := false }, kinds := [], alts := [], laidByText := true, laidKinds := [.data], laidTests := true, laidLooks := .later }
def SpecCoversUptoCardSaid : Prop := Claim7.holds Tryz.pinned (.plain (OpenSpec.upto specCoversSpec)) specCoversUptoCard
end Rows
end Go.Proofs.YtckmjampgeojbaaGreatDoor
