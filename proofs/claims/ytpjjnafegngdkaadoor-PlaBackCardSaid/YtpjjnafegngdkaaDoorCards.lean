/-
  DERIVED. GIVEN WITH THE SEED: THE CARDS: each row of YtpjjnafegngdkaaDoorRows.lean that lists a variable, with what it lists TIED to the program's text (the seventh form; the later family's looks); each row that meets fmt, with fmt's text TOLD by the authors' own Lean function (tested against real Go, not proved from fmt's source: count such statements apart). THE CARD IS WHAT COUNTS. Prove the row's statement (the work); the ties are given (YtpjjnafegngdkaaDoorTie.lean); close each card by the builder's one call (the guide's Derived/Test/ToyasCard.lean, 'card_holds'). Laid BY PROGRAM, IN A SANDBOX (cutbox-door.mjs). By AI agents, Wed Nov 11 2026. No macro, syntax, notation, axiom, sorry.
-/
import Derived.Test.YtpjjnafegngdkaaDoorRows
import GoSem.ClaimSeven
namespace Go.Proofs.YtpjjnafegngdkaaDoor
namespace Rows

/-- THE TIED CARD OF 'drawknifelaw03.PlaPrints'. -/
def plaPrintsCard : Claim7 := { stood := { row := plaPrintsRow, standIns := [], harness := (true, "f4b2c5ad33d169183fd985a082c5dd484b57c0f9851b40c6a124de45344a40d9"), looks := false }, kinds := [], alts := [], laidByText := true, laidKinds := [.data, .data, .data, .data], laidTests := true, laidLooks := .later }
def PlaPrintsCardSaid : Prop := Claim7.holds Tryd.pinned (.plain (OpenSpec.ofChange plaPrintsSpec)) plaPrintsCard

/-- THE TIED CARD OF 'drawknifelaw03.PlaBack'. -/
def plaBackCard : Claim7 := { stood := { row := plaBackRow, standIns := [], harness := (true, "f4b2c5ad33d169183fd985a082c5dd484b57c0f9851b40c6a124de45344a40d9"), looks := false }, kinds := [], alts := [], laidByText := true, laidKinds := [.data, .data, .data, .data], laidTests := true, laidLooks := .later }
def PlaBackCardSaid : Prop := Claim7.holds Tryd.pinned (.plain (OpenSpec.ofChange plaBackSpec)) plaBackCard

/-- THE SECOND FORM's CARD OF 'drawknifelaw03.PlaPrints'. -/
def plaPrintsUptoCard : Claim7 := { stood := { row := plaPrintsUptoRow, standIns := [], harness := (true, "f4b2c5ad33d169183fd985a082c5dd484b57c0f9851b40c6a124de45344a40d9"), looks := false }, kinds := [], alts := [], laidByText := true, laidKinds := [.data, .data, .data, .data], laidTests := true, laidLooks := .later }
def PlaPrintsUptoCardSaid : Prop := Claim7.holds Tryd.pinned (.plain (OpenSpec.upto plaPrintsSpec)) plaPrintsUptoCard

/-- THE SECOND FORM's CARD OF 'drawknifelaw03.PlaBack'. -/
def plaBackUptoCard : Claim7 := { stood := { row := plaBackUptoRow, standIns := [], harness := (true, "f4b2c5ad33d169183fd985a082c5dd484b57c0f9851b40c6a124de45344a40d9"), looks := false }, kinds := [], alts := [], laidByText := true, laidKinds := [.data, .data, .data, .data], laidTests := true, laidLooks := .later }
def PlaBackUptoCardSaid : Prop := Claim7.holds Tryd.pinned (.plain (OpenSpec.upto plaBackSpec)) plaBackUptoCard
end Rows
end Go.Proofs.YtpjjnafegngdkaaDoor
