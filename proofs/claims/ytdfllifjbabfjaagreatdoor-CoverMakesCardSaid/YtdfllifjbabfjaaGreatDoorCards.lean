/-
  DERIVED. GIVEN WITH THE SEED: THE CARDS: each row of YtdfllifjbabfjaaGreatDoorRows.lean that lists a variable, with what it lists TIED to the program's text (the seventh form; the later family's looks); each row that meets fmt, with fmt's text TOLD by the authors' own Lean function (tested against real Go, not proved from fmt's source: count such statements apart). THE CARD IS WHAT COUNTS. Prove the row's statement (the work); the ties are given (YtdfllifjbabfjaaGreatDoorTie.lean); close each card by the builder's one call (the guide's Derived/Test/ToyasCard.lean, 'card_holds'). Laid BY PROGRAM, IN A SANDBOX (cutbox-door.mjs). By AI agents, Wed Nov 11 2026. No macro, syntax, notation, axiom, sorry.
-/
import Derived.Test.YtdfllifjbabfjaaGreatDoorRows
import GoSem.ClaimSeven
namespace Go.Proofs.YtdfllifjbabfjaaGreatDoor
namespace Rows

/-- THE TIED CARD OF 'drawknifelaw13.CoverMakes'. -/
def coverMakesCard : Claim7 := { stood := { row := coverMakesRow, standIns := [], harness := (true, "eab24caf74a331f346694e74a4c821c9358a7d0fc9e074fbc7f8d70ff8b2463b"), looks := false }, kinds := [], alts := [], laidByText := true, laidKinds := [.data, .data, .data], laidTests := true, laidLooks := .later }
def CoverMakesCardSaid : Prop := Claim7.holds Tryz.pinned (.plain (OpenSpec.ofChange coverMakesSpec)) coverMakesCard

/-- THE TIED CARD OF 'drawknifelaw13.CoverMeans'. -/
def coverMeansCard : Claim7 := { stood := { row := coverMeansRow, standIns := [], harness := (true, "eab24caf74a331f346694e74a4c821c9358a7d0fc9e074fbc7f8d70ff8b2463b"), looks := false }, kinds := [], alts := [], laidByText := true, laidKinds := [.data, .data, .data], laidTests := true, laidLooks := .later }
def CoverMeansCardSaid : Prop := Claim7.holds Tryz.pinned (.plain (OpenSpec.ofChange coverMeansSpec)) coverMeansCard

/-- THE SECOND FORM's CARD OF 'drawknifelaw13.CoverMakes'. -/
def coverMakesUptoCard : Claim7 := { stood := { row := coverMakesUptoRow, standIns := [], harness := (true, "eab24caf74a331f346694e74a4c821c9358a7d0fc9e074fbc7f8d70ff8b2463b"), looks := false }, kinds := [], alts := [], laidByText := true, laidKinds := [.data, .data, .data], laidTests := true, laidLooks := .later }
def CoverMakesUptoCardSaid : Prop := Claim7.holds Tryz.pinned (.plain (OpenSpec.upto coverMakesSpec)) coverMakesUptoCard

/-- THE SECOND FORM's CARD OF 'drawknifelaw13.CoverMeans'. -/
def coverMeansUptoCard : Claim7 := { stood := { row := coverMeansUptoRow, standIns := [], harness := (true, "eab24caf74a331f346694e74a4c821c9358a7d0fc9e074fbc7f8d70ff8b2463b"), looks := false }, kinds := [], alts := [], laidByText := true, laidKinds := [.data, .data, .data], laidTests := true, laidLooks := .later }
def CoverMeansUptoCardSaid : Prop := Claim7.holds Tryz.pinned (.plain (OpenSpec.upto coverMeansSpec)) coverMeansUptoCard
end Rows
end Go.Proofs.YtdfllifjbabfjaaGreatDoor
