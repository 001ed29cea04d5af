/-
  DERIVED. GIVEN WITH THE SEED: THE CARDS: each row of YtdfllifjbabfjaaDoorRows.lean that lists a variable, with what it lists TIED to the program's text (the seventh form; the later family's looks); each row that meets fmt, with fmt's text TOLD by the authors' own Lean function (tested against real Go, not proved from fmt's source: count such statements apart). THE CARD IS WHAT COUNTS. Prove the row's statement (the work); the ties are given (YtdfllifjbabfjaaDoorTie.lean); close each card by the builder's one call (the guide's Derived/Test/ToyasCard.lean, 'card_holds'). Laid BY PROGRAM, IN A SANDBOX (cutbox-door.mjs). By AI agents, Wed Nov 11 2026. No macro, syntax, notation, axiom, sorry.
-/
import Derived.Test.YtdfllifjbabfjaaDoorRows
import GoSem.ClaimSeven
namespace Go.Proofs.YtdfllifjbabfjaaDoor
namespace Rows

/-- THE TIED CARD OF 'drawknifelaw13.CoverRights'. -/
def coverRightsCard : Claim7 := { stood := { row := coverRightsRow, standIns := [], harness := (true, "23946059096dca3b799ddb5705cdd8c84a27cb501f0912c5c8e1bb4a518aa1d2"), looks := false }, kinds := [], alts := [], laidByText := true, laidKinds := [.data, .data, .data], laidTests := true, laidLooks := .later }
def CoverRightsCardSaid : Prop := Claim7.holds Tryd.pinned (.plain (OpenSpec.ofChange coverRightsSpec)) coverRightsCard

/-- THE TIED CARD OF 'drawknifelaw13.CoverMore'. -/
def coverMoreCard : Claim7 := { stood := { row := coverMoreRow, standIns := [], harness := (true, "23946059096dca3b799ddb5705cdd8c84a27cb501f0912c5c8e1bb4a518aa1d2"), looks := false }, kinds := [], alts := [], laidByText := true, laidKinds := [.data, .data, .data], laidTests := true, laidLooks := .later }
def CoverMoreCardSaid : Prop := Claim7.holds Tryd.pinned (.plain (OpenSpec.ofChange coverMoreSpec)) coverMoreCard

/-- THE SECOND FORM's CARD OF 'drawknifelaw13.CoverRights'. -/
def coverRightsUptoCard : Claim7 := { stood := { row := coverRightsUptoRow, standIns := [], harness := (true, "23946059096dca3b799ddb5705cdd8c84a27cb501f0912c5c8e1bb4a518aa1d2"), looks := false }, kinds := [], alts := [], laidByText := true, laidKinds := [.data, .data, .data], laidTests := true, laidLooks := .later }
def CoverRightsUptoCardSaid : Prop := Claim7.holds Tryd.pinned (.plain (OpenSpec.upto coverRightsSpec)) coverRightsUptoCard

/-- THE SECOND FORM's CARD OF 'drawknifelaw13.CoverMore'. -/
def coverMoreUptoCard : Claim7 := { stood := { row := coverMoreUptoRow, standIns := [], harness := (true, "23946059096dca3b799ddb5705cdd8c84a27cb501f0912c5c8e1bb4a518aa1d2"), looks := false }, kinds := [], alts := [], laidByText := true, laidKinds := [.data, .data, .data], laidTests := true, laidLooks := .later }
def CoverMoreUptoCardSaid : Prop := Claim7.holds Tryd.pinned (.plain (OpenSpec.upto coverMoreSpec)) coverMoreUptoCard
end Rows
end Go.Proofs.YtdfllifjbabfjaaDoor
