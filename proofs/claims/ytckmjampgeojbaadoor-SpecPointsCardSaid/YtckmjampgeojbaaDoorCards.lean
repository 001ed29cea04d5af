/-
  DERIVED. GIVEN WITH THE SEED: THE CARDS: each row of YtckmjampgeojbaaDoorRows.lean that lists a variable, with what it lists TIED to the program's text (the seventh form; the later family's looks); each row that meets fmt, with fmt's text TOLD by the authors' own Lean function (tested against real Go, not proved from fmt's source: count such statements apart). THE CARD IS WHAT COUNTS. Prove the row's statement (the work); the ties are given (YtckmjampgeojbaaDoorTie.lean); close each card by the builder's one call (the guide's Derived/Test/ToyasCard.lean, 'card_holds'). Laid BY PROGRAM, IN A SANDBOX (cutbox-door.mjs). By AI agents, Wed Nov 11 2026. No macro, syntax, notation, axiom, sorry.
-/
import Derived.Test.YtckmjampgeojbaaDoorRows
import GoSem.ClaimSeven
namespace Go.Proofs.YtckmjampgeojbaaDoor
namespace Rows

/-- THE TIED CARD OF 'drawknifelaw04.SpecReads'. -/
def specReadsCard : Claim7 := { stood := { row := specReadsRow, standIns := [], harness := (true, "33f156599086ac735cd8e52d8d8b290c8b45ca62aac121610982b8f83d4d6a30"), looks := false }, kinds := [], alts := [], laidByText := true, laidKinds := [.data], laidTests := true, laidLooks := .later }
def SpecReadsCardSaid : Prop := Claim7.holds Tryd.pinned (.plain (OpenSpec.ofChange specReadsSpec)) specReadsCard

/-- THE TIED CARD OF 'drawknifelaw04.SpecPoints'. -/
def specPointsCard : Claim7 := { stood := { row := specPointsRow, standIns := [], harness := (true, "33f156599086ac735cd8e52d8d8b290c8b45ca62aac121610982b8f83d4d6a30"), looks := false }, kinds := [], alts := [], laidByText := true, laidKinds := [.data], laidTests := true, laidLooks := .later }
def SpecPointsCardSaid : Prop := Claim7.holds Tryd.pinned (.plain (OpenSpec.ofChange specPointsSpec)) specPointsCard

/-- THE TIED CARD OF 'drawknifelaw04.SpecLines'. -/
def specLinesCard : Claim7 := { stood := { row := specLinesRow, standIns := [], harness := (true, "33f156599086ac735cd8e52d8d8b290c8b45ca62aac121610982b8f83d4d6a30"), looks := false }, kinds := [], alts := [], laidByText := true, laidKinds := [.data], laidTests := true, laidLooks := .later }
def SpecLinesCardSaid : Prop := Claim7.holds Tryd.pinned (.plain (OpenSpec.ofChange specLinesSpec)) specLinesCard

/-- THE SECOND FORM's CARD OF 'drawknifelaw04.SpecReads'. -/
def specReadsUptoCard : Claim7 := { stood := { row := specReadsUptoRow, standIns := [], harness := (true, "33f156599086ac735cd8e52d8d8b290c8b45ca62aac121610982b8f83d4d6a30"), looks := false }, kinds := [], alts := [], laidByText := true, laidKinds := [.data], laidTests := true, laidLooks := .later }
def SpecReadsUptoCardSaid : Prop := Claim7.holds Tryd.pinned (.plain (OpenSpec.upto specReadsSpec)) specReadsUptoCard

/-- THE SECOND FORM's CARD OF 'drawknifelaw04.SpecPoints'. -/
def specPointsUptoCard : Claim7 := { stood := { row := specPointsUptoRow, standIns := [], harness := (true, "33f156599086ac735cd8e52d8d8b290c8b45ca62aac121610982b8f83d4d6a30"), looks := false }, kinds := [], alts := [], laidByText := true, laidKinds := [.data], laidTests := true, laidLooks := .later }
def SpecPointsUptoCardSaid : Prop := Claim7.holds Tryd.pinned (.plain (OpenSpec.upto specPointsSpec)) specPointsUptoCard

/-- THE SECOND FORM's CARD OF 'drawknifelaw04.SpecLines'. -/
def specLinesUptoCard : Claim7 := { stood := { row := specLinesUptoRow, standIns := [], harness := (true, "33f156599086ac735cd8e52d8d8b290c8b45ca62aac121610982b8f83d4d6a30"), looks := false }, kinds := [], alts := [], laidByText := true, laidKinds := [.data], laidTests := true, laidLooks := .later }
def SpecLinesUptoCardSaid : Prop := Claim7.holds Tryd.pinned (.plain (OpenSpec.upto specLinesSpec)) specLinesUptoCard
end Rows
end Go.Proofs.YtckmjampgeojbaaDoor
