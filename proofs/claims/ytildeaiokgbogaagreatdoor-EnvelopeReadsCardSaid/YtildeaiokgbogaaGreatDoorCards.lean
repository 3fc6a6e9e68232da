/-
  DERIVED. GIVEN WITH THE SEED: THE CARDS: each row of YtildeaiokgbogaaGreatDoorRows.lean that lists a variable, with what it lists TIED to the program's text (the seventh form; the later family's looks); each row that meets fmt, with fmt's text TOLD by the authors' own Lean function (tested against real Go, not proved from fmt's source: count such statements apart). THE CARD IS WHAT COUNTS. Prove the row's statement (the work); the ties are given (YtildeaiokgbogaaGreatDoorTie.lean); close each card by the builder's one call (the guide's Derived/Test/ToyasCard.lean, 'card_holds'). Laid BY PROGRAM, IN A SANDBOX (cutbox-door.mjs). By AI agents, Wed Nov 11 2026. No macro, syntax, notation, axiom, sorry.
-/
import Derived.Test.YtildeaiokgbogaaGreatDoorRows
import GoSem.ClaimSeven
namespace Go.Proofs.YtildeaiokgbogaaGreatDoor
namespace Rows

/-- THE TIED CARD OF 'casketlaw13.EnvelopeReads'. -/
def envelopeReadsCard : Claim7 := { stood := { row := envelopeReadsRow, standIns := [], harness := (true, "be9d43408dfda5a5a191d6f1ff5c7665aa9dcd8c0775708f2cf21e0d23d3e851"), looks := false }, kinds := [], alts := [], laidByText := true, laidKinds := [.data, .data], laidTests := true, laidLooks := .later }
def EnvelopeReadsCardSaid : Prop := Claim7.holds Tryz.pinned (.plain (OpenSpec.ofChange envelopeReadsSpec)) envelopeReadsCard

/-- THE SECOND FORM's CARD OF 'casketlaw13.EnvelopeReads'. -/
def envelopeReadsUptoCard : Claim7 := { stood := { row := envelopeReadsUptoRow, standIns := [], harness := (true, "be9d43408dfda5a5a191d6f1ff5c7665aa9dcd8c0775708f2cf21e0d23d3e851"), looks := false }, kinds := [], alts := [], laidByText := true, laidKinds := [.data, .data], laidTests := true, laidLooks := .later }
def EnvelopeReadsUptoCardSaid : Prop := Claim7.holds Tryz.pinned (.plain (OpenSpec.upto envelopeReadsSpec)) envelopeReadsUptoCard
end Rows
end Go.Proofs.YtildeaiokgbogaaGreatDoor
