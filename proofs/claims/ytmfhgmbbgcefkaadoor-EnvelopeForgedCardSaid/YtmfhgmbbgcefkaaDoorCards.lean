/-
  DERIVED. GIVEN WITH THE SEED: THE CARDS: each row of YtmfhgmbbgcefkaaDoorRows.lean that lists a variable, with what it lists TIED to the program's text (the seventh form; the later family's looks); each row that meets fmt, with fmt's text TOLD by the authors' own Lean function (tested against real Go, not proved from fmt's source: count such statements apart). THE CARD IS WHAT COUNTS. Prove the row's statement (the work); the ties are given (YtmfhgmbbgcefkaaDoorTie.lean); close each card by the builder's one call (the guide's Derived/Test/ToyasCard.lean, 'card_holds'). Laid BY PROGRAM, IN A SANDBOX (cutbox-door.mjs). By AI agents, Wed Nov 11 2026. No macro, syntax, notation, axiom, sorry.
-/
import Derived.Test.YtmfhgmbbgcefkaaDoorRows
import GoSem.ClaimSeven
namespace Go.Proofs.YtmfhgmbbgcefkaaDoor
namespace Rows

/-- THE TIED CARD OF 'casketlaw13.EnvelopeForged'. -/
def envelopeForgedCard : Claim7 := { stood := { row := envelopeForgedRow, standIns := [], harness := (true, "f62055d91889a8ff798969832df773a8ba25d48cf95bf6d0ce5af0291a117d6b"), looks := false }, kinds := [], alts := [], laidByText := true, laidKinds := [.data, .data], laidTests := true, laidLooks := .later }
def EnvelopeForgedCardSaid : Prop := Claim7.holds Tryd.pinned (.plain (OpenSpec.ofChange envelopeForgedSpec)) envelopeForgedCard

/-- THE SECOND FORM's CARD OF 'casketlaw13.EnvelopeForged'. -/
def envelopeForgedUptoCard : Claim7 := { stood := { row := envelopeForgedUptoRow, standIns := [], harness := (true, "f62055d91889a8ff798969832df773a8ba25d48cf95bf6d0ce5af0291a117d6b"), looks := false }, kinds := [], alts := [], laidByText := true, laidKinds := [.data, .data], laidTests := true, laidLooks := .later }
def EnvelopeForgedUptoCardSaid : Prop := Claim7.holds Tryd.pinned (.plain (OpenSpec.upto envelopeForgedSpec)) envelopeForgedUptoCard
end Rows
end Go.Proofs.YtmfhgmbbgcefkaaDoor
