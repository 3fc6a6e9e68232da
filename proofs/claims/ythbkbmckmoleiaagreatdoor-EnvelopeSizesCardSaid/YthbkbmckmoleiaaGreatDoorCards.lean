/-
  DERIVED. GIVEN WITH THE SEED: THE CARDS: each row of YthbkbmckmoleiaaGreatDoorRows.lean that lists a variable, with what it lists TIED to the program's text (the seventh form; the later family's looks); each row that meets fmt, with fmt's text TOLD by the authors' own Lean function (tested against real Go, not proved from fmt's source: count such statements apart). THE CARD IS WHAT COUNTS. Prove the row's statement (the work); the ties are given (YthbkbmckmoleiaaGreatDoorTie.lean); close each card by the builder's one call (the guide's Derived/Test/ToyasCard.lean, 'card_holds'). Laid BY PROGRAM, IN A SANDBOX (cutbox-door.mjs). By AI agents, Wed Nov 11 2026. No macro, syntax, notation, axiom, sorry.
-/
import Derived.Test.YthbkbmckmoleiaaGreatDoorRows
import GoSem.ClaimSeven
namespace Go.Proofs.YthbkbmckmoleiaaGreatDoor
namespace Rows

/-- THE TIED CARD OF 'casketlaw12.VaultReal'. -/
def vaultRealCard : Claim7 := { stood := { row := vaultRealRow, standIns := [], harness := (true, "25e0ed45c961a0190e9254a08e883d60a69bbf3901c36a082be85652cf174741"), looks := false }, kinds := [], alts := [], laidByText := true, laidKinds := [.data], laidTests := true, laidLooks := .later }
def VaultRealCardSaid : Prop := Claim7.holds Tryz.pinned (.plain (OpenSpec.ofChange vaultRealSpec)) vaultRealCard

/-- THE TIED CARD OF 'casketlaw12.VaultIdeal'. -/
def vaultIdealCard : Claim7 := { stood := { row := vaultIdealRow, standIns := [], harness := (true, "25e0ed45c961a0190e9254a08e883d60a69bbf3901c36a082be85652cf174741"), looks := false }, kinds := [], alts := [], laidByText := true, laidKinds := [.data], laidTests := true, laidLooks := .later }
def VaultIdealCardSaid : Prop := Claim7.holds Tryz.pinned (.plain (OpenSpec.ofChange vaultIdealSpec)) vaultIdealCard

/-- THE TIED CARD OF 'casketlaw13.EnvelopeSizes'. -/
def envelopeSizesCard : Claim7 := { stood := { row := envelopeSizesRow, standIns := [], harness := (true, "25e0ed45c961a0190e9254a08e883d60a69bbf3901c36a082be85652cf174741"), looks := false }, kinds := [], alts := [], laidByText := true, laidKinds := [.data, .data], laidTests := true, laidLooks := .later }
def EnvelopeSizesCardSaid : Prop := Claim7.holds Tryz.pinned (.plain (OpenSpec.ofChange envelopeSizesSpec)) envelopeSizesCard

/-- THE TIED CARD OF 'casketlaw13.EnvelopeReads'. -/
def envelopeReadsCard : Claim7 := { stood := { row := envelopeReadsRow, standIns := [], harness := (true, "25e0ed45c961a0190e9254a08e883d60a69bbf3901c36a082be85652cf174741"), looks := false }, kinds := [], alts := [], laidByText := true, laidKinds := [.data, .data], laidTests := true, laidLooks := .later }
def EnvelopeReadsCardSaid : Prop := Claim7.holds Tryz.pinned (.plain (OpenSpec.ofChange envelopeReadsSpec)) envelopeReadsCard

/-- THE TIED CARD OF 'casketlaw13.EnvelopeSeals'. -/
def envelopeSealsCard : Claim7 := { stood := { row := envelopeSealsRow, standIns := [], harness := (true, "25e0ed45c961a0190e9254a08e883d60a69bbf3901c36a082be85652cf174741"), looks := false }, kinds := [], alts := [], laidByText := true, laidKinds := [.data, .data], laidTests := true, laidLooks := .later }
def EnvelopeSealsCardSaid : Prop := Claim7.holds Tryz.pinned (.plain (OpenSpec.ofChange envelopeSealsSpec)) envelopeSealsCard

/-- THE TIED CARD OF 'casketlaw13.EnvelopeOpens'. -/
def envelopeOpensCard : Claim7 := { stood := { row := envelopeOpensRow, standIns := [], harness := (true, "25e0ed45c961a0190e9254a08e883d60a69bbf3901c36a082be85652cf174741"), looks := false }, kinds := [], alts := [], laidByText := true, laidKinds := [.data, .data], laidTests := true, laidLooks := .later }
def EnvelopeOpensCardSaid : Prop := Claim7.holds Tryz.pinned (.plain (OpenSpec.ofChange envelopeOpensSpec)) envelopeOpensCard

/-- THE SECOND FORM's CARD OF 'casketlaw12.VaultReal'. -/
def vaultRealUptoCard : Claim7 := { stood := { row := vaultRealUptoRow, standIns := [], harness := (true, "25e0ed45c961a0190e9254a08e883d60a69bbf3901c36a082be85652cf174741"), looks := false }, kinds := [], alts := [], laidByText := true, laidKinds := [.data], laidTests := true, laidLooks := .later }
def VaultRealUptoCardSaid : Prop := Claim7.holds Tryz.pinned (.plain (OpenSpec.upto vaultRealSpec)) vaultRealUptoCard

/-- THE SECOND FORM's CARD OF 'casketlaw12.VaultIdeal'. -/
def vaultIdealUptoCard : Claim7 := { stood := { row := vaultIdealUptoRow, standIns := [], harness := (true, "25e0ed45c961a0190e9254a08e883d60a69bbf3901c36a082be85652cf174741"), looks := false }, kinds := [], alts := [], laidByText := true, laidKinds := [.data], laidTests := true, laidLooks := .later }
def VaultIdealUptoCardSaid : Prop := Claim7.holds Tryz.pinned (.plain (OpenSpec.upto vaultIdealSpec)) vaultIdealUptoCard

/-- THE SECOND FORM's CARD OF 'casketlaw13.EnvelopeSizes'. -/
def envelopeSizesUptoCard : Claim7 := { stood := { row := envelopeSizesUptoRow, standIns := [], harness := (true, "25e0ed45c961a0190e9254a08e883d60a69bbf3901c36a082be85652cf174741"), looks := false }, kinds := [], alts := [], laidByText := true, laidKinds := [.data, .data], laidTests := true, laidLooks := .later }
def EnvelopeSizesUptoCardSaid : Prop := Claim7.holds Tryz.pinned (.plain (OpenSpec.upto envelopeSizesSpec)) envelopeSizesUptoCard

/-- THE SECOND FORM's CARD OF 'casketlaw13.EnvelopeReads'. -/
def envelopeReadsUptoCard : Claim7 := { stood := { row := envelopeReadsUptoRow, standIns := [], harness := (true, "25e0ed45c961a0190e9254a08e883d60a69bbf3901c36a082be85652cf174741"), looks := false }, kinds := [], alts := [], laidByText := true, laidKinds := [.data, .data], laidTests := true, laidLooks := .later }
def EnvelopeReadsUptoCardSaid : Prop := Claim7.holds Tryz.pinned (.plain (OpenSpec.upto envelopeReadsSpec)) envelopeReadsUptoCard

/-- THE SECOND FORM's CARD OF 'casketlaw13.EnvelopeSeals'. -/
def envelopeSealsUptoCard : Claim7 := { stood := { row := envelopeSealsUptoRow, standIns := [], harness := (true, "25e0ed45c961a0190e9254a08e883d60a69bbf3901c36a082be85652cf174741"), looks := false }, kinds := [], alts := [], laidByText := true, laidKinds := [.data, .data], laidTests := true, laidLooks := .later }
def EnvelopeSealsUptoCardSaid : Prop := Claim7.holds Tryz.pinned (.plain (OpenSpec.upto envelopeSealsSpec)) envelopeSealsUptoCard

/-- THE SECOND FORM's CARD OF 'casketlaw13.EnvelopeOpens'. -/
def envelopeOpensUptoCard : Claim7 := { stood := { row := envelopeOpensUptoRow, standIns := [], harness := (true, "25e0ed45c961a0190e9254a08e883d60a69bbf3901c36a082be85652cf174741"), looks := false }, kinds := [], alts := [], laidByText := true, laidKinds := [.data, .data], laidTests := true, laidLooks := .later }
def EnvelopeOpensUptoCardSaid : Prop := Claim7.holds Tryz.pinned (.plain (OpenSpec.upto envelopeOpensSpec)) envelopeOpensUptoCard
end Rows
end Go.Proofs.YthbkbmckmoleiaaGreatDoor
