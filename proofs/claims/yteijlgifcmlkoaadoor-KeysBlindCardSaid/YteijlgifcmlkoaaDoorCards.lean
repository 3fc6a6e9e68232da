/-
  DERIVED. GIVEN WITH THE SEED: THE CARDS: each row of YteijlgifcmlkoaaDoorRows.lean that lists a variable, with what it lists TIED to the program's text (the seventh form; the later family's looks); each row that meets fmt, with fmt's text TOLD by the authors' own Lean function (tested against real Go, not proved from fmt's source: count such statements apart). THE CARD IS WHAT COUNTS. Prove the row's statement (the work); the ties are given (YteijlgifcmlkoaaDoorTie.lean); close each card by the builder's one call (the guide's Derived/Test/ToyasCard.lean, 'card_holds'). Laid BY PROGRAM, IN A SANDBOX (cutbox-door.mjs). By AI agents, Wed Nov 11 2026. No macro, syntax, notation, axiom, sorry.
-/
import Derived.Test.YteijlgifcmlkoaaDoorRows
import GoSem.ClaimSeven
namespace Go.Proofs.YteijlgifcmlkoaaDoor
namespace Rows

/-- THE TIED CARD OF 'casketlaw04.HkdfTells'. -/
def hkdfTellsCard : Claim7 := { stood := { row := hkdfTellsRow, standIns := [], harness := (true, "81cdca61d46a2a86a1aec6c6b42e1007a572f96f35e8fc50f4b47d9993a81e5a"), looks := false }, kinds := [], alts := [], laidByText := true, laidKinds := [.data], laidTests := true, laidLooks := .later }
def HkdfTellsCardSaid : Prop := Claim7.holds Tryd.pinned (.plain (OpenSpec.ofChange hkdfTellsSpec)) hkdfTellsCard

/-- THE TIED CARD OF 'casketlaw11.KeysBlind'. -/
def keysBlindCard : Claim7 := { stood := { row := keysBlindRow, standIns := [], harness := (true, "81cdca61d46a2a86a1aec6c6b42e1007a572f96f35e8fc50f4b47d9993a81e5a"), looks := false }, kinds := [], alts := [], laidByText := true, laidKinds := [.data], laidTests := true, laidLooks := .later }
def KeysBlindCardSaid : Prop := Claim7.holds Tryd.pinned (.plain (OpenSpec.ofChange keysBlindSpec)) keysBlindCard

/-- THE TIED CARD OF 'casketlaw11.KeysSeal'. -/
def keysSealCard : Claim7 := { stood := { row := keysSealRow, standIns := [], harness := (true, "81cdca61d46a2a86a1aec6c6b42e1007a572f96f35e8fc50f4b47d9993a81e5a"), looks := false }, kinds := [], alts := [], laidByText := true, laidKinds := [.data], laidTests := true, laidLooks := .later }
def KeysSealCardSaid : Prop := Claim7.holds Tryd.pinned (.plain (OpenSpec.ofChange keysSealSpec)) keysSealCard

/-- THE SECOND FORM's CARD OF 'casketlaw04.HkdfTells'. -/
def hkdfTellsUptoCard : Claim7 := { stood := { row := hkdfTellsUptoRow, standIns := [], harness := (true, "81cdca61d46a2a86a1aec6c6b42e1007a572f96f35e8fc50f4b47d9993a81e5a"), looks := false }, kinds := [], alts := [], laidByText := true, laidKinds := [.data], laidTests := true, laidLooks := .later }
def HkdfTellsUptoCardSaid : Prop := Claim7.holds Tryd.pinned (.plain (OpenSpec.upto hkdfTellsSpec)) hkdfTellsUptoCard

/-- THE SECOND FORM's CARD OF 'casketlaw11.KeysBlind'. -/
def keysBlindUptoCard : Claim7 := { stood := { row := keysBlindUptoRow, standIns := [], harness := (true, "81cdca61d46a2a86a1aec6c6b42e1007a572f96f35e8fc50f4b47d9993a81e5a"), looks := false }, kinds := [], alts := [], laidByText := true, laidKinds := [.data], laidTests := true, laidLooks := .later }
def KeysBlindUptoCardSaid : Prop := Claim7.holds Tryd.pinned (.plain (OpenSpec.upto keysBlindSpec)) keysBlindUptoCard

/-- THE SECOND FORM's CARD OF 'casketlaw11.KeysSeal'. -/
def keysSealUptoCard : Claim7 := { stood := { row := keysSealUptoRow, standIns := [], harness := (true, "81cdca61d46a2a86a1aec6c6b42e1007a572f96f35e8fc50f4b47d9993a81e5a"), looks := false }, kinds := [], alts := [], laidByText := true, laidKinds := [.data], laidTests := true, laidLooks := .later }
def KeysSealUptoCardSaid : Prop := Claim7.holds Tryd.pinned (.plain (OpenSpec.upto keysSealSpec)) keysSealUptoCard
end Rows
end Go.Proofs.YteijlgifcmlkoaaDoor
