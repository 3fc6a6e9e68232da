/-
  DERIVED. GIVEN WITH THE SEED: THE CARDS: each row of YtoeofifibjelnaaDoorRows.lean that lists a variable, with what it lists TIED to the program's text (the seventh form; the later family's looks); each row that meets fmt, with fmt's text TOLD by the authors' own Lean function (tested against real Go, not proved from fmt's source: count such statements apart). THE CARD IS WHAT COUNTS. Prove the row's statement (the work); the ties are given (YtoeofifibjelnaaDoorTie.lean); close each card by the builder's one call (the guide's Derived/Test/ToyasCard.lean, 'card_holds'). Laid BY PROGRAM, IN A SANDBOX (cutbox-door.mjs). By AI agents, Wed Nov 11 2026. No macro, syntax, notation, axiom, sorry.
-/
import Derived.Test.YtoeofifibjelnaaDoorRows
import GoSem.ClaimSeven
namespace Go.Proofs.YtoeofifibjelnaaDoor
namespace Rows

/-- THE TIED CARD OF 'casketlaw12.VaultNames'. -/
def vaultNamesCard : Claim7 := { stood := { row := vaultNamesRow, standIns := [], harness := (true, "365e6f9cb670f62f6d309b946c5143b5c699beb30bc584419cfa30e1aae18351"), looks := false }, kinds := [], alts := [], laidByText := true, laidKinds := [.data], laidTests := true, laidLooks := .later }
def VaultNamesCardSaid : Prop := Claim7.holds Tryd.pinned (.plain (OpenSpec.ofChange vaultNamesSpec)) vaultNamesCard

/-- THE TIED CARD OF 'casketlaw12.VaultBack'. -/
def vaultBackCard : Claim7 := { stood := { row := vaultBackRow, standIns := [], harness := (true, "365e6f9cb670f62f6d309b946c5143b5c699beb30bc584419cfa30e1aae18351"), looks := false }, kinds := [], alts := [], laidByText := true, laidKinds := [.data], laidTests := true, laidLooks := .later }
def VaultBackCardSaid : Prop := Claim7.holds Tryd.pinned (.plain (OpenSpec.ofChange vaultBackSpec)) vaultBackCard

/-- THE TIED CARD OF 'casketlaw12.VaultBlindly'. -/
def vaultBlindlyCard : Claim7 := { stood := { row := vaultBlindlyRow, standIns := [], harness := (true, "365e6f9cb670f62f6d309b946c5143b5c699beb30bc584419cfa30e1aae18351"), looks := false }, kinds := [], alts := [], laidByText := true, laidKinds := [.data], laidTests := true, laidLooks := .later }
def VaultBlindlyCardSaid : Prop := Claim7.holds Tryd.pinned (.plain (OpenSpec.ofChange vaultBlindlySpec)) vaultBlindlyCard

/-- THE TIED CARD OF 'casketlaw12.VaultForged'. -/
def vaultForgedCard : Claim7 := { stood := { row := vaultForgedRow, standIns := [], harness := (true, "365e6f9cb670f62f6d309b946c5143b5c699beb30bc584419cfa30e1aae18351"), looks := false }, kinds := [], alts := [], laidByText := true, laidKinds := [.data], laidTests := true, laidLooks := .later }
def VaultForgedCardSaid : Prop := Claim7.holds Tryd.pinned (.plain (OpenSpec.ofChange vaultForgedSpec)) vaultForgedCard

/-- THE SECOND FORM's CARD OF 'casketlaw12.VaultNames'. -/
def vaultNamesUptoCard : Claim7 := { stood := { row := vaultNamesUptoRow, standIns := [], harness := (true, "365e6f9cb670f62f6d309b946c5143b5c699beb30bc584419cfa30e1aae18351"), looks := false }, kinds := [], alts := [], laidByText := true, laidKinds := [.data], laidTests := true, laidLooks := .later }
def VaultNamesUptoCardSaid : Prop := Claim7.holds Tryd.pinned (.plain (OpenSpec.upto vaultNamesSpec)) vaultNamesUptoCard

/-- THE SECOND FORM's CARD OF 'casketlaw12.VaultBack'. -/
def vaultBackUptoCard : Claim7 := { stood := { row := vaultBackUptoRow, standIns := [], harness := (true, "365e6f9cb670f62f6d309b946c5143b5c699beb30bc584419cfa30e1aae18351"), looks := false }, kinds := [], alts := [], laidByText := true, laidKinds := [.data], laidTests := true, laidLooks := .later }
def VaultBackUptoCardSaid : Prop := Claim7.holds Tryd.pinned (.plain (OpenSpec.upto vaultBackSpec)) vaultBackUptoCard

/-- THE SECOND FORM's CARD OF 'casketlaw12.VaultBlindly'. -/
def vaultBlindlyUptoCard : Claim7 := { stood := { row := vaultBlindlyUptoRow, standIns := [], harness := (true, "365e6f9cb670f62f6d309b946c5143b5c699beb30bc584419cfa30e1aae18351"), looks := false }, kinds := [], alts := [], laidByText := true, laidKinds := [.data], laidTests := true, laidLooks := .later }
def VaultBlindlyUptoCardSaid : Prop := Claim7.holds Tryd.pinned (.plain (OpenSpec.upto vaultBlindlySpec)) vaultBlindlyUptoCard

/-- THE SECOND FORM's CARD OF 'casketlaw12.VaultForged'. -/
def vaultForgedUptoCard : Claim7 := { stood := { row := vaultForgedUptoRow, standIns := [], harness := (true, "365e6f9cb670f62f6d309b946c5143b5c699beb30bc584419cfa30e1aae18351"), looks := false }, kinds := [], alts := [], laidByText := true, laidKinds := [.data], laidTests := true, laidLooks := .later }
def VaultForgedUptoCardSaid : Prop := Claim7.holds Tryd.pinned (.plain (OpenSpec.upto vaultForgedSpec)) vaultForgedUptoCard
end Rows
end Go.Proofs.YtoeofifibjelnaaDoor
