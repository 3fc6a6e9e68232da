/-
  DERIVED. GIVEN WITH THE SEED: THE CARDS: each row of YteijlgifcmlkoabDoorRows.lean that lists a variable, with what it lists TIED to the program's text (the seventh form; the later family's looks); each row that meets fmt, with fmt's text TOLD by the authors' own Lean function (tested against real Go, not proved from fmt's source: count such statements apart). THE CARD IS WHAT COUNTS. Prove the row's statement (the work); the ties are given (YteijlgifcmlkoabDoorTie.lean); close each card by the builder's one call (the guide's Derived/Test/ToyasCard.lean, 'card_holds'). Laid BY PROGRAM, IN A SANDBOX (cutbox-door.mjs). By AI agents, Wed Nov 11 2026. No macro, syntax, notation, axiom, sorry.
-/
import Derived.Test.YteijlgifcmlkoabDoorRows
import GoSem.ClaimSeven
namespace Go.Proofs.YteijlgifcmlkoabDoor
namespace Rows

/-- THE TIED CARD OF 'casketlaw10.PadClasses'. -/
def padClassesCard : Claim7 := { stood := { row := padClassesRow, standIns := [], harness := (true, "bccecda642b04f2942098e3ea98121bea1230530f90e348e0e67585608021ded"), looks := false }, kinds := [], alts := [], laidByText := true, laidKinds := [.data], laidTests := true, laidLooks := .later }
def PadClassesCardSaid : Prop := Claim7.holds Tryd.pinned (.plain (OpenSpec.ofChange padClassesSpec)) padClassesCard

/-- THE TIED CARD OF 'casketlaw10.PadBack'. -/
def padBackCard : Claim7 := { stood := { row := padBackRow, standIns := [], harness := (true, "bccecda642b04f2942098e3ea98121bea1230530f90e348e0e67585608021ded"), looks := false }, kinds := [], alts := [], laidByText := true, laidKinds := [.data], laidTests := true, laidLooks := .later }
def PadBackCardSaid : Prop := Claim7.holds Tryd.pinned (.plain (OpenSpec.ofChange padBackSpec)) padBackCard

/-- THE TIED CARD OF 'casketlaw10.PadCuts'. -/
def padCutsCard : Claim7 := { stood := { row := padCutsRow, standIns := [], harness := (true, "bccecda642b04f2942098e3ea98121bea1230530f90e348e0e67585608021ded"), looks := false }, kinds := [], alts := [], laidByText := true, laidKinds := [.data], laidTests := true, laidLooks := .later }
def PadCutsCardSaid : Prop := Claim7.holds Tryd.pinned (.plain (OpenSpec.ofChange padCutsSpec)) padCutsCard

/-- THE TIED CARD OF 'casketlaw10.PadSizes'. -/
def padSizesCard : Claim7 := { stood := { row := padSizesRow, standIns := [], harness := (true, "bccecda642b04f2942098e3ea98121bea1230530f90e348e0e67585608021ded"), looks := false }, kinds := [], alts := [], laidByText := true, laidKinds := [.data], laidTests := true, laidLooks := .later }
def PadSizesCardSaid : Prop := Claim7.holds Tryd.pinned (.plain (OpenSpec.ofChange padSizesSpec)) padSizesCard

/-- THE SECOND FORM's CARD OF 'casketlaw10.PadClasses'. -/
def padClassesUptoCard : Claim7 := { stood := { row := padClassesUptoRow, standIns := [], harness := (true, "bccecda642b04f2942098e3ea98121bea1230530f90e348e0e67585608021ded"), looks := false }, kinds := [], alts := [], laidByText := true, laidKinds := [.data], laidTests := true, laidLooks := .later }
def PadClassesUptoCardSaid : Prop := Claim7.holds Tryd.pinned (.plain (OpenSpec.upto padClassesSpec)) padClassesUptoCard

/-- THE SECOND FORM's CARD OF 'casketlaw10.PadBack'. -/
def padBackUptoCard : Claim7 := { stood := { row := padBackUptoRow, standIns := [], harness := (true, "bccecda642b04f2942098e3ea98121bea1230530f90e348e0e67585608021ded"), looks := false }, kinds := [], alts := [], laidByText := true, laidKinds := [.data], laidTests := true, laidLooks := .later }
def PadBackUptoCardSaid : Prop := Claim7.holds Tryd.pinned (.plain (OpenSpec.upto padBackSpec)) padBackUptoCard

/-- THE SECOND FORM's CARD OF 'casketlaw10.PadCuts'. -/
def padCutsUptoCard : Claim7 := { stood := { row := padCutsUptoRow, standIns := [], harness := (true, "bccecda642b04f2942098e3ea98121bea1230530f90e348e0e67585608021ded"), looks := false }, kinds := [], alts := [], laidByText := true, laidKinds := [.data], laidTests := true, laidLooks := .later }
def PadCutsUptoCardSaid : Prop := Claim7.holds Tryd.pinned (.plain (OpenSpec.upto padCutsSpec)) padCutsUptoCard

/-- THE SECOND FORM's CARD OF 'casketlaw10.PadSizes'. -/
def padSizesUptoCard : Claim7 := { stood := { row := padSizesUptoRow, standIns := [], harness := (true, "bccecda642b04f2942098e3ea98121bea1230530f90e348e0e67585608021ded"), looks := false }, kinds := [], alts := [], laidByText := true, laidKinds := [.data], laidTests := true, laidLooks := .later }
def PadSizesUptoCardSaid : Prop := Claim7.holds Tryd.pinned (.plain (OpenSpec.upto padSizesSpec)) padSizesUptoCard
end Rows
end Go.Proofs.YteijlgifcmlkoabDoor
