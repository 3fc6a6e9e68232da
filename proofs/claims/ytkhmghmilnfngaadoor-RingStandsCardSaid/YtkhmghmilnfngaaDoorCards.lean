/-
  DERIVED. GIVEN WITH THE SEED: THE CARDS: each row of YtkhmghmilnfngaaDoorRows.lean that lists a variable, with what it lists TIED to the program's text (the seventh form; the later family's looks); each row that meets fmt, with fmt's text TOLD by the authors' own Lean function (tested against real Go, not proved from fmt's source: count such statements apart). THE CARD IS WHAT COUNTS. Prove the row's statement (the work); the ties are given (YtkhmghmilnfngaaDoorTie.lean); close each card by the builder's one call (the guide's Derived/Test/ToyasCard.lean, 'card_holds'). Laid BY PROGRAM, IN A SANDBOX (cutbox-door.mjs). By AI agents, Wed Nov 11 2026. No macro, syntax, notation, axiom, sorry.
-/
import Derived.Test.YtkhmghmilnfngaaDoorRows
import GoSem.ClaimSeven
namespace Go.Proofs.YtkhmghmilnfngaaDoor
namespace Rows

/-- THE TIED CARD OF 'casketlaw21.RingWalks'. -/
def ringWalksCard : Claim7 := { stood := { row := ringWalksRow, standIns := [], harness := (true, "2d3e468bfc0c94af70dc234b9e19d69424ce8218c6738bd593c400dba1fa161e"), looks := false }, kinds := [], alts := [], laidByText := true, laidKinds := [.data], laidTests := true, laidLooks := .later }
def RingWalksCardSaid : Prop := Claim7.holds Tryd.pinned (.plain (OpenSpec.ofChange ringWalksSpec)) ringWalksCard

/-- THE TIED CARD OF 'casketlaw21.RingStands'. -/
def ringStandsCard : Claim7 := { stood := { row := ringStandsRow, standIns := [], harness := (true, "2d3e468bfc0c94af70dc234b9e19d69424ce8218c6738bd593c400dba1fa161e"), looks := false }, kinds := [], alts := [], laidByText := true, laidKinds := [.data], laidTests := true, laidLooks := .later }
def RingStandsCardSaid : Prop := Claim7.holds Tryd.pinned (.plain (OpenSpec.ofChange ringStandsSpec)) ringStandsCard

/-- THE TIED CARD OF 'casketlaw21.RingLess'. -/
def ringLessCard : Claim7 := { stood := { row := ringLessRow, standIns := [], harness := (true, "2d3e468bfc0c94af70dc234b9e19d69424ce8218c6738bd593c400dba1fa161e"), looks := false }, kinds := [], alts := [], laidByText := true, laidKinds := [.data], laidTests := true, laidLooks := .later }
def RingLessCardSaid : Prop := Claim7.holds Tryd.pinned (.plain (OpenSpec.ofChange ringLessSpec)) ringLessCard

/-- THE TIED CARD OF 'casketlaw21.RingAll'. -/
def ringAllCard : Claim7 := { stood := { row := ringAllRow, standIns := [], harness := (true, "2d3e468bfc0c94af70dc234b9e19d69424ce8218c6738bd593c400dba1fa161e"), looks := false }, kinds := [], alts := [], laidByText := true, laidKinds := [.data], laidTests := true, laidLooks := .later }
def RingAllCardSaid : Prop := Claim7.holds Tryd.pinned (.plain (OpenSpec.ofChange ringAllSpec)) ringAllCard

/-- THE SECOND FORM's CARD OF 'casketlaw21.RingWalks'. -/
def ringWalksUptoCard : Claim7 := { stood := { row := ringWalksUptoRow, standIns := [], harness := (true, "2d3e468bfc0c94af70dc234b9e19d69424ce8218c6738bd593c400dba1fa161e"), looks := false }, kinds := [], alts := [], laidByText := true, laidKinds := [.data], laidTests := true, laidLooks := .later }
def RingWalksUptoCardSaid : Prop := Claim7.holds Tryd.pinned (.plain (OpenSpec.upto ringWalksSpec)) ringWalksUptoCard

/-- THE SECOND FORM's CARD OF 'casketlaw21.RingStands'. -/
def ringStandsUptoCard : Claim7 := { stood := { row := ringStandsUptoRow, standIns := [], harness := (true, "2d3e468bfc0c94af70dc234b9e19d69424ce8218c6738bd593c400dba1fa161e"), looks := false }, kinds := [], alts := [], laidByText := true, laidKinds := [.data], laidTests := true, laidLooks := .later }
def RingStandsUptoCardSaid : Prop := Claim7.holds Tryd.pinned (.plain (OpenSpec.upto ringStandsSpec)) ringStandsUptoCard

/-- THE SECOND FORM's CARD OF 'casketlaw21.RingLess'. -/
def ringLessUptoCard : Claim7 := { stood := { row := ringLessUptoRow, standIns := [], harness := (true, "2d3e468bfc0c94af70dc234b9e19d69424ce8218c6738bd593c400dba1fa161e"), looks := false }, kinds := [], alts := [], laidByText := true, laidKinds := [.data], laidTests := true, laidLooks := .later }
def RingLessUptoCardSaid : Prop := Claim7.holds Tryd.pinned (.plain (OpenSpec.upto ringLessSpec)) ringLessUptoCard

/-- THE SECOND FORM's CARD OF 'casketlaw21.RingAll'. -/
def ringAllUptoCard : Claim7 := { stood := { row := ringAllUptoRow, standIns := [], harness := (true, "2d3e468bfc0c94af70dc234b9e19d69424ce8218c6738bd593c400dba1fa161e"), looks := false }, kinds := [], alts := [], laidByText := true, laidKinds := [.data], laidTests := true, laidLooks := .later }
def RingAllUptoCardSaid : Prop := Claim7.holds Tryd.pinned (.plain (OpenSpec.upto ringAllSpec)) ringAllUptoCard
end Rows
end Go.Proofs.YtkhmghmilnfngaaDoor
