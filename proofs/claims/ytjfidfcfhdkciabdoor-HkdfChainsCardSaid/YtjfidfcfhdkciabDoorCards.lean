/-
  DERIVED. GIVEN WITH THE SEED: THE CARDS: each row of YtjfidfcfhdkciabDoorRows.lean that lists a variable, with what it lists TIED to the program's text (the seventh form; the later family's looks); each row that meets fmt, with fmt's text TOLD by the authors' own Lean function (tested against real Go, not proved from fmt's source: count such statements apart). THE CARD IS WHAT COUNTS. Prove the row's statement (the work); the ties are given (YtjfidfcfhdkciabDoorTie.lean); close each card by the builder's one call (the guide's Derived/Test/ToyasCard.lean, 'card_holds'). Laid BY PROGRAM, IN A SANDBOX (cutbox-door.mjs). By AI agents, Wed Nov 11 2026. No macro, syntax, notation, axiom, sorry.
-/
import Derived.Test.YtjfidfcfhdkciabDoorRows
import GoSem.ClaimSeven
namespace Go.Proofs.YtjfidfcfhdkciabDoor
namespace Rows

/-- THE TIED CARD OF 'casketlaw11.KeysNonces'. -/
def keysNoncesCard : Claim7 := { stood := { row := keysNoncesRow, standIns := [], harness := (true, "c864a27321cbe2b18bdd177116bf4a48097a517eebcbffceffb6c1881ff356dc"), looks := false }, kinds := [], alts := [], laidByText := true, laidKinds := [.data], laidTests := true, laidLooks := .later }
def KeysNoncesCardSaid : Prop := Claim7.holds Tryd.pinned (.plain (OpenSpec.ofChange keysNoncesSpec)) keysNoncesCard

/-- THE TIED CARD OF 'casketlaw11.KeysParts'. -/
def keysPartsCard : Claim7 := { stood := { row := keysPartsRow, standIns := [], harness := (true, "c864a27321cbe2b18bdd177116bf4a48097a517eebcbffceffb6c1881ff356dc"), looks := false }, kinds := [], alts := [], laidByText := true, laidKinds := [.data], laidTests := true, laidLooks := .later }
def KeysPartsCardSaid : Prop := Claim7.holds Tryd.pinned (.plain (OpenSpec.ofChange keysPartsSpec)) keysPartsCard

/-- THE TIED CARD OF 'casketlaw02.Sha2Lengths'. -/
def sha2LengthsCard : Claim7 := { stood := { row := sha2LengthsRow, standIns := [], harness := (true, "c864a27321cbe2b18bdd177116bf4a48097a517eebcbffceffb6c1881ff356dc"), looks := false }, kinds := [], alts := [], laidByText := true, laidKinds := [.data], laidTests := true, laidLooks := .later }
def Sha2LengthsCardSaid : Prop := Claim7.holds Tryd.pinned (.plain (OpenSpec.ofChange sha2LengthsSpec)) sha2LengthsCard

/-- THE TIED CARD OF 'casketlaw03.HmacSums'. -/
def hmacSumsCard : Claim7 := { stood := { row := hmacSumsRow, standIns := [], harness := (true, "c864a27321cbe2b18bdd177116bf4a48097a517eebcbffceffb6c1881ff356dc"), looks := false }, kinds := [], alts := [], laidByText := true, laidKinds := [.data], laidTests := true, laidLooks := .later }
def HmacSumsCardSaid : Prop := Claim7.holds Tryd.pinned (.plain (OpenSpec.ofChange hmacSumsSpec)) hmacSumsCard

/-- THE TIED CARD OF 'casketlaw03.HmacKeys'. -/
def hmacKeysCard : Claim7 := { stood := { row := hmacKeysRow, standIns := [], harness := (true, "c864a27321cbe2b18bdd177116bf4a48097a517eebcbffceffb6c1881ff356dc"), looks := false }, kinds := [], alts := [], laidByText := true, laidKinds := [.data], laidTests := true, laidLooks := .later }
def HmacKeysCardSaid : Prop := Claim7.holds Tryd.pinned (.plain (OpenSpec.ofChange hmacKeysSpec)) hmacKeysCard

/-- THE TIED CARD OF 'casketlaw03.HmacParts'. -/
def hmacPartsCard : Claim7 := { stood := { row := hmacPartsRow, standIns := [], harness := (true, "c864a27321cbe2b18bdd177116bf4a48097a517eebcbffceffb6c1881ff356dc"), looks := false }, kinds := [], alts := [], laidByText := true, laidKinds := [.data], laidTests := true, laidLooks := .later }
def HmacPartsCardSaid : Prop := Claim7.holds Tryd.pinned (.plain (OpenSpec.ofChange hmacPartsSpec)) hmacPartsCard

/-- THE TIED CARD OF 'casketlaw04.HkdfTells'. -/
def hkdfTellsCard : Claim7 := { stood := { row := hkdfTellsRow, standIns := [], harness := (true, "c864a27321cbe2b18bdd177116bf4a48097a517eebcbffceffb6c1881ff356dc"), looks := false }, kinds := [], alts := [], laidByText := true, laidKinds := [.data], laidTests := true, laidLooks := .later }
def HkdfTellsCardSaid : Prop := Claim7.holds Tryd.pinned (.plain (OpenSpec.ofChange hkdfTellsSpec)) hkdfTellsCard

/-- THE TIED CARD OF 'casketlaw04.HkdfBegins'. -/
def hkdfBeginsCard : Claim7 := { stood := { row := hkdfBeginsRow, standIns := [], harness := (true, "c864a27321cbe2b18bdd177116bf4a48097a517eebcbffceffb6c1881ff356dc"), looks := false }, kinds := [], alts := [], laidByText := true, laidKinds := [.data], laidTests := true, laidLooks := .later }
def HkdfBeginsCardSaid : Prop := Claim7.holds Tryd.pinned (.plain (OpenSpec.ofChange hkdfBeginsSpec)) hkdfBeginsCard

/-- THE TIED CARD OF 'casketlaw04.HkdfChains'. -/
def hkdfChainsCard : Claim7 := { stood := { row := hkdfChainsRow, standIns := [], harness := (true, "c864a27321cbe2b18bdd177116bf4a48097a517eebcbffceffb6c1881ff356dc"), looks := false }, kinds := [], alts := [], laidByText := true, laidKinds := [.data], laidTests := true, laidLooks := .later }
def HkdfChainsCardSaid : Prop := Claim7.holds Tryd.pinned (.plain (OpenSpec.ofChange hkdfChainsSpec)) hkdfChainsCard

/-- THE TIED CARD OF 'casketlaw11.KeysBlind'. -/
def keysBlindCard : Claim7 := { stood := { row := keysBlindRow, standIns := [], harness := (true, "c864a27321cbe2b18bdd177116bf4a48097a517eebcbffceffb6c1881ff356dc"), looks := false }, kinds := [], alts := [], laidByText := true, laidKinds := [.data], laidTests := true, laidLooks := .later }
def KeysBlindCardSaid : Prop := Claim7.holds Tryd.pinned (.plain (OpenSpec.ofChange keysBlindSpec)) keysBlindCard

/-- THE TIED CARD OF 'casketlaw11.KeysSeal'. -/
def keysSealCard : Claim7 := { stood := { row := keysSealRow, standIns := [], harness := (true, "c864a27321cbe2b18bdd177116bf4a48097a517eebcbffceffb6c1881ff356dc"), looks := false }, kinds := [], alts := [], laidByText := true, laidKinds := [.data], laidTests := true, laidLooks := .later }
def KeysSealCardSaid : Prop := Claim7.holds Tryd.pinned (.plain (OpenSpec.ofChange keysSealSpec)) keysSealCard

/-- THE SECOND FORM's CARD OF 'casketlaw11.KeysNonces'. -/
def keysNoncesUptoCard : Claim7 := { stood := { row := keysNoncesUptoRow, standIns := [], harness := (true, "c864a27321cbe2b18bdd177116bf4a48097a517eebcbffceffb6c1881ff356dc"), looks := false }, kinds := [], alts := [], laidByText := true, laidKinds := [.data], laidTests := true, laidLooks := .later }
def KeysNoncesUptoCardSaid : Prop := Claim7.holds Tryd.pinned (.plain (OpenSpec.upto keysNoncesSpec)) keysNoncesUptoCard

/-- THE SECOND FORM's CARD OF 'casketlaw11.KeysParts'. -/
def keysPartsUptoCard : Claim7 := { stood := { row := keysPartsUptoRow, standIns := [], harness := (true, "c864a27321cbe2b18bdd177116bf4a48097a517eebcbffceffb6c1881ff356dc"), looks := false }, kinds := [], alts := [], laidByText := true, laidKinds := [.data], laidTests := true, laidLooks := .later }
def KeysPartsUptoCardSaid : Prop := Claim7.holds Tryd.pinned (.plain (OpenSpec.upto keysPartsSpec)) keysPartsUptoCard

/-- THE SECOND FORM's CARD OF 'casketlaw02.Sha2Lengths'. -/
def sha2LengthsUptoCard : Claim7 := { stood := { row := sha2LengthsUptoRow, standIns := [], harness := (true, "c864a27321cbe2b18bdd177116bf4a48097a517eebcbffceffb6c1881ff356dc"), looks := false }, kinds := [], alts := [], laidByText := true, laidKinds := [.data], laidTests := true, laidLooks := .later }
def Sha2LengthsUptoCardSaid : Prop := Claim7.holds Tryd.pinned (.plain (OpenSpec.upto sha2LengthsSpec)) sha2LengthsUptoCard

/-- THE SECOND FORM's CARD OF 'casketlaw03.HmacSums'. -/
def hmacSumsUptoCard : Claim7 := { stood := { row := hmacSumsUptoRow, standIns := [], harness := (true, "c864a27321cbe2b18bdd177116bf4a48097a517eebcbffceffb6c1881ff356dc"), looks := false }, kinds := [], alts := [], laidByText := true, laidKinds := [.data], laidTests := true, laidLooks := .later }
def HmacSumsUptoCardSaid : Prop := Claim7.holds Tryd.pinned (.plain (OpenSpec.upto hmacSumsSpec)) hmacSumsUptoCard

/-- THE SECOND FORM's CARD OF 'casketlaw03.HmacKeys'. -/
def hmacKeysUptoCard : Claim7 := { stood := { row := hmacKeysUptoRow, standIns := [], harness := (true, "c864a27321cbe2b18bdd177116bf4a48097a517eebcbffceffb6c1881ff356dc"), looks := false }, kinds := [], alts := [], laidByText := true, laidKinds := [.data], laidTests := true, laidLooks := .later }
def HmacKeysUptoCardSaid : Prop := Claim7.holds Tryd.pinned (.plain (OpenSpec.upto hmacKeysSpec)) hmacKeysUptoCard

/-- THE SECOND FORM's CARD OF 'casketlaw03.HmacParts'. -/
def hmacPartsUptoCard : Claim7 := { stood := { row := hmacPartsUptoRow, standIns := [], harness := (true, "c864a27321cbe2b18bdd177116bf4a48097a517eebcbffceffb6c1881ff356dc"), looks := false }, kinds := [], alts := [], laidByText := true, laidKinds := [.data], laidTests := true, laidLooks := .later }
def HmacPartsUptoCardSaid : Prop := Claim7.holds Tryd.pinned (.plain (OpenSpec.upto hmacPartsSpec)) hmacPartsUptoCard

/-- THE SECOND FORM's CARD OF 'casketlaw04.HkdfTells'. -/
def hkdfTellsUptoCard : Claim7 := { stood := { row := hkdfTellsUptoRow, standIns := [], harness := (true, "c864a27321cbe2b18bdd177116bf4a48097a517eebcbffceffb6c1881ff356dc"), looks := false }, kinds := [], alts := [], laidByText := true, laidKinds := [.data], laidTests := true, laidLooks := .later }
def HkdfTellsUptoCardSaid : Prop := Claim7.holds Tryd.pinned (.plain (OpenSpec.upto hkdfTellsSpec)) hkdfTellsUptoCard

/-- THE SECOND FORM's CARD OF 'casketlaw04.HkdfBegins'. -/
def hkdfBeginsUptoCard : Claim7 := { stood := { row := hkdfBeginsUptoRow, standIns := [], harness := (true, "c864a27321cbe2b18bdd177116bf4a48097a517eebcbffceffb6c1881ff356dc"), looks := false }, kinds := [], alts := [], laidByText := true, laidKinds := [.data], laidTests := true, laidLooks := .later }
def HkdfBeginsUptoCardSaid : Prop := Claim7.holds Tryd.pinned (.plain (OpenSpec.upto hkdfBeginsSpec)) hkdfBeginsUptoCard

/-- THE SECOND FORM's CARD OF 'casketlaw04.HkdfChains'. -/
def hkdfChainsUptoCard : Claim7 := { stood := { row := hkdfChainsUptoRow, standIns := [], harness := (true, "c864a27321cbe2b18bdd177116bf4a48097a517eebcbffceffb6c1881ff356dc"), looks := false }, kinds := [], alts := [], laidByText := true, laidKinds := [.data], laidTests := true, laidLooks := .later }
def HkdfChainsUptoCardSaid : Prop := Claim7.holds Tryd.pinned (.plain (OpenSpec.upto hkdfChainsSpec)) hkdfChainsUptoCard

/-- THE SECOND FORM's CARD OF 'casketlaw11.KeysBlind'. -/
def keysBlindUptoCard : Claim7 := { stood := { row := keysBlindUptoRow, standIns := [], harness := (true, "c864a27321cbe2b18bdd177116bf4a48097a517eebcbffceffb6c1881ff356dc"), looks := false }, kinds := [], alts := [], laidByText := true, laidKinds := [.data], laidTests := true, laidLooks := .later }
def KeysBlindUptoCardSaid : Prop := Claim7.holds Tryd.pinned (.plain (OpenSpec.upto keysBlindSpec)) keysBlindUptoCard

/-- THE SECOND FORM's CARD OF 'casketlaw11.KeysSeal'. -/
def keysSealUptoCard : Claim7 := { stood := { row := keysSealUptoRow, standIns := [], harness := (true, "c864a27321cbe2b18bdd177116bf4a48097a517eebcbffceffb6c1881ff356dc"), looks := false }, kinds := [], alts := [], laidByText := true, laidKinds := [.data], laidTests := true, laidLooks := .later }
def KeysSealUptoCardSaid : Prop := Claim7.holds Tryd.pinned (.plain (OpenSpec.upto keysSealSpec)) keysSealUptoCard
end Rows
end Go.Proofs.YtjfidfcfhdkciabDoor
