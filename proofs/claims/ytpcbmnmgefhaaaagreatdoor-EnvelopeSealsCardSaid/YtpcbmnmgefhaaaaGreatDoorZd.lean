import Derived.Test.YtpcbmnmgefhaaaaGreatDoorZc
namespace Go.Proofs.YtpcbmnmgefhaaaaGreatDoor
set_option maxRecDepth 100000
open Go.ChangeShapes Go.WideShapes Go.ChangeAt Go.RowKit
set_option linter.unusedVariables false
set_option linter.unusedSimpArgs false
section
variable {w : World} {g : Nat} {id : Bool} {K : List UInt8} {N : List (List UInt8)} {L : List SealV} {G : List Nat}
end
end Go.Proofs.YtpcbmnmgefhaaaaGreatDoor
