import Derived.Test.YtpcbmnmgefhaaaaGreatDoorLp
namespace Go.Proofs.YtpcbmnmgefhaaaaGreatDoor
set_option maxRecDepth 100000
open Go.ChangeShapes Go.WideShapes Go.ChangeAt Go.RowKit
set_option linter.unusedVariables false
end Go.Proofs.YtpcbmnmgefhaaaaGreatDoor
