import Derived.Test.YtpcbmnmgefhaaaaGreatDoorEA
import Derived.Test.YtpcbmnmgefhaaaaGreatDoorKA
import Derived.Lib.SlBytesConst
namespace Go.Proofs.YtpcbmnmgefhaaaaGreatDoor
set_option maxRecDepth 100000
open Go.RowKit
set_option linter.unusedVariables false
set_option linter.unusedSimpArgs false
end Go.Proofs.YtpcbmnmgefhaaaaGreatDoor
