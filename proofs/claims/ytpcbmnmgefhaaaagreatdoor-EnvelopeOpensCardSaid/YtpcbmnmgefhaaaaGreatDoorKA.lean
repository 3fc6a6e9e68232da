import Derived.Test.YtpcbmnmgefhaaaaGreatDoorOa
import Derived.Test.YtpcbmnmgefhaaaaGreatDoorKK
import Derived.ChangeSame
import Derived.Test.YtpcbmnmgefhaaaaGreatDoorK7K
import Derived.Test.YtpcbmnmgefhaaaaGreatDoorQQ
import Derived.Test.YtpcbmnmgefhaaaaGreatDoorDn
namespace Go.Proofs.YtpcbmnmgefhaaaaGreatDoor
set_option maxRecDepth 100000
open Go.ChangeShapes Go.WideShapes Go.ChangeAt Go.RowKit
set_option linter.unusedVariables false
section
variable {H : Type} {enc : TypeId × Value → H} {P : Program} {w : World} {base : Nat} {sp : Nat → Bool} {held : Bool}
end
open Go.RowKit
set_option linter.unusedSimpArgs false
end Go.Proofs.YtpcbmnmgefhaaaaGreatDoor
