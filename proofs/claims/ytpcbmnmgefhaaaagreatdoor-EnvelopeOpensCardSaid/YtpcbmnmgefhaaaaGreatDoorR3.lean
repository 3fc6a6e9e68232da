import Derived.Test.YtpcbmnmgefhaaaaGreatDoorRR
import Derived.Test.YtpcbmnmgefhaaaaGreatDoorQc
import Derived.Test.YtpcbmnmgefhaaaaGreatDoorLc
import Derived.Deep.Matrix
namespace Go.Proofs.YtpcbmnmgefhaaaaGreatDoor
set_option maxRecDepth 100000
open Go.ChangeShapes Go.WideShapes Go.ChangeAt Go.RowKit
set_option linter.unusedVariables false
theorem Parts.below {w w':World} {B C:Nat} {A:Option Addr} {ls:List (List UInt8)} (h:Parts w B A ls) (hb:Below C w w') (hB:B≤C):Parts w' B A ls:=fun h0=>by
 obtain ⟨b,off,e,hlt,hc⟩:=h h0
 refine ⟨b,off,e,hlt,fun j hj=>?_⟩
 obtain ⟨Aj,cj,h1,h2,h3⟩:=hc j hj
 exact ⟨Aj,cj,(hb.cell (p:=⟨b,off + j,none⟩) (by show b < C;omega)).trans h1,h2.below (hb.mono hB),h3⟩
theorem Parts.more {w:World} {B C:Nat} {A:Option Addr} {ls:List (List UInt8)} (h:Parts w B A ls) (hB:B≤C):Parts w C A ls:=fun h0=>by
 obtain ⟨b,off,e,hlt,hc⟩:=h h0
 refine ⟨b,off,e,by omega,fun j hj=>?_⟩
 obtain ⟨Aj,cj,h1,h2,h3⟩:=hc j hj
 exact ⟨Aj,cj,h1,h2.more hB,h3⟩
end Go.Proofs.YtpcbmnmgefhaaaaGreatDoor
