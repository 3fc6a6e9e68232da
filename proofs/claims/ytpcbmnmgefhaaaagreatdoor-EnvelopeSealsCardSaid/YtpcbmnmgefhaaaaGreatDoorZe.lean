import Derived.Test.YtpcbmnmgefhaaaaGreatDoorZd
import Derived.Test.YtpcbmnmgefhaaaaGreatDoorZj
namespace Go.Proofs.YtpcbmnmgefhaaaaGreatDoor
set_option maxRecDepth 100000
open Go.ChangeShapes Go.WideShapes Go.ChangeAt Go.RowKit
set_option linter.unusedVariables false
set_option linter.unusedSimpArgs false
section
variable {id : Bool} {w0 w : World} {X : Nat → Prop} {P R : World → List Nat → Prop} {v sp nm kn g : Nat} {K : List UInt8} {N : List (List UInt8)} {L : List SealV}
theorem rblind_x {G:List Nat} (h:RS id g K N L w G) (hK:K.length=32) (name:List UInt8) (hN:N.length≤100000):Calls Tryz.prog 30 #[.pointer (some ⟨g,0,none⟩),.string (strOf name)] w fun e w'=>e = .returned (.tuple #[.string (strOf (rV id K N name)),.int .i64 (bE name)])∧Leaves (RS id g K (bN id N name) L) w G w':=by
 by_cases hbad:nmBad name
 ·refine (rblind_no w g name hbad).mono ?_
  rintro e w' ⟨rfl,rfl⟩
  refine ⟨by unfold rV bE;rw [if_pos hbad,if_pos hbad],?_⟩
  unfold bN
  rw [if_pos hbad]
  exact Leaves.below (RS.foot id g K N L) h (Below.refl _ _)
 ·cases id
  ·refine (rblind_real h hK name hbad).mono ?_
   rintro e w' ⟨rfl,hB⟩
   refine ⟨by unfold rV bE bB;rw [if_neg hbad,if_neg hbad];rfl,?_⟩
   unfold bN
   rw [if_neg hbad]
   exact Leaves.below (RS.foot false g K N L) h hB
  ·refine (rblind_ideal h hK name hbad hN).mono ?_
   rintro e w' ⟨rfl,hl⟩
   refine ⟨by unfold rV bE bB;rw [if_neg hbad,if_neg hbad];rfl,?_⟩
   unfold bN
   rw [if_neg hbad]
   exact hl
end
end Go.Proofs.YtpcbmnmgefhaaaaGreatDoor
