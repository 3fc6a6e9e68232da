import Derived.Test.YtpcbmnmgefhaaaaGreatDoorUn
import Derived.Test.YtpcbmnmgefhaaaaGreatDoorFj
namespace Go.Proofs.YtpcbmnmgefhaaaaGreatDoor
set_option maxRecDepth 100000
open Go.RowKit
set_option linter.unusedVariables false
set_option linter.unusedSimpArgs false
structure Foot (P:World→List Nat→Prop):Prop where
 lt:∀ {w F},P w F→∀ k∈F,k < w.heap.size
 keep:∀ {w w' F H},P w F→Untouched H w w'→(∀ k∈F,k∉H)→P w' F
def Leaves (P:World→List Nat→Prop) (w:World) (F:List Nat) (w':World):Prop:=∃ F',P w' F'∧Grew w F F'∧Untouched F w w'
section
variable {w0 w w' : World} {X Y : Nat → Prop} {P P' R R' : World → List Nat → Prop} {F G : List Nat}
theorem Leaves.below (hP:Foot P) (h:P w F) (hb:Below w.heap.size w w'):Leaves P w F w':=⟨F,hP.keep h (Untouched.of_below (F:=[]) hb) (fun _ _=>by simp),Grew.refl _ _,.of_below hb⟩
end
section
variable {w0 : World} {X : Nat → Prop} {P P' R R' : World → List Nat → Prop} {i1 i2 : Nat} {bx : World → Prop} {D : Nat → Bool} {W W' : World}
end
end Go.Proofs.YtpcbmnmgefhaaaaGreatDoor
