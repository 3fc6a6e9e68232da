import Derived.Test.YtpcbmnmgefhaaaaGreatDoorQc
import Derived.RegionTactic
namespace Go.Proofs.YtpcbmnmgefhaaaaGreatDoor
set_option maxRecDepth 100000
section
variable {P : Program} {ops : Array Oper} {md : Region.Mode} {C : World → Prop}
theorem wpAny_rest (k f:Nat) {Q:Exit→Act→World→Prop} {listed:Array Bool} {a:Act} {w:World} (hf:decide (ops.size - k=f)=true) (hB:Region.seqB md ops f k listed=true)
  (h:wpList P ops Q (ops.toList.drop k) a w):wpAny P md ops Q f listed a w:=by
 have hl:(ops.toList.drop k).length=f:=by
  rw [List.length_drop,Array.length_toList]
  exact of_decide_eq_true hf
 have:=wpAny_of_seq (md:=md) (Q':=Q) (ops.toList.drop k) k listed a w (fun j=>by simp [List.getElem?_drop]) (by rw [hl];exact hB) h
 rwa [hl] at this
end
end Go.Proofs.YtpcbmnmgefhaaaaGreatDoor
