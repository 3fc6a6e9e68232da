import Derived.Test.YtpcbmnmgefhaaaaGreatDoorOa
import Derived.Test.YtpcbmnmgefhaaaaGreatDoorKK
import Derived.ChangeSame
import Derived.Test.YtpcbmnmgefhaaaaGreatDoorK7K
import Derived.Test.YtpcbmnmgefhaaaaGreatDoorQQ
import Derived.Test.YtpcbmnmgefhaaaaGreatDoorDn
namespace Go.Proofs.YtpcbmnmgefhaaaaGreatDoor
set_option maxRecDepth 100000
open Go.ChangeShapes Go.WideShapes Go.ChangeAt Go.RowKit
set_option linter.unusedVariables false
section
variable {H : Type} {enc : TypeId × Value → H} {P : Program} {w : World} {base : Nat} {sp : Nat → Bool} {held : Bool}
end
end Go.Proofs.YtpcbmnmgefhaaaaGreatDoor
namespace Go.Proofs.YtpcbmnmgefhaaaaGreatDoor
set_option maxRecDepth 100000
open Go.RowKit
set_option linter.unusedVariables false
set_option linter.unusedSimpArgs false
def catS (key nonce:List UInt8) (c:Int):Nat→List UInt8
 | 0=>[]
 | k + 1=>catS key nonce c k ++ blockB key (ctrN c k) nonce
theorem catS_len (key nonce:List UInt8) (c:Int) (k:Nat):(catS key nonce c k).length=64 * k:=by
 induction k with
 | zero=>rfl
 | succ k ih=>rw [catS,List.length_append,ih,blockB_len];omega
theorem mixB_app:∀ (p b q:List UInt8),mixB b (p ++ q)=mixB b p ++ mixB (b.drop p.length) q
 | [],b,q=>by simp [mixB]
 | x :: p,[],q=>by simp [mixB]
 | x :: p,y :: b,q=>by
  have ih:=mixB_app p b q
  show (y ^^^ x) :: mixB b (p ++ q)=(y ^^^ x) :: (mixB b p ++ mixB (b.drop p.length) q)
  rw [ih]
theorem soFar_cat (key nonce:List UInt8) (c:Int) (b:List UInt8) (k:Nat):soFar key nonce c b k=mixB b (catS key nonce c k):=by
 induction k with
 | zero=>simp [soFar,catS,mixB]
 | succ k ih=>rw [soFar,catS,mixB_app,ih,catS_len]
theorem mixB_back:∀ (l m:List UInt8),mixB (mixB l m) m=l.take (min l.length m.length)
 | [],m=>by simp [mixB]
 | _ :: _,[]=>by simp [mixB]
 | a :: l,b :: m=>by
  have ih:=mixB_back l m
  have e:a ^^^ b ^^^ b=a:=by rw [UInt8.xor_assoc,UInt8.xor_self,UInt8.xor_zero]
  have hm:min (a :: l).length (b :: m).length=min l.length m.length + 1:=by simp only [List.length_cons];omega
  rw [hm,List.take_succ_cons,← ih]
  show (a ^^^ b ^^^ b) :: mixB (mixB l m) m=_
  rw [e]
theorem stream_twice (key nonce:List UInt8) (c:Int) (b:List UInt8):streamB key nonce c (streamB key nonce c b)=b:=by
 have hl:=streamB_len key nonce c b
 rw [streamB,hl,soFar_cat]
 have h2:streamB key nonce c b=mixB b (catS key nonce c ((b.length + 63) / 64)):=by rw [streamB,soFar_cat]
 rw [h2,mixB_back,catS_len]
 exact List.take_of_length_le (by omega)
end Go.Proofs.YtpcbmnmgefhaaaaGreatDoor
