import Derived.Test.YtpcbmnmgefhaaaaGreatDoorEA
import Derived.Test.YtpcbmnmgefhaaaaGreatDoorKA
import Derived.Lib.SlBytesConst
namespace Go.Proofs.YtpcbmnmgefhaaaaGreatDoor
set_option maxRecDepth 100000
open Go.RowKit
set_option linter.unusedVariables false
set_option linter.unusedSimpArgs false
theorem seal_take (key nonce wi b:List UInt8) (n:Nat) (h:b.length=n):(sealB key nonce wi b).take n=streamB key nonce 1 b:=by
 subst h
 unfold sealB
 exact List.take_left' (streamB_len _ _ _ _)
theorem seal_drop (key nonce wi b:List UInt8) (n:Nat) (h:b.length=n):(sealB key nonce wi b).drop n=tagB key nonce wi (streamB key nonce 1 b):=by
 subst h
 unfold sealB
 exact List.drop_left' (streamB_len _ _ _ _)
theorem seal_opens (key nonce wi b:List UInt8) (n:Nat) (h:b.length=n):tagB key nonce wi ((sealB key nonce wi b).take n)=(sealB key nonce wi b).drop n:=by
 rw [seal_take _ _ _ _ n h,seal_drop _ _ _ _ n h]
theorem seal_back (key nonce wi b:List UInt8) (n:Nat) (h:b.length=n):streamB key nonce 1 ((sealB key nonce wi b).take n)=b:=by
 rw [seal_take _ _ _ _ n h,stream_twice]
end Go.Proofs.YtpcbmnmgefhaaaaGreatDoor
