import Derived.Test.YtpcbmnmgefhaaaaGreatDoorGG
import Derived.Test.YtpcbmnmgefhaaaaGreatDoorLp
import Derived.Deep.Strs
import Derived.Deep.Slices
import Derived.Test.YtpcbmnmgefhaaaaGreatDoorBr
namespace Go.Proofs.YtpcbmnmgefhaaaaGreatDoor
set_option maxRecDepth 100000
open Go.RowKit
set_option linter.unusedVariables false
set_option linter.unusedSimpArgs false
def bytS (most:Int) (l:List UInt8) (err:Int):List UInt8 × List UInt8 × Int:=fixS (numS 4 most l err).1 (numS 4 most l err).2.1 (numS 4 most l err).2.2
end Go.Proofs.YtpcbmnmgefhaaaaGreatDoor
namespace Go.Proofs.YtpcbmnmgefhaaaaGreatDoor
set_option maxRecDepth 100000
open Go.RowKit
set_option linter.unusedVariables false
set_option linter.unusedSimpArgs false
end Go.Proofs.YtpcbmnmgefhaaaaGreatDoor
namespace Go.Proofs.YtpcbmnmgefhaaaaGreatDoor
set_option maxRecDepth 100000
open Go.ChangeShapes Go.WideShapes Go.ChangeAt Go.RowKit
set_option linter.unusedVariables false
set_option linter.unusedSimpArgs false
theorem numS_le (size:Nat) (most:Int) (l:List UInt8) (err:Int):(numS size most l err).2.1.length≤l.length:=by
 unfold numS
 split
 ·exact Nat.le_refl _
 ·split
  ·exact Nat.le_refl _
  ·split
   ·exact Nat.le_refl _
   ·simp
theorem fixS_le (n:Int) (l:List UInt8) (err:Int):(fixS n l err).2.1.length≤l.length:=by
 unfold fixS
 split
 ·exact Nat.le_refl _
 ·split
  ·exact Nat.le_refl _
  ·simp
theorem bytS_le (most:Int) (l:List UInt8) (err:Int):(bytS most l err).2.1.length≤l.length:=Nat.le_trans (fixS_le _ _ _) (numS_le _ _ _ _)
end Go.Proofs.YtpcbmnmgefhaaaaGreatDoor
namespace Go.Proofs.YtpcbmnmgefhaaaaGreatDoor
set_option maxRecDepth 100000
open Go.ChangeShapes Go.WideShapes Go.ChangeAt Go.RowKit
set_option linter.unusedVariables false
set_option linter.unusedSimpArgs false
end Go.Proofs.YtpcbmnmgefhaaaaGreatDoor
namespace Go.Proofs.YtpcbmnmgefhaaaaGreatDoor
set_option maxRecDepth 100000
open Go.ChangeShapes Go.WideShapes Go.ChangeAt Go.RowKit
set_option linter.unusedVariables false
set_option linter.unusedSimpArgs false
end Go.Proofs.YtpcbmnmgefhaaaaGreatDoor
namespace Go.Proofs.YtpcbmnmgefhaaaaGreatDoor
set_option maxRecDepth 100000
open Go.ChangeShapes Go.WideShapes Go.ChangeAt Go.RowKit
set_option linter.unusedVariables false
set_option linter.unusedSimpArgs false
def numL (z:Int):List UInt8:=if z < 0 then [] else highB 8 z.toNat
set_option maxHeartbeats 1000000 in
theorem refNum_any (w:World) (z:Int) (w1:z≤9223372036854775807):Calls Tryz.prog 68 #[.int .i64 z] w fun e w'=>e = .returned (.string (strOf (numL z)))∧Below w.heap.size w w':=by
 by_cases hz:z < 0
 ·have e:numL z = []:=if_pos hz
  rw [e]
  have hd:decide (z < 0)=true:=decide_eq_true hz
  go_enter Tryz.func68,Tryz.ntmps68
  go_wp2
  go_ret
  exact ⟨rfl,Below.refl _ _⟩
 ·obtain ⟨k,rfl⟩:∃ k:Nat,z=(k:Int):=⟨z.toNat,by omega⟩
  have e:numL (k:Int)=putB true 8 k:=if_neg hz
  rw [e]
  have c1:=refPut_any k 8 8 true (by omega) (by omega) (by omega) (.inr (.inl ⟨by omega,by omega,rfl⟩)) w
  generalize putB true 8 k=s at *
  have hd:decide ((k:Int) < 0)=false:=decide_eq_false hz
  have hw:IntKind.u64.wrap (k:Int)=(k:Int):=IntWalk.u64_in _ (by omega)
  go_enter Tryz.func68,Tryz.ntmps68
  go_wp2_with (go_at_call 77;((with_reducible refine c1.mono ?_);rintro e w' ⟨rfl,hB⟩))
  go_ret
  exact ⟨rfl,hB⟩
set_option maxHeartbeats 1000000 in
theorem refBytes_any (w:World) (l:List UInt8) (n:Nat) (hn:l.length=n) (hm:n≤140737488355328):Calls Tryz.prog 43 #[.string (strOf l)] w fun e w'=>e = .returned (.string (strOf (highB 4 n ++ l)))∧Below w.heap.size w w':=by
 have c1:=refPut_any n 4 4 true (by omega) (by omega) (by omega) (.inr (.inl ⟨by omega,by omega,rfl⟩)) w
 have hw:IntKind.u64.wrap (n:Int)=(n:Int):=IntWalk.u64_in _ (by omega)
 have hsz:(strOf l).size=n:=by rw [strOf_size,hn]
 have hap:=strOf_append (highB 4 n) l
 have hs1:(strOf (highB 4 n)).size=4:=by rw [strOf_size,highB_len]
 rw [show putB true 4 n=highB 4 n from rfl] at c1
 generalize highB 4 n=s at *
 go_enter Tryz.func43,Tryz.ntmps43
 go_wp2_with (go_at_call 77;((with_reducible refine c1.mono ?_);rintro e w' ⟨rfl,hB⟩))
 go_ret
 exact ⟨rfl,hB⟩
end Go.Proofs.YtpcbmnmgefhaaaaGreatDoor
