/-
  The document's bytes: of a number, of a byte, of bytes with their count.
-/
import Derived.Test.YteijlgifcmlkoabDoorGe
namespace Go.Proofs.YteijlgifcmlkoabDoor
open Go.ChangeShapes Go.WideShapes Go.ChangeAt Go.RowKit
set_option linter.unusedVariables false
set_option linter.unusedSimpArgs false

/-- A number's bytes; of none: nothing. -/
def numL (z : Int) : List UInt8 := if z < 0 then [] else highB 8 z.toNat
def smallL (z : Int) : List UInt8 := if 0 ≤ z ∧ z < 256 then [UInt8.ofNat z.toNat] else []
set_option maxRecDepth 100000 in
set_option maxHeartbeats 1000000 in
theorem refBytes_any (w : World) (l : List UInt8) (n : Nat) (hn : l.length = n) (hm : n ≤ 140737488355328) : Calls Tryd.prog 20 #[.string (strOf l)] w fun e w' => e = .returned (.string (strOf (highB 4 n ++ l))) ∧ Below w.heap.size w w' := by
  have c1 := refPut_any n 4 4 true (by omega) (by omega) (by omega) (.inr (.inl ⟨by omega, by omega, rfl⟩)) w
  have hw : IntKind.u64.wrap (n : Int) = (n : Int) := IntWalk.u64_in _ (by omega)
  have hsz : (strOf l).size = n := by rw [strOf_size, hn]
  have hap := strOf_append (highB 4 n) l
  have hs1 : (strOf (highB 4 n)).size = 4 := by rw [strOf_size, highB_len]
  rw [show putB true 4 n = highB 4 n from rfl] at c1
  generalize highB 4 n = s at *
  go_enter Tryd.func20, Tryd.ntmps20
  go_wp2_with (go_at_call 28; ((with_reducible refine c1.mono ?_); rintro e w' ⟨rfl, hB⟩))
  go_ret
  exact ⟨rfl, hB⟩
end Go.Proofs.YteijlgifcmlkoabDoor
