/-
  Contract: the reference's Mix.
-/
import Derived.Test.YtmomnfhoeabdnaaDoorBx
import Derived.Test.YtmomnfhoeabdnaaDoorBr
import Derived.Test.YtmomnfhoeabdnaaDoorAp
import Derived.Deep.RegionLaw
namespace Go.Proofs.YtmomnfhoeabdnaaDoor
set_option maxRecDepth 100000
open Go.RowKit
set_option linter.unusedVariables false

theorem mixB_take (l m : List UInt8) (k : Nat) (h1 : k < l.length) (h2 : k < m.length) : (mixB l m).take (k + 1) = (mixB l m).take k ++ [l.getD k 0 ^^^ m.getD k 0] := by
  have hl : k < (mixB l m).length := by rw [mixB_len]; omega
  rw [List.take_succ_eq_append_getElem hl]
  have hg := mixB_get l m k h1 h2
  have hd : (mixB l m).getD k 0 = (mixB l m)[k]'hl := by simp [List.getD, List.getElem?_eq_getElem hl]
  rw [hd] at hg
  rw [hg]

/-- A row of one byte, just laid. -/
theorem rd_one (W : World) (V : Int) (z : UInt8) (h : V = ((z.toNat : Nat) : Int)) : Rd (W.alloc (.cells #[.int .u8 V] 5)) (W.heap.size + 1) (some ⟨W.heap.size, 0, none⟩) [z] := by
  subst h
  exact (Blk8.new W [z]).rd (Nat.lt_succ_self _)

end Go.Proofs.YtmomnfhoeabdnaaDoor
