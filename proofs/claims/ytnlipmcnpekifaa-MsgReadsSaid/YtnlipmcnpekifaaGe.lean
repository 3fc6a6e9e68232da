/-
  A part's kind and its text; the document's bytes of a number, of a byte, of bytes with their count.
-/
import Derived.Test.YtnlipmcnpekifaaGd
import Derived.Test.YtnlipmcnpekifaaBr
namespace Go.Proofs.Ytnlipmcnpekifaa
set_option maxRecDepth 100000
open Go.ChangeShapes Go.WideShapes Go.ChangeAt Go.RowKit
set_option linter.unusedVariables false
set_option linter.unusedSimpArgs false

/-- The kind: one of four. -/
def PartV.k (p : PartV) : Nat := (p.kind % 4).toNat
theorem PartV.k_lt (p : PartV) : p.k < 4 := by unfold PartV.k; omega
theorem u64_some (z : Int) : ∃ x : Nat, IntKind.u64.wrap z = (x : Int) ∧ x % 4 = (z % 4).toNat ∧ x ≤ 18446744073709551615 := by
  have h : IntKind.u64.wrap z = z % 18446744073709551616 := by simp [IntKind.wrap, IntKind.signed, IntKind.bits]
  rw [h]
  exact ⟨(z % 18446744073709551616).toNat, by omega, by omega, by omega⟩
end Go.Proofs.Ytnlipmcnpekifaa
