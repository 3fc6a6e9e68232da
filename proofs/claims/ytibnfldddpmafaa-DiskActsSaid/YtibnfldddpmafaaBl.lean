/-
  Contracts: bits.Left, the document's own Left, bits.Byte, bits.Word, bits.Int: they only compute.
-/
import Derived.Test.YtibnfldddpmafaaRows
import Derived.Test.YtibnfldddpmafaaBm
import Derived.WalkKit
import Derived.Outline
namespace Go.Proofs.Ytibnfldddpmafaa
open Go.RowKit

theorem tmod_u64 (n : Int) : ∃ k : Nat, (IntKind.u64.wrap n).tmod 32 = (k : Int) ∧ k ≤ 31 ∧ k = (n % 32).toNat := by
  refine ⟨(n % 32).toNat, ?_, by omega, rfl⟩
  have e : IntKind.u64.wrap n = n % 18446744073709551616 := by simp [IntKind.wrap, IntKind.bits, IntKind.signed]
  rw [e, Int.tmod_eq_emod_of_nonneg (by omega)]
  omega

theorem tmod_i64 (n : Int) : ∃ (t : Int) (k : Nat), n.tmod 32 = t ∧ k ≤ 31 ∧ k = (n % 32).toNat ∧ (0 ≤ t ∧ t = k ∨ t < 0 ∧ t = (k : Int) - 32) := by
  refine ⟨_, _, rfl, ?_, rfl, ?_⟩
  · omega
  · rcases Int.lt_or_le n 0 with h | h
    · have e : n.tmod 32 = -((-n) % 32) := by
        have h1 : (-(-n)).tmod 32 = -((-n).tmod 32) := Int.neg_tmod _ _
        rw [Int.neg_neg] at h1
        rw [h1, Int.tmod_eq_emod_of_nonneg (by omega)]
      rw [e]
      omega
    · rw [Int.tmod_eq_emod_of_nonneg h]
      omega

theorem rotn_succ_form (k : Nat) (x : Int) : rotn (k + 1) x = rotn k x * 2 % 4294967296 + rotn k x / 2147483648 := rfl

end Go.Proofs.Ytibnfldddpmafaa
