/-
  What NetFull and NetOrders ask: the rest of a number; messages of one byte.
-/
import Derived.Test.YtdkemjipbkanoaaVf
import Derived.IntWalk
namespace Go.Proofs.Ytdkemjipbkanoaa
open Go.RowKit
set_option linter.unusedVariables false
set_option linter.unusedSimpArgs false

theorem u64_natV (z : Int) : ∃ x : Nat, IntKind.u64.wrap z = (x : Int) ∧ x ≤ 18446744073709551615 := by
  have h : IntKind.u64.wrap z = z % 18446744073709551616 := by simp [IntKind.wrap, IntKind.signed, IntKind.bits]
  have h0 : 0 ≤ z % 18446744073709551616 := Int.emod_nonneg _ (by omega)
  have h1 : z % 18446744073709551616 < 18446744073709551616 := Int.emod_lt_of_pos _ (by omega)
  exact ⟨(z % 18446744073709551616).toNat, by rw [h]; omega, by omega⟩
/-- The first messages of NetFull. -/
def one8 (i : Nat) : List UInt8 := [UInt8.ofNat (i % 256)]
def fullL (i : Nat) : List (List UInt8) := (List.range (min i 64)).map one8
theorem fullL_len (i : Nat) : (fullL i).length = min i 64 := by simp [fullL]
theorem fullL_get (i k : Nat) (h : k < min i 64) : (fullL i).getD k [] = one8 k := by simp [fullL, List.getD, h]
theorem fullL_add (i : Nat) : addL [[], [], fullL i, []] 1 (one8 i) = [[], [], fullL (i + 1), []] := by
  unfold addL
  have e : ([[], [], fullL i, []] : List (List (List UInt8))).getD (1 * 2) [] = fullL i := rfl
  rw [e, fullL_len]
  split
  · have : min (i + 1) 64 = min i 64 := by omega
    simp [fullL, this]
  · have h1 : min i 64 = i := by omega
    have h2 : min (i + 1) 64 = i + 1 := by omega
    simp [fullL, h1, h2, List.range_succ]
theorem fullL_err (i : Nat) : addE [[], [], fullL i, []] 1 = if 64 ≤ i then 10 else 0 := by
  unfold addE
  have e : ([[], [], fullL i, []] : List (List (List UInt8))).getD (1 * 2) [] = fullL i := rfl
  rw [e, fullL_len]
  split <;> split <;> first | rfl | omega
end Go.Proofs.Ytdkemjipbkanoaa
