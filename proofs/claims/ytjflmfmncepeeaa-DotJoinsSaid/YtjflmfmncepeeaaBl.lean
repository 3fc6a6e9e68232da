/-
  Contracts: bits.Left, the document's own Left, bits.Byte, bits.Word, bits.Int: they only compute.
-/
import Derived.Test.YtjflmfmncepeeaaRows
import Derived.Test.YtjflmfmncepeeaaBm
import Derived.WalkKit
import Derived.Outline
namespace Go.Proofs.Ytjflmfmncepeeaa
open Go.RowKit

theorem tmod_u64 (n : Int) : ∃ k : Nat, (IntKind.u64.wrap n).tmod 32 = (k : Int) ∧ k ≤ 31 ∧ k = (n % 32).toNat := by
  refine ⟨(n % 32).toNat, ?_, by omega, rfl⟩
  have e : IntKind.u64.wrap n = n % 18446744073709551616 := by simp [IntKind.wrap, IntKind.bits, IntKind.signed]
  rw [e, Int.tmod_eq_emod_of_nonneg (by omega)]
  omega

theorem tmod_i64 (n : Int) : ∃ (t : Int) (k : Nat), n.tmod 32 = t ∧ k ≤ 31 ∧ k = (n % 32).toNat ∧ (0 ≤ t ∧ t = k ∨ t < 0 ∧ t = (k : Int) - 32) := by
  refine ⟨_, _, rfl, ?_, rfl, ?_⟩
  · omega
  · rcases Int.lt_or_le n 0 with h | h
    · have e : n.tmod 32 = -((-n) % 32) := by
        have h1 : (-(-n)).tmod 32 = -((-n).tmod 32) := Int.neg_tmod _ _
        rw [Int.neg_neg] at h1
        rw [h1, Int.tmod_eq_emod_of_nonneg (by omega)]
      rw [e]
      omega
    · rw [Int.tmod_eq_emod_of_nonneg h]
      omega

theorem rotn_succ_form (k : Nat) (x : Int) : rotn (k + 1) x = rotn k x * 2 % 4294967296 + rotn k x / 2147483648 := rfl

theorem int_any (x : Int) (hx0 : 0 ≤ x) (hx1 : x ≤ 18446744073709551615) (w : World) :
    Calls Try.prog 73 #[.int .u64 x] w fun e w' => e = .returned (.tuple #[.int .i64 (if x ≤ 9223372036854775807 then x else 0), .bool (decide (x ≤ 9223372036854775807))]) ∧ w = w' := by
  by_cases h : x ≤ 9223372036854775807
  · rw [if_pos h, decide_eq_true h]
    go_enter Try.func73, Try.ntmps73
    go_wp2
    go_ret2
    exact ⟨rfl, rfl⟩
  · rw [if_neg h, decide_eq_false h]
    go_enter Try.func73, Try.ntmps73
    go_wp2
    go_ret2
    exact ⟨rfl, rfl⟩

theorem byte_any (n : Int) (w0 : -9223372036854775808 ≤ n) (w1 : n ≤ 9223372036854775807) (w : World) :
    Calls Try.prog 55 #[.int .i64 n] w fun e w' => e = .returned (.tuple #[.int .u8 (if 0 ≤ n ∧ n < 256 then n else 0), .bool (decide (0 ≤ n ∧ n < 256))]) ∧ w = w' := by
  rcases Int.lt_or_le n 0 with h | h
  · rw [if_neg (by omega), decide_eq_false (by omega)]
    go_enter Try.func55, Try.ntmps55
    go_wp2
    go_ret2
    exact ⟨rfl, rfl⟩
  · by_cases h2 : n ≤ 255
    · rw [if_pos (by omega), decide_eq_true (by omega)]
      go_enter Try.func55, Try.ntmps55
      go_wp2
      go_ret2
      exact ⟨rfl, rfl⟩
    · rw [if_neg (by omega), decide_eq_false (by omega)]
      go_enter Try.func55, Try.ntmps55
      go_wp2
      go_ret2
      exact ⟨rfl, rfl⟩
end Go.Proofs.Ytjflmfmncepeeaa
