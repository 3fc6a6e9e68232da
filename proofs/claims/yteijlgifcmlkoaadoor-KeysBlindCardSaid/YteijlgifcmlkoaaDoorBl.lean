/-
  Contracts: bits.Left, the document's own Left, bits.Byte, bits.Word, bits.Int: they only compute.
-/
import Derived.Test.YteijlgifcmlkoaaDoorRows
import Derived.Test.YteijlgifcmlkoaaDoorBm
import Derived.WalkKit
import Derived.Outline
namespace Go.Proofs.YteijlgifcmlkoaaDoor
open Go.RowKit

theorem tmod_u64 (n : Int) : ∃ k : Nat, (IntKind.u64.wrap n).tmod 32 = (k : Int) ∧ k ≤ 31 ∧ k = (n % 32).toNat := by
  refine ⟨(n % 32).toNat, ?_, by omega, rfl⟩
  have e : IntKind.u64.wrap n = n % 18446744073709551616 := by simp [IntKind.wrap, IntKind.bits, IntKind.signed]
  rw [e, Int.tmod_eq_emod_of_nonneg (by omega)]
  omega

theorem left_any (x n : Int) (hx0 : 0 ≤ x) (hx1 : x ≤ 4294967295) (w : World) :
    Calls Tryd.prog 51 #[.int .u32 x, .int .i64 n] w fun e w' => e = .returned (.int .u32 (rotn (n % 32).toNat x)) ∧ w = w' := by
  obtain ⟨k, hk, hk1, he⟩ := tmod_u64 n
  rw [← he, ← left_math k hk1 hx0 hx1]
  clear he
  go_enter Tryd.func51, Tryd.ntmps51
  go_wp2
  go_ret
  exact ⟨rfl, rfl⟩

theorem tmod_i64 (n : Int) : ∃ (t : Int) (k : Nat), n.tmod 32 = t ∧ k ≤ 31 ∧ k = (n % 32).toNat ∧ (0 ≤ t ∧ t = k ∨ t < 0 ∧ t = (k : Int) - 32) := by
  refine ⟨_, _, rfl, ?_, rfl, ?_⟩
  · omega
  · rcases Int.lt_or_le n 0 with h | h
    · have e : n.tmod 32 = -((-n) % 32) := by
        have h1 : (-(-n)).tmod 32 = -((-n).tmod 32) := Int.neg_tmod _ _
        rw [Int.neg_neg] at h1
        rw [h1, Int.tmod_eq_emod_of_nonneg (by omega)]
      rw [e]
      omega
    · rw [Int.tmod_eq_emod_of_nonneg h]
      omega

theorem rotn_succ_form (k : Nat) (x : Int) : rotn (k + 1) x = rotn k x * 2 % 4294967296 + rotn k x / 2147483648 := rfl

/-- The document's own: bit by bit. -/
theorem refLeft_any (x n : Int) (hx0 : 0 ≤ x) (hx1 : x ≤ 4294967295) (w : World) :
    Calls Tryd.prog 41 #[.int .u32 x, .int .i64 n] w fun e w' => e = .returned (.int .u32 (rotn (n % 32).toNat x)) ∧ w = w' := by
  obtain ⟨t, k, ht, hk1, he, hcase⟩ := tmod_i64 n
  rw [← he]
  clear he
  rcases hcase with ⟨h0, hc⟩ | ⟨h0, hc⟩ <;> subst hc <;>
  · go_enter Tryd.func41, Tryd.ntmps41
    go_wp2
    go_loop [0, 6, 7] (fun y i _ => ∃ j : Nat, j ≤ k ∧ i = .int .i64 j ∧ y = .int .u32 (rotn j x)) (fun _ i _ => k - (intOf i).toNat)
    case atStart => exact ⟨0, Nat.zero_le _, rfl, rfl⟩
    case round =>
      obtain ⟨j, hj, rfl, rfl⟩ := hrel
      obtain ⟨hb0, hb1⟩ := rotn_bd j hx0 hx1
      have hs : Hid (rotn (j + 1) x = rotn j x * 2 % 4294967296 + rotn j x / 2147483648) := rotn_succ_form j x
      obtain ⟨y, hy⟩ : ∃ y, Hid (rotn j x = y) := ⟨_, rfl⟩
      rw [hy.out] at hs hb0 hb1 ⊢
      by_cases hlt : j < k
      · go_wp2
        go_round
        case rel => exact ⟨j + 1, by omega, by go_num, by rw [hs.out]⟩
        case measure => simp [intOf]; omega
      · obtain rfl : j = k := by omega
        go_wp2
        go_ret
        exact ⟨by rw [hy.out]; rfl, rfl⟩

end Go.Proofs.YteijlgifcmlkoaaDoor
