/-
  The document's bytes: of a number, of a byte, of bytes with their count.
-/
import Derived.Test.YtnlipmcnpekifaaGe
namespace Go.Proofs.Ytnlipmcnpekifaa
set_option maxRecDepth 100000
open Go.ChangeShapes Go.WideShapes Go.ChangeAt Go.RowKit
set_option linter.unusedVariables false
set_option linter.unusedSimpArgs false

set_option maxRecDepth 100000 in
set_option maxHeartbeats 1000000 in
theorem refone_any (w : World) (k : Nat) (hk : k < 256) : Calls Try.prog 54 #[.int .i64 (k : Int)] w fun e w' => e = .returned (.string (strOf [UInt8.ofNat k])) ∧ Below w.heap.size w w' := by
  have hw : IntKind.u8.wrap (k : Int) = (k : Int) := by simp [IntKind.wrap, IntKind.signed, IntKind.bits]; omega
  have hm : (k : Int) % 256 = (k : Int) := by omega
  have hcv := conv_one k w
  rw [show k % 256 = k by omega, hm] at hcv
  have HB := hidg_ ((Below.refl w.heap.size w).alloc (Nat.le_refl _) (.cells #[.int .u8 (k : Int)] 5))
  go_enter Try.func54, Try.ntmps54
  go_wp2
  go_ret
  exact ⟨rfl, HB.out⟩
/-- A number's bytes; of none: nothing. -/
def numL (z : Int) : List UInt8 := if z < 0 then [] else highB 8 z.toNat
def smallL (z : Int) : List UInt8 := if 0 ≤ z ∧ z < 256 then [UInt8.ofNat z.toNat] else []
set_option maxRecDepth 100000 in
set_option maxHeartbeats 1000000 in
theorem refNum_any (w : World) (z : Int) (w1 : z ≤ 9223372036854775807) : Calls Try.prog 28 #[.int .i64 z] w fun e w' => e = .returned (.string (strOf (numL z))) ∧ Below w.heap.size w w' := by
  by_cases hz : z < 0
  · have e : numL z = [] := if_pos hz
    rw [e]
    have hd : decide (z < 0) = true := decide_eq_true hz
    go_enter Try.func28, Try.ntmps28
    go_wp2
    go_ret
    exact ⟨rfl, Below.refl _ _⟩
  · obtain ⟨k, rfl⟩ : ∃ k : Nat, z = (k : Int) := ⟨z.toNat, by omega⟩
    have e : numL (k : Int) = putB true 8 k := if_neg hz
    rw [e]
    have c1 := refPut_any k 8 8 true (by omega) (by omega) (by omega) (.inr (.inl ⟨by omega, by omega, rfl⟩)) w
    generalize putB true 8 k = s at *
    have hd : decide ((k : Int) < 0) = false := decide_eq_false hz
    have hw : IntKind.u64.wrap (k : Int) = (k : Int) := IntWalk.u64_in _ (by omega)
    go_enter Try.func28, Try.ntmps28
    go_wp2_with (go_at_call 55; ((with_reducible refine c1.mono ?_); rintro e w' ⟨rfl, hB⟩))
    go_ret
    exact ⟨rfl, hB⟩
set_option maxRecDepth 100000 in
set_option maxHeartbeats 1000000 in
theorem refSmall_any (w : World) (z : Int) (w1 : z ≤ 9223372036854775807) : Calls Try.prog 27 #[.int .i64 z] w fun e w' => e = .returned (.string (strOf (smallL z))) ∧ Below w.heap.size w w' := by
  by_cases hz : z < 0
  · have e : smallL z = [] := if_neg (by omega)
    rw [e]
    have hd : decide (z < 0) = true := decide_eq_true hz
    go_enter Try.func27, Try.ntmps27
    go_wp2
    go_ret
    exact ⟨rfl, Below.refl _ _⟩
  · obtain ⟨k, rfl⟩ : ∃ k : Nat, z = (k : Int) := ⟨z.toNat, by omega⟩
    have hd : decide ((k : Int) < 0) = false := decide_eq_false hz
    by_cases hk : 255 < k
    · have e : smallL (k : Int) = [] := if_neg (by omega)
      rw [e]
      have hd2 : decide (255 < (k : Int)) = true := decide_eq_true (by omega)
      have hd3 : decide (255 < k) = true := decide_eq_true hk
      go_enter Try.func27, Try.ntmps27
      go_wp2
      go_ret
      exact ⟨rfl, Below.refl _ _⟩
    · have e : smallL (k : Int) = [UInt8.ofNat k] := if_pos (by omega)
      rw [e]
      have hd2 : decide (255 < (k : Int)) = false := decide_eq_false (by omega)
      have hd3 : decide (255 < k) = false := decide_eq_false hk
      have c1 := refone_any w k (by omega)
      go_enter Try.func27, Try.ntmps27
      go_wp2_with (go_at_call 54; ((with_reducible refine c1.mono ?_); rintro e w' ⟨rfl, hB⟩))
      go_ret
      exact ⟨rfl, hB⟩
set_option maxRecDepth 100000 in
set_option maxHeartbeats 1000000 in
theorem refBytes_any (w : World) (l : List UInt8) (n : Nat) (hn : l.length = n) (hm : n ≤ 140737488355328) : Calls Try.prog 56 #[.string (strOf l)] w fun e w' => e = .returned (.string (strOf (highB 4 n ++ l))) ∧ Below w.heap.size w w' := by
  have c1 := refPut_any n 4 4 true (by omega) (by omega) (by omega) (.inr (.inl ⟨by omega, by omega, rfl⟩)) w
  have hw : IntKind.u64.wrap (n : Int) = (n : Int) := IntWalk.u64_in _ (by omega)
  have hsz : (strOf l).size = n := by rw [strOf_size, hn]
  have hap := strOf_append (highB 4 n) l
  have hs1 : (strOf (highB 4 n)).size = 4 := by rw [strOf_size, highB_len]
  rw [show putB true 4 n = highB 4 n from rfl] at c1
  generalize highB 4 n = s at *
  go_enter Try.func56, Try.ntmps56
  go_wp2_with (go_at_call 55; ((with_reducible refine c1.mono ?_); rintro e w' ⟨rfl, hB⟩))
  go_ret
  exact ⟨rfl, hB⟩
end Go.Proofs.Ytnlipmcnpekifaa
