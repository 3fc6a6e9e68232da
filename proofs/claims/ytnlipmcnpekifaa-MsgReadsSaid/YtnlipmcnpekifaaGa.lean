/-
  codec: what is asked of no In, and of no Out.
-/
import Derived.Test.YtnlipmcnpekifaaG9
namespace Go.Proofs.Ytnlipmcnpekifaa
set_option maxRecDepth 100000
open Go.RowKit
set_option linter.unusedVariables false
set_option linter.unusedSimpArgs false

set_option maxRecDepth 100000 in
set_option maxHeartbeats 1000000 in
theorem has_nil (w : World) (n : Int) : Calls Try.prog 68 #[.pointer none, .int .i64 n] w fun e w' => e = .returned (.bool false) ∧ w = w' := by
  go_enter Try.func68, Try.ntmps68
  go_wp2
  go_ret
  exact ⟨rfl, rfl⟩
set_option maxRecDepth 100000 in
set_option maxHeartbeats 1000000 in
theorem number_nil (w : World) (n m : Int) : Calls Try.prog 58 #[.pointer none, .int .i64 n, .int .i64 m] w fun e w' => e = .returned (.int .i64 0) ∧ w = w' := by
  have c1 := has_nil w n
  go_enter Try.func58, Try.ntmps58
  go_wp2_with (go_at_call 68; ((with_reducible refine c1.mono ?_); rintro e w' ⟨rfl, rfl⟩))
  go_ret
  exact ⟨rfl, rfl⟩
set_option maxRecDepth 100000 in
set_option maxHeartbeats 1000000 in
theorem innum_nil (w : World) (m : Int) : Calls Try.prog 33 #[.pointer none, .int .i64 m] w fun e w' => e = .returned (.int .i64 0) ∧ w = w' := by
  have c1 := number_nil w 8 m
  go_enter Try.func33, Try.ntmps33
  go_wp2_with (go_at_call 58; ((with_reducible refine c1.mono ?_); rintro e w' ⟨rfl, rfl⟩))
  go_ret
  exact ⟨rfl, rfl⟩
set_option maxRecDepth 100000 in
set_option maxHeartbeats 1000000 in
theorem insmall_nil (w : World) (m : Int) : Calls Try.prog 32 #[.pointer none, .int .i64 m] w fun e w' => e = .returned (.int .i64 0) ∧ w = w' := by
  have c1 := number_nil w 1 m
  go_enter Try.func32, Try.ntmps32
  go_wp2_with (go_at_call 58; ((with_reducible refine c1.mono ?_); rintro e w' ⟨rfl, rfl⟩))
  go_ret
  exact ⟨rfl, rfl⟩
set_option maxRecDepth 100000 in
set_option maxHeartbeats 1000000 in
theorem infixed_nil (w : World) (n : Int) : Calls Try.prog 60 #[.pointer none, .int .i64 n] w fun e w' => e = .returned (.slice none 0 0) ∧ w = w' := by
  have c1 := has_nil w n
  go_enter Try.func60, Try.ntmps60
  go_wp2_with (go_at_call 68; ((with_reducible refine c1.mono ?_); rintro e w' ⟨rfl, rfl⟩))
  go_ret
  exact ⟨rfl, rfl⟩
set_option maxRecDepth 100000 in
set_option maxHeartbeats 1000000 in
theorem inbytes_nil (w : World) (m : Int) : Calls Try.prog 59 #[.pointer none, .int .i64 m] w fun e w' => e = .returned (.slice none 0 0) ∧ w = w' := by
  have c1 := number_nil w 4 m
  have c2 := infixed_nil w 0
  go_enter Try.func59, Try.ntmps59
  go_wp2_with (first
    | (go_at_call 58; ((with_reducible refine c1.mono ?_); rintro e w' ⟨rfl, rfl⟩))
    | (go_at_call 60; ((with_reducible refine c2.mono ?_); rintro e w' ⟨rfl, rfl⟩)))
  go_ret
  exact ⟨rfl, rfl⟩
set_option maxRecDepth 100000 in
set_option maxHeartbeats 1000000 in
theorem end_nil (w : World) : Calls Try.prog 40 #[.pointer none] w fun e w' => e = .returned (.int .i64 1) ∧ w = w' := by
  go_enter Try.func40, Try.ntmps40
  go_wp2
  go_ret
  exact ⟨rfl, rfl⟩
set_option maxRecDepth 100000 in
set_option maxHeartbeats 1000000 in
theorem put_nil (w : World) (v : Value) : Calls Try.prog 65 #[.pointer none, v] w fun e w' => e = .returned (.pointer none) ∧ w = w' := by
  go_enter Try.func65, Try.ntmps65
  go_wp2
  go_ret
  exact ⟨rfl, rfl⟩
set_option maxRecDepth 100000 in
set_option maxHeartbeats 1000000 in
theorem fixed_nil (w : World) (v : Value) : Calls Try.prog 51 #[.pointer none, v] w fun e w' => e = .returned (.pointer none) ∧ w = w' := by
  have c1 := put_nil w v
  go_enter Try.func51, Try.ntmps51
  go_wp2_with (go_at_call 65; ((with_reducible refine c1.mono ?_); rintro e w' ⟨rfl, rfl⟩))
  go_ret
  exact ⟨rfl, rfl⟩
set_option maxRecDepth 100000 in
set_option maxHeartbeats 1000000 in
theorem num_nil (w : World) : Calls Try.prog 50 #[.pointer none, .int .i64 1] w fun e w' => e = .returned (.pointer none) ∧ Below w.heap.size w w' := by
  have c1 : Calls Try.prog 66 #[.int .u64 1, .int .i64 8] w fun e w' => e = .returned (.slice (some ⟨w.heap.size, 0, none⟩) 8 8) ∧ Blk8 w' w.heap.size (highB 8 1) ∧ Below w.heap.size w w' := putHigh_any 1 8 8 (by omega) (by omega) (by omega) (.inr (.inl ⟨by omega, by omega, rfl⟩)) w
  go_enter Try.func50, Try.ntmps50
  go_wp2_with (first
    | (go_at_call 66; refine c1.mono ?_; rintro e w1 ⟨rfl, hb, hB⟩; have HB := hidg_ hB; clear hb hB)
    | (go_at_call 65; have cp := put_nil w1 (.slice (some ⟨w.heap.size, 0, none⟩) 8 8); ((with_reducible refine cp.mono ?_); clear cp; rintro e w' ⟨rfl, rfl⟩)))
  go_ret
  exact ⟨rfl, HB.out⟩
set_option maxRecDepth 100000 in
set_option maxHeartbeats 1000000 in
theorem done_nil (w : World) : Calls Try.prog 53 #[.pointer none] w fun e w' => e = .returned (.tuple #[.slice none 0 0, .int .i64 1]) ∧ w = w' := by
  go_enter Try.func53, Try.ntmps53
  go_wp2
  go_ret2
  exact ⟨rfl, rfl⟩
end Go.Proofs.Ytnlipmcnpekifaa
