/-
  codec: what is asked of no In, and of no Out.
-/
import Derived.Test.YtopmngjaieobnaaG9
namespace Go.Proofs.Ytopmngjaieobnaa
open Go.RowKit
set_option linter.unusedVariables false
set_option linter.unusedSimpArgs false

set_option maxRecDepth 100000 in
set_option maxHeartbeats 1000000 in
theorem has_nil (w : World) (n : Int) : Calls Try.prog 65 #[.pointer none, .int .i64 n] w fun e w' => e = .returned (.bool false) ∧ w = w' := by
  go_enter Try.func65, Try.ntmps65
  go_wp2
  go_ret
  exact ⟨rfl, rfl⟩
set_option maxRecDepth 100000 in
set_option maxHeartbeats 1000000 in
theorem number_nil (w : World) (n m : Int) : Calls Try.prog 64 #[.pointer none, .int .i64 n, .int .i64 m] w fun e w' => e = .returned (.int .i64 0) ∧ w = w' := by
  have c1 := has_nil w n
  go_enter Try.func64, Try.ntmps64
  go_wp2_with (go_at_call 65; ((with_reducible refine c1.mono ?_); rintro e w' ⟨rfl, rfl⟩))
  go_ret
  exact ⟨rfl, rfl⟩
set_option maxRecDepth 100000 in
set_option maxHeartbeats 1000000 in
theorem innum_nil (w : World) (m : Int) : Calls Try.prog 29 #[.pointer none, .int .i64 m] w fun e w' => e = .returned (.int .i64 0) ∧ w = w' := by
  have c1 := number_nil w 8 m
  go_enter Try.func29, Try.ntmps29
  go_wp2_with (go_at_call 64; ((with_reducible refine c1.mono ?_); rintro e w' ⟨rfl, rfl⟩))
  go_ret
  exact ⟨rfl, rfl⟩
set_option maxRecDepth 100000 in
set_option maxHeartbeats 1000000 in
theorem insmall_nil (w : World) (m : Int) : Calls Try.prog 30 #[.pointer none, .int .i64 m] w fun e w' => e = .returned (.int .i64 0) ∧ w = w' := by
  have c1 := number_nil w 1 m
  go_enter Try.func30, Try.ntmps30
  go_wp2_with (go_at_call 64; ((with_reducible refine c1.mono ?_); rintro e w' ⟨rfl, rfl⟩))
  go_ret
  exact ⟨rfl, rfl⟩
set_option maxRecDepth 100000 in
set_option maxHeartbeats 1000000 in
theorem infixed_nil (w : World) (n : Int) : Calls Try.prog 31 #[.pointer none, .int .i64 n] w fun e w' => e = .returned (.slice none 0 0) ∧ w = w' := by
  have c1 := has_nil w n
  go_enter Try.func31, Try.ntmps31
  go_wp2_with (go_at_call 65; ((with_reducible refine c1.mono ?_); rintro e w' ⟨rfl, rfl⟩))
  go_ret
  exact ⟨rfl, rfl⟩
set_option maxRecDepth 100000 in
set_option maxHeartbeats 1000000 in
theorem inbytes_nil (w : World) (m : Int) : Calls Try.prog 32 #[.pointer none, .int .i64 m] w fun e w' => e = .returned (.slice none 0 0) ∧ w = w' := by
  have c1 := number_nil w 4 m
  have c2 := infixed_nil w 0
  go_enter Try.func32, Try.ntmps32
  go_wp2_with (first
    | (go_at_call 64; ((with_reducible refine c1.mono ?_); rintro e w' ⟨rfl, rfl⟩))
    | (go_at_call 31; ((with_reducible refine c2.mono ?_); rintro e w' ⟨rfl, rfl⟩)))
  go_ret
  exact ⟨rfl, rfl⟩
set_option maxRecDepth 100000 in
set_option maxHeartbeats 1000000 in
theorem end_nil (w : World) : Calls Try.prog 33 #[.pointer none] w fun e w' => e = .returned (.int .i64 1) ∧ w = w' := by
  go_enter Try.func33, Try.ntmps33
  go_wp2
  go_ret
  exact ⟨rfl, rfl⟩
set_option maxRecDepth 100000 in
set_option maxHeartbeats 1000000 in
theorem put_nil (w : World) (v : Value) : Calls Try.prog 58 #[.pointer none, v] w fun e w' => e = .returned (.pointer none) ∧ w = w' := by
  go_enter Try.func58, Try.ntmps58
  go_wp2
  go_ret
  exact ⟨rfl, rfl⟩
set_option maxRecDepth 100000 in
set_option maxHeartbeats 1000000 in
theorem fixed_nil (w : World) (v : Value) : Calls Try.prog 26 #[.pointer none, v] w fun e w' => e = .returned (.pointer none) ∧ w = w' := by
  have c1 := put_nil w v
  go_enter Try.func26, Try.ntmps26
  go_wp2_with (go_at_call 58; ((with_reducible refine c1.mono ?_); rintro e w' ⟨rfl, rfl⟩))
  go_ret
  exact ⟨rfl, rfl⟩
set_option maxRecDepth 100000 in
set_option maxHeartbeats 1000000 in
theorem num_nil (w : World) : Calls Try.prog 24 #[.pointer none, .int .i64 1] w fun e w' => e = .returned (.pointer none) ∧ Below w.heap.size w w' := by
  have c1 : Calls Try.prog 59 #[.int .u64 1, .int .i64 8] w fun e w' => e = .returned (.slice (some ⟨w.heap.size, 0, none⟩) 8 8) ∧ Blk8 w' w.heap.size (highB 8 1) ∧ Below w.heap.size w w' := putHigh_any 1 8 8 (by omega) (by omega) (by omega) (.inr (.inl ⟨by omega, by omega, rfl⟩)) w
  go_enter Try.func24, Try.ntmps24
  go_wp2_with (first
    | (go_at_call 59; refine c1.mono ?_; rintro e w1 ⟨rfl, hb, hB⟩; have HB := hidg_ hB; clear hb hB)
    | (go_at_call 58; have cp := put_nil w1 (.slice (some ⟨w.heap.size, 0, none⟩) 8 8); ((with_reducible refine cp.mono ?_); clear cp; rintro e w' ⟨rfl, rfl⟩)))
  go_ret
  exact ⟨rfl, HB.out⟩
set_option maxRecDepth 100000 in
set_option maxHeartbeats 1000000 in
theorem done_nil (w : World) : Calls Try.prog 22 #[.pointer none] w fun e w' => e = .returned (.tuple #[.slice none 0 0, .int .i64 1]) ∧ w = w' := by
  go_enter Try.func22, Try.ntmps22
  go_wp2
  go_ret2
  exact ⟨rfl, rfl⟩
end Go.Proofs.Ytopmngjaieobnaa
