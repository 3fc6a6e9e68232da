/-
  Proved: for every int and every uint64 BitsSizes answers true: bits.Byte, bits.Word and bits.Int tell whether a number is one of another size, and which. No condition.
-/
import Derived.Test.YtikbpgddlplegaaBp
import Derived.Test.YtikbpgddlplegaaLp
namespace Go.Proofs.Ytikbpgddlplegaa.bitsSizes
open Go.ChangeShapes Go.WideShapes Go.ChangeAt Go.RowKit
set_option linter.unusedVariables false

set_option maxRecDepth 100000 in
set_option maxHeartbeats 1000000 in
theorem walk_00 (a0 : Int) (a1 : Int) (h2 : -9223372036854775808 ≤ a0) (h3 : a0 ≤ 9223372036854775807) (h0 : 0 ≤ a1) (h1 : a1 ≤ 18446744073709551615) (h : a0 < 0) (k : a1 ≤ 9223372036854775807) (w : World) :
    Calls Try.prog 5 #[.int .i64 a0, .int .u64 a1] w fun e w' => e = .returned (.bool true) ∧ Below w.heap.size w w' := by
  have c1 := byte_any a0 h2 h3
  have c2 := word_any a0 h2 h3
  have c3 := int_any a1 h0 h1
  rw [if_neg (by omega), decide_eq_false (by omega)] at c1
  rw [if_neg (by omega), decide_eq_false (by omega)] at c2
  rw [if_pos (by omega), decide_eq_true (by omega)] at c3
  have d1 : decide (0 ≤ a0) = false := decide_eq_false (by omega)
  have d2 : decide (a0 < 256) = true := decide_eq_true (by omega)
  have d3 : decide (a0 < 4294967296) = true := decide_eq_true (by omega)
  have d4 : decide (a1 < 9223372036854775808) = true := decide_eq_true (by omega)
  have hu : undef = Value.tuple #[] := rfl
  go_enter Try.func5, Try.ntmps5
  go_wp2_with (first | (go_at_call 19; refine (c1 _).mono ?_; rintro e w' ⟨rfl, rfl⟩) | (go_at_call 20; refine (c2 _).mono ?_; rintro e w' ⟨rfl, rfl⟩) | (go_at_call 9; refine (turns_any _).mono ?_; rintro e w2 ⟨rfl, hg⟩) | (go_at_call 21; refine (c3 _).mono ?_; rintro e w' ⟨rfl, rfl⟩))
  go_ret
  first | exact ⟨rfl, by assumption⟩ | exact ⟨by simp [d1, d2, d3, d4], by assumption⟩
set_option maxRecDepth 100000 in
set_option maxHeartbeats 1000000 in
theorem walk_01 (a0 : Int) (a1 : Int) (h2 : -9223372036854775808 ≤ a0) (h3 : a0 ≤ 9223372036854775807) (h0 : 0 ≤ a1) (h1 : a1 ≤ 18446744073709551615) (h : a0 < 0) (k : 9223372036854775808 ≤ a1) (w : World) :
    Calls Try.prog 5 #[.int .i64 a0, .int .u64 a1] w fun e w' => e = .returned (.bool true) ∧ Below w.heap.size w w' := by
  have c1 := byte_any a0 h2 h3
  have c2 := word_any a0 h2 h3
  have c3 := int_any a1 h0 h1
  rw [if_neg (by omega), decide_eq_false (by omega)] at c1
  rw [if_neg (by omega), decide_eq_false (by omega)] at c2
  rw [if_neg (by omega), decide_eq_false (by omega)] at c3
  have d1 : decide (0 ≤ a0) = false := decide_eq_false (by omega)
  have d2 : decide (a0 < 256) = true := decide_eq_true (by omega)
  have d3 : decide (a0 < 4294967296) = true := decide_eq_true (by omega)
  have d4 : decide (a1 < 9223372036854775808) = false := decide_eq_false (by omega)
  have hu : undef = Value.tuple #[] := rfl
  go_enter Try.func5, Try.ntmps5
  go_wp2_with (first | (go_at_call 19; refine (c1 _).mono ?_; rintro e w' ⟨rfl, rfl⟩) | (go_at_call 20; refine (c2 _).mono ?_; rintro e w' ⟨rfl, rfl⟩) | (go_at_call 9; refine (turns_any _).mono ?_; rintro e w2 ⟨rfl, hg⟩) | (go_at_call 21; refine (c3 _).mono ?_; rintro e w' ⟨rfl, rfl⟩))
  go_ret
  first | exact ⟨rfl, by assumption⟩ | exact ⟨by simp [d1, d2, d3, d4], by assumption⟩
set_option maxRecDepth 100000 in
set_option maxHeartbeats 4000000 in
theorem walk_10 (a0 : Int) (a1 : Int) (h2 : -9223372036854775808 ≤ a0) (h3 : a0 ≤ 9223372036854775807) (h0 : 0 ≤ a1) (h1 : a1 ≤ 18446744073709551615) (h : 0 ≤ a0 ∧ a0 < 256) (k : a1 ≤ 9223372036854775807) (w : World) :
    Calls Try.prog 5 #[.int .i64 a0, .int .u64 a1] w fun e w' => e = .returned (.bool true) ∧ Below w.heap.size w w' := by
  have c1 := byte_any a0 h2 h3
  have c2 := word_any a0 h2 h3
  have c3 := int_any a1 h0 h1
  rw [if_pos (by omega), decide_eq_true (by omega)] at c1
  rw [if_pos (by omega), decide_eq_true (by omega)] at c2
  rw [if_pos (by omega), decide_eq_true (by omega)] at c3
  obtain ⟨h, h'⟩ := h
  have d1 : decide (0 ≤ a0) = true := decide_eq_true (by omega)
  have d2 : decide (a0 < 256) = true := decide_eq_true (by omega)
  have d3 : decide (a0 < 4294967296) = true := decide_eq_true (by omega)
  have d4 : decide (a1 < 9223372036854775808) = true := decide_eq_true (by omega)
  have hu : undef = Value.tuple #[] := rfl
  go_enter Try.func5, Try.ntmps5
  go_wp2_with (first | (go_at_call 19; refine (c1 _).mono ?_; rintro e w' ⟨rfl, rfl⟩) | (go_at_call 20; refine (c2 _).mono ?_; rintro e w' ⟨rfl, rfl⟩) | (go_at_call 9; refine (turns_any _).mono ?_; rintro e w2 ⟨rfl, hg⟩) | (go_at_call 21; refine (c3 _).mono ?_; rintro e w' ⟨rfl, rfl⟩))
  go_ret
  first | exact ⟨rfl, by assumption⟩ | exact ⟨by simp [d1, d2, d3, d4], by assumption⟩
set_option maxRecDepth 100000 in
set_option maxHeartbeats 4000000 in
theorem walk_11 (a0 : Int) (a1 : Int) (h2 : -9223372036854775808 ≤ a0) (h3 : a0 ≤ 9223372036854775807) (h0 : 0 ≤ a1) (h1 : a1 ≤ 18446744073709551615) (h : 0 ≤ a0 ∧ a0 < 256) (k : 9223372036854775808 ≤ a1) (w : World) :
    Calls Try.prog 5 #[.int .i64 a0, .int .u64 a1] w fun e w' => e = .returned (.bool true) ∧ Below w.heap.size w w' := by
  have c1 := byte_any a0 h2 h3
  have c2 := word_any a0 h2 h3
  have c3 := int_any a1 h0 h1
  rw [if_pos (by omega), decide_eq_true (by omega)] at c1
  rw [if_pos (by omega), decide_eq_true (by omega)] at c2
  rw [if_neg (by omega), decide_eq_false (by omega)] at c3
  obtain ⟨h, h'⟩ := h
  have d1 : decide (0 ≤ a0) = true := decide_eq_true (by omega)
  have d2 : decide (a0 < 256) = true := decide_eq_true (by omega)
  have d3 : decide (a0 < 4294967296) = true := decide_eq_true (by omega)
  have d4 : decide (a1 < 9223372036854775808) = false := decide_eq_false (by omega)
  have hu : undef = Value.tuple #[] := rfl
  go_enter Try.func5, Try.ntmps5
  go_wp2_with (first | (go_at_call 19; refine (c1 _).mono ?_; rintro e w' ⟨rfl, rfl⟩) | (go_at_call 20; refine (c2 _).mono ?_; rintro e w' ⟨rfl, rfl⟩) | (go_at_call 9; refine (turns_any _).mono ?_; rintro e w2 ⟨rfl, hg⟩) | (go_at_call 21; refine (c3 _).mono ?_; rintro e w' ⟨rfl, rfl⟩))
  go_ret
  first | exact ⟨rfl, by assumption⟩ | exact ⟨by simp [d1, d2, d3, d4], by assumption⟩
set_option maxRecDepth 100000 in
set_option maxHeartbeats 1000000 in
theorem walk_20 (a0 : Int) (a1 : Int) (h2 : -9223372036854775808 ≤ a0) (h3 : a0 ≤ 9223372036854775807) (h0 : 0 ≤ a1) (h1 : a1 ≤ 18446744073709551615) (h : 256 ≤ a0 ∧ a0 < 4294967296) (k : a1 ≤ 9223372036854775807) (w : World) :
    Calls Try.prog 5 #[.int .i64 a0, .int .u64 a1] w fun e w' => e = .returned (.bool true) ∧ Below w.heap.size w w' := by
  have c1 := byte_any a0 h2 h3
  have c2 := word_any a0 h2 h3
  have c3 := int_any a1 h0 h1
  rw [if_neg (by omega), decide_eq_false (by omega)] at c1
  rw [if_pos (by omega), decide_eq_true (by omega)] at c2
  rw [if_pos (by omega), decide_eq_true (by omega)] at c3
  obtain ⟨h, h'⟩ := h
  have d1 : decide (0 ≤ a0) = true := decide_eq_true (by omega)
  have d2 : decide (a0 < 256) = false := decide_eq_false (by omega)
  have d3 : decide (a0 < 4294967296) = true := decide_eq_true (by omega)
  have d4 : decide (a1 < 9223372036854775808) = true := decide_eq_true (by omega)
  have hu : undef = Value.tuple #[] := rfl
  go_enter Try.func5, Try.ntmps5
  go_wp2_with (first | (go_at_call 19; refine (c1 _).mono ?_; rintro e w' ⟨rfl, rfl⟩) | (go_at_call 20; refine (c2 _).mono ?_; rintro e w' ⟨rfl, rfl⟩) | (go_at_call 9; refine (turns_any _).mono ?_; rintro e w2 ⟨rfl, hg⟩) | (go_at_call 21; refine (c3 _).mono ?_; rintro e w' ⟨rfl, rfl⟩))
  go_ret
  first | exact ⟨rfl, by assumption⟩ | exact ⟨by simp [d1, d2, d3, d4], by assumption⟩
set_option maxRecDepth 100000 in
set_option maxHeartbeats 1000000 in
theorem walk_21 (a0 : Int) (a1 : Int) (h2 : -9223372036854775808 ≤ a0) (h3 : a0 ≤ 9223372036854775807) (h0 : 0 ≤ a1) (h1 : a1 ≤ 18446744073709551615) (h : 256 ≤ a0 ∧ a0 < 4294967296) (k : 9223372036854775808 ≤ a1) (w : World) :
    Calls Try.prog 5 #[.int .i64 a0, .int .u64 a1] w fun e w' => e = .returned (.bool true) ∧ Below w.heap.size w w' := by
  have c1 := byte_any a0 h2 h3
  have c2 := word_any a0 h2 h3
  have c3 := int_any a1 h0 h1
  rw [if_neg (by omega), decide_eq_false (by omega)] at c1
  rw [if_pos (by omega), decide_eq_true (by omega)] at c2
  rw [if_neg (by omega), decide_eq_false (by omega)] at c3
  obtain ⟨h, h'⟩ := h
  have d1 : decide (0 ≤ a0) = true := decide_eq_true (by omega)
  have d2 : decide (a0 < 256) = false := decide_eq_false (by omega)
  have d3 : decide (a0 < 4294967296) = true := decide_eq_true (by omega)
  have d4 : decide (a1 < 9223372036854775808) = false := decide_eq_false (by omega)
  have hu : undef = Value.tuple #[] := rfl
  go_enter Try.func5, Try.ntmps5
  go_wp2_with (first | (go_at_call 19; refine (c1 _).mono ?_; rintro e w' ⟨rfl, rfl⟩) | (go_at_call 20; refine (c2 _).mono ?_; rintro e w' ⟨rfl, rfl⟩) | (go_at_call 9; refine (turns_any _).mono ?_; rintro e w2 ⟨rfl, hg⟩) | (go_at_call 21; refine (c3 _).mono ?_; rintro e w' ⟨rfl, rfl⟩))
  go_ret
  first | exact ⟨rfl, by assumption⟩ | exact ⟨by simp [d1, d2, d3, d4], by assumption⟩
set_option maxRecDepth 100000 in
set_option maxHeartbeats 1000000 in
theorem walk_30 (a0 : Int) (a1 : Int) (h2 : -9223372036854775808 ≤ a0) (h3 : a0 ≤ 9223372036854775807) (h0 : 0 ≤ a1) (h1 : a1 ≤ 18446744073709551615) (h : 4294967296 ≤ a0) (k : a1 ≤ 9223372036854775807) (w : World) :
    Calls Try.prog 5 #[.int .i64 a0, .int .u64 a1] w fun e w' => e = .returned (.bool true) ∧ Below w.heap.size w w' := by
  have c1 := byte_any a0 h2 h3
  have c2 := word_any a0 h2 h3
  have c3 := int_any a1 h0 h1
  rw [if_neg (by omega), decide_eq_false (by omega)] at c1
  rw [if_neg (by omega), decide_eq_false (by omega)] at c2
  rw [if_pos (by omega), decide_eq_true (by omega)] at c3
  have d1 : decide (0 ≤ a0) = true := decide_eq_true (by omega)
  have d2 : decide (a0 < 256) = false := decide_eq_false (by omega)
  have d3 : decide (a0 < 4294967296) = false := decide_eq_false (by omega)
  have d4 : decide (a1 < 9223372036854775808) = true := decide_eq_true (by omega)
  have hu : undef = Value.tuple #[] := rfl
  go_enter Try.func5, Try.ntmps5
  go_wp2_with (first | (go_at_call 19; refine (c1 _).mono ?_; rintro e w' ⟨rfl, rfl⟩) | (go_at_call 20; refine (c2 _).mono ?_; rintro e w' ⟨rfl, rfl⟩) | (go_at_call 9; refine (turns_any _).mono ?_; rintro e w2 ⟨rfl, hg⟩) | (go_at_call 21; refine (c3 _).mono ?_; rintro e w' ⟨rfl, rfl⟩))
  go_ret
  first | exact ⟨rfl, by assumption⟩ | exact ⟨by simp [d1, d2, d3, d4], by assumption⟩
set_option maxRecDepth 100000 in
set_option maxHeartbeats 1000000 in
theorem walk_31 (a0 : Int) (a1 : Int) (h2 : -9223372036854775808 ≤ a0) (h3 : a0 ≤ 9223372036854775807) (h0 : 0 ≤ a1) (h1 : a1 ≤ 18446744073709551615) (h : 4294967296 ≤ a0) (k : 9223372036854775808 ≤ a1) (w : World) :
    Calls Try.prog 5 #[.int .i64 a0, .int .u64 a1] w fun e w' => e = .returned (.bool true) ∧ Below w.heap.size w w' := by
  have c1 := byte_any a0 h2 h3
  have c2 := word_any a0 h2 h3
  have c3 := int_any a1 h0 h1
  rw [if_neg (by omega), decide_eq_false (by omega)] at c1
  rw [if_neg (by omega), decide_eq_false (by omega)] at c2
  rw [if_neg (by omega), decide_eq_false (by omega)] at c3
  have d1 : decide (0 ≤ a0) = true := decide_eq_true (by omega)
  have d2 : decide (a0 < 256) = false := decide_eq_false (by omega)
  have d3 : decide (a0 < 4294967296) = false := decide_eq_false (by omega)
  have d4 : decide (a1 < 9223372036854775808) = false := decide_eq_false (by omega)
  have hu : undef = Value.tuple #[] := rfl
  go_enter Try.func5, Try.ntmps5
  go_wp2_with (first | (go_at_call 19; refine (c1 _).mono ?_; rintro e w' ⟨rfl, rfl⟩) | (go_at_call 20; refine (c2 _).mono ?_; rintro e w' ⟨rfl, rfl⟩) | (go_at_call 9; refine (turns_any _).mono ?_; rintro e w2 ⟨rfl, hg⟩) | (go_at_call 21; refine (c3 _).mono ?_; rintro e w' ⟨rfl, rfl⟩))
  go_ret
  first | exact ⟨rfl, by assumption⟩ | exact ⟨by simp [d1, d2, d3, d4], by assumption⟩
theorem walk (a0 : Int) (a1 : Int) (w0 : (Lit.int .i64 a0).wf = true) (w1 : (Lit.int .u64 a1).wf = true) (w : World) :
    Calls Try.prog 5 #[.int .i64 a0, .int .u64 a1] w fun e w' => e = .returned (.bool true) ∧ Below w.heap.size w w' := by
  obtain ⟨h2, h3⟩ := bounds_i64 w0
  obtain ⟨h0, h1⟩ := bounds_u64 w1
  rcases (by omega : a0 < 0 ∨ (0 ≤ a0 ∧ a0 < 256) ∨ (256 ≤ a0 ∧ a0 < 4294967296) ∨ 4294967296 ≤ a0) with h | h | h | h <;>
    rcases (by omega : a1 ≤ 9223372036854775807 ∨ 9223372036854775808 ≤ a1) with k | k
  · exact walk_00 a0 a1 h2 h3 h0 h1 h k w
  · exact walk_01 a0 a1 h2 h3 h0 h1 h k w
  · exact walk_10 a0 a1 h2 h3 h0 h1 h k w
  · exact walk_11 a0 a1 h2 h3 h0 h1 h k w
  · exact walk_20 a0 a1 h2 h3 h0 h1 h k w
  · exact walk_21 a0 a1 h2 h3 h0 h1 h k w
  · exact walk_30 a0 a1 h2 h3 h0 h1 h k w
  · exact walk_31 a0 a1 h2 h3 h0 h1 h k w

set_option maxRecDepth 100000 in
theorem lifted (os : Os) (started : os.Started) (H : Type) (enc : TypeId × Value → H) :
    ReturnsInHanded {} Try.checked os 5 .any (Rows.bitsSizesSpec.pre6 enc Try.prog Try.f5 Rows.bitsSizesRow.domain false) (Rows.bitsSizesSpec.post enc Try.prog Try.f5 false true false false) := by
  refine returnsInHanded_of_change (C := Try.checked) own_ started (by kernel_rfl) Try.func5
    (ChangeSpec.witness6 (enc := enc) (C := Try.checked) false ⟨#[], #[.int .i64 0, .int .u64 0], []⟩ 8 (by kernel_rfl) (by kernel_rfl) (by kernel_rfl) (by kernel_rfl)) ?_
  intro W base args ds gs before hval0 hW hcnd _
  have hval : ∀ (j : Nat) t v, Try.f5.params[j]? = some t → args[j]? = some v → Value.okWide Try.prog W .any base t v := hval0
  have hW' := hW
  obtain ⟨p, q, hA0, hV, rfl, hfz, hnd⟩ := hW
  have hA : DataW.TrodAll enc Try.prog W 0 (fun _ => true) true Try.f5.params.toList args.toList ds p := hA0
  rw [Try.params5] at hA hval
  obtain ⟨v0, vs0, d0, ds0, p0, q0, hargs, rfl, rfl, h0, r0⟩ := trodAll_cons hA
  obtain ⟨v1, vs1, d1, ds1, p1, q1, rfl, rfl, rfl, h1, r1⟩ := trodAll_cons r0
  obtain ⟨rfl, rfl, rfl⟩ := trodAll_nil r1
  obtain rfl : args = #[v0, v1] := by cases args; simp_all
  obtain ⟨rfl, rfl⟩ := trodVars_none hV
  obtain ⟨a0, rfl, rfl, rfl, w0⟩ := open_int Try.underlying3 (hval 0 3 v0 rfl rfl) h0
  obtain ⟨a1, rfl, rfl, rfl, w1⟩ := open_int Try.underlying27 (hval 1 27 v1 rfl rfl) h1
  refine (walk a0 a1 w0 w1 W).mono fun e W' ⟨he, hg⟩ => ⟨_, he, ?_⟩
  exact law_post laidOut_ (of_decide_eq_true (by kernel_rfl)) rfl rfl Try.underlying4 rfl hW' hg

theorem over : Rows.bitsSizesRow.holds Try.pinned (OpenSpec.ofChange Rows.bitsSizesSpec) :=
  OpenClaim.holds_of_wide 5 Try.f5 rfl rfl rfl rfl rfl rfl rfl ⟨rfl, rfl, rfl, rfl, rfl⟩ rfl rfl rfl rfl rfl (by kernel_rfl) Try.func5 (by kernel_rfl)
    (of_decide_eq_true (by kernel_rfl)) (by unfold Func.isWrapper; first | (rw [if_pos (by decide +kernel)]; kernel_rfl) | (rw [if_neg (by decide +kernel)]; exact ⟨rfl, rfl⟩))
    (fun os started H enc _ => lifted os started H enc)

theorem proved : Rows.BitsSizesSaid := over
#print axioms proved
end Go.Proofs.Ytikbpgddlplegaa.bitsSizes
