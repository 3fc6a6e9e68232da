/-
  Proved: for every word and every count BitsTurns answers true: bits.Left turns as the document says, and turned back the word is the same. No condition.
-/
import Derived.Test.YtikbpgddlplegaaBp
import Derived.Test.YtikbpgddlplegaaLp
namespace Go.Proofs.Ytikbpgddlplegaa.bitsTurns
open Go.ChangeShapes Go.WideShapes Go.ChangeAt Go.RowKit
set_option linter.unusedVariables false

theorem tmod_bd (n : Int) : ∃ t : Int, n.tmod 32 = t ∧ -32 ≤ t ∧ t ≤ 31 := by
  obtain ⟨t, k, ht, hk, hke, hc⟩ := tmod_i64 n
  refine ⟨t, ht, ?_, ?_⟩
  · clear ht hke; omega
  · clear ht hke; omega
theorem back_math (x n : Int) (h0 : 0 ≤ x) (h1 : x ≤ 4294967295) : rotn (((32 - n.tmod 32) % 32).toNat) (rotn (n % 32).toNat x) = x := by
  obtain ⟨t, k, ht, hk, hke, hc⟩ := tmod_i64 n
  rw [ht, ← hke, rotn_add]
  have : ((32 - t) % 32).toNat + k = 32 * (if k = 0 then 0 else 1) := by
    by_cases h : k = 0
    · rw [if_pos h]; omega
    · rw [if_neg h]; omega
  rw [this, rotn_mul32 _ h0 h1]

theorem walk (a0 : Int) (a1 : Int) (w0 : (Lit.int .u32 a0).wf = true) (w1 : (Lit.int .i64 a1).wf = true) (w : World) :
    Calls Try.prog 3 #[.int .u32 a0, .int .i64 a1] w fun e w' => e = .returned (.bool true) ∧ Below w.heap.size w w' := by
  obtain ⟨h0, h1⟩ := bounds_u32 w0
  obtain ⟨h2, h3⟩ := bounds_i64 w1
  have hb := rotn_bd (a1 % 32).toNat h0 h1
  have HM := back_math a0 a1 h0 h1
  obtain ⟨t, ht, ht1, ht2⟩ := tmod_bd a1
  clear hb
  have hb := rotn_bd (a1 % 32).toNat h0 h1
  rw [ht] at HM
  have c1 := left_any a0 a1 h0 h1
  obtain ⟨y, hy⟩ : ∃ y, Hid (rotn (a1 % 32).toNat a0 = y) := ⟨_, rfl⟩
  have c3 := refLeft_any a0 a1 h0 h1
  rw [hy.out] at hb HM c1 c3
  have c2 := left_any y (32 - t) hb.1 hb.2
  rw [HM] at c2
  have hz : (a0 == a0) = true := by simp
  clear HM
  obtain ⟨hb1, hb2⟩ := hb
  go_enter Try.func3, Try.ntmps3
  go_wp2_with (first | (go_at_call 8; ((with_reducible refine (c1 _).mono ?_); rintro e w' ⟨rfl, rfl⟩)) | (go_at_call 8; ((with_reducible refine (c2 _).mono ?_); rintro e w' ⟨rfl, rfl⟩)) | (go_at_call 9; refine (turns_any _).mono ?_; rintro e w2 ⟨rfl, hg⟩) | (go_at_call 10; ((with_reducible refine (c3 _).mono ?_); rintro e w' ⟨rfl, rfl⟩)))
  go_ret
  exact ⟨rfl, by assumption⟩

set_option maxRecDepth 100000 in
theorem lifted (os : Os) (started : os.Started) (H : Type) (enc : TypeId × Value → H) :
    ReturnsInHanded {} Try.checked os 3 .any (Rows.bitsTurnsSpec.pre6 enc Try.prog Try.f3 Rows.bitsTurnsRow.domain false) (Rows.bitsTurnsSpec.post enc Try.prog Try.f3 false true false false) := by
  refine returnsInHanded_of_change (C := Try.checked) own_ started (by kernel_rfl) Try.func3
    (ChangeSpec.witness6 (enc := enc) (C := Try.checked) false ⟨#[], #[.int .u32 0, .int .i64 0], []⟩ 8 (by kernel_rfl) (by kernel_rfl) (by kernel_rfl) (by kernel_rfl)) ?_
  intro W base args ds gs before hval0 hW hcnd _
  have hval : ∀ (j : Nat) t v, Try.f3.params[j]? = some t → args[j]? = some v → Value.okWide Try.prog W .any base t v := hval0
  have hW' := hW
  obtain ⟨p, q, hA0, hV, rfl, hfz, hnd⟩ := hW
  have hA : DataW.TrodAll enc Try.prog W 0 (fun _ => true) true Try.f3.params.toList args.toList ds p := hA0
  rw [Try.params3] at hA hval
  obtain ⟨v0, vs0, d0, ds0, p0, q0, hargs, rfl, rfl, h0, r0⟩ := trodAll_cons hA
  obtain ⟨v1, vs1, d1, ds1, p1, q1, rfl, rfl, rfl, h1, r1⟩ := trodAll_cons r0
  obtain ⟨rfl, rfl, rfl⟩ := trodAll_nil r1
  obtain rfl : args = #[v0, v1] := by cases args; simp_all
  obtain ⟨rfl, rfl⟩ := trodVars_none hV
  obtain ⟨a0, rfl, rfl, rfl, w0⟩ := open_int Try.underlying22 (hval 0 22 v0 rfl rfl) h0
  obtain ⟨a1, rfl, rfl, rfl, w1⟩ := open_int Try.underlying3 (hval 1 3 v1 rfl rfl) h1
  refine (walk a0 a1 w0 w1 W).mono fun e W' ⟨he, hg⟩ => ⟨_, he, ?_⟩
  exact law_post laidOut_ (of_decide_eq_true (by kernel_rfl)) rfl rfl Try.underlying4 rfl hW' hg

theorem over : Rows.bitsTurnsRow.holds Try.pinned (OpenSpec.ofChange Rows.bitsTurnsSpec) :=
  OpenClaim.holds_of_wide 3 Try.f3 rfl rfl rfl rfl rfl rfl rfl ⟨rfl, rfl, rfl, rfl, rfl⟩ rfl rfl rfl rfl rfl (by kernel_rfl) Try.func3 (by kernel_rfl)
    (of_decide_eq_true (by kernel_rfl)) (by unfold Func.isWrapper; first | (rw [if_pos (by decide +kernel)]; kernel_rfl) | (rw [if_neg (by decide +kernel)]; exact ⟨rfl, rfl⟩))
    (fun os started H enc _ => lifted os started H enc)

theorem proved : Rows.BitsTurnsSaid := over
#print axioms proved
end Go.Proofs.Ytikbpgddlplegaa.bitsTurns
