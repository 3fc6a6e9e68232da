/-
  Proved: for every word, every two counts and every uint64 BitsAdds answers true: turned by two counts, one behind the other, a word is turned by both together; eight bytes are two words of four. No condition.
-/
import Derived.Test.YtikbpgddlplegaaBp
import Derived.Test.YtikbpgddlplegaaBw
import Derived.Test.YtikbpgddlplegaaLp
import Derived.Deep.QuietTactic
import Derived.BigQuiet
namespace Go.Proofs.Ytikbpgddlplegaa.bitsAdds
open Go.ChangeShapes Go.WideShapes Go.ChangeAt Go.RowKit
set_option linter.unusedVariables false

theorem tmod_1000 (n : Int) : ∃ t : Int, n.tmod 1000 = t ∧ -999 ≤ t ∧ t ≤ 999 := by
  refine ⟨_, rfl, ?_, ?_⟩
  · rcases Int.lt_or_le n 0 with h | h
    · have h1 : (-(-n)).tmod 1000 = -((-n).tmod 1000) := Int.neg_tmod _ _
      rw [Int.neg_neg] at h1
      rw [h1, Int.tmod_eq_emod_of_nonneg (by omega)]; omega
    · rw [Int.tmod_eq_emod_of_nonneg h]; omega
  · rcases Int.lt_or_le n 0 with h | h
    · have h1 : (-(-n)).tmod 1000 = -((-n).tmod 1000) := Int.neg_tmod _ _
      rw [Int.neg_neg] at h1
      rw [h1, Int.tmod_eq_emod_of_nonneg (by omega)]; omega
    · rw [Int.tmod_eq_emod_of_nonneg h]; omega

theorem adds_math (x a b : Int) (h0 : 0 ≤ x) (h1 : x ≤ 4294967295) : rotn (b % 32).toNat (rotn (a % 32).toNat x) = rotn ((a + b) % 32).toNat x := by
  rw [rotn_add, ← rotn_mod ((b % 32).toNat + (a % 32).toNat) h0 h1]
  congr 1
  omega

theorem walk (a0 : Int) (n0 n1 : Int) (a2 : Nat) (h0 : 0 ≤ a0) (h1 : a0 ≤ 4294967295) (h2 : a2 ≤ 18446744073709551615) (w : World) :
    Calls Try.prog 7 #[.int .u32 a0, .agg #[.int .i64 n0, .int .i64 n1], .int .u64 a2] w fun e w' => e = .returned (.bool true) ∧ Below w.heap.size w w' := by
  have c3 := fun W => putHigh_any a2 8 8 (by omega) (by omega) (by omega) (by omega) W
  have hu : undef = Value.tuple #[] := rfl
  obtain ⟨a, ha, ha1, ha2⟩ := tmod_1000 n0
  obtain ⟨b, hb, hb1, hb2⟩ := tmod_1000 n1
  have hl : (highB 8 a2).length = 8 := highB_len 8 a2
  have hcat := beN_append ((highB 8 a2).take 4) ((highB 8 a2).drop 4)
  rw [List.take_append_drop, beN_highB, List.length_drop, hl] at hcat
  have hp := beN_lt ((highB 8 a2).take 4)
  have hq := beN_lt ((highB 8 a2).drop 4)
  rw [List.length_take, hl] at hp
  rw [List.length_drop, hl] at hq
  have hl4 : ((highB 8 a2).take 4).length = 4 := by rw [List.length_take, hl]; rfl
  have hd4 : ((highB 8 a2).drop 4).length = 4 := by rw [List.length_drop, hl]
  generalize hE : highB 8 a2 = E at *
  have c4 := fun B W h => high32_yes (some ⟨w.heap.size + 1, 0, none⟩) B 8 (E.take 4) W hl4 h
  have c5 := fun B W h => high32_yes (some ⟨w.heap.size + 1, 4, none⟩) B 4 (E.drop 4) W hd4 h
  obtain ⟨p, hp'⟩ : ∃ p, beN (E.take 4) = p := ⟨_, rfl⟩
  obtain ⟨q, hq'⟩ : ∃ q, beN (E.drop 4) = q := ⟨_, rfl⟩
  rw [hp'] at hp hcat c4
  rw [hq'] at hq hcat c5
  have e4 : (256 : Nat) ^ 4 = 4294967296 := by decide
  have e8 : (256 : Nat) ^ 8 = 18446744073709551616 := by decide
  have hs : (p : Int) * 4294967296 + (q : Int) = (a2 : Int) := by
    have e4' : (256 : Nat) ^ (8 - 4) = 4294967296 := by decide
    rw [e8, e4'] at hcat
    omega
  have hp2 : p ≤ 4294967295 := by
    have : min 4 8 = 4 := rfl
    rw [this, e4] at hp
    omega
  have hq2 : q ≤ 4294967295 := by
    have e4' : (256 : Nat) ^ (8 - 4) = 4294967296 := by decide
    rw [e4'] at hq
    omega
  have hr0 := rotn_bd (a % 32).toNat h0 h1
  have HM := adds_math a0 a b h0 h1
  have c6 := left_any a0 a h0 h1
  have c7 := left_any _ b hr0.1 hr0.2
  have c8 := left_any a0 (a + b) h0 h1
  rw [HM] at c7
  obtain ⟨y, hy⟩ : ∃ y, Hid (rotn (a % 32).toNat a0 = y) := ⟨_, rfl⟩
  rw [hy.out] at c6 c7
  obtain ⟨z, hz⟩ : ∃ z, Hid (rotn ((a + b) % 32).toNat a0 = z) := ⟨_, rfl⟩
  rw [hz.out] at c7 c8
  clear hr0 HM hp hq hcat hp' hq' e4 e8 hl hl4 hd4
  have HE : Hid (highB 8 a2 = E) := hE
  clear hE
  go_enter Try.func7, Try.ntmps7
  go_wp2
  go_quiet (fail)
  go_wp2_with (first | (go_at_call 17; refine (c3 _).mono ?_; rintro e w2 ⟨rfl, hb8, hg⟩; have hrd : Rd w2 w2.heap.size (some ⟨w.heap.size + 1, 0, none⟩) E := (by simpa using hb8.rd hb8.lt)) | (go_at_call 12; ((with_reducible refine (c4 _ _ (hrd.take 4)).mono ?_); rintro e w' ⟨rfl, rfl⟩)) | (go_at_call 12; ((with_reducible refine (c5 _ _ (by simpa using hrd.drop 4)).mono ?_); rintro e w' ⟨rfl, rfl⟩)) | (go_at_call 9; refine (turns_any _).mono ?_; rintro e w3 ⟨rfl, hg3⟩) | (go_at_call 8; ((with_reducible refine (c6 _).mono ?_); rintro e w' ⟨rfl, rfl⟩)) | (go_at_call 8; ((with_reducible refine (c7 _).mono ?_); rintro e w' ⟨rfl, rfl⟩)) | (go_at_call 8; ((with_reducible refine (c8 _).mono ?_); rintro e w' ⟨rfl, rfl⟩)))
  go_ret
  have h1' := below_drewN ((Below.refl w.heap.size w).alloc (Nat.le_refl _) (.cells #[.int .i64 n0, .int .i64 n1] 45)) nq
  have h3' := (hg3 : Below w2.heap.size w2 w3)
  have hlt := hb8.lt
  exact ⟨rfl, (h1'.trans (hg.mono (by simp))).trans (h3'.mono (by simp at hlt; omega))⟩

set_option maxRecDepth 100000 in
theorem lifted (os : Os) (started : os.Started) (H : Type) (enc : TypeId × Value → H) :
    ReturnsInHanded {} Try.checked os 7 .any (Rows.bitsAddsSpec.pre6 enc Try.prog Try.f7 Rows.bitsAddsRow.domain false) (Rows.bitsAddsSpec.post enc Try.prog Try.f7 false true false false) := by
  refine returnsInHanded_of_change (C := Try.checked) own_ started (by kernel_rfl) Try.func7
    (ChangeSpec.witness6 (enc := enc) (C := Try.checked) false ⟨#[], #[.int .u32 0, .agg #[.int .i64 0, .int .i64 0], .int .u64 0], []⟩ 8 (by kernel_rfl) (by kernel_rfl) (by kernel_rfl) (by kernel_rfl)) ?_
  intro W base args ds gs before hval0 hW hcnd _
  have hval : ∀ (j : Nat) t v, Try.f7.params[j]? = some t → args[j]? = some v → Value.okWide Try.prog W .any base t v := hval0
  have hW' := hW
  obtain ⟨p, q, hA0, hV, rfl, hfz, hnd⟩ := hW
  have hA : DataW.TrodAll enc Try.prog W 0 (fun _ => true) true Try.f7.params.toList args.toList ds p := hA0
  rw [Try.params7] at hA hval
  obtain ⟨v0, vs0, d0, ds0, p0, q0, hargs, rfl, rfl, h0, r0⟩ := trodAll_cons hA
  obtain ⟨v1, vs1, d1, ds1, p1, q1, rfl, rfl, rfl, h1, r1⟩ := trodAll_cons r0
  obtain ⟨v2, vs2, d2, ds2, p2, q2, rfl, rfl, rfl, h2, r2⟩ := trodAll_cons r1
  obtain ⟨rfl, rfl, rfl⟩ := trodAll_nil r2
  obtain rfl : args = #[v0, v1, v2] := by cases args; simp_all
  obtain ⟨rfl, rfl⟩ := trodVars_none hV
  obtain ⟨a0, rfl, rfl, rfl, w0⟩ := open_int Try.underlying22 (hval 0 22 v0 rfl rfl) h0
  obtain ⟨n0, n1, rfl, _, _⟩ := open_arr2 Try.underlying45 Try.underlying3 (by kernel_rfl) (by kernel_rfl) (hval 1 45 v1 rfl rfl) h1
  obtain ⟨a2, rfl, rfl, rfl, w2⟩ := open_int Try.underlying27 (hval 2 27 v2 rfl rfl) h2
  obtain ⟨b0, b1⟩ := bounds_u32 w0
  obtain ⟨b2, b3⟩ := bounds_u64 w2
  obtain ⟨x2, rfl⟩ := Int.eq_ofNat_of_zero_le b2
  refine (walk a0 n0 n1 x2 b0 b1 (by omega) W).mono fun e W' ⟨he, hg⟩ => ⟨_, he, ?_⟩
  exact law_post laidOut_ (of_decide_eq_true (by kernel_rfl)) rfl rfl Try.underlying4 rfl hW' hg

theorem over : Rows.bitsAddsRow.holds Try.pinned (OpenSpec.ofChange Rows.bitsAddsSpec) :=
  OpenClaim.holds_of_wide 7 Try.f7 rfl rfl rfl rfl rfl rfl rfl ⟨rfl, rfl, rfl, rfl, rfl⟩ rfl rfl rfl rfl rfl (by kernel_rfl) Try.func7 (by kernel_rfl)
    (of_decide_eq_true (by kernel_rfl)) (by unfold Func.isWrapper; first | (rw [if_pos (by decide +kernel)]; kernel_rfl) | (rw [if_neg (by decide +kernel)]; exact ⟨rfl, rfl⟩))
    (fun os started H enc _ => lifted os started H enc)

theorem proved : Rows.BitsAddsSaid := over
#print axioms proved
end Go.Proofs.Ytikbpgddlplegaa.bitsAdds
