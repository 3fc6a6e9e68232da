/-
  A disk while its fuse burns; numbers drawn into bounds.
-/
import Derived.Test.YtdlciehboimciaaDkm
namespace Go.Proofs.Ytdlciehboimciaa
set_option maxRecDepth 100000
open Go.RowKit
set_option linter.unusedVariables false
set_option linter.unusedSimpArgs false

theorem u64_natK (z : Int) : ∃ x : Nat, IntKind.u64.wrap z = (x : Int) ∧ x ≤ 18446744073709551615 := by
  have h : IntKind.u64.wrap z = z % 18446744073709551616 := by simp [IntKind.wrap, IntKind.signed, IntKind.bits]
  have h0 : 0 ≤ z % 18446744073709551616 := Int.emod_nonneg _ (by omega)
  have h1 : z % 18446744073709551616 < 18446744073709551616 := Int.emod_lt_of_pos _ (by omega)
  exact ⟨(z % 18446744073709551616).toNat, by rw [h]; omega, by omega⟩
/-- A number drawn into 0 .. m-1: what the walk wants. -/
structure RestK (z : Int) (m U R : Nat) : Prop where
  u : IntKind.u64.wrap z = (U : Int)
  t : (U : Int).tmod (m : Int) = (R : Int)
  r : (U : Int) % (m : Int) = (R : Int)
  wu : IntKind.u64.wrap (R : Int) = (R : Int)
  wi : IntKind.i64.wrap (R : Int) = (R : Int)
  lt : R < m
theorem restK (z : Int) (m : Nat) (h0 : 0 < m) (h1 : m ≤ 1000000000) : ∃ U R, RestK z m U R := by
  obtain ⟨U, hU, hb⟩ := u64_natK z
  have hlt : U % m < m := Nat.mod_lt _ h0
  have e : (U : Int) % (m : Int) = ((U % m : Nat) : Int) := by simp
  exact ⟨U, U % m, hU, by rw [Int.tmod_eq_emod_of_nonneg (by omega), e], e, IntWalk.u64_in _ (by omega), IntWalk.i64_in _ (by omega), hlt⟩
theorem PhJ.turn {deps : Nat → List Nat} {iS : Nat} {Old Fin : World → Prop} {D : Nat → Bool} {a a' : Act} {W W' : World} (h : PhJ deps iS Old Fin D a W) (i : Nat) (hi : iS ≠ i) (hd : ∀ j ∈ deps i, D j = true) (hF : D iS = false) (hO : Old W') : PhJ deps iS Old Fin (fun j => decide (j = i) || D j) a' W' :=
  ⟨cl_or h.cl hd, fun _ => hO, by rw [orf_ne hi, hF]; exact fun e => (by cases e)⟩
/-- A disk of four sectors with a fuse of N, behind j writes or Syncs. -/
def FzI (B : Nat) (w : World) (p q N j : Nat) : Prop := ∃ F R, R.length ≤ j ∧ DkI B w p q 4 F R (N - j) (decide (N ≤ j))
def FzP (B : Nat) (w : World) (p q N j : Nat) (zf : Int) (e : Ending) (w' : World) : Prop := e = .returned (.int .i64 zf) ∧ FzI B w' p q N (j + 1) ∧ Below B w w'
def fzE (N j : Nat) : Int := if N ≤ j + 1 then 9 else 0
theorem FzI.below {B : Nat} {w w' : World} {p q N j : Nat} (h : FzI B w p q N j) (hb : Below w.heap.size w w') : FzI B w' p q N j := by
  obtain ⟨F, R, h1, h2⟩ := h
  exact ⟨F, R, h1, h2.below hb⟩
theorem fz_sync {B : Nat} {w : World} {p q N j : Nat} (h : FzI B w p q N j) : Calls Try.prog 51 #[.pointer (some ⟨p, 0, none⟩)] w (FzP B w p q N j (fzE N j)) := by
  obtain ⟨F, R, hR, h⟩ := h
  unfold fzE
  by_cases h1 : N ≤ j
  · have e1 : decide (N ≤ j) = true := decide_eq_true h1
    rw [e1] at h
    rw [if_pos (by omega)]
    refine (dsync_off h).mono fun e w' hh => ?_
    obtain ⟨rfl, rfl⟩ := hh
    exact ⟨rfl, ⟨F, R, by omega, by rw [decide_eq_true (show N ≤ j + 1 by omega), show N - (j + 1) = N - j by omega]; exact h⟩, Below.refl _ _⟩
  · have e1 : decide (N ≤ j) = false := decide_eq_false h1
    rw [e1] at h
    by_cases h2 : N ≤ j + 1
    · rw [if_pos h2]
      have e2 : N - j = 1 := by omega
      rw [e2] at h
      refine (dsync_burn h).mono fun e w' hh => ?_
      obtain ⟨rfl, k1, k2, _⟩ := hh
      exact ⟨rfl, ⟨F, R, by omega, by rw [decide_eq_true h2, show N - (j + 1) = 0 by omega]; exact k1⟩, k2⟩
    · rw [if_neg h2]
      refine (dsync_ok h (by omega)).mono fun e w' hh => ?_
      obtain ⟨rfl, k1, k2, _⟩ := hh
      exact ⟨rfl, ⟨_, [], by simp, by rw [decide_eq_false h2, show N - (j + 1) = N - j - 1 by omega]; exact k1⟩, k2⟩
theorem fz_write {B : Nat} {w : World} {p q N j : Nat} (h : FzI B w p q N j) (hB : B ≤ w.heap.size) (hj : j < 1000) (k : Nat) (hk : k < 4) (D : List UInt8) (hD : D.length = 64) : Calls Try.prog 28 #[.pointer (some ⟨p, 0, none⟩), .int .i64 (k : Int), .agg (rowOf D)] w (FzP B w p q N j (fzE N j)) := by
  obtain ⟨F, R, hR, h⟩ := h
  unfold fzE
  by_cases h1 : N ≤ j
  · have e1 : decide (N ≤ j) = true := decide_eq_true h1
    rw [e1] at h
    rw [if_pos (by omega)]
    refine (dwrite_no h (k : Int) D (by simp [hasE])).mono fun e w' hh => ?_
    obtain ⟨rfl, hb⟩ := hh
    exact ⟨by simp [hasE], ⟨F, R, by omega, by rw [decide_eq_true (show N ≤ j + 1 by omega), show N - (j + 1) = N - j by omega]; exact h.below hb⟩, hb.mono hB⟩
  · have e1 : decide (N ≤ j) = false := decide_eq_false h1
    rw [e1] at h
    refine (dwrite_yes h hB k hk D hD (by omega)).mono fun e w' hh => ?_
    obtain ⟨rfl, k1, k2, _⟩ := hh
    have e3 : burnE (N - j) = (if N ≤ j + 1 then 9 else 0) := by
      unfold burnE
      by_cases h2 : N ≤ j + 1
      · rw [if_pos (by omega), if_pos h2]
      · rw [if_neg (by omega), if_neg h2]
    have e4 : burnO (N - j) false = decide (N ≤ j + 1) := by
      unfold burnO
      by_cases h2 : N ≤ j + 1
      · rw [decide_eq_true h2, decide_eq_true (show N - j = 1 by omega)]; rfl
      · rw [decide_eq_false h2, decide_eq_false (show ¬ N - j = 1 by omega)]; rfl
    exact ⟨by rw [e3], ⟨F, R ++ [(k, D)], by rw [List.length_append, List.length_singleton]; omega, by rw [← e4, show N - (j + 1) = N - j - 1 by omega]; exact k1⟩, k2⟩
end Go.Proofs.Ytdlciehboimciaa
