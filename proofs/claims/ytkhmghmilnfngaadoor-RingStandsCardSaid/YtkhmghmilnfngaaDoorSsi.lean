/-
  slices.stableCmpFunc as plain mathematics: blocks, each sorted; two neighbours merged.
-/
import Derived.Test.YtkhmghmilnfngaaDoorSsb
namespace Go.Proofs.YtkhmghmilnfngaaDoor
set_option maxRecDepth 100000
open Go.Sort
set_option linter.unusedVariables false
set_option linter.unusedSectionVars false
set_option linter.unusedSimpArgs false

section
variable {α : Type} [Inhabited α] {lt : α → α → Bool}
theorem flat_ssort_len : ∀ (Xs : List (List α)), ((Xs.map (ssort lt)).flatten).length = Xs.flatten.length
  | [] => rfl
  | X :: Xs => by simp only [List.map_cons, List.flatten_cons, List.length_append, ssort_len, flat_ssort_len Xs]
theorem flat_len_eq {s : Nat} : ∀ {Xs : List (List α)}, (∀ X ∈ Xs, X.length = s) → Xs.flatten.length = Xs.length * s
  | [], _ => by simp
  | X :: Xs, h => by
    rw [List.flatten_cons, List.length_append, h X (List.mem_cons_self ..), flat_len_eq (fun Y hY => h Y (List.mem_cons_of_mem _ hY)), List.length_cons, Nat.succ_mul]
    omega
/-- The first pass: blocks of s ahead of a are sorted. -/
def StbI (lt : α → α → Bool) (s : Nat) (L : List α) (a : Nat) (D : List α) : Prop :=
  ∃ (Xs : List (List α)) (R : List α), (∀ X ∈ Xs, X.length = s) ∧ L = Xs.flatten ++ R ∧ a = Xs.flatten.length ∧ D = (Xs.map (ssort lt)).flatten ++ R
/-- All blocks of s are sorted, and what is left behind them. -/
def StbS (lt : α → α → Bool) (s : Nat) (L : List α) (D : List α) : Prop :=
  ∃ (Xs : List (List α)) (R : List α), (∀ X ∈ Xs, X.length = s) ∧ R.length < s ∧ L = Xs.flatten ++ R ∧ D = (Xs.map (ssort lt)).flatten ++ ssort lt R
/-- A later pass: ahead of a two of them are merged each. -/
def StbP (lt : α → α → Bool) (s : Nat) (L : List α) (a : Nat) (D : List α) : Prop :=
  ∃ (Ys Xs : List (List α)) (R : List α), (∀ Y ∈ Ys, Y.length = 2 * s) ∧ (∀ X ∈ Xs, X.length = s) ∧ R.length < s ∧ L = Ys.flatten ++ (Xs.flatten ++ R) ∧ a = Ys.flatten.length ∧ D = (Ys.map (ssort lt)).flatten ++ ((Xs.map (ssort lt)).flatten ++ ssort lt R)
theorem stbI_start (s : Nat) (L : List α) : StbI lt s L 0 L := ⟨[], L, fun _ h => by simp at h, rfl, rfl, rfl⟩
theorem stbI_next {s a : Nat} {L D : List α} (h : StbI lt s L a D) (hn : a + s ≤ L.length) : ∃ P A S, D = P ++ A ++ S ∧ P.length = a ∧ A.length = s ∧ StbI lt s L (a + s) (P ++ ssort lt A ++ S) := by
  obtain ⟨Xs, R, h1, h2, h3, h4⟩ := h
  have hl := congrArg List.length h2
  rw [List.length_append, ← h3] at hl
  have hA : (R.take s).length = s := by rw [List.length_take]; omega
  refine ⟨(Xs.map (ssort lt)).flatten, R.take s, R.drop s, by rw [h4, List.append_assoc, List.take_append_drop], by rw [flat_ssort_len, h3], hA, Xs ++ [R.take s], R.drop s, fun X hX => ?_, ?_, ?_, ?_⟩
  · rcases List.mem_append.1 hX with h | h
    · exact h1 X h
    · rw [List.mem_singleton.1 h]; exact hA
  · rw [List.flatten_append, List.flatten_singleton, List.append_assoc, List.take_append_drop, h2]
  · rw [List.flatten_append, List.flatten_singleton, List.length_append, hA, h3]
  · rw [List.map_append, List.flatten_append, List.map_singleton, List.flatten_singleton]
theorem stbI_end {s a : Nat} {L D : List α} (h : StbI lt s L a D) (hn : L.length < a + s) : ∃ P A, D = P ++ A ++ [] ∧ P.length = a ∧ a + A.length = L.length ∧ StbS lt s L (P ++ ssort lt A ++ []) := by
  obtain ⟨Xs, R, h1, h2, h3, h4⟩ := h
  have hl := congrArg List.length h2
  rw [List.length_append, ← h3] at hl
  exact ⟨(Xs.map (ssort lt)).flatten, R, by rw [h4, List.append_nil], by rw [flat_ssort_len, h3], hl.symm, Xs, R, h1, by omega, h2, by rw [List.append_nil]⟩
theorem stbP_start {s : Nat} {L D : List α} (h : StbS lt s L D) : StbP lt s L 0 D := by
  obtain ⟨Xs, R, h1, h2, h3, h4⟩ := h
  exact ⟨[], Xs, R, fun _ h => by simp at h, h1, h2, by simpa using h3, rfl, by simpa using h4⟩
theorem stbP_next (hw : Wk lt) {s a : Nat} {L D : List α} (h : StbP lt s L a D) (hn : a + 2 * s ≤ L.length) :
    ∃ P A B S, D = P ++ A ++ B ++ S ∧ P.length = a ∧ A.length = s ∧ B.length = s ∧ Srt lt A ∧ Srt lt B ∧ StbP lt s L (a + 2 * s) (P ++ mrg lt A B ++ S) := by
  obtain ⟨Ys, Xs, R, h0, h1, h2, h3, h4, h5⟩ := h
  have hl := congrArg List.length h3
  rw [List.length_append, ← h4, List.length_append] at hl
  match Xs, h1, h3, h5, hl with
  | [], h1, h3, h5, hl => simp at hl; omega
  | [X], h1, h3, h5, hl =>
    have e := h1 X (List.mem_cons_self ..)
    simp at hl
    omega
  | X :: Y :: Xs, h1, h3, h5, hl =>
    have eX := h1 X (by simp)
    have eY := h1 Y (by simp)
    refine ⟨(Ys.map (ssort lt)).flatten, ssort lt X, ssort lt Y, (Xs.map (ssort lt)).flatten ++ ssort lt R, ?_, by rw [flat_ssort_len, h4], by rw [ssort_len, eX], by rw [ssort_len, eY], ssort_srt hw _, ssort_srt hw _, Ys ++ [X ++ Y], Xs, R, fun Z hZ => ?_, fun Z hZ => h1 Z (by simp [hZ]), h2, ?_, ?_, ?_⟩
    · rw [h5]; simp only [List.map_cons, List.flatten_cons, List.append_assoc]
    · rcases List.mem_append.1 hZ with h | h
      · exact h0 Z h
      · rw [List.mem_singleton.1 h, List.length_append]; omega
    · rw [h3]; simp only [List.flatten_append, List.flatten_cons, List.flatten_nil, List.append_nil, List.append_assoc]
    · simp only [List.flatten_append, List.flatten_cons, List.flatten_nil, List.append_nil, List.length_append]; omega
    · simp only [List.map_append, List.map_cons, List.map_nil, List.flatten_append, List.flatten_cons, List.flatten_nil, List.append_nil, List.append_assoc, ssort_app hw X Y]
theorem stbP_tail (hw : Wk lt) {s a : Nat} {L D : List α} (h : StbP lt s L a D) (h1 : L.length < a + 2 * s) (h2 : a + s < L.length) :
    ∃ P A B, D = P ++ A ++ B ++ [] ∧ P.length = a ∧ A.length = s ∧ a + s + B.length = L.length ∧ Srt lt A ∧ Srt lt B ∧ StbS lt (2 * s) L (P ++ mrg lt A B ++ []) := by
  obtain ⟨Ys, Xs, R, g0, g1, g2, g3, g4, g5⟩ := h
  have hl := congrArg List.length g3
  rw [List.length_append, ← g4, List.length_append, flat_len_eq g1] at hl
  match Xs, g1, g3, g5, hl with
  | [], g1, g3, g5, hl => simp at hl; omega
  | [X], g1, g3, g5, hl =>
    have eX := g1 X (by simp)
    simp only [List.length_cons, List.length_nil] at hl
    refine ⟨(Ys.map (ssort lt)).flatten, ssort lt X, ssort lt R, ?_, by rw [flat_ssort_len, g4], by rw [ssort_len, eX], by rw [ssort_len]; omega, ssort_srt hw _, ssort_srt hw _, Ys, X ++ R, g0, ?_, ?_, ?_⟩
    · rw [g5]; simp
    · rw [List.length_append]; omega
    · rw [g3]; simp
    · rw [ssort_app hw X R, List.append_nil]
  | X :: Y :: Xs, g1, g3, g5, hl =>
    exfalso
    simp only [List.length_cons] at hl
    have : (Xs.length + 1 + 1) * s = Xs.length * s + 2 * s := by rw [Nat.add_assoc, Nat.add_mul]
    omega
theorem stbP_none {s a : Nat} {L D : List α} (h : StbP lt s L a D) (h0 : 0 < s) (h2 : L.length ≤ a + s) : StbS lt (2 * s) L D := by
  obtain ⟨Ys, Xs, R, g0, g1, g2, g3, g4, g5⟩ := h
  have hl := congrArg List.length g3
  rw [List.length_append, ← g4, List.length_append, flat_len_eq g1] at hl
  match Xs, g1, g3, g5, hl with
  | [], g1, g3, g5, hl => exact ⟨Ys, R, g0, by omega, by rw [g3]; simp, by rw [g5]; simp⟩
  | [X], g1, g3, g5, hl =>
    have eX := g1 X (by simp)
    simp only [List.length_cons, List.length_nil] at hl
    have hR : R = [] := List.eq_nil_of_length_eq_zero (by omega)
    subst hR
    exact ⟨Ys, X, g0, by omega, by rw [g3]; simp, by rw [g5]; simp [ssort]⟩
  | X :: Y :: Xs, g1, g3, g5, hl =>
    exfalso
    simp only [List.length_cons] at hl
    have : (Xs.length + 1 + 1) * s = Xs.length * s + 2 * s := by rw [Nat.add_assoc, Nat.add_mul]
    omega
theorem stbS_end {s : Nat} {L D : List α} (h : StbS lt s L D) (h0 : 0 < s) (hn : L.length ≤ s) : D = ssort lt L := by
  obtain ⟨Xs, R, g1, g2, g3, g5⟩ := h
  have hl := congrArg List.length g3
  rw [List.length_append, flat_len_eq g1] at hl
  match Xs, g1, g3, g5, hl with
  | [], g1, g3, g5, hl => rw [g5, g3]; simp
  | [X], g1, g3, g5, hl =>
    simp only [List.length_cons, List.length_nil] at hl
    have hR : R = [] := List.eq_nil_of_length_eq_zero (by omega)
    subst hR
    rw [g5, g3]
    simp [ssort]
  | X :: Y :: Xs, g1, g3, g5, hl =>
    exfalso
    simp only [List.length_cons] at hl
    have : (Xs.length + 1 + 1) * s = Xs.length * s + 2 * s := by rw [Nat.add_assoc, Nat.add_mul]
    omega
end
end Go.Proofs.YtkhmghmilnfngaaDoor
