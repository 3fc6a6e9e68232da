/-
  Three new variables at once, each of a context that a call makes: where they lie, in whatever order they came.
-/
import Derived.Test.YtjflmfmncepeeaaJk
namespace Go.Proofs.Ytjflmfmncepeeaa
open Go.ChangeShapes Go.WideShapes Go.ChangeAt Go.RowKit
set_option linter.unusedVariables false
set_option linter.unusedSimpArgs false

/-- Of n variables: which are there (al), which are written (st), which values are known (tk); their slots (va), the values (vt). -/
structure VnJ (n B : Nat) (al st tk : Nat → Bool) (va vt : Nat → Value) (W : World) : Prop where
  hs : ∀ i, i < n → st i = true → al i = true ∧ tk i = true
  ex : ∃ (q : Nat → Nat) (X : Nat → Array Value), (∀ i, i < n → al i = true → va i = .pointer (some ⟨q i, 0, none⟩) ∧ B ≤ q i ∧ Bk W (q i) 29 (X i) ∧ (X i).size = 17 ∧ (st i = true → vt i = .agg (X i))) ∧
    ∀ i j, i < n → j < n → i ≠ j → al i = true → al j = true → q i ≠ q j
section
variable {n B : Nat} {al st tk al' st' tk' : Nat → Bool} {va vt va' vt' : Nat → Value} {W W' : World}
theorem VnJ.start (h : ∀ i, i < n → al i = false) (h2 : ∀ i, i < n → st i = false) : VnJ n B al st tk va vt W :=
  ⟨fun i hi e => (by rw [h2 i hi] at e; cases e), fun _ => 0, fun _ => #[], fun i hi e => (by rw [h i hi] at e; cases e), fun i j hi _ _ e _ => (by rw [h i hi] at e; cases e)⟩
/-- Another operation. -/
theorem VnJ.step (h : VnJ n B al st tk va vt W) (hp : ∀ i, i < n → al' i = al i ∧ st' i = st i ∧ va' i = va i ∧ (st i = true → vt' i = vt i) ∧ (tk i = true → tk' i = true)) (hw : Below W.heap.size W W') : VnJ n B al' st' tk' va' vt' W' := by
  obtain ⟨hs, q, X, h1, h2⟩ := h
  refine ⟨fun i hi e => ?_, q, X, fun i hi e => ?_, fun i j hi hj hne e e' => ?_⟩
  · obtain ⟨a1, a2, a3, a4, a5⟩ := hp i hi
    rw [a2] at e
    exact ⟨by rw [a1]; exact (hs i hi e).1, a5 (hs i hi e).2⟩
  · obtain ⟨a1, a2, a3, a4, a5⟩ := hp i hi
    rw [a1] at e
    obtain ⟨b1, b2, b3, b4, b5⟩ := h1 i hi e
    refine ⟨by rw [a3]; exact b1, b2, b3.below hw b3.lt, b4, fun e' => ?_⟩
    rw [a2] at e'
    rw [a4 e']; exact b5 e'
  · rw [(hp i hi).1] at e
    rw [(hp j hj).1] at e'
    exact h2 i j hi hj hne e e'
/-- The k-th variable comes. -/
theorem VnJ.alloc (h : VnJ n B al st tk va vt W) (k : Nat) (hk : k < n) (hf : al k = false) (hB : B ≤ W.heap.size) {Y : Array Value} (hY : Y.size = 17) (hp : ∀ i, i < n → al' i = (decide (i = k) || al i) ∧ st' i = st i ∧ va' i = (if i = k then .pointer (some ⟨W.heap.size, 0, none⟩) else va i) ∧ vt' i = vt i ∧ tk' i = tk i) : VnJ n B al' st' tk' va' vt' (W.alloc (.cells Y 29)) := by
  have hw : Below W.heap.size W (W.alloc (.cells Y 29)) := (Below.refl _ _).alloc (Nat.le_refl _) _
  obtain ⟨hs, q, X, h1, h2⟩ := h
  have hsk : st k = false := by
    cases e : st k with
    | false => rfl
    | true => rw [(hs k hk e).1] at hf; cases hf
  refine ⟨fun i hi e => ?_, fun i => if i = k then W.heap.size else q i, fun i => if i = k then Y else X i, fun i hi e => ?_, fun i j hi hj hne e e' => ?_⟩
  · obtain ⟨a1, a2, a3, a4, a5⟩ := hp i hi
    rw [a2] at e
    refine ⟨by rw [a1, (hs i hi e).1]; simp, by rw [a5]; exact (hs i hi e).2⟩
  · obtain ⟨a1, a2, a3, a4, a5⟩ := hp i hi
    by_cases hik : i = k
    · subst hik
      simp only [if_pos] at *
      refine ⟨a3, hB, Bk.new _ _ _, hY, fun e' => ?_⟩
      rw [a2, hsk] at e'; cases e'
    · simp only [if_neg hik] at *
      rw [a1, decide_eq_false hik, Bool.false_or] at e
      obtain ⟨b1, b2, b3, b4, b5⟩ := h1 i hi e
      exact ⟨by rw [a3]; exact b1, b2, b3.below hw b3.lt, b4, fun e' => by rw [a2] at e'; rw [a4]; exact b5 e'⟩
  · rw [(hp i hi).1] at e
    rw [(hp j hj).1] at e'
    by_cases hik : i = k
    · subst hik
      have hjk : j ≠ i := fun e => hne e.symm
      simp only [if_pos, if_neg hjk]
      rw [decide_eq_false hjk, Bool.false_or] at e'
      have := (h1 j hj e').2.2.1.lt
      omega
    · by_cases hjk : j = k
      · subst hjk
        simp only [if_pos, if_neg hik]
        rw [decide_eq_false hik, Bool.false_or] at e
        have := (h1 i hi e).2.2.1.lt
        omega
      · simp only [if_neg hik, if_neg hjk]
        rw [decide_eq_false hik, Bool.false_or] at e
        rw [decide_eq_false hjk, Bool.false_or] at e'
        exact h2 i j hi hj hne e e'
/-- The k-th variable is written. -/
theorem VnJ.store (h : VnJ n B al st tk va vt W) (k : Nat) (hk : k < n) (ha : al k = true) (ht : tk k = true) {qk : Nat} {R : Array Value} (hq : va k = .pointer (some ⟨qk, 0, none⟩)) (hv : vt k = .agg R) (hR : R.size = 17) (hg : W.grownBy W' (some qk)) (hb : Bk W' qk 29 R) (hp : ∀ i, i < n → al' i = al i ∧ st' i = (decide (i = k) || st i) ∧ va' i = va i ∧ vt' i = vt i ∧ tk' i = tk i) : VnJ n B al' st' tk' va' vt' W' := by
  obtain ⟨hs, q, X, h1, h2⟩ := h
  have hqk : qk = q k := by
    have := hq.symm.trans (h1 k hk ha).1
    injection this with this
    injection this with this
    injection this
  refine ⟨fun i hi e => ?_, q, fun i => if i = k then R else X i, fun i hi e => ?_, fun i j hi hj hne e e' => ?_⟩
  · obtain ⟨a1, a2, a3, a4, a5⟩ := hp i hi
    by_cases hik : i = k
    · subst hik; exact ⟨by rw [a1]; exact ha, by rw [a5]; exact ht⟩
    · rw [a2, decide_eq_false hik, Bool.false_or] at e
      exact ⟨by rw [a1]; exact (hs i hi e).1, by rw [a5]; exact (hs i hi e).2⟩
  · obtain ⟨a1, a2, a3, a4, a5⟩ := hp i hi
    rw [a1] at e
    obtain ⟨b1, b2, b3, b4, b5⟩ := h1 i hi e
    by_cases hik : i = k
    · subst hik
      simp only [if_pos]
      exact ⟨by rw [a3]; exact b1, b2, by rw [← hqk]; exact hb, hR, fun _ => by rw [a4]; exact hv⟩
    · simp only [if_neg hik]
      refine ⟨by rw [a3]; exact b1, b2, b3.grown hg (fun e' => h2 i k hi hk hik e ha (by injection e' with e'; rw [e', hqk])), b4, fun e' => ?_⟩
      rw [a2, decide_eq_false hik, Bool.false_or] at e'
      rw [a4]; exact b5 e'
  · rw [(hp i hi).1] at e
    rw [(hp j hj).1] at e'
    exact h2 i j hi hj hne e e'
/-- What lies in the k-th variable, behind all. -/
theorem VnJ.end_ (h : VnJ n B al st tk va vt W) (k : Nat) (hk : k < n) (hst : st k = true) : ∃ q R, va k = .pointer (some ⟨q, 0, none⟩) ∧ B ≤ q ∧ vt k = .agg R ∧ Bk W q 29 R := by
  obtain ⟨hs, q, X, h1, h2⟩ := h
  obtain ⟨b1, b2, b3, b4, b5⟩ := h1 k hk (hs k hk hst).1
  exact ⟨_, _, b1, b2, b5 hst, b3⟩
end
/-- A value that is a context, its dots in a block of dots. -/
def HasCtx (up : List Int) (ml : List DotV) (v : Value) (W : World) : Prop :=
  ∃ A c, v = .agg (ctxRow up A ml.length c) ∧ RdD W W.heap.size A ml ∧ TyD W A ml ∧ ml.length ≤ c ∧ c ≤ 9223372036854775807
theorem HasCtx.below {up : List Int} {ml : List DotV} {v : Value} {W W' : World} (h : HasCtx up ml v W) (hw : Below W.heap.size W W') : HasCtx up ml v W' := by
  obtain ⟨A, c, e, h1, h2, h3⟩ := h
  exact ⟨A, c, e, (h1.below hw).more hw.size, h2.below hw, h3⟩
/-- What may come to pass: memory is made, or a variable that holds a context is written. -/
def VrT (W W' : World) : Prop := Below W.heap.size W W' ∨ ∃ q X, Bk W q 29 X ∧ W.grownBy W' (some q)
theorem HasCtx.keep {up : List Int} {ml : List DotV} {v : Value} {W W' : World} (h : HasCtx up ml v W) (hT : VrT W W') : HasCtx up ml v W' := by
  rcases hT with hw | ⟨q, X, hb, hg⟩
  · exact h.below hw
  · obtain ⟨A, c, e, h1, h2, h3⟩ := h
    have hne : 0 < ml.length → ∀ b off, A = some ⟨b, off, none⟩ → b ≠ q := fun h0 b off ea eb => by
      obtain ⟨cs, fr, hh⟩ := h2 h0 b off ea
      subst eb
      have := hh.symm.trans hb
      injection this with this
      injection this with _ this _
      exact absurd this (by decide)
    exact ⟨A, c, e, (h1.grownR (Nat.le_refl _) hg hne).more hg.size, h2.grown hg hne, h3⟩
end Go.Proofs.Ytjflmfmncepeeaa
