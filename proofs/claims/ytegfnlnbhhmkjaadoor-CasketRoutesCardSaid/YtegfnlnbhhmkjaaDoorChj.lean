/-
  A chain of calls in a drawn region, told by how far it has come.
-/
import Derived.Test.YtegfnlnbhhmkjaaDoorFj
namespace Go.Proofs.YtegfnlnbhhmkjaaDoor
set_option maxRecDepth 100000
open Go.RowKit
set_option linter.unusedVariables false
set_option linter.unusedSimpArgs false

/-- The operations ix come one behind the other; S m: what holds when m of them are done. -/
def ChJ (ix : List Nat) (S : Nat → World → Prop) (D : Nat → Bool) (W : World) : Prop := ∃ m, m ≤ ix.length ∧ (∀ i, (hi : i < ix.length) → D ix[i] = decide (i < m)) ∧ S m W
section
variable {ix : List Nat} {S : Nat → World → Prop} {D : Nat → Bool} {W W' : World}
theorem ChJ.same (h : ChJ ix S D W) (i : Nat) (hi : i ∉ ix) : ChJ ix S (fun j => decide (j = i) || D j) W := by
  obtain ⟨m, h1, h2, h3⟩ := h
  refine ⟨m, h1, fun k hk => ?_, h3⟩
  have hne : ix[k] ≠ i := fun e => hi (e ▸ List.getElem_mem hk)
  show (decide (ix[k] = i) || D ix[k]) = decide (k < m)
  rw [decide_eq_false hne, Bool.false_or]
  exact h2 k hk
/-- The k-th of them is done now. -/
theorem ChJ.at_ (h : ChJ ix S D W) (k : Nat) (hk : k < ix.length) (hL : D ix[k] = false) (hW : ∀ j, (hj : j < ix.length) → j + 1 = k → D ix[j] = true) : S k W ∧ ∀ i, (hi : i < ix.length) → D ix[i] = decide (i < k) := by
  obtain ⟨m, h1, h2, h3⟩ := h
  have e1 := h2 k hk
  rw [hL] at e1
  have e2 : ¬ k < m := by
    intro hlt
    rw [decide_eq_true hlt] at e1
    cases e1
  have e3 : m = k := by
    rcases Nat.eq_zero_or_pos k with h0 | h0
    · omega
    · have e4 := h2 (k - 1) (by omega)
      rw [hW (k - 1) (by omega) (by omega)] at e4
      have e5 : k - 1 < m := by
        by_cases h5 : k - 1 < m
        · exact h5
        · rw [decide_eq_false h5] at e4; cases e4
      omega
  subst e3
  exact ⟨h3, h2⟩
theorem ChJ.next (k : Nat) (hk : k < ix.length) (hn : ix.Nodup) (hd : ∀ i, (hi : i < ix.length) → D ix[i] = decide (i < k)) (hS : S (k + 1) W') : ChJ ix S (fun j => decide (j = ix[k]) || D j) W' := by
  refine ⟨k + 1, hk, fun i hi => ?_, hS⟩
  by_cases e : i = k
  · subst e
    show (decide (ix[i] = ix[i]) || D ix[i]) = decide (i < i + 1)
    rw [decide_eq_true rfl, Bool.true_or]
    exact (decide_eq_true (by omega)).symm
  · have hne : ix[i] ≠ ix[k] := fun e2 => e ((List.getElem_inj hn).1 e2)
    show (decide (ix[i] = ix[k]) || D ix[i]) = decide (i < k + 1)
    rw [decide_eq_false hne, Bool.false_or, hd i hi, decide_eq_decide]
    omega
theorem ChJ.start (h : S 0 W) : ChJ ix S (fun _ => false) W := ⟨0, Nat.zero_le _, fun i hi => by simp, h⟩
theorem ChJ.last (h : ChJ ix S D W) (k : Nat) (hk : k < ix.length) (hl : k + 1 = ix.length) (hD : D ix[k] = true) : S (k + 1) W := by
  obtain ⟨m, h1, h2, h3⟩ := h
  have e1 := h2 k hk
  rw [hD] at e1
  have : m = k + 1 := by
    by_cases h5 : k < m
    · omega
    · rw [decide_eq_false h5] at e1; cases e1
  rw [← this]
  exact h3
end
end Go.Proofs.YtegfnlnbhhmkjaaDoor
