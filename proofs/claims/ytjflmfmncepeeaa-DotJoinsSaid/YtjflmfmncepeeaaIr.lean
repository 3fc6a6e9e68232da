/-
  What dot.contextOf does with a row of dots, by values.
-/
import Derived.Test.YtjflmfmncepeeaaIq
namespace Go.Proofs.Ytjflmfmncepeeaa
set_option linter.unusedVariables false
set_option linter.unusedSimpArgs false

def stpX (st : List Int × List DotV) (d : DotV) : List Int × List DotV :=
  if d.n ≤ st.1.getD (d.c - 1).toNat 0 then st
  else if d.n = st.1.getD (d.c - 1).toNat 0 + 1 then (st.1.set (d.c - 1).toNat d.n, st.2)
  else (st.1, st.2 ++ [d])
/-- Behind the first k of ms. -/
def runX (up : List Int) (ms : List DotV) : Nat → List Int × List DotV
  | 0 => (up, [])
  | k + 1 => stpX (runX up ms k) (ms.getD k ⟨0, 0⟩)
/-- Sixteen numbers, none below nought nor above the greatest. -/
def Up16 (up : List Int) : Prop := up.length = 16 ∧ ∀ k, 0 ≤ up.getD k 0 ∧ up.getD k 0 ≤ 1099511627776
theorem stpX_up {st : List Int × List DotV} {d : DotV} (h : Up16 st.1) (hd : isD d = true) : Up16 (stpX st d).1 := by
  obtain ⟨hl, hb⟩ := h
  obtain ⟨h1, h2, h3⟩ : (1 ≤ d.c ∧ d.c ≤ 16) ∧ 1 ≤ d.n ∧ d.n ≤ 1099511627776 := of_decide_eq_true hd
  unfold stpX
  split
  · exact ⟨hl, hb⟩
  · split
    · refine ⟨by simpa using hl, fun k => ?_⟩
      simp only [List.getD_eq_getElem?_getD, List.getElem?_set]
      split
      · split
        · simp only [Option.getD_some]; omega
        · simp
      · simpa [List.getD_eq_getElem?_getD] using hb k
    · exact ⟨hl, hb⟩
theorem runX_up {up : List Int} {ms : List DotV} (h : Up16 up) (hd : ∀ d ∈ ms, isD d = true) : ∀ k, k ≤ ms.length → Up16 (runX up ms k).1
  | 0, _ => h
  | k + 1, hk => by
    refine stpX_up (runX_up h hd k (by omega)) (hd _ ?_)
    have : k < ms.length := by omega
    simp only [List.getD, List.getElem?_eq_getElem this, Option.getD_some]
    exact List.getElem_mem this
theorem runX_len (up : List Int) (ms : List DotV) : ∀ k, (runX up ms k).2.length ≤ k
  | 0 => Nat.le_refl _
  | k + 1 => by
    have ih := runX_len up ms k
    rw [runX]
    unfold stpX
    repeat' split
    · omega
    · simp only; omega
    · simp only [List.length_append, List.length_singleton]; omega
theorem ddN_mem {ms : List DotV} : ∀ k, k ≤ ms.length → ∀ d ∈ ddN ms k, d ∈ ms
  | 0, _, d, h => by cases h
  | k + 1, hk, d, h => by
    have ih := ddN_mem (ms := ms) k (by omega)
    rw [ddN] at h
    split at h
    · exact ih d h
    · rw [List.mem_append] at h
      rcases h with h | h
      · exact ih d h
      · rw [List.mem_singleton] at h
        have hk' : k < ms.length := by omega
        rw [h]
        simp only [List.getD, List.getElem?_eq_getElem hk', Option.getD_some]
        exact List.getElem_mem hk'
theorem ddN_len {ms : List DotV} : ∀ k, (ddN ms k).length ≤ k
  | 0 => Nat.le_refl _
  | k + 1 => by
    have ih := ddN_len (ms := ms) k
    rw [ddN]
    split
    · omega
    · rw [List.length_append, List.length_singleton]; omega
end Go.Proofs.Ytjflmfmncepeeaa
