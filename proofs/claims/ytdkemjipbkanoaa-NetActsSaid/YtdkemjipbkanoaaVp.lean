/-
  The two lists of rows tell the same.
-/
import Derived.Test.YtdkemjipbkanoaaVo
namespace Go.Proofs.Ytdkemjipbkanoaa
open Go.RowKit
set_option linter.unusedVariables false
set_option linter.unusedSimpArgs false

theorem gset {L : List (List (List UInt8))} {i j : Nat} {v : List (List UInt8)} (h : i < L.length) : (L.set i v).getD j [] = if i = j then v else L.getD j [] := by
  rw [List.getD_eq_getElem?_getD, List.getD_eq_getElem?_getD, List.getElem?_set]
  by_cases e : i = j
  · subst e
    rw [if_pos rfl, if_pos rfl, if_pos h]
    rfl
  · rw [if_neg e, if_neg e]
structure RelZ (n t : Nat) (L Z : List (List (List UInt8))) : Prop where
  ll : L.length = 2 * n
  zl : Z.length = 2 * n
  rel : ∀ k, k < n → Z.getD k [] = L.getD (k * 2) [] ∧ Z.getD (n + k) [] = L.getD (k * 2 + 1) []
  cap : ∀ k, k < n → (L.getD (k * 2) []).length ≤ 64 ∧ (L.getD (k * 2 + 1) []).length ≤ t
  short : ∀ j m, m ∈ L.getD j [] → m.length ≤ 30
section
variable {n t : Nat} {L Z : List (List (List UInt8))}
theorem RelZ.start (n : Nat) : RelZ n 0 (List.replicate (2 * n) []) (List.replicate (2 * n) []) := by
  have e : ∀ j, (List.replicate (2 * n) ([] : List (List UInt8))).getD j [] = [] := fun j => by
    rw [List.getD_eq_getElem?_getD, List.getElem?_replicate]
    split <;> rfl
  refine ⟨by simp, by simp, fun k hk => by simp only [e, and_self], fun k hk => by simp only [e]; simp, fun j m hm => ?_⟩
  rw [e] at hm
  cases hm
theorem RelZ.more (h : RelZ n t L Z) {t' : Nat} (ht : t ≤ t') : RelZ n t' L Z := ⟨h.ll, h.zl, h.rel, fun k hk => ⟨(h.cap k hk).1, Nat.le_trans (h.cap k hk).2 ht⟩, h.short⟩
/-- A box's row is another one now. -/
theorem RelZ.box (h : RelZ n t L Z) (k : Nat) (hk : k < n) (l : List (List UInt8)) (hl : l.length ≤ 64) (hs : ∀ m ∈ l, m.length ≤ 30) : RelZ n t (L.set (k * 2) l) (Z.set k l) := by
  have h1 : k * 2 < L.length := by rw [h.ll]; omega
  have h2 : k < Z.length := by rw [h.zl]; omega
  refine ⟨by rw [List.length_set]; exact h.ll, by rw [List.length_set]; exact h.zl, fun j hj => ?_, fun j hj => ?_, fun j m hm => ?_⟩
  · rw [gset h1, gset h2, gset h1, gset h2]
    rw [if_neg (show ¬ k = n + j by omega), if_neg (show ¬ k * 2 = j * 2 + 1 by omega)]
    refine ⟨?_, (h.rel j hj).2⟩
    by_cases e : k = j
    · rw [if_pos e, if_pos (by omega)]
    · rw [if_neg e, if_neg (by omega)]; exact (h.rel j hj).1
  · rw [gset h1, gset h1, if_neg (show ¬ k * 2 = j * 2 + 1 by omega)]
    refine ⟨?_, (h.cap j hj).2⟩
    split
    · exact hl
    · exact (h.cap j hj).1
  · rw [gset h1] at hm
    split at hm
    · exact hs m hm
    · exact h.short j m hm
/-- What was taken out of a box is one more. -/
theorem RelZ.kept (h : RelZ n t L Z) (k : Nat) (hk : k < n) (m : List UInt8) (hm : m.length ≤ 30) : RelZ n (t + 1) (L.set (k * 2 + 1) (L.getD (k * 2 + 1) [] ++ [m])) (Z.set (n + k) (Z.getD (n + k) [] ++ [m])) := by
  have h1 : k * 2 + 1 < L.length := by rw [h.ll]; omega
  have h2 : n + k < Z.length := by rw [h.zl]; omega
  refine ⟨by rw [List.length_set]; exact h.ll, by rw [List.length_set]; exact h.zl, fun j hj => ?_, fun j hj => ?_, fun j x hx => ?_⟩
  · rw [gset h1, gset h2, gset h1, gset h2]
    rw [if_neg (show ¬ n + k = j by omega), if_neg (show ¬ k * 2 + 1 = j * 2 by omega)]
    refine ⟨(h.rel j hj).1, ?_⟩
    by_cases e : k = j
    · rw [if_pos (by omega), if_pos (by omega), (h.rel k hk).2]
    · rw [if_neg (by omega), if_neg (by omega)]; exact (h.rel j hj).2
  · rw [gset h1, gset h1, if_neg (show ¬ k * 2 + 1 = j * 2 by omega)]
    refine ⟨(h.cap j hj).1, ?_⟩
    split
    · rw [List.length_append, List.length_singleton]
      have := (h.cap k hk).2
      omega
    · exact Nat.le_trans (h.cap j hj).2 (Nat.le_succ _)
  · rw [gset h1] at hx
    split at hx
    · rw [List.mem_append, List.mem_singleton] at hx
      rcases hx with e | e
      · exact h.short _ x e
      · rw [e]; exact hm
    · exact h.short j x hx
theorem RelZ.errs (h : RelZ n t L Z) (k : Nat) (hk : k < n) : sendE Z k = addE L k := by
  unfold sendE addE
  rw [(h.rel k hk).1]
theorem RelZ.send (h : RelZ n t L Z) (k : Nat) (hk : k < n) (m : List UInt8) (hm : m.length ≤ 30) : RelZ n t (addL L k m) (sendZ Z k m) := by
  unfold addL sendZ
  rw [(h.rel k hk).1]
  split
  · exact h
  · refine h.box k hk _ ?_ fun x hx => ?_
    · rw [List.length_append, List.length_singleton]
      omega
    · rw [List.mem_append, List.mem_singleton] at hx
      rcases hx with e | e
      · exact h.short _ x e
      · rw [e]; exact hm
theorem getD_mem {l : List (List UInt8)} {i : Nat} (h : i < l.length) : l.getD i [] ∈ l := by
  rw [List.getD_eq_getElem?_getD, List.getElem?_eq_getElem h]
  exact List.getElem_mem h
theorem RelZ.take (h : RelZ n t L Z) (k : Nat) (hk : k < n) (i : Nat) (hi : i < (L.getD (k * 2) []).length) : RelZ n (t + 1) (takeL L k i) (takeZ Z n k i) := by
  unfold takeL takeZ
  rw [(h.rel k hk).1]
  have hb := h.box k hk ((L.getD (k * 2) []).eraseIdx i) (by rw [List.length_eraseIdx]; have := (h.cap k hk).1; split <;> omega) (fun m hm => h.short _ m (List.mem_of_mem_eraseIdx hm))
  have hc := hb.kept k hk ((L.getD (k * 2) []).getD i []) (h.short _ _ (getD_mem hi))
  rw [gset (by rw [h.ll]; omega), gset (by rw [h.zl]; omega), if_neg (by omega), if_neg (by omega)] at hc
  exact hc
theorem RelZ.clear (h : RelZ n t L Z) (k : Nat) (hk : k < n) : RelZ n t (L.set (k * 2) []) (Z.set k []) := h.box k hk [] (by simp) (fun m hm => by cases hm)
end
end Go.Proofs.Ytdkemjipbkanoaa
