/-
  slices.symMergeCmpFunc as plain mathematics: where its search ends the merge parts; one element among a rising row; an element moved on.
-/
import Derived.Test.YtkhmghmilnfngaaDoorSsb
namespace Go.Proofs.YtkhmghmilnfngaaDoor
set_option maxRecDepth 100000
open Go.Sort
set_option linter.unusedVariables false
set_option linter.unusedSectionVars false
set_option linter.unusedSimpArgs false

section
variable {α : Type} [Inhabited α] {lt : α → α → Bool}
/-- One ahead of a rising row, told by the search's bounds. -/
theorem mrg_one_b (hw : Wk lt) (x : α) {B : List α} (hB : Srt lt B) (k : Nat) (hk : k ≤ B.length) (h1 : ∀ y, 0 < k → B[k - 1]? = some y → lt y x = true) (h2 : ∀ y, B[k]? = some y → lt y x = false) : mrg lt [x] B = B.take k ++ x :: B.drop k :=
  mrg_one x B k hk (fun y hy => by
    obtain ⟨q, hq, rfl⟩ := List.mem_iff_getElem.1 hy
    rw [List.length_take] at hq
    have gq : B[q]? = some ((B.take k)[q]'(by rw [List.length_take]; omega)) := by rw [List.getElem_take, List.getElem?_eq_getElem]
    have gk : B[k - 1]? = some (B[k - 1]'(by omega)) := List.getElem?_eq_getElem (by omega)
    exact hw.of_lt (srt_get' hw hB (by omega) gq gk) (h1 _ (by omega) gk)) h2
/-- One behind a rising row. -/
theorem mrg_one_b' (hw : Wk lt) {A : List α} (hA : Srt lt A) (y : α) (k : Nat) (hk : k ≤ A.length) (h1 : ∀ x, 0 < k → A[k - 1]? = some x → lt y x = false) (h2 : ∀ x, A[k]? = some x → lt y x = true) : mrg lt A [y] = A.take k ++ y :: A.drop k :=
  mrg_one' A y k hk (fun x hx => by
    obtain ⟨q, hq, rfl⟩ := List.mem_iff_getElem.1 hx
    rw [List.length_take] at hq
    have gq : A[q]? = some ((A.take k)[q]'(by rw [List.length_take]; omega)) := by rw [List.getElem_take, List.getElem?_eq_getElem]
    have gk : A[k - 1]? = some (A[k - 1]'(by omega)) := List.getElem?_eq_getElem (by omega)
    exact hw.tran _ _ _ (srt_get' hw hA (by omega) gq gk) (h1 _ (by omega) gk)) h2
/-- Where the search of symMerge may end: from lo to hi. -/
def symLo (u v : Nat) : Nat := if (u + v) / 2 < u then (u + v) / 2 - v else 0
def symHi (u v : Nat) : Nat := if (u + v) / 2 < u then (u + v) / 2 else u
theorem sym_le {u v i : Nat} (h1 : symLo u v ≤ i) (h2 : i ≤ symHi u v) : i ≤ u ∧ i ≤ (u + v) / 2 ∧ (u + v) / 2 - i ≤ v := by
  unfold symLo at h1
  unfold symHi at h2
  split at h1 <;> split at h2 <;> omega
/-- Where it ends: each bound stands as the test behind it said. -/
theorem sym_split (hw : Wk lt) {A B : List α} (hA : Srt lt A) (hB : Srt lt B) {u v i : Nat} (hu : A.length = u) (hv : B.length = v) (hlo : symLo u v ≤ i) (hhi : i ≤ symHi u v)
    (h1 : ∀ x y, symLo u v < i → A[i - 1]? = some x → B[(u + v) / 2 - 1 - (i - 1)]? = some y → lt y x = false) (h2 : ∀ x y, i < symHi u v → A[i]? = some x → B[(u + v) / 2 - 1 - i]? = some y → lt y x = true) :
    mrg lt A B = mrg lt (A.take i) (B.take ((u + v) / 2 - i)) ++ mrg lt (A.drop i) (B.drop ((u + v) / 2 - i)) := by
  obtain ⟨e1, e2, e3⟩ := sym_le hlo hhi
  refine mrg_split hw hA hB i ((u + v) / 2 - i) (fun x y h0 hx hy => ?_) (fun x y h0 hx hy => ?_) (by omega) (by omega)
  · have hy2 := (List.getElem?_eq_some_iff.1 hy).1
    refine h1 x y ?_ hx (by rw [show (u + v) / 2 - 1 - (i - 1) = (u + v) / 2 - i by omega]; exact hy)
    unfold symLo at hlo ⊢
    split at hlo <;> split <;> omega
  · have hx2 := (List.getElem?_eq_some_iff.1 hx).1
    refine h2 x y ?_ hx (by rw [show (u + v) / 2 - 1 - i = (u + v) / 2 - i - 1 by omega]; exact hy)
    unfold symHi at hhi ⊢
    split at hhi <;> split <;> omega
/-- An element that has gone r places into a row. -/
def movL (P B S : List α) (x : α) (r : Nat) : List α := P ++ B.take r ++ x :: (B.drop r ++ S)
theorem mov_right {d : Array α} {P B S : List α} {x : α} {r i j : Nat} (h : d.toList = movL P B S x r) (hr : r < B.length) (hi : i = P.length + r) (hj : j = i + 1) : (swp d i j).toList = movL P B S x (r + 1) ∧ (swp d j i).toList = movL P B S x (r + 1) ∧ i < d.size ∧ j < d.size := by
  have eB : B.drop r = B[r] :: B.drop (r + 1) := List.drop_eq_getElem_cons hr
  have tB : B.take (r + 1) = B.take r ++ [B[r]] := by rw [List.take_succ_eq_append_getElem hr]
  unfold movL at h ⊢
  rw [eB] at h
  rw [tB]
  generalize B[r] = y at *
  have h1 : d.toList = (P ++ B.take r) ++ x :: ([] ++ y :: (B.drop (r + 1) ++ S)) := by rw [h]; simp
  have l1 : i = (P ++ B.take r).length := by rw [List.length_append, List.length_take]; omega
  have l2 : j = (P ++ B.take r).length + 1 + ([] : List α).length := by rw [← l1, List.length_nil]; omega
  have h2 : d.toList = ((P ++ B.take r) ++ [x]) ++ y :: (B.drop (r + 1) ++ S) := by rw [h1]; simp
  refine ⟨by rw [(swp_at h1 l1 l2).1]; simp, by rw [(swp_at h1 l1 l2).2]; simp, (at_list' h1 l1).2, (at_list' h2 (i := j) ?_).2⟩
  simp only [List.length_append, List.length_cons, List.length_nil] at l2 ⊢
  omega
theorem mov_left {d : Array α} {P A S : List α} {y : α} {r i j : Nat} (h : d.toList = movL P A S y (r + 1)) (hr : r < A.length) (hi : i = P.length + r) (hj : j = i + 1) : (swp d j i).toList = movL P A S y r ∧ i < d.size ∧ j < d.size := by
  have eA : A.drop r = A[r] :: A.drop (r + 1) := List.drop_eq_getElem_cons hr
  have tA : A.take (r + 1) = A.take r ++ [A[r]] := by rw [List.take_succ_eq_append_getElem hr]
  unfold movL at h ⊢
  rw [tA] at h
  rw [eA]
  generalize A[r] = x at *
  have h1 : d.toList = (P ++ A.take r) ++ x :: ([] ++ y :: (A.drop (r + 1) ++ S)) := by rw [h]; simp
  have l1 : i = (P ++ A.take r).length := by rw [List.length_append, List.length_take]; omega
  have l2 : j = (P ++ A.take r).length + 1 + ([] : List α).length := by rw [← l1, List.length_nil]; omega
  have h2 : d.toList = ((P ++ A.take r) ++ [x]) ++ y :: (A.drop (r + 1) ++ S) := by rw [h1]; simp
  refine ⟨by rw [(swp_at h1 l1 l2).2]; simp, (at_list' h1 l1).2, (at_list' h2 (i := j) ?_).2⟩
  simp only [List.length_append, List.length_cons, List.length_nil] at l2 ⊢
  omega
end
end Go.Proofs.YtkhmghmilnfngaaDoor
