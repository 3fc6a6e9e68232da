/-
  The steps of the stable sort on an array, told by the lists that it is made of.
-/
import Derived.Test.YtkhmghmilnfngaaDoorSsa
import Derived.Shelf.SlSortCmp.KitK
namespace Go.Proofs.YtkhmghmilnfngaaDoor
set_option maxRecDepth 100000
open Go.Sort
set_option linter.unusedVariables false
set_option linter.unusedSectionVars false
set_option linter.unusedSimpArgs false

section
variable {α : Type} [Inhabited α] {lt : α → α → Bool}
theorem at_list {d : Array α} {X Z : List α} {x : α} (h : d.toList = X ++ x :: Z) : d[X.length]! = x := by
  have h1 : X.length < d.toList.length := by rw [h]; simp
  have h2 : X.length < d.size := by simpa using h1
  rw [getElem!_pos d X.length h2, ← Array.getElem_toList (h := h1)]
  simp [h]
theorem at_list' {d : Array α} {X Z : List α} {x : α} {i : Nat} (h : d.toList = X ++ x :: Z) (hi : i = X.length) : d[i]! = x ∧ i < d.size := by
  subst hi
  refine ⟨at_list h, ?_⟩
  have : X.length < d.toList.length := by rw [h]; simp
  simpa using this
theorem swp_toList (d : Array α) (i j : Nat) : (swp d i j).toList = (d.toList.set i d[j]!).set j d[i]! := by
  unfold swp
  simp
/-- Two elements are exchanged. -/
theorem swp_at {d : Array α} {X Y Z : List α} {x y : α} {i j : Nat} (h : d.toList = X ++ x :: (Y ++ y :: Z)) (hi : i = X.length) (hj : j = X.length + 1 + Y.length) :
    (swp d i j).toList = X ++ y :: (Y ++ x :: Z) ∧ (swp d j i).toList = X ++ y :: (Y ++ x :: Z) := by
  have e1 := (at_list' h hi).1
  have h' : d.toList = (X ++ x :: Y) ++ y :: Z := by rw [h]; simp
  have e2 := (at_list' h' (i := j) (by rw [hj]; simp; omega)).1
  rw [swp_toList, swp_toList, e1, e2, h]
  have hx : ∀ (u v : α), (X ++ u :: (Y ++ v :: Z)).set i y = X ++ y :: (Y ++ v :: Z) := fun u v => by
    rw [List.set_append_right _ _ (by omega), hi, Nat.sub_self]
    rfl
  have hy : ∀ (u v : α), (X ++ u :: (Y ++ v :: Z)).set j x = X ++ u :: (Y ++ x :: Z) := fun u v => by
    rw [List.set_append_right _ _ (by omega), hj, show X.length + 1 + Y.length - X.length = Y.length + 1 by omega, List.set_cons_succ, List.set_append_right _ _ (by omega), Nat.sub_self]
    rfl
  exact ⟨by rw [hx, hy], by rw [hy, hx]⟩
/-- Two blocks as long as each other, their first i exchanged. -/
def swpL (P U M V S : List α) (i : Nat) : List α := P ++ V.take i ++ U.drop i ++ M ++ U.take i ++ V.drop i ++ S
theorem swpL_start (P U M V S : List α) : swpL P U M V S 0 = P ++ U ++ M ++ V ++ S := by unfold swpL; simp
theorem swpL_end (P U M V S : List α) (n : Nat) (hU : U.length = n) (hV : V.length = n) : swpL P U M V S n = P ++ V ++ M ++ U ++ S := by
  unfold swpL
  rw [List.drop_of_length_le (by omega), List.drop_of_length_le (by omega), List.take_of_length_le (by omega), List.take_of_length_le (by omega)]
  simp
theorem swpL_step {d : Array α} {P U M V S : List α} {n i a b : Nat} (hU : U.length = n) (hV : V.length = n) (hi : i < n) (ha : a = P.length + i) (hb : b = P.length + n + M.length + i) (h : d.toList = swpL P U M V S i) : (swp d a b).toList = swpL P U M V S (i + 1) ∧ a < d.size ∧ b < d.size := by
  have eU : U.drop i = U[i]'(by omega) :: U.drop (i + 1) := List.drop_eq_getElem_cons (by omega)
  have eV : V.drop i = V[i]'(by omega) :: V.drop (i + 1) := List.drop_eq_getElem_cons (by omega)
  have tU : U.take (i + 1) = U.take i ++ [U[i]'(by omega)] := by rw [List.take_succ_eq_append_getElem (by omega)]
  have tV : V.take (i + 1) = V.take i ++ [V[i]'(by omega)] := by rw [List.take_succ_eq_append_getElem (by omega)]
  generalize U[i]'(by omega) = u at *
  generalize V[i]'(by omega) = v at *
  unfold swpL at h ⊢
  rw [eU, eV] at h
  have h1 : d.toList = (P ++ V.take i) ++ u :: ((U.drop (i + 1) ++ M ++ U.take i) ++ v :: (V.drop (i + 1) ++ S)) := by rw [h]; simp
  have l1 : a = (P ++ V.take i).length := by rw [List.length_append, List.length_take]; omega
  have l2 : b = (P ++ V.take i).length + 1 + (U.drop (i + 1) ++ M ++ U.take i).length := by
    simp only [List.length_append, List.length_take, List.length_drop]
    omega
  refine ⟨?_, (at_list' h1 l1).2, ?_⟩
  · rw [(swp_at h1 l1 l2).1, tU, tV]
    simp
  · have h2 : d.toList = ((P ++ V.take i) ++ u :: (U.drop (i + 1) ++ M ++ U.take i)) ++ v :: (V.drop (i + 1) ++ S) := by rw [h1]; simp
    exact (at_list' h2 (by rw [l2]; simp; omega)).2
/-- A merge is told by its parts: whoever merges first. -/
theorem mrg_assoc (hw : Wk lt) : ∀ (A B C : List α), mrg lt (mrg lt A B) C = mrg lt A (mrg lt B C)
  | [], B, C => by rw [mrg_nil, mrg_nil]
  | x :: A, [], C => by rw [mrg_nil', mrg_nil]
  | x :: A, y :: B, [] => by rw [mrg_nil', mrg_nil']
  | x :: A, y :: B, z :: C => by
    cases h1 : lt y x with
    | true =>
      cases h2 : lt z y with
      | true =>
        have h3 : lt z x = true := hw.lt_of h2 (hw.asym _ _ h1)
        have ih := mrg_assoc hw (x :: A) (y :: B) C
        rw [mrg_lt h1] at ih ⊢
        rw [mrg_lt h2, mrg_lt h2, mrg_lt h3, ih]
      | false =>
        have ih := mrg_assoc hw (x :: A) B (z :: C)
        rw [mrg_lt h1, mrg_ge h2, mrg_ge h2, mrg_lt h1, ih]
    | false =>
      cases h2 : lt z x with
      | true =>
        have h3 : lt z y = true := hw.lt_of h2 h1
        have ih := mrg_assoc hw (x :: A) (y :: B) C
        rw [mrg_ge h1] at ih ⊢
        rw [mrg_lt h2, mrg_lt h3, mrg_lt h2, ih]
      | false =>
        have ih := mrg_assoc hw A (y :: B) (z :: C)
        rw [mrg_ge h1, mrg_ge h2, ih]
        cases h3 : lt z y with
        | true => rw [mrg_lt h3, mrg_ge h2]
        | false => rw [mrg_ge h3, mrg_ge h1]
  termination_by A B C => A.length + B.length + C.length
theorem ssort_app (hw : Wk lt) : ∀ (A B : List α), ssort lt (A ++ B) = mrg lt (ssort lt A) (ssort lt B)
  | [], B => by rw [List.nil_append, ssort, mrg_nil]
  | x :: A, B => by rw [List.cons_append, ssort, ssort, ssort_app hw A B, mrg_assoc hw]
theorem ssort_srt (hw : Wk lt) : ∀ (A : List α), Srt lt (ssort lt A)
  | [] => List.Pairwise.nil
  | x :: A => by rw [ssort]; exact srt_mrg hw _ _ (List.pairwise_singleton _ _) (ssort_srt hw A)
theorem ssort_len : ∀ (A : List α), (ssort lt A).length = A.length
  | [] => rfl
  | x :: A => by rw [ssort, mrg_len, ssort_len A]; simp; omega
theorem mem_ssort {z : α} : ∀ (A : List α), z ∈ ssort lt A ↔ z ∈ A
  | [] => Iff.rfl
  | x :: A => by rw [ssort, mem_mrg, mem_ssort A]; simp
theorem ssort_one (x : α) : ssort lt [x] = [x] := by rw [ssort, ssort, mrg_nil']
/-- What is rising stays as it is. -/
theorem ssort_of_srt (hw : Wk lt) : ∀ {A : List α}, Srt lt A → ssort lt A = A
  | [], _ => rfl
  | x :: A, h => by
    have h' := List.pairwise_cons.1 h
    rw [ssort, ssort_of_srt hw h'.2]
    cases A with
    | nil => exact mrg_nil' _
    | cons y A => rw [mrg_ge (h'.1 y (List.mem_cons_self ..)), mrg_nil]
end
end Go.Proofs.YtkhmghmilnfngaaDoor
