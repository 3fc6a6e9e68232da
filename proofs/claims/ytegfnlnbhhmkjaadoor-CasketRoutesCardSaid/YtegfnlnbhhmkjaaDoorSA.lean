/-
  Merged: Ssa Ssb.
-/
import Derived.Test.YtegfnlnbhhmkjaaDoorBB
import Derived.Shelf.SlSortCmp.KitK
namespace Go.Proofs.YtegfnlnbhhmkjaaDoor
set_option maxRecDepth 100000
set_option linter.unusedVariables false
set_option linter.unusedSectionVars false
set_option linter.unusedSimpArgs false

section
variable {α : Type} (lt : α → α → Bool)
/-- lt tells which stands ahead: a strict weak order. -/
structure Wk : Prop where
  asym : ∀ x y, lt x y = true → lt y x = false
  tran : ∀ x y z, lt y x = false → lt z y = false → lt z x = false
/-- Rising. -/
def Srt (L : List α) : Prop := L.Pairwise fun x y => lt y x = false
/-- The stable merge: of like ones those of the first row stand ahead. -/
def mrg : List α → List α → List α
  | [], B => B
  | A, [] => A
  | x :: A, y :: B => if lt y x = true then y :: mrg (x :: A) B else x :: mrg A (y :: B)
  termination_by A B => A.length + B.length
/-- The stable sort. -/
def ssort : List α → List α
  | [] => []
  | x :: L => mrg lt [x] (ssort L)
end

section
variable {α : Type} {lt : α → α → Bool}
theorem Wk.lt_le (h : Wk lt) {x y z : α} (h1 : lt y x = true) (h2 : lt z y = false) : True := trivial
/-- Ahead of one, and that not behind a third: ahead of the third. -/
theorem Wk.lt_of (h : Wk lt) {x y z : α} (h1 : lt x y = true) (h2 : lt z y = false) : lt x z = true := by
  cases h3 : lt x z with
  | true => rfl
  | false =>
    have := h.tran y z x h2 h3
    rw [this] at h1
    cases h1
theorem Wk.of_lt (h : Wk lt) {x y z : α} (h1 : lt y x = false) (h2 : lt y z = true) : lt x z = true := by
  cases h3 : lt x z with
  | true => rfl
  | false =>
    have := h.tran z x y h3 h1
    rw [this] at h2
    cases h2
theorem mrg_nil (B : List α) : mrg lt [] B = B := by rw [mrg]
theorem mrg_nil' (A : List α) : mrg lt A [] = A := by
  cases A with
  | nil => rw [mrg]
  | cons x A => rw [mrg]; simp
theorem mrg_lt {x y : α} {A B : List α} (h : lt y x = true) : mrg lt (x :: A) (y :: B) = y :: mrg lt (x :: A) B := by
  rw [mrg, if_pos h]
theorem mrg_ge {x y : α} {A B : List α} (h : lt y x = false) : mrg lt (x :: A) (y :: B) = x :: mrg lt A (y :: B) := by
  rw [mrg, if_neg (by rw [h]; decide)]
theorem mem_mrg {z : α} : ∀ (A B : List α), z ∈ mrg lt A B ↔ z ∈ A ∨ z ∈ B
  | [], B => by rw [mrg_nil]; simp
  | x :: A, [] => by rw [mrg_nil']; simp
  | x :: A, y :: B => by
    cases h : lt y x with
    | true =>
      rw [mrg_lt h, List.mem_cons, mem_mrg (x :: A) B]
      simp only [List.mem_cons]
      grind
    | false =>
      rw [mrg_ge h, List.mem_cons, mem_mrg A (y :: B)]
      simp only [List.mem_cons]
      grind
  termination_by A B => A.length + B.length
theorem mrg_len : ∀ (A B : List α), (mrg lt A B).length = A.length + B.length
  | [], B => by rw [mrg_nil]; simp
  | x :: A, [] => by rw [mrg_nil']; simp
  | x :: A, y :: B => by
    cases h : lt y x with
    | true => rw [mrg_lt h, List.length_cons, mrg_len (x :: A) B]; simp only [List.length_cons]; omega
    | false => rw [mrg_ge h, List.length_cons, mrg_len A (y :: B)]; simp only [List.length_cons]; omega
  termination_by A B => A.length + B.length
theorem srt_mrg (hw : Wk lt) : ∀ (A B : List α), Srt lt A → Srt lt B → Srt lt (mrg lt A B)
  | [], B, _, hB => by rw [mrg_nil]; exact hB
  | x :: A, [], hA, _ => by rw [mrg_nil']; exact hA
  | x :: A, y :: B, hA, hB => by
    have hA' := List.pairwise_cons.1 hA
    have hB' := List.pairwise_cons.1 hB
    cases h : lt y x with
    | true =>
      rw [mrg_lt h]
      refine List.pairwise_cons.2 ⟨fun z hz => ?_, srt_mrg hw (x :: A) B hA hB'.2⟩
      rcases (mem_mrg _ _).1 hz with hz | hz
      · rcases List.mem_cons.1 hz with e | hz
        · rw [e]; exact hw.asym _ _ h
        · exact hw.tran y x z (hw.asym _ _ h) (hA'.1 z hz)
      · exact hB'.1 z hz
    | false =>
      rw [mrg_ge h]
      refine List.pairwise_cons.2 ⟨fun z hz => ?_, srt_mrg hw A (y :: B) hA'.2 hB⟩
      rcases (mem_mrg _ _).1 hz with hz | hz
      · exact hA'.1 z hz
      · rcases List.mem_cons.1 hz with e | hz
        · rw [e]; exact h
        · exact hw.tran x y z h (hB'.1 z hz)
  termination_by A B => A.length + B.length
/-- Where a merge parts. -/
theorem mrg_app : ∀ (A1 B1 A2 B2 : List α), (∀ x ∈ A1, ∀ y ∈ B2, lt y x = false) → (∀ x ∈ A2, ∀ y ∈ B1, lt y x = true) → mrg lt (A1 ++ A2) (B1 ++ B2) = mrg lt A1 B1 ++ mrg lt A2 B2
  | [], [], A2, B2, _, _ => by rw [mrg_nil]; rfl
  | [], y :: B1, [], B2, _, _ => by rw [List.nil_append, mrg_nil, mrg_nil, mrg_nil]
  | [], y :: B1, x :: A2, B2, h1, h2 => by
    have h := mrg_app [] B1 (x :: A2) B2 (fun _ hm => by cases hm) (fun x' hx y' hy => h2 x' hx y' (List.mem_cons_of_mem _ hy))
    rw [List.nil_append] at h ⊢
    rw [mrg_nil] at h ⊢
    rw [List.cons_append, mrg_lt (h2 x (List.mem_cons_self ..) y (List.mem_cons_self ..)), h]
    rfl
  | x :: A1, [], A2, [], _, _ => by rw [List.nil_append, mrg_nil', mrg_nil', mrg_nil']
  | x :: A1, [], A2, y :: B2, h1, h2 => by
    have h := mrg_app A1 [] A2 (y :: B2) (fun x' hx y' hy => h1 x' (List.mem_cons_of_mem _ hx) y' hy) (fun _ _ _ hm => by cases hm)
    rw [List.nil_append] at h ⊢
    rw [mrg_nil'] at h ⊢
    rw [List.cons_append, mrg_ge (h1 x (List.mem_cons_self ..) y (List.mem_cons_self ..)), h]
    rfl
  | x :: A1, y :: B1, A2, B2, h1, h2 => by
    cases h : lt y x with
    | true =>
      have ih := mrg_app (x :: A1) B1 A2 B2 h1 (fun x' hx y' hy => h2 x' hx y' (List.mem_cons_of_mem _ hy))
      rw [mrg_lt h, List.cons_append, List.cons_append, mrg_lt h, List.cons_append, ← List.cons_append, ih]
    | false =>
      have ih := mrg_app A1 (y :: B1) A2 B2 (fun x' hx y' hy => h1 x' (List.mem_cons_of_mem _ hx) y' hy) h2
      rw [mrg_ge h, List.cons_append, List.cons_append, mrg_ge h, List.cons_append, ← List.cons_append, ih]
  termination_by A1 B1 => A1.length + B1.length
theorem srt_get {L : List α} (h : Srt lt L) {i j : Nat} {x y : α} (hij : i < j) (hi : L[i]? = some x) (hj : L[j]? = some y) : lt y x = false := by
  obtain ⟨h1, rfl⟩ := List.getElem?_eq_some_iff.1 hi
  obtain ⟨h2, rfl⟩ := List.getElem?_eq_some_iff.1 hj
  exact List.pairwise_iff_getElem.1 h i j h1 h2 hij
theorem Wk.refl (hw : Wk lt) (x : α) : lt x x = false := by
  cases h : lt x x with
  | false => rfl
  | true => have := hw.asym x x h; rw [h] at this; cases this
theorem srt_get' (hw : Wk lt) {L : List α} (h : Srt lt L) {i j : Nat} {x y : α} (hij : i ≤ j) (hi : L[i]? = some x) (hj : L[j]? = some y) : lt y x = false := by
  rcases Nat.lt_or_eq_of_le hij with h1 | rfl
  · exact srt_get h h1 hi hj
  · rw [hi] at hj
    injection hj with e
    rw [← e]
    exact hw.refl x
theorem srt_take {L : List α} (h : Srt lt L) (k : Nat) : Srt lt (L.take k) := h.sublist (List.take_sublist k L)
theorem srt_drop {L : List α} (h : Srt lt L) (k : Nat) : Srt lt (L.drop k) := h.sublist (List.drop_sublist k L)
/-- Two rising rows, parted at i and k so that the bounds stand as they should: their merge is that of the first parts and that of the last. -/
theorem mrg_split (hw : Wk lt) {A B : List α} (hA : Srt lt A) (hB : Srt lt B) (i k : Nat)
    (h1 : ∀ x y, 0 < i → A[i - 1]? = some x → B[k]? = some y → lt y x = false) (h2 : ∀ x y, 0 < k → A[i]? = some x → B[k - 1]? = some y → lt y x = true) (hi : i ≤ A.length) (hk : k ≤ B.length) :
    mrg lt A B = mrg lt (A.take i) (B.take k) ++ mrg lt (A.drop i) (B.drop k) := by
  have h := mrg_app (lt := lt) (A.take i) (B.take k) (A.drop i) (B.drop k) (fun x hx y hy => ?_) (fun x hx y hy => ?_)
  · rwa [List.take_append_drop, List.take_append_drop] at h
  · obtain ⟨p, hp, rfl⟩ := List.mem_iff_getElem.1 hx
    obtain ⟨q, hq, rfl⟩ := List.mem_iff_getElem.1 hy
    rw [List.length_take] at hp
    rw [List.length_drop] at hq
    have e1 : A[p]? = some ((A.take i)[p]'(by rw [List.length_take]; omega)) := by rw [List.getElem_take, List.getElem?_eq_getElem]
    have e2 : B[k + q]? = some ((B.drop k)[q]'(by rw [List.length_drop]; omega)) := by rw [List.getElem_drop, List.getElem?_eq_getElem]
    have e3 : A[i - 1]? = some (A[i - 1]'(by omega)) := List.getElem?_eq_getElem (by omega)
    have e4 : B[k]? = some (B[k]'(by omega)) := List.getElem?_eq_getElem (by omega)
    exact hw.tran _ _ _ (hw.tran _ _ _ (srt_get' hw hA (by omega) e1 e3) (h1 _ _ (by omega) e3 e4)) (srt_get' hw hB (by omega) e4 e2)
  · obtain ⟨p, hp, rfl⟩ := List.mem_iff_getElem.1 hx
    obtain ⟨q, hq, rfl⟩ := List.mem_iff_getElem.1 hy
    rw [List.length_drop] at hp
    rw [List.length_take] at hq
    have e1 : A[i + p]? = some ((A.drop i)[p]'(by rw [List.length_drop]; omega)) := by rw [List.getElem_drop, List.getElem?_eq_getElem]
    have e2 : B[q]? = some ((B.take k)[q]'(by rw [List.length_take]; omega)) := by rw [List.getElem_take, List.getElem?_eq_getElem]
    have e3 : A[i]? = some (A[i]'(by omega)) := List.getElem?_eq_getElem (by omega)
    have e4 : B[k - 1]? = some (B[k - 1]'(by omega)) := List.getElem?_eq_getElem (by omega)
    exact hw.of_lt (srt_get' hw hB (by omega) e2 e4) (hw.lt_of (h2 _ _ (by omega) e3 e4) (srt_get' hw hA (by omega) e3 e1))
/-- One ahead of a row: it goes to where none ahead of it stands behind. -/
theorem mrg_one (x : α) (B : List α) (k : Nat) (hk : k ≤ B.length) (h1 : ∀ y ∈ B.take k, lt y x = true) (h2 : ∀ y, B[k]? = some y → lt y x = false) : mrg lt [x] B = B.take k ++ x :: B.drop k := by
  have h := mrg_app (lt := lt) [] (B.take k) [x] (B.drop k) (fun _ hm => by cases hm) (fun z hz y hy => by rw [List.mem_singleton.1 hz]; exact h1 y hy)
  rw [List.nil_append, List.take_append_drop, mrg_nil] at h
  rw [h]
  congr 1
  cases hd : B.drop k with
  | nil => exact mrg_nil' _
  | cons y D =>
    have e : B[k]? = some y := by
      have := congrArg (fun l => l[0]?) hd
      simpa using this
    rw [mrg_ge (h2 y e), mrg_nil]
/-- One behind a row. -/
theorem mrg_one' (A : List α) (y : α) (k : Nat) (hk : k ≤ A.length) (h1 : ∀ x ∈ A.take k, lt y x = false) (h2 : ∀ x, A[k]? = some x → lt y x = true) : mrg lt A [y] = A.take k ++ y :: A.drop k := by
  have h := mrg_app (lt := lt) (A.take k) [] (A.drop k) [y] (fun x hx z hz => by rw [List.mem_singleton.1 hz]; exact h1 x hx) (fun _ _ _ hm => by cases hm)
  rw [List.nil_append, List.take_append_drop, mrg_nil'] at h
  rw [h]
  congr 1
  cases hd : A.drop k with
  | nil => exact mrg_nil _
  | cons x D =>
    have e : A[k]? = some x := by
      have := congrArg (fun l => l[0]?) hd
      simpa using this
    rw [mrg_lt (h2 x e), mrg_nil']
end
end Go.Proofs.YtegfnlnbhhmkjaaDoor

namespace Go.Proofs.YtegfnlnbhhmkjaaDoor
set_option maxRecDepth 100000
open Go.Sort
set_option linter.unusedVariables false
set_option linter.unusedSectionVars false
set_option linter.unusedSimpArgs false

section
variable {α : Type} [Inhabited α] {lt : α → α → Bool}
theorem at_list {d : Array α} {X Z : List α} {x : α} (h : d.toList = X ++ x :: Z) : d[X.length]! = x := by
  have h1 : X.length < d.toList.length := by rw [h]; simp
  have h2 : X.length < d.size := by simpa using h1
  rw [getElem!_pos d X.length h2, ← Array.getElem_toList (h := h1)]
  simp [h]
theorem at_list' {d : Array α} {X Z : List α} {x : α} {i : Nat} (h : d.toList = X ++ x :: Z) (hi : i = X.length) : d[i]! = x ∧ i < d.size := by
  subst hi
  refine ⟨at_list h, ?_⟩
  have : X.length < d.toList.length := by rw [h]; simp
  simpa using this
theorem swp_toList (d : Array α) (i j : Nat) : (swp d i j).toList = (d.toList.set i d[j]!).set j d[i]! := by
  unfold swp
  simp
/-- Two elements are exchanged. -/
theorem swp_at {d : Array α} {X Y Z : List α} {x y : α} {i j : Nat} (h : d.toList = X ++ x :: (Y ++ y :: Z)) (hi : i = X.length) (hj : j = X.length + 1 + Y.length) :
    (swp d i j).toList = X ++ y :: (Y ++ x :: Z) ∧ (swp d j i).toList = X ++ y :: (Y ++ x :: Z) := by
  have e1 := (at_list' h hi).1
  have h' : d.toList = (X ++ x :: Y) ++ y :: Z := by rw [h]; simp
  have e2 := (at_list' h' (i := j) (by rw [hj]; simp; omega)).1
  rw [swp_toList, swp_toList, e1, e2, h]
  have hx : ∀ (u v : α), (X ++ u :: (Y ++ v :: Z)).set i y = X ++ y :: (Y ++ v :: Z) := fun u v => by
    rw [List.set_append_right _ _ (by omega), hi, Nat.sub_self]
    rfl
  have hy : ∀ (u v : α), (X ++ u :: (Y ++ v :: Z)).set j x = X ++ u :: (Y ++ x :: Z) := fun u v => by
    rw [List.set_append_right _ _ (by omega), hj, show X.length + 1 + Y.length - X.length = Y.length + 1 by omega, List.set_cons_succ, List.set_append_right _ _ (by omega), Nat.sub_self]
    rfl
  exact ⟨by rw [hx, hy], by rw [hy, hx]⟩
/-- Two blocks as long as each other, their first i exchanged. -/
def swpL (P U M V S : List α) (i : Nat) : List α := P ++ V.take i ++ U.drop i ++ M ++ U.take i ++ V.drop i ++ S
theorem swpL_start (P U M V S : List α) : swpL P U M V S 0 = P ++ U ++ M ++ V ++ S := by unfold swpL; simp
theorem swpL_end (P U M V S : List α) (n : Nat) (hU : U.length = n) (hV : V.length = n) : swpL P U M V S n = P ++ V ++ M ++ U ++ S := by
  unfold swpL
  rw [List.drop_of_length_le (by omega), List.drop_of_length_le (by omega), List.take_of_length_le (by omega), List.take_of_length_le (by omega)]
  simp
theorem swpL_step {d : Array α} {P U M V S : List α} {n i a b : Nat} (hU : U.length = n) (hV : V.length = n) (hi : i < n) (ha : a = P.length + i) (hb : b = P.length + n + M.length + i) (h : d.toList = swpL P U M V S i) : (swp d a b).toList = swpL P U M V S (i + 1) ∧ a < d.size ∧ b < d.size := by
  have eU : U.drop i = U[i]'(by omega) :: U.drop (i + 1) := List.drop_eq_getElem_cons (by omega)
  have eV : V.drop i = V[i]'(by omega) :: V.drop (i + 1) := List.drop_eq_getElem_cons (by omega)
  have tU : U.take (i + 1) = U.take i ++ [U[i]'(by omega)] := by rw [List.take_succ_eq_append_getElem (by omega)]
  have tV : V.take (i + 1) = V.take i ++ [V[i]'(by omega)] := by rw [List.take_succ_eq_append_getElem (by omega)]
  generalize U[i]'(by omega) = u at *
  generalize V[i]'(by omega) = v at *
  unfold swpL at h ⊢
  rw [eU, eV] at h
  have h1 : d.toList = (P ++ V.take i) ++ u :: ((U.drop (i + 1) ++ M ++ U.take i) ++ v :: (V.drop (i + 1) ++ S)) := by rw [h]; simp
  have l1 : a = (P ++ V.take i).length := by rw [List.length_append, List.length_take]; omega
  have l2 : b = (P ++ V.take i).length + 1 + (U.drop (i + 1) ++ M ++ U.take i).length := by
    simp only [List.length_append, List.length_take, List.length_drop]
    omega
  refine ⟨?_, (at_list' h1 l1).2, ?_⟩
  · rw [(swp_at h1 l1 l2).1, tU, tV]
    simp
  · have h2 : d.toList = ((P ++ V.take i) ++ u :: (U.drop (i + 1) ++ M ++ U.take i)) ++ v :: (V.drop (i + 1) ++ S) := by rw [h1]; simp
    exact (at_list' h2 (by rw [l2]; simp; omega)).2
/-- A merge is told by its parts: whoever merges first. -/
theorem mrg_assoc (hw : Wk lt) : ∀ (A B C : List α), mrg lt (mrg lt A B) C = mrg lt A (mrg lt B C)
  | [], B, C => by rw [mrg_nil, mrg_nil]
  | x :: A, [], C => by rw [mrg_nil', mrg_nil]
  | x :: A, y :: B, [] => by rw [mrg_nil', mrg_nil']
  | x :: A, y :: B, z :: C => by
    cases h1 : lt y x with
    | true =>
      cases h2 : lt z y with
      | true =>
        have h3 : lt z x = true := hw.lt_of h2 (hw.asym _ _ h1)
        have ih := mrg_assoc hw (x :: A) (y :: B) C
        rw [mrg_lt h1] at ih ⊢
        rw [mrg_lt h2, mrg_lt h2, mrg_lt h3, ih]
      | false =>
        have ih := mrg_assoc hw (x :: A) B (z :: C)
        rw [mrg_lt h1, mrg_ge h2, mrg_ge h2, mrg_lt h1, ih]
    | false =>
      cases h2 : lt z x with
      | true =>
        have h3 : lt z y = true := hw.lt_of h2 h1
        have ih := mrg_assoc hw (x :: A) (y :: B) C
        rw [mrg_ge h1] at ih ⊢
        rw [mrg_lt h2, mrg_lt h3, mrg_lt h2, ih]
      | false =>
        have ih := mrg_assoc hw A (y :: B) (z :: C)
        rw [mrg_ge h1, mrg_ge h2, ih]
        cases h3 : lt z y with
        | true => rw [mrg_lt h3, mrg_ge h2]
        | false => rw [mrg_ge h3, mrg_ge h1]
  termination_by A B C => A.length + B.length + C.length
theorem ssort_app (hw : Wk lt) : ∀ (A B : List α), ssort lt (A ++ B) = mrg lt (ssort lt A) (ssort lt B)
  | [], B => by rw [List.nil_append, ssort, mrg_nil]
  | x :: A, B => by rw [List.cons_append, ssort, ssort, ssort_app hw A B, mrg_assoc hw]
theorem ssort_srt (hw : Wk lt) : ∀ (A : List α), Srt lt (ssort lt A)
  | [] => List.Pairwise.nil
  | x :: A => by rw [ssort]; exact srt_mrg hw _ _ (List.pairwise_singleton _ _) (ssort_srt hw A)
theorem ssort_len : ∀ (A : List α), (ssort lt A).length = A.length
  | [] => rfl
  | x :: A => by rw [ssort, mrg_len, ssort_len A]; simp; omega
theorem mem_ssort {z : α} : ∀ (A : List α), z ∈ ssort lt A ↔ z ∈ A
  | [] => Iff.rfl
  | x :: A => by rw [ssort, mem_mrg, mem_ssort A]; simp
theorem ssort_one (x : α) : ssort lt [x] = [x] := by rw [ssort, ssort, mrg_nil']
/-- What is rising stays as it is. -/
theorem ssort_of_srt (hw : Wk lt) : ∀ {A : List α}, Srt lt A → ssort lt A = A
  | [], _ => rfl
  | x :: A, h => by
    have h' := List.pairwise_cons.1 h
    rw [ssort, ssort_of_srt hw h'.2]
    cases A with
    | nil => exact mrg_nil' _
    | cons y A => rw [mrg_ge (h'.1 y (List.mem_cons_self ..)), mrg_nil]
end
end Go.Proofs.YtegfnlnbhhmkjaaDoor
