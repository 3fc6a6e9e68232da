/-
  What holds in a drawn region of one that reads, lays, appends and stores, by how far it has come; a disk's Write.
-/
import Derived.Test.YtibnfldddpmafaaDkd
namespace Go.Proofs.Ytibnfldddpmafaa
open Go.RowKit
set_option linter.unusedVariables false
set_option linter.unusedSimpArgs false

/-- Each of a way's operations waits for the one ahead of it. -/
def wayB (deps : Nat → List Nat) : List Nat → Bool
  | a :: b :: l => (deps b).contains a && wayB deps (b :: l)
  | _ => true
theorem way_down {deps : Nat → List Nat} {D : Nat → Bool} (cl : ∀ i, D i = true → ∀ j ∈ deps i, D j = true) : ∀ (l : List Nat) (i k : Nat), wayB deps (i :: l) = true → (i :: l).getLast? = some k → D i = false → D k = false
  | [], i, k, _, hk, h => by
    simp at hk
    subst hk
    exact h
  | b :: l, i, k, hw, hk, h => by
    simp only [wayB, Bool.and_eq_true, List.contains_iff_mem] at hw
    have hb : D b = false := by
      cases e : D b with
      | false => rfl
      | true => rw [cl b e i hw.1] at h; cases h
    exact way_down cl l b k hw.2 (by simpa using hk) hb
theorem ls0 {D : Nat → Bool} : ∀ j ∈ ([] : List Nat), D j = true := fun _ h => (by cases h)
theorem ls1 {D : Nat → Bool} {a : Nat} (h : D a = true) : ∀ j ∈ [a], D j = true := fun j hj => by simp at hj; subst hj; exact h
theorem ls2 {D : Nat → Bool} {a b : Nat} (h : D a = true) (h2 : D b = true) : ∀ j ∈ [a, b], D j = true := fun j hj => by
  simp at hj
  rcases hj with rfl | rfl <;> assumption
theorem ls3 {D : Nat → Bool} {a b c : Nat} (h : D a = true) (h2 : D b = true) (h3 : D c = true) : ∀ j ∈ [a, b, c], D j = true := fun j hj => by
  simp at hj
  rcases hj with rfl | rfl | rfl <;> assumption
/-- One store, its last one: Old holds ahead of it, Fin behind it. -/
structure PhJ (deps : Nat → List Nat) (iS : Nat) (Old Fin : World → Prop) (D : Nat → Bool) (a : Act) (W : World) : Prop where
  cl : ∀ i, D i = true → ∀ j ∈ deps i, D j = true
  old : D iS = false → Old W
  fin : D iS = true → Fin W
section
variable {deps : Nat → List Nat} {iS : Nat} {Old Fin : World → Prop} {D : Nat → Bool} {a a' : Act} {W W' : World}
theorem PhJ.start (h : Old W) : PhJ deps iS Old Fin (fun _ => false) a W := ⟨fun _ e => (by cases e), fun _ => h, fun e => (by cases e)⟩
theorem cl_or {i : Nat} (cl : ∀ i, D i = true → ∀ j ∈ deps i, D j = true) (hd : ∀ j ∈ deps i, D j = true) : ∀ k, (decide (k = i) || D k) = true → ∀ j ∈ deps k, (decide (j = i) || D j) = true := fun k hk j hj => by
  by_cases h : k = i
  · subst h
    simp [hd j hj]
  · have : D k = true := by simpa [h] using hk
    simp [cl k this j hj]
theorem PhJ.same (h : PhJ deps iS Old Fin D a W) (i : Nat) (hi : iS ≠ i) (hd : ∀ j ∈ deps i, D j = true) : PhJ deps iS Old Fin (fun j => decide (j = i) || D j) a' W :=
  ⟨cl_or h.cl hd, by rw [orf_ne hi]; exact h.old, by rw [orf_ne hi]; exact h.fin⟩
theorem PhJ.store (h : PhJ deps iS Old Fin D a W) (hd : ∀ j ∈ deps iS, D j = true) (hF : Fin W') : PhJ deps iS Old Fin (fun j => decide (j = iS) || D j) a' W' :=
  ⟨cl_or h.cl hd, fun e => (by rw [orf_eq] at e; cases e), fun _ => hF⟩
theorem PhJ.get (h : PhJ deps iS Old Fin D a W) (i : Nat) (l : List Nat) (hw : wayB deps (i :: l) = true) (hk : (i :: l).getLast? = some iS) (hi : D i = false) : Old W := h.old (way_down h.cl l i iS hw hk hi)
end
/-- A slice of one laid, an append, a store: ib, ia, iS their places; db, da the slots of the first two. -/
structure ApP (deps : Nat → List Nat) (ib db ia da iS : Nat) (W0 : World) (Old : World → Prop) (Pb Pa : Value → World → Prop) (Fin : World → Prop) (D : Nat → Bool) (a : Act) (W : World) : Prop where
  cl : ∀ i, D i = true → ∀ j ∈ deps i, D j = true
  old : D iS = false → Old W
  z : D ib = false → W = W0
  b : D ib = true → D ia = false → Pb (a.tmps.getD db undef) W
  c : D ia = true → D iS = false → Pa (a.tmps.getD da undef) W
  fin : D iS = true → Fin W
section
variable {deps : Nat → List Nat} {ib db ia da iS : Nat} {W0 : World} {Old : World → Prop} {Pb Pa : Value → World → Prop} {Fin : World → Prop} {D : Nat → Bool} {a : Act} {W W' : World}
theorem ApP.start (h : Old W0) : ApP deps ib db ia da iS W0 Old Pb Pa Fin (fun _ => false) a W0 := ⟨fun _ e => (by cases e), fun _ => h, fun _ => rfl, fun e => (by cases e), fun e => (by cases e), fun e => (by cases e)⟩
theorem put_otherD {s d : Nat} {a : Act} {v : Value} (h : d ≠ s) : (a.put (some s) v).tmps.getD d undef = a.tmps.getD d undef := by
  simp [Act.put, Array.getElem?_setIfInBounds, Ne.symm h]
theorem put_selfD {s : Nat} {a : Act} {v : Value} (h : s < a.tmps.size) : (a.put (some s) v).tmps.getD s undef = v := by
  simp [Act.put, Array.getElem?_setIfInBounds, h]
theorem ApP.same (h : ApP deps ib db ia da iS W0 Old Pb Pa Fin D a W) (i s : Nat) (v : Value) (hi : ib ≠ i ∧ ia ≠ i ∧ iS ≠ i) (hs : db ≠ s ∧ da ≠ s) (hd : ∀ j ∈ deps i, D j = true) : ApP deps ib db ia da iS W0 Old Pb Pa Fin (fun j => decide (j = i) || D j) (a.put (some s) v) W := by
  refine ⟨cl_or h.cl hd, ?_, ?_, ?_, ?_, ?_⟩
  · rw [orf_ne hi.2.2]; exact h.old
  · rw [orf_ne hi.1]; exact h.z
  · rw [orf_ne hi.1, orf_ne hi.2.1, put_otherD hs.1]; exact h.b
  · rw [orf_ne hi.2.1, orf_ne hi.2.2, put_otherD hs.2]; exact h.c
  · rw [orf_ne hi.2.2]; exact h.fin
theorem ApP.get (h : ApP deps ib db ia da iS W0 Old Pb Pa Fin D a W) (i : Nat) (l : List Nat) (hw : wayB deps (i :: l) = true) (hk : (i :: l).getLast? = some iS) (hi : D i = false) : Old W := h.old (way_down h.cl l i iS hw hk hi)
theorem ApP.lay (h : ApP deps ib db ia da iS W0 Old Pb Pa Fin D a W) (v : Value) (hL : D ib = false) (hi : ia ≠ ib ∧ iS ≠ ib) (hd : ∀ j ∈ deps ib, D j = true) (w1 : wayB deps [ib, ia] = true) (w2 : wayB deps [ib, ia, iS] = true) (hsz : db < a.tmps.size) (hO : Old W') (hp : Pb v W') :
    ApP deps ib db ia da iS W0 Old Pb Pa Fin (fun j => decide (j = ib) || D j) (a.put (some db) v) W' := by
  have ha := way_down h.cl [ia] ib ia w1 rfl hL
  have hS := way_down h.cl [ia, iS] ib iS w2 rfl hL
  refine ⟨cl_or h.cl hd, fun _ => hO, fun e => ?_, fun _ _ => ?_, fun e => ?_, fun e => ?_⟩
  · rw [orf_eq] at e; cases e
  · rw [put_selfD hsz]; exact hp
  · rw [orf_ne hi.1, ha] at e; cases e
  · rw [orf_ne hi.2, hS] at e; cases e
theorem ApP.app (h : ApP deps ib db ia da iS W0 Old Pb Pa Fin D a W) (v : Value) (hL : D ia = false) (hi : ib ≠ ia ∧ iS ≠ ia) (hd : ∀ j ∈ deps ia, D j = true) (hib : D ib = true) (w2 : wayB deps [ia, iS] = true) (hsz : da < a.tmps.size) (hO : Old W') (hp : Pa v W') :
    ApP deps ib db ia da iS W0 Old Pb Pa Fin (fun j => decide (j = ia) || D j) (a.put (some da) v) W' := by
  have hS := way_down h.cl [iS] ia iS w2 rfl hL
  refine ⟨cl_or h.cl hd, fun _ => hO, fun e => ?_, fun _ e => ?_, fun _ _ => ?_, fun e => ?_⟩
  · rw [orf_ne hi.1, hib] at e; cases e
  · rw [orf_eq] at e; cases e
  · rw [put_selfD hsz]; exact hp
  · rw [orf_ne hi.2, hS] at e; cases e
theorem ApP.store (h : ApP deps ib db ia da iS W0 Old Pb Pa Fin D a W) (hi : ib ≠ iS ∧ ia ≠ iS) (hd : ∀ j ∈ deps iS, D j = true) (hib : D ib = true) (hia : D ia = true) (a' : Act) (hF : Fin W') :
    ApP deps ib db ia da iS W0 Old Pb Pa Fin (fun j => decide (j = iS) || D j) a' W' := by
  refine ⟨cl_or h.cl hd, fun e => ?_, fun e => ?_, fun _ e => ?_, fun _ e => ?_, fun _ => hF⟩
  · rw [orf_eq] at e; cases e
  · rw [orf_ne hi.1, hib] at e; cases e
  · rw [orf_ne hi.2, hia] at e; cases e
  · rw [orf_eq] at e; cases e
end
end Go.Proofs.Ytibnfldddpmafaa
