/-
  Two calls, one behind the other, in a drawn region, and two names for what they gave: told together.
-/
import Derived.Test.YtoeofifibjelnaaDoorYm
namespace Go.Proofs.YtoeofifibjelnaaDoor
set_option maxRecDepth 100000
open Go.ChangeShapes Go.WideShapes Go.ChangeAt Go.RowKit
set_option linter.unusedVariables false
set_option linter.unusedSimpArgs false

structure JT (i1 i2 i3 i4 s1 s2 d1 d2 : Nat) (P1 : Value → World → Prop) (P2 : Value → Value → World → Prop) (D : Nat → Bool) (a : Act) (W : World) : Prop where
  one : D i1 = true → D i2 = false → P1 (a.tmps.getD s1 undef) W
  imp : D i2 = true → D i1 = true
  both : D i2 = true → P2 (a.tmps.getD s1 undef) (a.tmps.getD s2 undef) W
  e1 : D i3 = true → D i2 = true ∧ a.tmps.getD d1 undef = a.tmps.getD s1 undef
  e2 : D i4 = true → D i2 = true ∧ a.tmps.getD d2 undef = a.tmps.getD s2 undef
section
variable {i1 i2 i3 i4 s1 s2 d1 d2 : Nat} {P1 : Value → World → Prop} {P2 : Value → Value → World → Prop} {D : Nat → Bool} {a : Act} {W W' : World}
theorem JT.other (h : JT i1 i2 i3 i4 s1 s2 d1 d2 P1 P2 D a W) (i s : Nat) (v : Value) (hi : i1 ≠ i ∧ i2 ≠ i ∧ i3 ≠ i ∧ i4 ≠ i) (hs : s1 ≠ s ∧ s2 ≠ s ∧ d1 ≠ s ∧ d2 ≠ s) : JT i1 i2 i3 i4 s1 s2 d1 d2 P1 P2 (fun j => decide (j = i) || D j) (a.put (some s) v) W := by
  refine ⟨?_, ?_, ?_, ?_, ?_⟩
  · rw [orf_ne hi.1, orf_ne hi.2.1, put_otherY hs.1]; exact h.one
  · rw [orf_ne hi.1, orf_ne hi.2.1]; exact h.imp
  · rw [orf_ne hi.2.1, put_otherY hs.1, put_otherY hs.2.1]; exact h.both
  · rw [orf_ne hi.2.1, orf_ne hi.2.2.1, put_otherY hs.1, put_otherY hs.2.2.1]; exact h.e1
  · rw [orf_ne hi.2.1, orf_ne hi.2.2.2, put_otherY hs.2.1, put_otherY hs.2.2.2]; exact h.e2
theorem JT.first (h : JT i1 i2 i3 i4 s1 s2 d1 d2 P1 P2 D a W) (v : Value) (hL : D i1 = false) (hi : i2 ≠ i1 ∧ i3 ≠ i1 ∧ i4 ≠ i1) (hsz : s1 < a.tmps.size) (hp : P1 v W') : JT i1 i2 i3 i4 s1 s2 d1 d2 P1 P2 (fun j => decide (j = i1) || D j) (a.put (some s1) v) W' := by
  have h2 : D i2 = false := by
    cases e : D i2 with
    | false => rfl
    | true => rw [h.imp e] at hL; cases hL
  have h3 : D i3 = false := by
    cases e : D i3 with
    | false => rfl
    | true => rw [(h.e1 e).1] at h2; cases h2
  have h4 : D i4 = false := by
    cases e : D i4 with
    | false => rfl
    | true => rw [(h.e2 e).1] at h2; cases h2
  refine ⟨fun _ _ => ?_, fun e => ?_, fun e => ?_, fun e => ?_, fun e => ?_⟩
  · rw [put_selfY hsz]; exact hp
  · rw [orf_ne hi.1, h2] at e; cases e
  · rw [orf_ne hi.1, h2] at e; cases e
  · rw [orf_ne hi.2.1, h3] at e; cases e
  · rw [orf_ne hi.2.2, h4] at e; cases e
theorem JT.second (h : JT i1 i2 i3 i4 s1 s2 d1 d2 P1 P2 D a W) (v : Value) (hL : D i2 = false) (h1 : D i1 = true) (hi : i1 ≠ i2 ∧ i3 ≠ i2 ∧ i4 ≠ i2) (hs : s1 ≠ s2) (hsz : s2 < a.tmps.size) (hp : P1 (a.tmps.getD s1 undef) W → P2 (a.tmps.getD s1 undef) v W') : JT i1 i2 i3 i4 s1 s2 d1 d2 P1 P2 (fun j => decide (j = i2) || D j) (a.put (some s2) v) W' := by
  have h3 : D i3 = false := by
    cases e : D i3 with
    | false => rfl
    | true => rw [(h.e1 e).1] at hL; cases hL
  have h4 : D i4 = false := by
    cases e : D i4 with
    | false => rfl
    | true => rw [(h.e2 e).1] at hL; cases hL
  refine ⟨fun _ e => ?_, fun e => ?_, fun e => ?_, fun e => ?_, fun e => ?_⟩
  · rw [orf_eq] at e; cases e
  · rw [orf_ne hi.1]; exact h1
  · rw [put_selfY hsz, put_otherY hs]; exact hp (h.one h1 hL)
  · rw [orf_ne hi.2.1, h3] at e; cases e
  · rw [orf_ne hi.2.2, h4] at e; cases e
theorem JT.third (h : JT i1 i2 i3 i4 s1 s2 d1 d2 P1 P2 D a W) (h2 : D i2 = true) (hi : i1 ≠ i3 ∧ i2 ≠ i3 ∧ i4 ≠ i3) (hs : s1 ≠ d1 ∧ s2 ≠ d1 ∧ d2 ≠ d1) (hsz : d1 < a.tmps.size) : JT i1 i2 i3 i4 s1 s2 d1 d2 P1 P2 (fun j => decide (j = i3) || D j) (a.put (some d1) (a.tmps.getD s1 undef)) W := by
  refine ⟨?_, ?_, ?_, fun _ => ?_, ?_⟩
  · rw [orf_ne hi.1, orf_ne hi.2.1, put_otherY hs.1]; exact h.one
  · rw [orf_ne hi.1, orf_ne hi.2.1]; exact h.imp
  · rw [orf_ne hi.2.1, put_otherY hs.1, put_otherY hs.2.1]; exact h.both
  · rw [orf_ne hi.2.1, put_selfY hsz, put_otherY hs.1]; exact ⟨h2, rfl⟩
  · rw [orf_ne hi.2.1, orf_ne hi.2.2, put_otherY hs.2.1, put_otherY hs.2.2]; exact h.e2
theorem JT.fourth (h : JT i1 i2 i3 i4 s1 s2 d1 d2 P1 P2 D a W) (h2 : D i2 = true) (hi : i1 ≠ i4 ∧ i2 ≠ i4 ∧ i3 ≠ i4) (hs : s1 ≠ d2 ∧ s2 ≠ d2 ∧ d1 ≠ d2) (hsz : d2 < a.tmps.size) : JT i1 i2 i3 i4 s1 s2 d1 d2 P1 P2 (fun j => decide (j = i4) || D j) (a.put (some d2) (a.tmps.getD s2 undef)) W := by
  refine ⟨?_, ?_, ?_, ?_, fun _ => ?_⟩
  · rw [orf_ne hi.1, orf_ne hi.2.1, put_otherY hs.1]; exact h.one
  · rw [orf_ne hi.1, orf_ne hi.2.1]; exact h.imp
  · rw [orf_ne hi.2.1, put_otherY hs.1, put_otherY hs.2.1]; exact h.both
  · rw [orf_ne hi.2.1, orf_ne hi.2.2, put_otherY hs.1, put_otherY hs.2.2]; exact h.e1
  · rw [orf_ne hi.2.1, put_selfY hsz, put_otherY hs.2.1]; exact ⟨h2, rfl⟩
theorem JT.start (W : World) : JT i1 i2 i3 i4 s1 s2 d1 d2 P1 P2 (fun _ => false) a W :=
  ⟨fun e => Bool.noConfusion e, fun e => Bool.noConfusion e, fun e => Bool.noConfusion e, fun e => Bool.noConfusion e, fun e => Bool.noConfusion e⟩
end
/-- One ideal vault, and two that share nothing. -/
def IV1 (b : Nat) (K : List UInt8) (u : Value) (W : World) : Prop := ∃ v sp nm kn F, u = .pointer (some ⟨v, 0, none⟩) ∧ VltI W v sp nm kn K [] [] [] F ∧ ∀ k ∈ F, b ≤ k
def IV2 (b : Nat) (K : List UInt8) (u u' : Value) (W : World) : Prop := ∃ va spa nma kna Fa vb spb nmb knb Fb, u = .pointer (some ⟨va, 0, none⟩) ∧ VltI W va spa nma kna K [] [] [] Fa ∧ (∀ k ∈ Fa, b ≤ k) ∧ u' = .pointer (some ⟨vb, 0, none⟩) ∧ VltI W vb spb nmb knb K [] [] [] Fb ∧ (∀ k ∈ Fb, b ≤ k) ∧ ∀ k ∈ Fa, k ∉ Fb
theorem IV2.of {b : Nat} {K : List UInt8} {u u' : Value} {W W' : World} (h : IV1 b K u W) (hb : Below W.heap.size W W') (h' : IV1 W.heap.size K u' W') (hW : b ≤ W.heap.size) : IV2 b K u u' W' := by
  obtain ⟨va, spa, nma, kna, Fa, rfl, ha, oa⟩ := h
  obtain ⟨vb, spb, nmb, knb, Fb, rfl, hb', ob⟩ := h'
  exact ⟨va, spa, nma, kna, Fa, vb, spb, nmb, knb, Fb, rfl, ha.below hb, oa, rfl, hb', fun k hk => Nat.le_trans hW (ob k hk), fun k hk hm => by have h1 := ha.hF k hk; have h2 := ob k hm; omega⟩
/-- One own slice, and two that share nothing. -/
def OW1 (b n : Nat) (l : List UInt8) (u : Value) (W : World) : Prop := ∃ A c, u = .slice A n c ∧ Own8 W b (.slice A n c) l
def OW2 (b n : Nat) (l : List UInt8) (u u' : Value) (W : World) : Prop := ∃ A c A' c', u = .slice A n c ∧ Own8 W b (.slice A n c) l ∧ u' = .slice A' n c' ∧ Own8 W b (.slice A' n c') l ∧ ∀ a a', A = some a → A' = some a' → a.block ≠ a'.block
theorem OW2.of {b n : Nat} {l : List UInt8} {u u' : Value} {W W' : World} (h : OW1 b n l u W) (hb : Below W.heap.size W W') (h' : OW1 W.heap.size n l u' W') (hW : b ≤ W.heap.size) : OW2 b n l u u' W' := by
  obtain ⟨A, c, rfl, ho⟩ := h
  obtain ⟨A', c', rfl, ho'⟩ := h'
  refine ⟨A, c, A', c', rfl, ho.below hb (Nat.le_refl _), rfl, ho'.lower hW, fun a a' ea ea' e => ?_⟩
  have h1 := (World.ownsRow.lt ho a.block (by rw [ea]; rfl)).2
  have h2 := (World.ownsRow.lt ho' a'.block (by rw [ea']; rfl)).1
  omega
end Go.Proofs.YtoeofifibjelnaaDoor
