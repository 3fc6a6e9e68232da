/-
  A vault and the document's, both new; small words that the laws of vaults and envelopes share.
-/
import Derived.Test.YtmomnfhoeabdnaaDoorZt
import Derived.Test.YtmomnfhoeabdnaaDoorYJ
namespace Go.Proofs.YtmomnfhoeabdnaaDoor
set_option maxRecDepth 100000
open Go.ChangeShapes Go.WideShapes Go.ChangeAt Go.RowKit
set_option linter.unusedVariables false
set_option linter.unusedSimpArgs false

theorem slice_all32j (g : Nat) (W : World) :
    (Instr.sliceAt 25 (.pointer (some ⟨g, 0, none⟩)) none none none).run Tryd.prog W = .ok (.slice (some ⟨g, 0, none⟩) 32 32) W := by
  have he : Tryd.prog.elem 25 = 5 := by kernel_rfl
  have hn : Tryd.prog.arrayLen 25 = 32 := by kernel_rfl
  have ht : Tryd.prog.underlying 25 = some (.array (Tryd.prog.arrayLen 25) (Tryd.prog.elem 25)) := by rw [he, hn]; exact Tryd.underlying25
  rw [run_sliceAt_array_all W 25 ⟨g, 0, none⟩ ht, size32, hn]
  rfl
theorem sizeB_ (W : World) : (sizeOf (Tryd.prog.elem 36)).run Tryd.prog W = .ok 1 W := by
  have he : Tryd.prog.elem 36 = 5 := by kernel_rfl
  rw [he]
  obtain ⟨i, hi, hz, hsize, hby⟩ := info_parts info8
  simp [sizeOf, typeInfo, hi, hsize]
theorem slice_allB (g : Nat) (W : World) :
    (Instr.sliceAt 36 (.pointer (some ⟨g, 0, none⟩)) none none none).run Tryd.prog W = .ok (.slice (some ⟨g, 0, none⟩) 32 32) W := by
  have he : Tryd.prog.elem 36 = 5 := by kernel_rfl
  have hn : Tryd.prog.arrayLen 36 = 32 := by kernel_rfl
  have hs : Tryd.prog.cellsOf (Tryd.prog.elem 36) = 1 := by kernel_rfl
  have ht : Tryd.prog.underlying 36 = some (.array (Tryd.prog.arrayLen 36) (Tryd.prog.elem 36)) := by rw [he, hn]; exact Tryd.underlying36
  rw [run_sliceAt_array_all W 36 ⟨g, 0, none⟩ ht, sizeB_, hn]
  rfl
theorem rd_bk {w : World} {g : Nat} {t : TypeId} {l : List UInt8} (h : Bk w g t (rowOf l)) : Rd w w.heap.size (some ⟨g, 0, none⟩) l := fun _ => ⟨g, 0, rfl, h.lt, fun j hj => by rw [Nat.zero_add]; exact (h.cell j).trans (rowOf_at l j hj)⟩
/-- Two new things, made in whichever order, and a name for each: what is told of one, of the other, of both. -/
structure JW (i1 i2 i3 i4 s1 s2 d1 d2 : Nat) (P Q : Value → World → Prop) (PQ : Value → Value → World → Prop) (D : Nat → Bool) (a : Act) (W : World) : Prop where
  one : D i1 = true → D i2 = false → P (a.tmps.getD s1 undef) W
  two : D i2 = true → D i1 = false → Q (a.tmps.getD s2 undef) W
  both : D i1 = true → D i2 = true → PQ (a.tmps.getD s1 undef) (a.tmps.getD s2 undef) W
  e1 : D i3 = true → D i1 = true ∧ a.tmps.getD d1 undef = a.tmps.getD s1 undef
  e2 : D i4 = true → D i2 = true ∧ a.tmps.getD d2 undef = a.tmps.getD s2 undef
section
variable {i1 i2 i3 i4 s1 s2 d1 d2 : Nat} {P Q : Value → World → Prop} {PQ : Value → Value → World → Prop} {D : Nat → Bool} {a : Act} {W W' : World}
theorem JW.other (h : JW i1 i2 i3 i4 s1 s2 d1 d2 P Q PQ D a W) (i s : Nat) (v : Value) (hi : i1 ≠ i ∧ i2 ≠ i ∧ i3 ≠ i ∧ i4 ≠ i) (hs : s1 ≠ s ∧ s2 ≠ s ∧ d1 ≠ s ∧ d2 ≠ s) : JW i1 i2 i3 i4 s1 s2 d1 d2 P Q PQ (fun j => decide (j = i) || D j) (a.put (some s) v) W := by
  refine ⟨?_, ?_, ?_, ?_, ?_⟩
  · rw [orf_ne hi.1, orf_ne hi.2.1, put_otherY hs.1]; exact h.one
  · rw [orf_ne hi.1, orf_ne hi.2.1, put_otherY hs.2.1]; exact h.two
  · rw [orf_ne hi.1, orf_ne hi.2.1, put_otherY hs.1, put_otherY hs.2.1]; exact h.both
  · rw [orf_ne hi.1, orf_ne hi.2.2.1, put_otherY hs.1, put_otherY hs.2.2.1]; exact h.e1
  · rw [orf_ne hi.2.1, orf_ne hi.2.2.2, put_otherY hs.2.1, put_otherY hs.2.2.2]; exact h.e2
theorem JW.first (h : JW i1 i2 i3 i4 s1 s2 d1 d2 P Q PQ D a W) (v : Value) (hL : D i1 = false) (hi : i2 ≠ i1 ∧ i3 ≠ i1 ∧ i4 ≠ i1) (hs : s2 ≠ s1 ∧ d2 ≠ s1) (hsz : s1 < a.tmps.size) (hp : P v W') (hq : ∀ u, Q u W → PQ v u W') :
    JW i1 i2 i3 i4 s1 s2 d1 d2 P Q PQ (fun j => decide (j = i1) || D j) (a.put (some s1) v) W' := by
  have h3 : D i3 = false := by
    cases e : D i3 with
    | false => rfl
    | true => rw [(h.e1 e).1] at hL; cases hL
  refine ⟨fun _ _ => ?_, fun _ e => ?_, fun _ e => ?_, fun e => ?_, ?_⟩
  · rw [put_selfY hsz]; exact hp
  · rw [orf_eq] at e; cases e
  · rw [orf_ne hi.1] at e
    rw [put_selfY hsz, put_otherY hs.1]
    exact hq _ (h.two e hL)
  · rw [orf_ne hi.2.1, h3] at e; cases e
  · rw [orf_ne hi.1, orf_ne hi.2.2, put_otherY hs.1, put_otherY hs.2]; exact h.e2
theorem JW.second (h : JW i1 i2 i3 i4 s1 s2 d1 d2 P Q PQ D a W) (v : Value) (hL : D i2 = false) (hi : i1 ≠ i2 ∧ i3 ≠ i2 ∧ i4 ≠ i2) (hs : s1 ≠ s2 ∧ d1 ≠ s2) (hsz : s2 < a.tmps.size) (hq : Q v W') (hp : ∀ u, P u W → PQ u v W') :
    JW i1 i2 i3 i4 s1 s2 d1 d2 P Q PQ (fun j => decide (j = i2) || D j) (a.put (some s2) v) W' := by
  have h4 : D i4 = false := by
    cases e : D i4 with
    | false => rfl
    | true => rw [(h.e2 e).1] at hL; cases hL
  refine ⟨fun _ e => ?_, fun _ _ => ?_, fun e _ => ?_, ?_, fun e => ?_⟩
  · rw [orf_eq] at e; cases e
  · rw [put_selfY hsz]; exact hq
  · rw [orf_ne hi.1] at e
    rw [put_selfY hsz, put_otherY hs.1]
    exact hp _ (h.one e hL)
  · rw [orf_ne hi.1, orf_ne hi.2.1, put_otherY hs.1, put_otherY hs.2]; exact h.e1
  · rw [orf_ne hi.2.2, h4] at e; cases e
theorem JW.third (h : JW i1 i2 i3 i4 s1 s2 d1 d2 P Q PQ D a W) (h1 : D i1 = true) (hi : i1 ≠ i3 ∧ i2 ≠ i3 ∧ i4 ≠ i3) (hs : s1 ≠ d1 ∧ s2 ≠ d1 ∧ d2 ≠ d1) (hsz : d1 < a.tmps.size) : JW i1 i2 i3 i4 s1 s2 d1 d2 P Q PQ (fun j => decide (j = i3) || D j) (a.put (some d1) (a.tmps.getD s1 undef)) W := by
  refine ⟨?_, ?_, ?_, fun _ => ?_, ?_⟩
  · rw [orf_ne hi.1, orf_ne hi.2.1, put_otherY hs.1]; exact h.one
  · rw [orf_ne hi.1, orf_ne hi.2.1, put_otherY hs.2.1]; exact h.two
  · rw [orf_ne hi.1, orf_ne hi.2.1, put_otherY hs.1, put_otherY hs.2.1]; exact h.both
  · rw [orf_ne hi.1, put_selfY hsz, put_otherY hs.1]; exact ⟨h1, rfl⟩
  · rw [orf_ne hi.2.1, orf_ne hi.2.2, put_otherY hs.2.1, put_otherY hs.2.2]; exact h.e2
theorem JW.fourth (h : JW i1 i2 i3 i4 s1 s2 d1 d2 P Q PQ D a W) (h2 : D i2 = true) (hi : i1 ≠ i4 ∧ i2 ≠ i4 ∧ i3 ≠ i4) (hs : s1 ≠ d2 ∧ s2 ≠ d2 ∧ d1 ≠ d2) (hsz : d2 < a.tmps.size) : JW i1 i2 i3 i4 s1 s2 d1 d2 P Q PQ (fun j => decide (j = i4) || D j) (a.put (some d2) (a.tmps.getD s2 undef)) W := by
  refine ⟨?_, ?_, ?_, ?_, fun _ => ?_⟩
  · rw [orf_ne hi.1, orf_ne hi.2.1, put_otherY hs.1]; exact h.one
  · rw [orf_ne hi.1, orf_ne hi.2.1, put_otherY hs.2.1]; exact h.two
  · rw [orf_ne hi.1, orf_ne hi.2.1, put_otherY hs.1, put_otherY hs.2.1]; exact h.both
  · rw [orf_ne hi.1, orf_ne hi.2.2, put_otherY hs.1, put_otherY hs.2.2]; exact h.e1
  · rw [orf_ne hi.2.1, put_selfY hsz, put_otherY hs.2.1]; exact ⟨h2, rfl⟩
theorem JW.start : JW i1 i2 i3 i4 s1 s2 d1 d2 P Q PQ (fun _ => false) a W :=
  ⟨fun e => Bool.noConfusion e, fun e => Bool.noConfusion e, fun e => Bool.noConfusion e, fun e => Bool.noConfusion e, fun e => Bool.noConfusion e⟩
end
/-- A new vault; a new box of the document's; both, apart. -/
def WV (id : Bool) (K : List UInt8) (b : Nat) (u : Value) (W : World) : Prop := ∃ v sp nm kn F, u = .pointer (some ⟨v, 0, none⟩) ∧ VS id v sp nm kn K [] [] W F ∧ ∀ k ∈ F, b ≤ k
def rfRow (id : Bool) (K : List UInt8) : Array Value := #[.bool id, .string (strOf K), .slice none 0 0, .slice none 0 0]
end Go.Proofs.YtmomnfhoeabdnaaDoor
