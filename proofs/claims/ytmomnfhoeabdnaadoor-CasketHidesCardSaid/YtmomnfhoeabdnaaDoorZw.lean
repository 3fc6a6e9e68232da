/-
  Two things side by side, each with the blocks that are its own, apart from each other and from what else is the call's own.
-/
import Derived.Test.YtmomnfhoeabdnaaDoorUn
import Derived.Test.YtmomnfhoeabdnaaDoorFj
namespace Go.Proofs.YtmomnfhoeabdnaaDoor
set_option maxRecDepth 100000
open Go.RowKit
set_option linter.unusedVariables false
set_option linter.unusedSimpArgs false

/-- What lies in blocks of its own: told of a world and of these blocks. -/
structure Foot (P : World → List Nat → Prop) : Prop where
  lt : ∀ {w F}, P w F → ∀ k ∈ F, k < w.heap.size
  keep : ∀ {w w' F H}, P w F → Untouched H w w' → (∀ k ∈ F, k ∉ H) → P w' F
theorem Foot.ite {P Q : World → List Nat → Prop} (hP : Foot P) (hQ : Foot Q) (c : Prop) [Decidable c] : Foot (if c then P else Q) := by
  split
  · exact hP
  · exact hQ
/-- A call leaves P, and nothing else that was there has turned. -/
def Leaves (P : World → List Nat → Prop) (w : World) (F : List Nat) (w' : World) : Prop := ∃ F', P w' F' ∧ Grew w F F' ∧ Untouched F w w'
structure DuoF (w0 : World) (X : Nat → Prop) (P R : World → List Nat → Prop) (w : World) (F G : List Nat) : Prop where
  one : P w F
  two : R w G
  un : Below w0.heap.size w0 w
  hF : ∀ k ∈ F, w0.heap.size ≤ k
  hG : ∀ k ∈ G, w0.heap.size ≤ k
  dj : ∀ k ∈ F, k ∉ G
  av : ∀ k, X k → k < w.heap.size ∧ k ∉ F ∧ k ∉ G
def Duo (w0 : World) (X : Nat → Prop) (P R : World → List Nat → Prop) (w : World) : Prop := ∃ F G, DuoF w0 X P R w F G
/-- The blocks of X are as they were. -/
def KeepsX (X : Nat → Prop) (w w' : World) : Prop := w.heap.size ≤ w'.heap.size ∧ ∀ k, X k → w'.heap[k]? = w.heap[k]?
section
variable {w0 w w' : World} {X Y : Nat → Prop} {P P' R R' : World → List Nat → Prop} {F G : List Nat}
theorem KeepsX.refl (X : Nat → Prop) (w : World) : KeepsX X w w := ⟨Nat.le_refl _, fun _ _ => rfl⟩
theorem KeepsX.trans {w2 : World} (h : KeepsX X w w') (h2 : KeepsX X w' w2) : KeepsX X w w2 := ⟨Nat.le_trans h.1 h2.1, fun k hk => (h2.2 k hk).trans (h.2 k hk)⟩
theorem Leaves.below (hP : Foot P) (h : P w F) (hb : Below w.heap.size w w') : Leaves P w F w' := ⟨F, hP.keep h (Untouched.of_below (F := []) hb) (fun _ _ => by simp), Grew.refl _ _, .of_below hb⟩
theorem DuoF.act1F (hR : Foot R) (h : DuoF w0 X P R w F G) {F' : List Nat} (h1 : P' w' F') (h2 : Grew w F F') (h3 : Untouched F w w') : DuoF w0 X P' R w' F' G ∧ KeepsX X w w' := by
  have hGd : ∀ k ∈ F', k ∉ G := fun k hk hg => by
    rcases h2 k hk with e | e
    · exact h.dj k e hg
    · have := hR.lt h.two k hg
      omega
  have hFi : ∀ k ∈ F', w0.heap.size ≤ k := fun k hk => by
    rcases h2 k hk with e | e
    · exact h.hF k e
    · exact Nat.le_trans h.un.size e
  refine ⟨⟨h1, hR.keep h.two h3 (fun k hk hf => h.dj k hf hk), h.un.trans (h3.below h.hF h.un.size), hFi, h.hG, hGd, fun k hx => ⟨Nat.lt_of_lt_of_le (h.av k hx).1 h3.size, fun hf => ?_, (h.av k hx).2.2⟩⟩, h3.size, fun k hx => h3.block k (h.av k hx).1 (h.av k hx).2.1⟩
  rcases h2 k hf with e | e
  · exact (h.av k hx).2.1 e
  · have := (h.av k hx).1
    omega
theorem DuoF.act1 (hR : Foot R) (h : DuoF w0 X P R w F G) (hl : Leaves P' w F w') : Duo w0 X P' R w' ∧ KeepsX X w w' := by
  obtain ⟨F', h1, h2, h3⟩ := hl
  obtain ⟨k1, k2⟩ := h.act1F hR h1 h2 h3
  exact ⟨⟨F', G, k1⟩, k2⟩
/-- New blocks that the call gave, apart from what it keeps. -/
theorem DuoF.act1Z (hR : Foot R) (h : DuoF w0 X P R w F G) {F' : List Nat} (h1 : P' w' F') (h2 : Grew w F F') (h3 : Untouched F w w') (Z : Nat → Prop) (hZ : ∀ k, Z k → w.heap.size ≤ k ∧ k < w'.heap.size ∧ k ∉ F') : Duo w0 (fun k => X k ∨ Z k) P' R w' ∧ KeepsX X w w' := by
  obtain ⟨k1, k2⟩ := h.act1F hR h1 h2 h3
  refine ⟨⟨F', G, k1.one, k1.two, k1.un, k1.hF, k1.hG, k1.dj, fun k hk => ?_⟩, k2⟩
  rcases hk with e | e
  · exact k1.av k e
  · obtain ⟨z1, z2, z3⟩ := hZ k e
    exact ⟨z2, z3, fun hg => by have := hR.lt h.two k hg; omega⟩
theorem DuoF.act2 (hP : Foot P) (h : DuoF w0 X P R w F G) (hl : Leaves R' w G w') : Duo w0 X P R' w' ∧ KeepsX X w w' := by
  obtain ⟨G', h1, h2, h3⟩ := hl
  have hGd : ∀ k ∈ F, k ∉ G' := fun k hk hg => by
    rcases h2 k hg with e | e
    · exact h.dj k hk e
    · have := hP.lt h.one k hk
      omega
  have hGi : ∀ k ∈ G', w0.heap.size ≤ k := fun k hk => by
    rcases h2 k hk with e | e
    · exact h.hG k e
    · exact Nat.le_trans h.un.size e
  refine ⟨⟨F, G', hP.keep h.one h3 h.dj, h1, h.un.trans (h3.below h.hG h.un.size), h.hF, hGi, hGd, fun k hx => ⟨Nat.lt_of_lt_of_le (h.av k hx).1 h3.size, (h.av k hx).2.1, fun hf => ?_⟩⟩, h3.size, fun k hx => h3.block k (h.av k hx).1 (h.av k hx).2.2⟩
  rcases h2 k hf with e | e
  · exact (h.av k hx).2.2 e
  · have := (h.av k hx).1
    omega
/-- Only blocks of X, and new ones, have turned. -/
theorem Duo.other (hP : Foot P) (hR : Foot R) (h : Duo w0 X P R w) (H : List Nat) (hH : ∀ k ∈ H, X k) (h0 : ∀ k ∈ H, w0.heap.size ≤ k) (hu : Untouched H w w') : Duo w0 X P R w' := by
  obtain ⟨F, G, h⟩ := h
  exact ⟨F, G, hP.keep h.one hu (fun k hk hh => (h.av k (hH k hh)).2.1 hk), hR.keep h.two hu (fun k hk hh => (h.av k (hH k hh)).2.2 hk), h.un.trans (hu.below h0 h.un.size), h.hF, h.hG, h.dj, fun k hx => ⟨Nat.lt_of_lt_of_le (h.av k hx).1 hu.size, (h.av k hx).2⟩⟩
theorem Duo.below (hP : Foot P) (hR : Foot R) (h : Duo w0 X P R w) (hb : Below w.heap.size w w') : Duo w0 X P R w' := h.other hP hR [] (fun k hk => by cases hk) (fun k hk => by cases hk) (Untouched.of_below hb)
/-- New blocks may be avoided; others needn't any longer. -/
theorem Duo.avoid (hP : Foot P) (hR : Foot R) (h : Duo w0 X P R w) (hb : Below w.heap.size w w') (hY : ∀ k, Y k → k < w'.heap.size ∧ (X k ∨ w.heap.size ≤ k)) : Duo w0 Y P R w' := by
  obtain ⟨F, G, h⟩ := h
  have hu := Untouched.of_below (F := []) hb
  refine ⟨F, G, hP.keep h.one hu (fun _ _ => by simp), hR.keep h.two hu (fun _ _ => by simp), h.un.trans (hb.mono h.un.size), h.hF, h.hG, h.dj, fun k hy => ⟨(hY k hy).1, ?_⟩⟩
  rcases (hY k hy).2 with e | e
  · exact (h.av k e).2
  · exact ⟨fun hk => by have := hP.lt h.one k hk; omega, fun hk => by have := hR.lt h.two k hk; omega⟩
theorem Duo.un (h : Duo w0 X P R w) : Below w0.heap.size w0 w := by
  obtain ⟨F, G, h⟩ := h
  exact h.un
theorem Duo.wide (h : Duo w0 X P R w) (hY : ∀ k, Y k → X k) : Duo w0 Y P R w := by
  obtain ⟨F, G, h⟩ := h
  exact ⟨F, G, h.one, h.two, h.un, h.hF, h.hG, h.dj, fun k hk => h.av k (hY k hk)⟩
theorem Duo.start (hP : Foot P) (hR : Foot R) (h1 : P w F) (h2 : R w G) (hu : Below w0.heap.size w0 w) (hF : ∀ k ∈ F, w0.heap.size ≤ k) (hG : ∀ k ∈ G, w0.heap.size ≤ k) (hd : ∀ k ∈ F, k ∉ G) : Duo w0 (fun _ => False) P R w :=
  ⟨F, G, h1, h2, hu, hF, hG, hd, fun k hk => hk.elim⟩
theorem Bk.keepsX {g : Nat} {t : TypeId} {cs : Array Value} (h : Bk w g t cs) (hk : KeepsX X w w') (hX : X g) : Bk w' g t cs := (hk.2 g hX).trans h
theorem Rd.keepsX {A : Option Addr} {m : List UInt8} (h : Rd w w.heap.size A m) (hk : KeepsX X w w') (hX : 0 < m.length → ∀ a, A = some a → X a.block) : Rd w' w'.heap.size A m := fun h0 => by
  obtain ⟨b, off, e, hlt, hc⟩ := h h0
  have hb := hk.2 b (hX h0 _ e)
  exact ⟨b, off, e, Nat.lt_of_lt_of_le hlt hk.1, fun j hj => (World.cell?_of_block (show w'.heap[(⟨b, off + j, none⟩ : Addr).block]? = w.heap[(⟨b, off + j, none⟩ : Addr).block]? from hb)).trans (hc j hj)⟩
end
/-- Both acts of one line, in whichever order: what holds between. -/
structure DuoJ (w0 : World) (X : Nat → Prop) (P P' R R' : World → List Nat → Prop) (i1 i2 : Nat) (bx : World → Prop) (D : Nat → Bool) (W : World) : Prop where
  tw : Duo w0 X (if D i1 = true then P' else P) (if D i2 = true then R' else R) W
  bk : bx W
section
variable {w0 : World} {X : Nat → Prop} {P P' R R' : World → List Nat → Prop} {i1 i2 : Nat} {bx : World → Prop} {D : Nat → Bool} {W W' : World}
theorem DuoJ.same (h : DuoJ w0 X P P' R R' i1 i2 bx D W) (i : Nat) (hi : i1 ≠ i ∧ i2 ≠ i) : DuoJ w0 X P P' R R' i1 i2 bx (fun j => decide (j = i) || D j) W := by
  refine ⟨?_, h.bk⟩
  simp only [orf_ne (L := D) hi.1, orf_ne (L := D) hi.2]
  exact h.tw
theorem DuoJ.before1 (h : DuoJ w0 X P P' R R' i1 i2 bx D W) (hL : D i1 = false) : Duo w0 X P (if D i2 = true then R' else R) W := by
  have := h.tw
  rw [hL, if_neg (by decide)] at this
  exact this
theorem DuoJ.before2 (h : DuoJ w0 X P P' R R' i1 i2 bx D W) (hL : D i2 = false) : Duo w0 X (if D i1 = true then P' else P) R W := by
  have := h.tw
  rw [hL, if_neg (show ¬ (false = true) by decide)] at this
  exact this
theorem DuoJ.act1 (hne : i2 ≠ i1) (h : Duo w0 X P' (if D i2 = true then R' else R) W') (hb : bx W') : DuoJ w0 X P P' R R' i1 i2 bx (fun j => decide (j = i1) || D j) W' := by
  refine ⟨?_, hb⟩
  simp only [orf_ne (L := D) hne, show (decide (i1 = i1) || D i1) = true by simp, if_true]
  exact h
theorem DuoJ.act2 (hne : i1 ≠ i2) (h : Duo w0 X (if D i1 = true then P' else P) R' W') (hb : bx W') : DuoJ w0 X P P' R R' i1 i2 bx (fun j => decide (j = i2) || D j) W' := by
  refine ⟨?_, hb⟩
  simp only [orf_ne (L := D) hne, show (decide (i2 = i2) || D i2) = true by simp, if_true]
  exact h
theorem DuoJ.both (h : DuoJ w0 X P P' R R' i1 i2 bx D W) (h1 : D i1 = true) (h2 : D i2 = true) : Duo w0 X P' R' W := by
  have := h.tw
  rw [if_pos h1, if_pos h2] at this
  exact this
end
end Go.Proofs.YtmomnfhoeabdnaaDoor
