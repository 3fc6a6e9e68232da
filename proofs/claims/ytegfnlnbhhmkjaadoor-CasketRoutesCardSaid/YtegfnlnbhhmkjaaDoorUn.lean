/-
  What turns, told by the blocks that are one's own; a slice that lies elsewhere.
-/
import Derived.Test.YtegfnlnbhhmkjaaDoorFr
namespace Go.Proofs.YtegfnlnbhhmkjaaDoor
set_option maxRecDepth 100000
open Go.RowKit
set_option linter.unusedVariables false
set_option linter.unusedSimpArgs false
/-- Nothing that was there has turned but the blocks F. -/
structure Untouched (F : List Nat) (w w' : World) : Prop where
  os : w'.os = w.os
  tape : w'.tape = w.tape
  output : w'.output = w.output
  size : w.heap.size ≤ w'.heap.size
  block : ∀ k, k < w.heap.size → k ∉ F → w'.heap[k]? = w.heap[k]?
/-- A footprint that has grown by new blocks alone. -/
def Grew (w : World) (F F' : List Nat) : Prop := ∀ k ∈ F', k ∈ F ∨ w.heap.size ≤ k
section
variable {F F' F2 : List Nat} {w w' w2 : World}
theorem Untouched.refl (F : List Nat) (w : World) : Untouched F w w := ⟨rfl, rfl, rfl, Nat.le_refl _, fun _ _ _ => rfl⟩
theorem Grew.refl (w : World) (F : List Nat) : Grew w F F := fun k hk => .inl hk
theorem Untouched.trans (h : Untouched F w w') (hg : Grew w F F') (h2 : Untouched F' w' w2) : Untouched F w w2 :=
  ⟨h2.os.trans h.os, h2.tape.trans h.tape, h2.output.trans h.output, Nat.le_trans h.size h2.size, fun k hk hn => (h2.block k (Nat.lt_of_lt_of_le hk h.size) (fun hm => by rcases hg k hm with h1 | h1; exact hn h1; omega)).trans (h.block k hk hn)⟩
theorem Grew.trans (hg : Grew w F F') (hs : w.heap.size ≤ w'.heap.size) (h2 : Grew w' F' F2) : Grew w F F2 := fun k hk => by
  rcases h2 k hk with h | h
  · exact hg k h
  · exact .inr (by omega)
theorem Untouched.of_below (hb : Below w.heap.size w w') : Untouched F w w' := ⟨hb.os, hb.tape, hb.output, hb.size, fun k hk _ => hb.block k hk⟩
theorem Untouched.of_grown {row : Option Nat} (h : w.grownBy w' row) (hF : ∀ k, row = some k → k ∈ F) : Untouched F w w' :=
  ⟨h.os, h.tape, h.output, h.size, fun k hk hn => h.block k hk (fun e => hn (hF k e.symm))⟩
theorem Untouched.drewN (n : Nat) : Untouched F w (w.drewN n) := ⟨rfl, rfl, rfl, Nat.le_refl _, fun _ _ _ => rfl⟩
theorem Untouched.set (g i : Nat) (hF : g ∈ F) (u : Value) : Untouched F w (w.setCell ⟨g, i, none⟩ u) :=
  ⟨rfl, rfl, rfl, by simp, fun k _ hn => Below.heap_setCell w ⟨g, i, none⟩ u k (fun e => hn (by rw [e]; exact hF))⟩
theorem Untouched.alloc (o : Obj) : Untouched F w (w.alloc o) := ⟨rfl, rfl, rfl, by simp, fun k hk _ => Below.heap_alloc w o k hk⟩
theorem Untouched.below {B : Nat} (h : Untouched F w w') (hF : ∀ k ∈ F, B ≤ k) (hB : B ≤ w.heap.size) : Below B w w' :=
  ⟨h.os, h.tape, h.output, h.size, fun k hk => h.block k (by omega) (fun hm => by have := hF k hm; omega)⟩
theorem Bk.untouched {g : Nat} {t : TypeId} {cs : Array Value} (h : Bk w g t cs) (hu : Untouched F w w') (hg : g ∉ F) : Bk w' g t cs := (hu.block g h.lt hg).trans h
end
/-- A slice that reads as l; its memory is none of the blocks F. -/
def RdF (w : World) (F : List Nat) (A : Option Addr) (l : List UInt8) : Prop :=
  0 < l.length → ∃ b off, A = some ⟨b, off, none⟩ ∧ b ∉ F ∧ b < w.heap.size ∧ ∀ j, j < l.length → w.cell? ⟨b, off + j, none⟩ = some (.int .u8 ((l.getD j 0).toNat : Int))
theorem RdF.rd {w : World} {F : List Nat} {A : Option Addr} {l : List UInt8} (h : RdF w F A l) : Rd w w.heap.size A l := fun hn => by
  obtain ⟨b, off, e, _, hb, hc⟩ := h hn
  exact ⟨b, off, e, hb, hc⟩
theorem RdF.keep {w w' : World} {F F' : List Nat} {A : Option Addr} {l : List UInt8} (h : RdF w F A l) (hu : Untouched F w w') (hg : Grew w F F') : RdF w' F' A l := fun hn => by
  obtain ⟨b, off, e, hbF, hb, hc⟩ := h hn
  exact ⟨b, off, e, fun hm => by rcases hg b hm with h1 | h1; exact hbF h1; omega, Nat.lt_of_lt_of_le hb hu.size, fun j hj => (World.cell?_of_block (hu.block b hb hbF)).trans (hc j hj)⟩
theorem Rd.rdf {w : World} {B : Nat} {F : List Nat} {A : Option Addr} {l : List UInt8} (h : Rd w B A l) (hB : B ≤ w.heap.size) (hF : ∀ k ∈ F, B ≤ k) : RdF w F A l := fun hn => by
  obtain ⟨b, off, e, hb, hc⟩ := h hn
  exact ⟨b, off, e, fun hm => by have := hF b hm; omega, by omega, hc⟩

end Go.Proofs.YtegfnlnbhhmkjaaDoor
