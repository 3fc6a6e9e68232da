/-
  codec.Out: what lies behind its pointer; the blocks that are its own.
-/
import Derived.Test.YteijlgifcmlkoabDoorUn
namespace Go.Proofs.YteijlgifcmlkoabDoor
open Go.RowKit
set_option linter.unusedVariables false
set_option linter.unusedSimpArgs false

theorem hidg_ {p : Prop} (h : p) : Hid p := h
/-- What lies behind an Out's pointer, and its blocks. -/
def OutF (w : World) (g : Nat) (l : List UInt8) (bad : Bool) (F : List Nat) : Prop :=
  g ∈ F ∧ ∃ all : Value, Bk w g 41 #[all, .int .i64 (l.length : Int), .bool bad] ∧
    ((all = .pointer none ∧ l = []) ∨ ∃ h A c, all = .pointer (some ⟨h, 0, none⟩) ∧ h ∈ F ∧ h ≠ g ∧ Bk w h 27 #[.slice A l.length c] ∧ Own8 w 0 (.slice A l.length c) l ∧ ∀ b, (Value.slice A l.length c).ownBlock = some b → b ∈ F ∧ b ≠ g ∧ b ≠ h)
/-- One act of an Out. -/
def OutP (w : World) (g : Nat) (l : List UInt8) (bad : Bool) (F : List Nat) (e : Ending) (w' : World) : Prop :=
  e = .returned (.pointer (some ⟨g, 0, none⟩)) ∧ ∃ F', OutF w' g l bad F' ∧ Grew w F F' ∧ Untouched F w w'

end Go.Proofs.YteijlgifcmlkoabDoor
