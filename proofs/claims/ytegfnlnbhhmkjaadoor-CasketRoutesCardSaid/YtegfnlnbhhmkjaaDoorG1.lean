/-
  codec.Out: what lies behind its pointer; the blocks that are its own.
-/
import Derived.Test.YtegfnlnbhhmkjaaDoorUn
namespace Go.Proofs.YtegfnlnbhhmkjaaDoor
set_option maxRecDepth 100000
open Go.RowKit
set_option linter.unusedVariables false
set_option linter.unusedSimpArgs false

theorem hidg_ {p : Prop} (h : p) : Hid p := h
/-- What lies behind an Out's pointer, and its blocks. -/
def OutF (w : World) (g : Nat) (l : List UInt8) (bad wrong : Bool) (F : List Nat) : Prop :=
  g ∈ F ∧ ∃ all : Value, Bk w g 75 #[all, .int .i64 (l.length : Int), .bool bad, .bool wrong] ∧
    ((all = .pointer none ∧ l = []) ∨ ∃ h A c, all = .pointer (some ⟨h, 0, none⟩) ∧ h ∈ F ∧ h ≠ g ∧ Bk w h 39 #[.slice A l.length c] ∧ Own8 w 0 (.slice A l.length c) l ∧ ∀ b, (Value.slice A l.length c).ownBlock = some b → b ∈ F ∧ b ≠ g ∧ b ≠ h)
/-- One act of an Out. -/
def OutP (w : World) (g : Nat) (l : List UInt8) (bad wrong : Bool) (F : List Nat) (e : Ending) (w' : World) : Prop :=
  e = .returned (.pointer (some ⟨g, 0, none⟩)) ∧ ∃ F', OutF w' g l bad wrong F' ∧ Grew w F F' ∧ Untouched F w w'

set_option maxRecDepth 100000 in
set_option maxHeartbeats 1000000 in
theorem refuse_any (w : World) (g : Nat) (l : List UInt8) (bad wrong : Bool) (F : List Nat) (h : OutF w g l bad wrong F) :
    Calls Tryd.prog 72 #[.pointer (some ⟨g, 0, none⟩)] w (OutP w g l true wrong F) := by
  obtain ⟨hg, all, hb, hor⟩ := h
  have hc := hb.cell 2
  have hf := hb.frozen 2
  have hset := hb.set_ 2 (.bool true)
  have HS : Hid (Bk (w.setCell ⟨g, 2, none⟩ (.bool true)) g 75 #[all, .int .i64 (l.length : Int), .bool true, .bool wrong]) := hidg_ hset
  have HU := hidg_ (Untouched.set (w := w) (F := F) g 2 hg (.bool true))
  have HO : Hid ((all = .pointer none ∧ l = []) ∨ ∃ h A c, all = .pointer (some ⟨h, 0, none⟩) ∧ h ∈ F ∧ h ≠ g ∧ Bk (w.setCell ⟨g, 2, none⟩ (.bool true)) h 39 #[.slice A l.length c] ∧ Own8 (w.setCell ⟨g, 2, none⟩ (.bool true)) 0 (.slice A l.length c) l ∧ ∀ b, (Value.slice A l.length c).ownBlock = some b → b ∈ F ∧ b ≠ g ∧ b ≠ h) := hidg_ (by
    rcases hor with h1 | ⟨h, A, c, e, hF, hne, hbk, ho, hown⟩
    · exact .inl h1
    · refine .inr ⟨h, A, c, e, hF, hne, hbk.far (p := ⟨g, 2, none⟩) hne _, ho.kept (grown_put (World.grownBy.refl w (some g)) 2 (.bool true)) ?_, hown⟩
      cases hv : (Value.slice A l.length c).ownBlock with
      | none => exact .inl rfl
      | some b => exact .inr (by have := (hown b hv).2.1; intro e; injection e with e; exact this e))
  clear hset hb hor
  have hc2 : w.cell? ⟨g, 2, none⟩ = some (.bool bad) := hc
  clear hc
  go_enter Tryd.func72, Tryd.ntmps72
  go_wp2
  go_ret
  exact ⟨rfl, F, ⟨hg, all, HS.out, HO.out⟩, Grew.refl _ _, HU.out⟩
end Go.Proofs.YtegfnlnbhhmkjaaDoor
