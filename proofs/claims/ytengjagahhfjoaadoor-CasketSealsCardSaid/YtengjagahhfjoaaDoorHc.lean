/-
  Contracts: keys.Nonce, whatever is asked; keys.Blind of no name; what the laws of keys begin with.
-/
import Derived.Test.YtengjagahhfjoaaDoorHb
namespace Go.Proofs.YtengjagahhfjoaaDoor
open Go.RowKit
set_option linter.unusedVariables false
set_option linter.unusedSimpArgs false

/-- All of a nonce, as a slice. -/
theorem non_all (g : Nat) (W : World) :
    (Instr.sliceAt 29 (.pointer (some ⟨g, 0, none⟩)) none none none).run Tryd.prog W = .ok (.slice (some ⟨g, 0, none⟩) 12 12) W := by
  have he : Tryd.prog.elem 29 = 5 := by kernel_rfl
  have hn : Tryd.prog.arrayLen 29 = 12 := by kernel_rfl
  have ht : Tryd.prog.underlying 29 = some (.array (Tryd.prog.arrayLen 29) (Tryd.prog.elem 29)) := by rw [he, hn]; exact Tryd.underlying29
  have hs : (sizeOf (Tryd.prog.elem 29)).run Tryd.prog W = .ok 1 W := by
    rw [he]
    obtain ⟨i, hi, hz, hsize, hby⟩ := info_parts info8
    simp [sizeOf, typeInfo, hi, hsize]
  rw [run_sliceAt_array_all W 29 ⟨g, 0, none⟩ ht, hs, hn]
  simp only [Result.andThen, slicedAt, Nat.mul_one]
  rw [if_neg (by omega)]
  congr 3
end Go.Proofs.YtengjagahhfjoaaDoor
