/-
  The rows of the round's constants, as the laws' rows list them; the world in which the witnesses stand.
-/
import Derived.Test.YtegfnlnbhhmkjaaDoorSS
import Derived.Test.YtegfnlnbhhmkjaaDoorLp
import Derived.Test.YtegfnlnbhhmkjaaDoorCards
import Derived.Test.YtegfnlnbhhmkjaaDoorTie
import Derived.Deep.DeepHandedRow
import Derived.Lib.LaidTab
namespace Go.Proofs.YtegfnlnbhhmkjaaDoor
set_option maxRecDepth 100000
open Go.ChangeShapes Go.WideShapes Go.ChangeAt Go.RowKit

theorem gTab : Tryd.prog.globalNamed "casket/sha2.roundWords" = some 0 := by kernel_rfl
theorem gTabType : (Tryd.prog.globals[0]?).map (·.type) = some 141 := by kernel_rfl
theorem cells64 : Tryd.prog.cellsOf 141 = 64 := by kernel_rfl
theorem cells32 : Tryd.prog.cellsOf 106 = 1 := by kernel_rfl

/-- What a row's list gives: the constants lie there. -/
theorem tab_of {W : World} (h : laidMetH Tryd.prog [("casket/sha2.roundWords", Rows.laid_casket_sha2_roundWords)] W) : Tab W ∧ 0 < W.heap.size := by
  have h1 : laidMet Tryd.prog [("casket/sha2.roundWords", Lib.tabData .u32 roundK)] W := h
  have h2 : Lib.TabIs Tryd.prog W "casket/sha2.roundWords" .u32 roundK := Lib.tabIs_of_head (rest := []) gTab gTabType Tryd.underlying141 Tryd.underlying106 cells32 cells64 h1
  have h3 : Tab W := fun t ht => h2.cell gTab t (by rw [roundK_len]; exact ht)
  exact ⟨h3, World.block_lt_of_cell? W _ (h3 0 (by omega))⟩

/-- A world for the witnesses: the settled one, the constants as their initialiser lays them. -/
noncomputable def laidWorld (os : Os) : World :=
  { World.holding Tryd.prog os ⟨#[], #[], []⟩ with heap := (World.holding Tryd.prog os ⟨#[], #[], []⟩).heap.modify 0 fun
      | .cells _ t frozen => .cells (wordsRow roundK) t frozen
      | o => o }
theorem laid_met2 (os : Os) : laidMet Tryd.prog [("casket/sha2.roundWords", Rows.laid_casket_sha2_roundWords)] ((laidWorld os).forCall (fun _ _ => 0) ⟨#[], #[.slice none 0 0, .slice none 0 0], []⟩).memory :=
  laidMet_of_run' 8 (by kernel_rfl) (by kernel_rfl)
end Go.Proofs.YtegfnlnbhhmkjaaDoor
