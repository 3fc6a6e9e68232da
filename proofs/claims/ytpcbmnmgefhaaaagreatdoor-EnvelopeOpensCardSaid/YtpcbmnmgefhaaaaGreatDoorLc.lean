import Derived.Test.YtpcbmnmgefhaaaaGreatDoorSS
import Derived.Test.YtpcbmnmgefhaaaaGreatDoorLp
import Derived.Test.YtpcbmnmgefhaaaaGreatDoorCards
import Derived.Test.YtpcbmnmgefhaaaaGreatDoorTie
import Derived.Deep.DeepHandedRow
import Derived.Lib.LaidTab
namespace Go.Proofs.YtpcbmnmgefhaaaaGreatDoor
set_option maxRecDepth 100000
open Go.ChangeShapes Go.WideShapes Go.ChangeAt Go.RowKit
theorem gTab : Tryz.prog.globalNamed "casket/sha2.roundWords" = some 2 := by kernel_rfl
theorem gTabType:(Tryz.prog.globals[2]?).map (·.type)=some 189:=by kernel_rfl
theorem cells64:Tryz.prog.cellsOf 189=64:=by kernel_rfl
theorem cells32:Tryz.prog.cellsOf 144=1:=by kernel_rfl
theorem tab_of {W : World} (h : laidMetH Tryz.prog [("casket/sha2.roundWords", Rows.laid_casket_sha2_roundWords)] W) : Tab W ∧ 2 < W.heap.size := by
 have h1 : laidMet Tryz.prog [("casket/sha2.roundWords", Lib.tabData .u32 roundK)] W := h
 have h2 : Lib.TabIs Tryz.prog W "casket/sha2.roundWords" .u32 roundK := Lib.tabIs_of_head (rest := []) gTab gTabType Tryz.underlying189 Tryz.underlying144 cells32 cells64 h1
 have h3:Tab W:=fun t ht=>h2.cell gTab t (by rw [roundK_len];exact ht)
 exact ⟨h3,World.block_lt_of_cell? W _ (h3 0 (by omega))⟩
noncomputable def laidWorld (os:Os):World :=
 { World.holding Tryz.prog os ⟨#[],#[],[]⟩ with heap:=(World.holding Tryz.prog os ⟨#[],#[],[]⟩).heap.modify 2 fun
   | .cells _ t frozen=>.cells (wordsRow roundK) t frozen
   | o=>o }
end Go.Proofs.YtpcbmnmgefhaaaaGreatDoor
