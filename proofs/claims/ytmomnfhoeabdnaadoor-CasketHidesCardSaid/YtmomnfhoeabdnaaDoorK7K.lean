/-
  Merged: K7 K8.
-/
import Derived.Test.YtmomnfhoeabdnaaDoorKK
import Derived.Test.YtmomnfhoeabdnaaDoorBr
import Derived.Test.YtmomnfhoeabdnaaDoorDn
import Derived.Laws.DeepStrings4
import Derived.Test.YtmomnfhoeabdnaaDoorBf
import Derived.Test.YtmomnfhoeabdnaaDoorAm
namespace Go.Proofs.YtmomnfhoeabdnaaDoor
set_option maxRecDepth 100000
open Go.RowKit
set_option linter.unusedVariables false
set_option linter.unusedSimpArgs false

theorem str_four (l : List UInt8) (k n : Nat) (hl : l.length = n) (h : 4 * k + 4 ≤ n) (W : World) :
    (Instr.slice 9 (.string (strOf l)) (some (.int .i64 (4 * (k : Int)))) (some (.int .i64 (4 * (k : Int) + 4))) none).run Tryd.prog W = .ok (.string (strOf ((l.drop (4 * k)).take 4))) W := by
  have hs : (strOf l).size = n := by rw [strOf_size, hl]
  rw [run_slice_string_if W 9 (strOf l) .i64 .i64 _ _ Tryd.underlying9, if_pos (by rw [hs]; omega), if_pos (by omega)]
  have e1 : (4 * (k : Int)).toNat = 4 * k := by omega
  have e2 : (4 * (k : Int) + 4).toNat = 4 * k + 4 := by omega
  rw [e1, e2, strOf_mid, show 4 * k + 4 - 4 * k = 4 by omega]
theorem double_eq (l : List Int) : diagsL (colsL l 4) 4 = quarterL (quarterL (quarterL (quarterL (quarterL (quarterL (quarterL (quarterL l 0 4 8 12) 1 5 9 13) 2 6 10 14) 3 7 11 15) 0 5 10 15) 1 6 11 12) 2 7 8 13) 3 4 9 14 := rfl
def BlkC (g s v : Nat) (ls vs : List Int) (w W : World) : Prop := Bk W s 122 (rowW ls) ∧ Bk W v 122 (rowW vs) ∧ Below g w W
theorem BlkC.below {g s v : Nat} {ls vs : List Int} {w W W' : World} (h : BlkC g s v ls vs w W) (hg : g ≤ W.heap.size) (hb : Below W.heap.size W W') : BlkC g s v ls vs w W' :=
  ⟨h.1.below hb h.1.lt, h.2.1.below hb h.2.1.lt, h.2.2.trans (hb.mono hg)⟩

end Go.Proofs.YtmomnfhoeabdnaaDoor

namespace Go.Proofs.YtmomnfhoeabdnaaDoor
set_option maxRecDepth 100000
open Go.RowKit
set_option linter.unusedVariables false
set_option linter.unusedSimpArgs false

theorem mixB_comm (l m : List UInt8) : mixB l m = mixB m l := by
  unfold mixB
  rw [List.zipWith_comm]
  congr 1
  funext a b
  exact UInt8.xor_comm _ _
theorem str_rest (l : List UInt8) (n k : Nat) (hl : l.length = n) (hk : k ≤ n) (W : World) :
    (Instr.slice 9 (.string (strOf l)) (some (.int .i64 (k : Int))) none none).run Tryd.prog W = .ok (.string (strOf (l.drop k))) W := by
  have hs : (strOf l).size = n := by rw [strOf_size, hl]
  rw [run_slice_string_l W 9 (strOf l) Tryd.underlying9 .i64 (k : Int) (by omega) (by rw [hs]; omega), Int.toNat_natCast, hs, strOf_mid]
  congr 3
  exact List.take_of_length_le (by rw [List.length_drop]; omega)

end Go.Proofs.YtmomnfhoeabdnaaDoor
