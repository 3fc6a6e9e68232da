/-
  What the laws of hmac begin with: a key's digest is another one than that of no key.
-/
import Derived.Test.YteijlgifcmlkoaaDoorHg
import Derived.Lib.SlBytesConst
namespace Go.Proofs.YteijlgifcmlkoaaDoor
open Go.ChangeShapes Go.WideShapes Go.ChangeAt Go.RowKit
set_option linter.unusedVariables false
set_option linter.unusedSimpArgs false

set_option maxRecDepth 100000 in
theorem hmac_kx : (hmacB [107] [120] == hmacB [] [120]) = false := by decide +kernel
theorem eqIn32 (l m : List UInt8) (hl : l.length = 32) (hm : m.length = 32) (W : World) :
    (Op.equalIn 10000 23 (.agg (rowOf l)) (.agg (rowOf m))).run Tryd.prog W = .ok (l == m) W := by
  have hs : ∀ W : World, (sizeOf 5).run Tryd.prog W = .ok 1 W := fun W => by
    obtain ⟨i, hi, hz, hsize, hby⟩ := info_parts info8
    simp [sizeOf, typeInfo, hi, hsize]
  exact run_equalIn_bytes W 9998 23 5 32 Tryd.underlying23 Tryd.underlying5 hs l m hl hm
/-- A constant's bytes, in a row of one part. -/
theorem parts_const (W : World) (l : List UInt8) (n : Nat) (fz : Nat × Nat) (hn : l.length = n) (hm : n ≤ 1000) :
    Parts ((W.alloc (.cells (rowOf l) 5 fz)).alloc (.cells #[.slice (some ⟨W.heap.size, 0, none⟩) n n] 22)) ((W.alloc (.cells (rowOf l) 5 fz)).alloc (.cells #[.slice (some ⟨W.heap.size, 0, none⟩) n n] 22)).heap.size (some ⟨W.heap.size + 1, 0, none⟩) [l] := by
  have h := parts_one (W.alloc (.cells (rowOf l) 5 fz)) (some ⟨W.heap.size, 0, none⟩) n n l (W.heap.size + 1) hn (rd_mark W l fz) (by simp) (Nat.le_refl _) (by unfold maxLen; omega)
  simpa using h
end Go.Proofs.YteijlgifcmlkoaaDoor
