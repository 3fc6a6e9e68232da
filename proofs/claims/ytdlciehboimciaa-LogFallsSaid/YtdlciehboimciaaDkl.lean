/-
  The law's own: sector, none, disks.
-/
import Derived.Test.YtdlciehboimciaaDkk
import Derived.Stop.BytesEq
namespace Go.Proofs.Ytdlciehboimciaa
set_option maxRecDepth 100000
open Go.RowKit
set_option linter.unusedVariables false
set_option linter.unusedSimpArgs false

def secB (b : UInt8) : List UInt8 := List.replicate 64 b
theorem secB_len (b : UInt8) : (secB b).length = 64 := by simp [secB]
def secP (b : UInt8) (j : Nat) : List UInt8 := List.replicate j b ++ List.replicate (64 - j) 0
theorem secP_len (b : UInt8) (j : Nat) (h : j ≤ 64) : (secP b j).length = 64 := by simp [secP]; omega
theorem secP_set (b : UInt8) (j : Nat) (h : j < 64) : (secP b j).set j b = secP b (j + 1) := by
  unfold secP
  obtain ⟨m, hm⟩ : ∃ m, 64 - j = m + 1 := ⟨63 - j, by omega⟩
  rw [hm, show 64 - (j + 1) = m by omega, List.replicate_succ, List.set_append_right _ _ (by simp), List.length_replicate, Nat.sub_self, List.set_cons_zero, List.replicate_succ', List.append_assoc]
  rfl
theorem secP_all (b : UInt8) : secP b 64 = secB b := by simp only [secP, secB]; rw [show 64 - 64 = 0 from rfl, List.replicate_zero, List.append_nil]
theorem secP_none (b : UInt8) : secP b 0 = zsec := by simp only [secP, zsec]; rw [List.replicate_zero, List.nil_append]
theorem zero64K (W : World) : (zeroValue 57).run Try.prog W = .ok (.agg (rowOf zsec)) W := by kernel_rfl
theorem i64K (D : List UInt8) (h : D.length = 64) : (Try.prog.info? 57).map (·.size) = some (rowOf D).size := by
  rw [rowOf_size, h]
  kernel_rfl
theorem eqIn64 (t : TypeId) (ht : Try.prog.underlying t = some (.array 64 5)) (l m : List UInt8) (hl : l.length = 64) (hm : m.length = 64) (W : World) : (Op.equalIn 10000 t (.agg (rowOf l)) (.agg (rowOf m))).run Try.prog W = .ok (l == m) W := by
  have hs : ∀ W : World, (sizeOf 5).run Try.prog W = .ok 1 W := fun W => by
    obtain ⟨i, hi, hz, hsize, hby⟩ := info_parts info8
    simp [sizeOf, typeInfo, hi, hsize]
  exact run_equalIn_bytes W 9998 t 5 64 ht Try.underlying5 hs l m hl hm
theorem eqSec (l m : List UInt8) (hl : l.length = 64) (hm : m.length = 64) (W : World) : (Op.equalIn 10000 58 (.agg (rowOf l)) (.agg (rowOf m))).run Try.prog W = .ok (l == m) W := eqIn64 _ Try.underlying58 l m hl hm W
def DsR : Nat → Value → Prop
  | 0, v => v = .int .i64 0
  | 1, v => v = .bool true
  | 2, v => v = .bool true
  | 3, v => v = .int .i64 0
  | 4, v => v = .bool true
  | 5, v => v = .bool true
  | 6, v => v = .bool true
  | 7, v => v = .int .i64 0
  | 8, v => v = .bool true
  | 9, v => v = .bool true
  | 10, v => v = .bool true
  | 11, v => v = .int .i64 0
  | 12, v => v = .bool true
  | 13, v => v = .bool true
  | 14, v => v = .bool true
  | 15, v => v = .agg (rowOf (secB 1))
  | 16, v => v = .agg (rowOf (secB 1))
  | 17, v => v = .bool true
  | 18, v => v = .bool true
  | 19, v => v = .bool true
  | _, _ => True

end Go.Proofs.Ytdlciehboimciaa
