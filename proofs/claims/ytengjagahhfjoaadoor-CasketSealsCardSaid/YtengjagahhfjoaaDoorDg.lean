/-
  casketlaw02.digests: "abc" has its digest.
-/
import Derived.Test.YtengjagahhfjoaaDoorSv
import Derived.Lib.SlBytesConst
namespace Go.Proofs.YtengjagahhfjoaaDoor
open Go.RowKit
set_option linter.unusedVariables false

theorem Bk.rd {w : World} {g B : Nat} {t : TypeId} {l : List UInt8} (h : Bk w g t (rowOf l)) (hB : g < B) : Rd w B (some ⟨g, 0, none⟩) l := fun _ =>
  ⟨g, 0, rfl, hB, fun j hj => by rw [Nat.zero_add, h.cell, rowOf_at l j hj]⟩

theorem dig_size (W : World) : (sizeOf (Tryd.prog.elem 28)).run Tryd.prog W = .ok 1 W := by
  have he : Tryd.prog.elem 28 = 5 := by kernel_rfl
  rw [he]
  obtain ⟨i, hi, hz, hsize, hby⟩ := info_parts info8
  simp [sizeOf, typeInfo, hi, hsize]
/-- The beginning of a digest, as a slice. -/
theorem dig_to (g : Nat) (k : Nat) (hk : k ≤ 32) (W : World) :
    (Instr.sliceAt 28 (.pointer (some ⟨g, 0, none⟩)) none (some (.int .i64 (k : Int))) none).run Tryd.prog W = .ok (.slice (some ⟨g, 0, none⟩) k 32) W := by
  have he : Tryd.prog.elem 28 = 5 := by kernel_rfl
  have hn : Tryd.prog.arrayLen 28 = 32 := by kernel_rfl
  have ht : Tryd.prog.underlying 28 = some (.array (Tryd.prog.arrayLen 28) (Tryd.prog.elem 28)) := by rw [he, hn]; exact Tryd.underlying28
  rw [run_sliceAt_array_h W 28 ⟨g, 0, none⟩ ht .i64 k (by omega) (by rw [hn]; omega), dig_size, hn]
  simp only [Result.andThen, slicedAt, Int.toNat_natCast, Nat.mul_one]
  rw [if_neg (by omega)]
  congr 3
/-- The rest of a digest, as a slice. -/
theorem dig_from (g : Nat) (k : Nat) (hk : k < 32) (W : World) :
    (Instr.sliceAt 28 (.pointer (some ⟨g, 0, none⟩)) (some (.int .i64 (k : Int))) none none).run Tryd.prog W = .ok (.slice (some ⟨g, k, none⟩) (32 - k) (32 - k)) W := by
  have he : Tryd.prog.elem 28 = 5 := by kernel_rfl
  have hn : Tryd.prog.arrayLen 28 = 32 := by kernel_rfl
  have ht : Tryd.prog.underlying 28 = some (.array (Tryd.prog.arrayLen 28) (Tryd.prog.elem 28)) := by rw [he, hn]; exact Tryd.underlying28
  rw [run_sliceAt_array_l W 28 ⟨g, 0, none⟩ ht .i64 k (by omega) (by rw [hn]; omega), dig_size, hn]
  simp only [Result.andThen, slicedAt, Int.toNat_natCast, Nat.mul_one]
  rw [if_neg (by omega)]
  congr 3
  unfold Addr.add
  split
  · congr 1; omega
  · simp
/-- All of a digest, as a slice. -/
theorem dig_all (g : Nat) (W : World) :
    (Instr.sliceAt 28 (.pointer (some ⟨g, 0, none⟩)) none none none).run Tryd.prog W = .ok (.slice (some ⟨g, 0, none⟩) 32 32) W := by
  have he : Tryd.prog.elem 28 = 5 := by kernel_rfl
  have hn : Tryd.prog.arrayLen 28 = 32 := by kernel_rfl
  have ht : Tryd.prog.underlying 28 = some (.array (Tryd.prog.arrayLen 28) (Tryd.prog.elem 28)) := by rw [he, hn]; exact Tryd.underlying28
  rw [run_sliceAt_array_all W 28 ⟨g, 0, none⟩ ht, dig_size, hn]
  simp only [Result.andThen, slicedAt, Nat.mul_one]
  rw [if_neg (by omega)]
  congr 3

def ab : Array Value := #[.int .u8 97, .int .u8 98]
def cc : Array Value := #[.int .u8 99]
/-- The parts that 'digests' lays. -/
theorem abc_parts (w : World) : Parts (((w.alloc (.cells ab 5 (2, 3))).alloc (.cells cc 5 (1, 2))).alloc (.cells #[.slice (some ⟨w.heap.size, 0, none⟩) 2 2, .slice (some ⟨w.heap.size + 1, 0, none⟩) 1 1] 22)) (w.heap.size + 1 + 1 + 1) (some ⟨w.heap.size + 1 + 1, 0, none⟩) [[97, 98], [99]] := by
  have l1 : (w.alloc (.cells ab 5 (2, 3))).heap.size = w.heap.size + 1 := by simp
  generalize h1 : w.alloc (.cells ab 5 (2, 3)) = w1 at *
  have l2 : (w1.alloc (.cells cc 5 (1, 2))).heap.size = w.heap.size + 1 + 1 := by simp [l1]
  have e1 : ∀ j, (w1.alloc (.cells cc 5 (1, 2))).cell? ⟨w.heap.size, j, none⟩ = ab[j]? := fun j => by
    rw [World.cell?_alloc_lt _ _ ⟨w.heap.size, j, none⟩ (by rw [l1]; exact Nat.lt_succ_self _), ← h1]
    exact World.cell?_alloc_mark w ab _ _ j
  have e2 : ∀ j, (w1.alloc (.cells cc 5 (1, 2))).cell? ⟨w.heap.size + 1, j, none⟩ = cc[j]? := fun j => by
    rw [← l1]
    exact World.cell?_alloc_mark w1 cc _ _ j
  generalize w1.alloc (.cells cc 5 (1, 2)) = w2 at *
  generalize hC : (#[.slice (some ⟨w.heap.size, 0, none⟩) 2 2, .slice (some ⟨w.heap.size + 1, 0, none⟩) 1 1] : Array Value) = C
  have e3 : ∀ j, (w2.alloc (.cells C 22)).cell? ⟨w.heap.size + 1 + 1, j, none⟩ = C[j]? := fun j => by
    rw [← l2]
    exact World.cell?_alloc_mark w2 C _ _ j
  have k1 : ∀ j, (w2.alloc (.cells C 22)).cell? ⟨w.heap.size, j, none⟩ = ab[j]? := fun j => by
    rw [World.cell?_alloc_lt _ _ ⟨w.heap.size, j, none⟩ (by rw [l2]; show w.heap.size < _; omega)]; exact e1 j
  have k2 : ∀ j, (w2.alloc (.cells C 22)).cell? ⟨w.heap.size + 1, j, none⟩ = cc[j]? := fun j => by
    rw [World.cell?_alloc_lt _ _ ⟨w.heap.size + 1, j, none⟩ (by rw [l2]; exact Nat.lt_succ_self _)]; exact e2 j
  subst hC
  refine fun _ => ⟨_, 0, rfl, by omega, fun j hj => ?_⟩
  match j, hj with
  | 0, _ => exact ⟨some ⟨w.heap.size, 0, none⟩, 2, e3 0, fun _ => ⟨_, 0, rfl, by omega, fun i hi => by
      match i, hi with
      | 0, _ => exact k1 0
      | 1, _ => exact k1 1⟩, by decide, by decide⟩
  | 1, _ => exact ⟨some ⟨w.heap.size + 1, 0, none⟩, 1, e3 1, fun _ => ⟨_, 0, rfl, by omega, fun i hi => by
      match i, hi with
      | 0, _ => exact k2 0⟩, by decide, by decide⟩

end Go.Proofs.YtengjagahhfjoaaDoor
