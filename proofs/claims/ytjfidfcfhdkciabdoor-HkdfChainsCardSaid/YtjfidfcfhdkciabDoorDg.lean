/-
  casketlaw02.digests: "abc" has its digest.
-/
import Derived.Test.YtjfidfcfhdkciabDoorSv
import Derived.Lib.SlBytesConst
namespace Go.Proofs.YtjfidfcfhdkciabDoor
open Go.RowKit
set_option linter.unusedVariables false

theorem Bk.rd {w : World} {g B : Nat} {t : TypeId} {l : List UInt8} (h : Bk w g t (rowOf l)) (hB : g < B) : Rd w B (some ⟨g, 0, none⟩) l := fun _ =>
  ⟨g, 0, rfl, hB, fun j hj => by rw [Nat.zero_add, h.cell, rowOf_at l j hj]⟩

theorem dig_size (W : World) : (sizeOf (Tryd.prog.elem 34)).run Tryd.prog W = .ok 1 W := by
  have he : Tryd.prog.elem 34 = 5 := by kernel_rfl
  rw [he]
  obtain ⟨i, hi, hz, hsize, hby⟩ := info_parts info8
  simp [sizeOf, typeInfo, hi, hsize]
/-- The beginning of a digest, as a slice. -/
theorem dig_to (g : Nat) (k : Nat) (hk : k ≤ 32) (W : World) :
    (Instr.sliceAt 34 (.pointer (some ⟨g, 0, none⟩)) none (some (.int .i64 (k : Int))) none).run Tryd.prog W = .ok (.slice (some ⟨g, 0, none⟩) k 32) W := by
  have he : Tryd.prog.elem 34 = 5 := by kernel_rfl
  have hn : Tryd.prog.arrayLen 34 = 32 := by kernel_rfl
  have ht : Tryd.prog.underlying 34 = some (.array (Tryd.prog.arrayLen 34) (Tryd.prog.elem 34)) := by rw [he, hn]; exact Tryd.underlying34
  rw [run_sliceAt_array_h W 34 ⟨g, 0, none⟩ ht .i64 k (by omega) (by rw [hn]; omega), dig_size, hn]
  simp only [Result.andThen, slicedAt, Int.toNat_natCast, Nat.mul_one]
  rw [if_neg (by omega)]
  congr 3
/-- The rest of a digest, as a slice. -/
theorem dig_from (g : Nat) (k : Nat) (hk : k < 32) (W : World) :
    (Instr.sliceAt 34 (.pointer (some ⟨g, 0, none⟩)) (some (.int .i64 (k : Int))) none none).run Tryd.prog W = .ok (.slice (some ⟨g, k, none⟩) (32 - k) (32 - k)) W := by
  have he : Tryd.prog.elem 34 = 5 := by kernel_rfl
  have hn : Tryd.prog.arrayLen 34 = 32 := by kernel_rfl
  have ht : Tryd.prog.underlying 34 = some (.array (Tryd.prog.arrayLen 34) (Tryd.prog.elem 34)) := by rw [he, hn]; exact Tryd.underlying34
  rw [run_sliceAt_array_l W 34 ⟨g, 0, none⟩ ht .i64 k (by omega) (by rw [hn]; omega), dig_size, hn]
  simp only [Result.andThen, slicedAt, Int.toNat_natCast, Nat.mul_one]
  rw [if_neg (by omega)]
  congr 3
  unfold Addr.add
  split
  · congr 1; omega
  · simp
/-- All of a digest, as a slice. -/
theorem dig_all (g : Nat) (W : World) :
    (Instr.sliceAt 34 (.pointer (some ⟨g, 0, none⟩)) none none none).run Tryd.prog W = .ok (.slice (some ⟨g, 0, none⟩) 32 32) W := by
  have he : Tryd.prog.elem 34 = 5 := by kernel_rfl
  have hn : Tryd.prog.arrayLen 34 = 32 := by kernel_rfl
  have ht : Tryd.prog.underlying 34 = some (.array (Tryd.prog.arrayLen 34) (Tryd.prog.elem 34)) := by rw [he, hn]; exact Tryd.underlying34
  rw [run_sliceAt_array_all W 34 ⟨g, 0, none⟩ ht, dig_size, hn]
  simp only [Result.andThen, slicedAt, Nat.mul_one]
  rw [if_neg (by omega)]
  congr 3

def ab : Array Value := #[.int .u8 97, .int .u8 98]
def cc : Array Value := #[.int .u8 99]
/-- The parts that 'digests' lays. -/
theorem abc_parts (w : World) : Parts (((w.alloc (.cells ab 5 (2, 3))).alloc (.cells cc 5 (1, 2))).alloc (.cells #[.slice (some ⟨w.heap.size, 0, none⟩) 2 2, .slice (some ⟨w.heap.size + 1, 0, none⟩) 1 1] 29)) (w.heap.size + 1 + 1 + 1) (some ⟨w.heap.size + 1 + 1, 0, none⟩) [[97, 98], [99]] := by
  have l1 : (w.alloc (.cells ab 5 (2, 3))).heap.size = w.heap.size + 1 := by simp
  generalize h1 : w.alloc (.cells ab 5 (2, 3)) = w1 at *
  have l2 : (w1.alloc (.cells cc 5 (1, 2))).heap.size = w.heap.size + 1 + 1 := by simp [l1]
  have e1 : ∀ j, (w1.alloc (.cells cc 5 (1, 2))).cell? ⟨w.heap.size, j, none⟩ = ab[j]? := fun j => by
    rw [World.cell?_alloc_lt _ _ ⟨w.heap.size, j, none⟩ (by rw [l1]; exact Nat.lt_succ_self _), ← h1]
    exact World.cell?_alloc_mark w ab _ _ j
  have e2 : ∀ j, (w1.alloc (.cells cc 5 (1, 2))).cell? ⟨w.heap.size + 1, j, none⟩ = cc[j]? := fun j => by
    rw [← l1]
    exact World.cell?_alloc_mark w1 cc _ _ j
  generalize w1.alloc (.cells cc 5 (1, 2)) = w2 at *
  generalize hC : (#[.slice (some ⟨w.heap.size, 0, none⟩) 2 2, .slice (some ⟨w.heap.size + 1, 0, none⟩) 1 1] : Array Value) = C
  have e3 : ∀ j, (w2.alloc (.cells C 29)).cell? ⟨w.heap.size + 1 + 1, j, none⟩ = C[j]? := fun j => by
    rw [← l2]
    exact World.cell?_alloc_mark w2 C _ _ j
  have k1 : ∀ j, (w2.alloc (.cells C 29)).cell? ⟨w.heap.size, j, none⟩ = ab[j]? := fun j => by
    rw [World.cell?_alloc_lt _ _ ⟨w.heap.size, j, none⟩ (by rw [l2]; show w.heap.size < _; omega)]; exact e1 j
  have k2 : ∀ j, (w2.alloc (.cells C 29)).cell? ⟨w.heap.size + 1, j, none⟩ = cc[j]? := fun j => by
    rw [World.cell?_alloc_lt _ _ ⟨w.heap.size + 1, j, none⟩ (by rw [l2]; exact Nat.lt_succ_self _)]; exact e2 j
  subst hC
  refine fun _ => ⟨_, 0, rfl, by omega, fun j hj => ?_⟩
  match j, hj with
  | 0, _ => exact ⟨some ⟨w.heap.size, 0, none⟩, 2, e3 0, fun _ => ⟨_, 0, rfl, by omega, fun i hi => by
      match i, hi with
      | 0, _ => exact k1 0
      | 1, _ => exact k1 1⟩, by decide, by decide⟩
  | 1, _ => exact ⟨some ⟨w.heap.size + 1, 0, none⟩, 1, e3 1, fun _ => ⟨_, 0, rfl, by omega, fun i hi => by
      match i, hi with
      | 0, _ => exact k2 0⟩, by decide, by decide⟩

set_option maxRecDepth 100000 in
set_option maxHeartbeats 2000000 in
theorem digests_any (w : World) (ht : Tab w) (hg1 : 0 < w.heap.size) :
    Calls Tryd.prog 20 #[] w fun e w' => e = .returned (.bool true) ∧ Below w.heap.size w w' := by
  have c1 := fun A n c ls W h1 h2 h3 h4 h5 h6 => sum_any A n c ls W h1 h2 h3 h4 h5 h6
  have hz := z32
  have HT := hid_ ht
  clear ht
  have k1 := fun (W : World) (C : Array Value) (n c : Nat) => Lib.run_convert_bytes_const (P := Tryd.prog) W 29 5 C n c Tryd.underlying29 Tryd.underlying5
  have k2 : ∀ (W : World) (C : Array Value) (n c g : Nat) (hg : W.heap.size = g), (convert 29 29 (.slice (some ⟨g, 0, none⟩) n c)).run Tryd.prog (W.alloc (.cells C 5)) = .ok (.slice (some ⟨g, 0, none⟩) n c) (W.alloc (.cells C 5 (C.size, C.size + 1))) := fun W C n c g hg => by subst hg; exact k1 W C n c
  have k3 := k2 (w.alloc (.cells #[.int .u8 97, .int .u8 98] 5 (2, 3))) #[.int .u8 99] 1 1 (w.heap.size + 1) (by simp)
  go_enter Tryd.func20, Tryd.ntmps20
  obtain ⟨dg, hdg⟩ : ∃ dg, Hid (sha [97, 98, 99] = dg) := ⟨_, rfl⟩
  have e32 : (Tryd.prog.info? 34).map (·.size) = some (rowOf dg).size := by rw [← hdg.out, rowOf_size, sha_len]; exact i32_
  have q32 : (rowOf (zbytes 32)).size = (rowOf dg).size := by rw [← hdg.out, rowOf_size, rowOf_size, sha_len, zbytes_len]
  have E32 := hid_ e32
  have Q32 := hid_ q32
  clear e32 q32
  have hs8 : strOf (dg.take 8) = ⟨#[186, 120, 22, 191, 143, 1, 207, 234]⟩ := by rw [← hdg.out, sha_abc]; rfl
  have hs4 : strOf (dg.drop 28) = ⟨#[242, 0, 21, 173]⟩ := by rw [← hdg.out, sha_abc]; rfl
  have hl : dg.length = 32 := by rw [← hdg.out]; exact sha_len _
  have t8 := fun g W => dig_to g 8 (by omega) W
  have t28 := fun g W => dig_from g 28 (by omega) W
  have bw : Below w.heap.size w (((w.alloc (.cells ab 5 (2, 3))).alloc (.cells cc 5 (1, 2))).alloc (.cells #[.slice (some ⟨w.heap.size, 0, none⟩) 2 2, .slice (some ⟨w.heap.size + 1, 0, none⟩) 1 1] 29)) :=
    (((Below.refl w.heap.size w).alloc (Nat.le_refl _) _).alloc (by simp) _).alloc (by simp; omega) _
  have hc := c1 (some ⟨w.heap.size + 1 + 1, 0, none⟩) 2 2 [[97, 98], [99]] _ rfl (by simpa using abc_parts w) (by decide) (by decide) (fun t h => (bw.cell hg1).trans (HT.out t h)) (Nat.lt_of_lt_of_le hg1 bw.size)
  rw [show ([[97, 98], [99]] : List (List UInt8)).flatten = [97, 98, 99] from rfl, hdg.out] at hc
  unfold ab cc at hc bw
  have BW := hid_ bw
  clear c1 bw
  go_wp2_with (first
    | (go_at_call 19; ((with_reducible refine hc.mono ?_); rintro e w4 ⟨rfl, hb4⟩))
    | (refine wpList_put_row rfl 34 _ _ rfl w4.heap.size (rowOf dg) rfl rfl 34 (rowOf (zbytes 32)) (Bk.new w4 _ _) E32.out Q32.out (bytes_one _) ?_; intro w5 k5 g5 s5;
       have v8 := conv_strn ((k5.rd (Nat.lt_succ_self _)).take 8) 8 32 (by simp [hl]);
       have v4 := conv_strn (Rd.drop (off := 0) (k5.rd (Nat.lt_succ_self _)) 28) 4 4 (by simp [hl]);
       rw [hs8] at v8; rw [hs4] at v4; rw [Nat.zero_add] at v4))
  have f4 := BW.out.trans (hb4.mono BW.out.size)
  have f5 := (f4.alloc f4.size (.cells (rowOf (zbytes 32)) 34)).grown g5 (by simp; have := f4.size; omega) (fun k hk => by injection hk with hk; have := f4.size; omega)
  go_ret
  exact ⟨rfl, f5⟩
end Go.Proofs.YtjfidfcfhdkciabDoor
