/-
  The stream as one exclusive or; streamed twice; a part from a block on. What a counter and a nonce hold, by their parts.
-/
import Derived.Test.YtengjagahhfjoaaDoorK7K
import Derived.Test.YtengjagahhfjoaaDoorOb
import Derived.Test.YtengjagahhfjoaaDoorSt
import Derived.Test.YtengjagahhfjoaaDoorDn
namespace Go.Proofs.YtengjagahhfjoaaDoor
open Go.RowKit
set_option linter.unusedVariables false
set_option linter.unusedSimpArgs false

/-- The first k blocks. -/
def catS (key nonce : List UInt8) (c : Int) : Nat → List UInt8
  | 0 => []
  | k + 1 => catS key nonce c k ++ blockB key (ctrN c k) nonce
theorem catS_len (key nonce : List UInt8) (c : Int) (k : Nat) : (catS key nonce c k).length = 64 * k := by
  induction k with
  | zero => rfl
  | succ k ih => rw [catS, List.length_append, ih, blockB_len]; omega
theorem mixB_app : ∀ (p b q : List UInt8), mixB b (p ++ q) = mixB b p ++ mixB (b.drop p.length) q
  | [], b, q => by simp [mixB]
  | x :: p, [], q => by simp [mixB]
  | x :: p, y :: b, q => by
    have ih := mixB_app p b q
    show (y ^^^ x) :: mixB b (p ++ q) = (y ^^^ x) :: (mixB b p ++ mixB (b.drop p.length) q)
    rw [ih]
theorem soFar_cat (key nonce : List UInt8) (c : Int) (b : List UInt8) (k : Nat) : soFar key nonce c b k = mixB b (catS key nonce c k) := by
  induction k with
  | zero => simp [soFar, catS, mixB]
  | succ k ih => rw [soFar, catS, mixB_app, ih, catS_len]
theorem mixB_back : ∀ (l m : List UInt8), mixB (mixB l m) m = l.take (min l.length m.length)
  | [], m => by simp [mixB]
  | _ :: _, [] => by simp [mixB]
  | a :: l, b :: m => by
    have ih := mixB_back l m
    have e : a ^^^ b ^^^ b = a := by rw [UInt8.xor_assoc, UInt8.xor_self, UInt8.xor_zero]
    have hm : min (a :: l).length (b :: m).length = min l.length m.length + 1 := by simp only [List.length_cons]; omega
    rw [hm, List.take_succ_cons, ← ih]
    show (a ^^^ b ^^^ b) :: mixB (mixB l m) m = _
    rw [e]
theorem stream_twice (key nonce : List UInt8) (c : Int) (b : List UInt8) : streamB key nonce c (streamB key nonce c b) = b := by
  have hl := streamB_len key nonce c b
  rw [streamB, hl, soFar_cat]
  have h2 : streamB key nonce c b = mixB b (catS key nonce c ((b.length + 63) / 64)) := by rw [streamB, soFar_cat]
  rw [h2, mixB_back, catS_len]
  exact List.take_of_length_le (by omega)
theorem ctrN_shift (c : Int) (k : Nat) : ctrN ((c + 1) % 4294967296) k = ctrN c (k + 1) := by unfold ctrN; omega
theorem catS_left (key nonce : List UInt8) (c : Int) (k : Nat) : catS key nonce c (k + 1) = blockB key (ctrN c 0) nonce ++ catS key nonce ((c + 1) % 4294967296) k := by
  have h1 : ∀ d j, catS key nonce d (j + 1) = catS key nonce d j ++ blockB key (ctrN d j) nonce := fun d j => by rw [catS]
  have h0 : ∀ d, catS key nonce d 0 = [] := fun d => by rw [catS]
  induction k with
  | zero => rw [h1, h0, h0, List.nil_append, List.append_nil]
  | succ k ih => rw [h1, ih, h1, ctrN_shift, List.append_assoc]
theorem stream_tail (key nonce : List UInt8) (c : Int) (b : List UInt8) (h : 64 < b.length) : (streamB key nonce c b).drop 64 = streamB key nonce ((c + 1) % 4294967296) (b.drop 64) := by
  obtain ⟨k, hk⟩ : ∃ k, (b.length + 63) / 64 = k + 1 := ⟨(b.length + 63) / 64 - 1, by omega⟩
  have e2 : ((b.drop 64).length + 63) / 64 = k := by rw [List.length_drop]; omega
  have hb := blockB_len key (ctrN c 0) nonce
  have hd : ∀ X : List UInt8, (blockB key (ctrN c 0) nonce ++ X).drop 64 = X := fun X => by
    have h := List.drop_left (l₁ := blockB key (ctrN c 0) nonce) (l₂ := X)
    rwa [hb] at h
  rw [streamB, hk, soFar_cat, streamB, e2, soFar_cat, catS_left]
  generalize catS key nonce ((c + 1) % 4294967296) k = X at *
  have hd1 := hd X
  generalize blockB key (ctrN c 0) nonce ++ X = Y at *
  have e : (mixB b Y).drop 64 = mixB (b.drop 64) (Y.drop 64) := by
    unfold mixB
    rw [List.drop_zipWith]
  rw [e, hd1]

theorem atRow0 (c : Int) (nonce : List UInt8) : (atRow c nonce)[0]? = some (.int .u32 c) := by
  unfold atRow
  rw [Array.getElem?_append_left (by simp)]
  rfl
theorem atRow1 (c : Int) (nonce : List UInt8) (j : Nat) : (atRow c nonce)[1 + j]? = (rowOf nonce)[j]? := by
  simp [atRow, Array.getElem?_append, Nat.add_comm 1 j]
theorem at_rd {w : World} {g B : Nat} {t : TypeId} {c : Int} {nonce : List UInt8} (h : Bk w g t (atRow c nonce)) (hB : g < B) : Rd w B (some ⟨g, 1, none⟩) nonce := fun _ =>
  ⟨g, 1, rfl, hB, fun j hj => by rw [h.cell (1 + j), atRow1, rowOf_at nonce j hj]⟩
set_option maxRecDepth 100000 in
theorem sl_nonce1 (g : Nat) (W : World) :
    (Instr.sliceAt 29 (.pointer (some ⟨g, 1, none⟩)) none none none).run Tryd.prog W = .ok (.slice (some ⟨g, 1, none⟩) 12 12) W := by
  have he : Tryd.prog.elem 29 = 5 := by kernel_rfl
  have hn : Tryd.prog.arrayLen 29 = 12 := by kernel_rfl
  have ht : Tryd.prog.underlying 29 = some (.array (Tryd.prog.arrayLen 29) (Tryd.prog.elem 29)) := by rw [he, hn]; exact Tryd.underlying29
  rw [run_sliceAt_array_all W 29 ⟨g, 1, none⟩ ht, he, size8w, hn]
  rfl
end Go.Proofs.YtengjagahhfjoaaDoor
