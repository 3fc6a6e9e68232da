/-
  Contracts: bits.PutLow, slices.Reverse at bytes, bits.PutHigh.
-/
import Derived.Test.YtibnfldddpmafaaWd
import Derived.Test.YtibnfldddpmafaaBl
import Derived.Outline
import Derived.RegionTactic
import Derived.WalkLawsBesides
namespace Go.Proofs.Ytibnfldddpmafaa
open Go.RowKit

theorem info8 : (Try.prog.info? 5).map (fun i => (i.zero, i.size, i.bytes)) = some (some (.int .u8 0), 1, 1) := by kernel_rfl
theorem mk8 (n : Nat) (hn : n ≤ 281474976710656) (w : World) :
    (Instr.makeSlice 36 (.int .i64 (n : Int)) (.int .i64 (n : Int))).run Try.prog w = .ok (.slice (some ⟨w.heap.size, 0, none⟩) n n) (w.alloc (.cells (rowOf (List.replicate n 0)) 5)) := by
  rw [← rowOf_made]
  exact run_make_row' 36 5 (.int .u8 0) 1 Try.underlying36 info8 rfl _ _ n (by omega) (by omega) w

/-- The lowest n bytes of x, the lowest first. -/
def lowB (n : Nat) (x : Nat) : List UInt8 := (List.range n).map fun i => UInt8.ofNat (x / 256 ^ i % 256)
theorem lowB_len (n x : Nat) : (lowB n x).length = n := by simp [lowB]
theorem lowB_succ (n x : Nat) : lowB (n + 1) x = lowB n x ++ [UInt8.ofNat (x / 256 ^ n % 256)] := by simp [lowB, List.range_succ]

theorem set_mid (l r : List UInt8) (b : UInt8) : (l ++ (0 :: r)).set l.length b = (l ++ [b]) ++ r := by
  rw [List.set_append_right _ _ (Nat.le_refl _)]
  simp
theorem low_step (n x k : Nat) (hk : k < n) : (lowB k x ++ List.replicate (n - k) 0).set k (UInt8.ofNat (x / 256 ^ k % 256)) = lowB (k + 1) x ++ List.replicate (n - (k + 1)) 0 := by
  have e : n - k = (n - (k + 1)) + 1 := by omega
  have h := set_mid (lowB k x) (List.replicate (n - (k + 1)) 0) (UInt8.ofNat (x / 256 ^ k % 256))
  rw [lowB_len] at h
  rw [e, List.replicate_succ, h, lowB_succ]

/-- So far turned: the first k and the last k. -/
def revAt (l : List UInt8) (k : Nat) (m : List UInt8) : Prop :=
  m.length = l.length ∧ ∀ i, i < l.length → m.getD i 0 = if i < k ∨ l.length ≤ i + k then l.getD (l.length - 1 - i) 0 else l.getD i 0
theorem revAt_zero (l : List UInt8) : revAt l 0 l := ⟨rfl, fun i hi => by rw [if_neg (by omega)]⟩
theorem getD_set (l : List UInt8) (i j : Nat) (b : UInt8) (hi : i < l.length) : (l.set i b).getD j 0 = if i = j then b else l.getD j 0 := by
  by_cases h : i = j
  · subst h; simp [List.getD, hi]
  · simp [List.getD, h]
theorem revAt_step {l m : List UInt8} {k j : Nat} (h : revAt l k m) (hkj : k < j) (hj : j + k + 1 = l.length) : revAt l (k + 1) ((m.set k (m.getD j 0)).set j (m.getD k 0)) := by
  obtain ⟨hl, h⟩ := h
  refine ⟨by simp [hl], fun i hi => ?_⟩
  rw [getD_set _ _ _ _ (by simp; omega), getD_set _ _ _ _ (by omega)]
  have hk := h k (by omega)
  have hj' := h j (by omega)
  rw [if_neg (by omega)] at hk hj'
  by_cases h1 : j = i
  · subst h1
    rw [if_pos rfl, if_pos (by omega), hk]
    congr 1; omega
  · rw [if_neg h1]
    by_cases h2 : k = i
    · subst h2
      rw [if_pos rfl, if_pos (by omega), hj']
      congr 1; omega
    · rw [if_neg h2, h i hi]
      by_cases h3 : i < k ∨ l.length ≤ i + k
      · rw [if_pos h3, if_pos (by omega)]
      · rw [if_neg h3, if_neg (by omega)]
theorem revAt_end {l m : List UInt8} {k : Nat} (h : revAt l k m) (hk : l.length ≤ 2 * k + 1) : m = l.reverse := by
  obtain ⟨hl, h⟩ := h
  apply List.ext_getElem
  · simp [hl]
  · intro i h1 h2
    have hi := h i (by omega)
    have e : (if i < k ∨ l.length ≤ i + k then l.getD (l.length - 1 - i) 0 else l.getD i 0) = l.getD (l.length - 1 - i) 0 := by
      by_cases h3 : i < k ∨ l.length ≤ i + k
      · rw [if_pos h3]
      · rw [if_neg h3]; congr 1; omega
    rw [e] at hi
    simp [List.getD, h1] at hi
    rw [hi, List.getElem_reverse, List.getElem?_eq_getElem (by omega)]
    rfl

theorem grown_put {a w : World} {g : Nat} (h : a.grownBy w (some g)) (o : Nat) (u : Value) : a.grownBy (w.setCell ⟨g, o, none⟩ u) (some g) :=
  ⟨h.os, h.tape, h.output, by simpa [World.setCell] using h.size, fun i hi hne => (Below.heap_setCell w ⟨g, o, none⟩ u i (fun e => hne (by rw [e]))).trans (h.block i hi hne)⟩
theorem grown_drew {a w : World} {row : Option Nat} (h : a.grownBy w row) : a.grownBy w.drew row := ⟨h.os, h.tape, h.output, h.size, h.block⟩

/-- The lowest n bytes of x, the highest first. -/
def highB (n x : Nat) : List UInt8 := (lowB n x).reverse
theorem highB_len (n x : Nat) : (highB n x).length = n := by simp [highB, lowB_len]

end Go.Proofs.Ytibnfldddpmafaa
