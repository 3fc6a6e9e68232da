/-
  What may stand in each sector; bools that came in.
-/
import Derived.Test.YtibnfldddpmafaaDkn
namespace Go.Proofs.Ytibnfldddpmafaa
open Go.ChangeShapes Go.WideShapes Go.ChangeAt Go.RowKit
set_option linter.unusedVariables false
set_option linter.unusedSimpArgs false

theorem open_boolK {H : Type} {enc : TypeId × Value → H} {P : Program} {t e : TypeId} {w : World} {b0 : Nat} {sp : Nat → Bool} {held : Bool} {r : Reach} {v : Value} {d : DataW H} {p : List MemPlace}
    (ht : P.underlying t = some (.slice e)) (he : P.underlying e = some .bool) (hc : P.cellsOf e = 1) (hv : Value.okWide P w r b0 t v) (h : DataW.Trod enc P w 0 sp held t v d p) :
    ∃ A S c, v = .slice A (S : List Bool).length c ∧ RdB w w.heap.size A S ∧ S.length ≤ c ∧ c ≤ maxLen := by
  obtain ⟨a0, len, cap, rfl⟩ := okWide_slice ht hv
  obtain ⟨fuel, hf⟩ := h
  obtain ⟨A, S, c, e1, h1, h2, h3⟩ := cells_boolsK ht he hc hf
  simp [Value.cells] at e1
  obtain ⟨rfl, rfl, rfl⟩ := e1
  exact ⟨_, S, _, rfl, h1, h2, h3⟩
/-- 1536 bools. -/
def mayC (M : Nat → Bool) : Array Value := ((List.range 1536).map fun k => Value.bool (M k)).toArray
theorem mayC_at (M : Nat → Bool) (k : Nat) (h : k < 1536) : (mayC M)[k]? = some (.bool (M k)) := by
  unfold mayC
  rw [List.getElem?_toArray, List.getElem?_map, List.getElem?_range h]
  rfl
theorem mayC_size (M : Nat → Bool) : (mayC M).size = 1536 := by simp only [mayC, List.size_toArray, List.length_map, List.length_range]
theorem mayC_set (M : Nat → Bool) (j : Nat) (hj : j < 1536) : (mayC M).setIfInBounds j (.bool true) = mayC (fun k => decide (k = j) || M k) := by
  apply Array.ext_getElem?
  intro k
  rw [Array.getElem?_setIfInBounds, mayC_size]
  by_cases hk : j = k
  · subst hk
    rw [if_pos rfl, if_pos hj, mayC_at _ _ hj]
    simp
  · rw [if_neg hk]
    by_cases h : k < 1536
    · rw [mayC_at _ _ h, mayC_at _ _ h]
      have : decide (k = j) = false := decide_eq_false (fun e => hk e.symm)
      rw [this]
      rfl
    · rw [Array.getElem?_eq_none (by rw [mayC_size]; omega), Array.getElem?_eq_none (by rw [mayC_size]; omega)]
theorem zeroM (W : World) : (zeroValue 58).run Try.prog W = .ok (.agg (mayC fun _ => false)) W := by kernel_rfl
def zb6 : List UInt8 := List.replicate 6 0
theorem zb6_len : zb6.length = 6 := by simp [zb6]
theorem zero6 (W : World) : (zeroValue 56).run Try.prog W = .ok (.agg (rowOf zb6)) W := by kernel_rfl
/-- S holds, in each of its six sectors, one of what may stand there. -/
def MayS (M : Nat → Bool) (S : List (List UInt8)) : Prop := S.length = 6 ∧ ∀ k, k < 6 → ∃ b : UInt8, S.getD k [] = secB b ∧ M (k * 256 + b.toNat) = true
def MayR (M : Nat → Bool) (R : List WrV) : Prop := ∀ x ∈ R, x.1 < 6 ∧ ∃ b : UInt8, x.2 = secB b ∧ M (x.1 * 256 + b.toNat) = true
theorem MayS.more {M M' : Nat → Bool} {S : List (List UInt8)} (h : MayS M S) (hm : ∀ k, M k = true → M' k = true) : MayS M' S := ⟨h.1, fun k hk => by
  obtain ⟨b, h1, h2⟩ := h.2 k hk
  exact ⟨b, h1, hm _ h2⟩⟩
theorem MayR.more {M M' : Nat → Bool} {R : List WrV} (h : MayR M R) (hm : ∀ k, M k = true → M' k = true) : MayR M' R := fun x hx => by
  obtain ⟨h0, b, h1, h2⟩ := h x hx
  exact ⟨h0, b, h1, hm _ h2⟩
theorem MayS.set {M : Nat → Bool} {S : List (List UInt8)} (h : MayS M S) (i : Nat) (hi : i < 6) (b : UInt8) (hb : M (i * 256 + b.toNat) = true) : MayS M (S.set i (secB b)) := by
  refine ⟨by rw [List.length_set]; exact h.1, fun k hk => ?_⟩
  by_cases hik : i = k
  · subst hik
    exact ⟨b, by simp [List.getD, h.1, hk], hb⟩
  · obtain ⟨b', h1, h2⟩ := h.2 k hk
    exact ⟨b', by rw [← h1]; simp [List.getD, hik], h2⟩
theorem may_appl {M : Nat → Bool} : ∀ (R : List WrV) (S : List (List UInt8)), MayS M S → MayR M R → MayS M (appl S R)
  | [], S, h, _ => h
  | x :: R, S, h, hr => by
    obtain ⟨h0, b, h1, h2⟩ := hr x (by simp)
    have ih := may_appl R (S.set x.1 x.2) (by rw [h1]; exact h.set _ h0 b h2) (fun y hy => hr y (List.mem_cons_of_mem _ hy))
    simpa [appl] using ih
theorem zsecs_map (n : Nat) : zsecs n = (List.replicate n (0 : UInt8)).map secB := by
  unfold zsecs
  rw [List.map_replicate]
  rfl
theorem mayS_map {M : Nat → Bool} {L : List UInt8} (hL : L.length = 6) (h : ∀ k, k < 6 → M (k * 256 + (L.getD k 0).toNat) = true) : MayS M (L.map secB) := by
  refine ⟨by rw [List.length_map]; exact hL, fun k hk => ⟨L.getD k 0, ?_, h k hk⟩⟩
  have : k < L.length := by omega
  simp [List.getD, this]
theorem map_set (L : List UInt8) (k : Nat) (b : UInt8) : (L.map secB).set k (secB b) = (L.set k b).map secB := by rw [List.map_set]
theorem secB_at (b : UInt8) : (rowOf (secB b))[0]? = some (.int .u8 ((b.toNat : Nat) : Int)) := by
  rw [rowOf_at _ _ (by rw [secB_len]; omega)]
  unfold secB
  rw [List.getD_eq_getElem?_getD, List.getElem?_replicate, if_pos (by omega)]
  rfl
/-- The bytes that were written first, by then. -/
def DfI (B : Nat) (w : World) (p q gf j : Nat) (L : List UInt8) : Prop := L.length = 6 ∧ Bk w gf 56 (rowOf L) ∧ ∃ R, R.length ≤ j ∧ appl (zsecs 6) R = L.map secB ∧ DkI B w p q 6 (zsecs 6) R 0 false
theorem DfI.below {B : Nat} {w w' : World} {p q gf j : Nat} {L : List UInt8} (h : DfI B w p q gf j L) (hb : Below w.heap.size w w') : DfI B w' p q gf j L := by
  obtain ⟨h1, h2, R, h3, h4, h5⟩ := h
  exact ⟨h1, h2.below hb h2.lt, R, h3, h4, h5.below hb⟩
end Go.Proofs.Ytibnfldddpmafaa
