/-
  A slice of ints that came in.
-/
import Derived.Test.YtnlipmcnpekifaaGa
import Derived.Test.YtnlipmcnpekifaaLp
namespace Go.Proofs.Ytnlipmcnpekifaa
set_option maxRecDepth 100000
open Go.ChangeShapes Go.WideShapes Go.ChangeAt Go.RowKit
set_option linter.unusedVariables false
set_option linter.unusedSimpArgs false

/-- A slice that reads as these ints, all of it below B. -/
def RdI (w : World) (B : Nat) (A : Option Addr) (l : List Int) : Prop :=
  0 < l.length → ∃ b off, A = some ⟨b, off, none⟩ ∧ b < B ∧ ∀ j, j < l.length → w.cell? ⟨b, off + j, none⟩ = some (.int .i64 (l.getD j 0))
theorem RdI.below {w w' : World} {B : Nat} {A : Option Addr} {l : List Int} (h : RdI w B A l) (hb : Below B w w') : RdI w' B A l := fun hn => by
  obtain ⟨b, off, e, hlt, hc⟩ := h hn
  exact ⟨b, off, e, hlt, fun j hj => (hb.cell (p := ⟨b, off + j, none⟩) hlt).trans (hc j hj)⟩
theorem open_i64s {H : Type} {enc : TypeId × Value → H} {P : Program} {t e : TypeId} {w : World} {b0 : Nat} {sp : Nat → Bool} {held : Bool} {r : Reach} {v : Value} {d : DataW H} {p : List MemPlace}
    (ht : P.underlying t = some (.slice e)) (he : P.underlying e = some (.int .i64)) (hc : P.cellsOf e = 1)
    (hv : Value.okWide P w r b0 t v) (h : DataW.Trod enc P w 0 sp held t v d p) :
    ∃ A l c, v = .slice A (l : List Int).length c ∧ RdI w w.heap.size A l ∧ l.length ≤ c ∧ c ≤ maxLen ∧ ∀ z ∈ l, -9223372036854775808 ≤ z ∧ z ≤ 9223372036854775807 := by
  obtain ⟨a0, len, cap, rfl⟩ := okWide_slice ht hv
  obtain ⟨fuel, hf⟩ := h
  rcases open_ints ht he hc hf with ⟨hcs, hx⟩ | ⟨a, len', cap', zs, hcs, _, hl, hm, hz, hx, hcell, hwz⟩
  · simp [Value.cells] at hcs
    obtain ⟨rfl, rfl, rfl⟩ := hcs
    exact ⟨none, [], 0, rfl, fun h => by simp at h, Nat.le_refl _, Nat.zero_le _, fun z hz => by simp at hz⟩
  · simp [Value.cells] at hcs
    obtain ⟨rfl, rfl, rfl⟩ := hcs
    have hzl : len ≤ zs.length := by
      rw [hz]; split <;> omega
    have hlen : (zs.take len).length = len := by rw [List.length_take]; omega
    refine ⟨some a, zs.take len, cap, by rw [hlen], fun h0 => ?_, by rw [hlen]; exact hl, hm, fun z hzm => ?_⟩
    · rw [hlen] at h0
      obtain ⟨b, off, spot⟩ := a
      have hc0 := hcell 0 (by omega)
      have hspot : spot = none := by simpa [Addr.add] using World.cell?_spot hc0
      subst hspot
      have hplain : ∀ j, (⟨b, off, none⟩ : Addr).add j = ⟨b, off + j, none⟩ := fun j => by unfold Addr.add; split <;> simp_all
      refine ⟨b, off, rfl, World.block_lt_of_cell? w _ hc0, fun j hj => ?_⟩
      rw [hlen] at hj
      rw [← hplain, hcell j (by omega)]
      simp [List.getD, hj, show j < zs.length by omega]
    · exact bounds_i64 (hwz z (List.mem_of_mem_take hzm))
/-- What an In leaves is no longer than what it had. -/
theorem numS_le (size : Nat) (most : Int) (l : List UInt8) (err : Int) : (numS size most l err).2.1.length ≤ l.length := by
  unfold numS
  split
  · exact Nat.le_refl _
  · split
    · exact Nat.le_refl _
    · split
      · exact Nat.le_refl _
      · simp
theorem fixS_le (n : Int) (l : List UInt8) (err : Int) : (fixS n l err).2.1.length ≤ l.length := by
  unfold fixS
  split
  · exact Nat.le_refl _
  · split
    · exact Nat.le_refl _
    · simp
theorem bytS_le (most : Int) (l : List UInt8) (err : Int) : (bytS most l err).2.1.length ≤ l.length := Nat.le_trans (fixS_le _ _ _) (numS_le _ _ _ _)
/-- Once there is an error, what is left says nothing any more. -/
theorem numS_same (size : Nat) (most : Int) (l l' : List UInt8) (err : Int) (h : err = 0 → l' = l) : (numS size most l' err).1 = (numS size most l err).1 ∧ (numS size most l' err).2.2 = (numS size most l err).2.2 ∧ ((numS size most l err).2.2 = 0 → (numS size most l' err).2.1 = (numS size most l err).2.1) := by
  by_cases he : err = 0
  · rw [h he]; exact ⟨rfl, rfl, fun _ => rfl⟩
  · rw [numS_off he, numS_off he]; exact ⟨rfl, rfl, fun e => absurd e he⟩
theorem fixS_same (n : Int) (l l' : List UInt8) (err : Int) (h : err = 0 → l' = l) : (fixS n l' err).1 = (fixS n l err).1 ∧ (fixS n l' err).2.2 = (fixS n l err).2.2 ∧ ((fixS n l err).2.2 = 0 → (fixS n l' err).2.1 = (fixS n l err).2.1) := by
  by_cases he : err = 0
  · rw [h he]; exact ⟨rfl, rfl, fun _ => rfl⟩
  · rw [fixS_off (.inl he), fixS_off (.inl he)]; exact ⟨rfl, rfl, fun e => absurd e he⟩
theorem bytS_same (most : Int) (l l' : List UInt8) (err : Int) (h : err = 0 → l' = l) : (bytS most l' err).1 = (bytS most l err).1 ∧ (bytS most l' err).2.2 = (bytS most l err).2.2 ∧ ((bytS most l err).2.2 = 0 → (bytS most l' err).2.1 = (bytS most l err).2.1) := by
  by_cases he : err = 0
  · rw [h he]; exact ⟨rfl, rfl, fun _ => rfl⟩
  · unfold bytS
    rw [numS_off he, numS_off he]
    exact fixS_same 0 l l' err h
theorem endS_same (l l' : List UInt8) (err : Int) (h : err = 0 → l' = l) : endS l' err = endS l err := by
  by_cases he : err = 0
  · rw [h he]
  · unfold endS
    rw [if_pos he, if_pos he]
end Go.Proofs.Ytnlipmcnpekifaa
