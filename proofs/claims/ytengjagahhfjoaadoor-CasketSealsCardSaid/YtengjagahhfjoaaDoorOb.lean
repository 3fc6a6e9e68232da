/-
  A counter and a nonce, taken by value.
-/
import Derived.Test.YtengjagahhfjoaaDoorOa
import Derived.Test.YtengjagahhfjoaaDoorKK
import Derived.ChangeSame
namespace Go.Proofs.YtengjagahhfjoaaDoor
open Go.ChangeShapes Go.WideShapes Go.ChangeAt Go.RowKit
set_option linter.unusedVariables false

section
variable {H : Type} {enc : TypeId × Value → H} {P : Program} {w : World} {base : Nat} {sp : Nat → Bool} {held : Bool}
theorem cells_arr8 {n fuel : Nat} {t e : TypeId} {cs : List Value} {d : DataW H × List MemPlace}
    (ht : P.underlying t = some (.array n e)) (he : P.underlying e = some (.int .u8)) (hc : P.cellsOf e = 1) (hct : P.cellsOf t = n)
    (hf : DataW.trod enc P w base sp held fuel t cs = some d) : ∃ l : List UInt8, cs = (rowOf l).toList ∧ l.length = n := by
  obtain ⟨xs, m, _, _, hsz, hl, hel⟩ := DataW.trod_array ht hf
  rw [hct] at hsz
  have hcell : ∀ i (hi : i < cs.length), ∃ z : Int, cs[i] = .int .u8 z ∧ 0 ≤ z ∧ z ≤ 255 := fun i hi => by
    have h0 := hel i (by omega)
    rw [hc, List.getElem?_eq_getElem (by omega)] at h0
    obtain ⟨z, e0, _, wz⟩ := DataW.trod_int he h0
    obtain ⟨b1, b2⟩ := bounds_u8 wz
    refine ⟨z, ?_, b1, b2⟩
    have e1 := congrArg (fun l => l[0]?) e0
    have e2 : (List.take 1 (List.drop (i * 1) cs))[0]? = some (.int .u8 z) := e1
    rw [Nat.mul_one, List.getElem?_take_of_lt (by omega), List.getElem?_drop, Nat.add_zero] at e2
    simpa [hi] using e2
  refine ⟨cs.map byteOf, ?_, by simp [hsz]⟩
  apply List.ext_getElem
  · simp [rowOf]
  · intro i h1 h2
    obtain ⟨z, ez, b1, b2⟩ := hcell i h1
    have hz : ((UInt8.ofNat z.toNat).toNat : Int) = z := by
      have : (UInt8.ofNat z.toNat).toNat = z.toNat := by simp; omega
      rw [this]; omega
    simp only [rowOf, List.getElem_map, ez, byteOf, hz]
/-- The cells of a counter and a nonce. -/
def atRow (c : Int) (nonce : List UInt8) : Array Value := #[.int .u32 c] ++ rowOf nonce
theorem open_at {t tc tn e : TypeId} {f0 f1 : Field} {b0 : Nat} {r : Reach} {v : Value} {d : DataW H} {p : List MemPlace}
    (ht : P.underlying t = some (.struct #[f0, f1])) (h0 : f0.type = tc ∧ f0.offset = 0) (h1 : f1.type = tn ∧ f1.offset = 1) (htc : P.underlying tc = some (.int .u32)) (hcc : P.cellsOf tc = 1)
    (htn : P.underlying tn = some (.array 12 e)) (he : P.underlying e = some (.int .u8)) (hce : P.cellsOf e = 1) (hcn : P.cellsOf tn = 12) (hct : P.cellsOf t = 13)
    (hv : Value.okWide P w r b0 t v) (h : DataW.Trod enc P w base sp held t v d p) :
    ∃ (c : Int) (l : List UInt8), v = .agg (atRow c l) ∧ l.length = 12 ∧ ok32q c := by
  obtain ⟨cs, rfl, hsz⟩ : ∃ cs, v = .agg cs ∧ cs.size = P.cellsOf t := by
    obtain ⟨cs, e, hs, _⟩ : ∃ cs, v = .agg cs ∧ cs.size = P.cellsOf t ∧ Row.okWide P w r b0 t cs := by simpa [Value.okWide, ht] using hv
    exact ⟨cs, e, hs⟩
  obtain ⟨fuel, hf⟩ := h
  obtain ⟨y0, y1, m, _, hl, g0, g1⟩ := trod_struct2 ht hf
  obtain ⟨e0, o0⟩ := h0
  obtain ⟨e1, o1⟩ := h1
  rw [e0, o0, hcc] at g0
  rw [e1, o1, hcn] at g1
  obtain ⟨c, ec, _, wc⟩ := DataW.trod_int htc g0
  obtain ⟨l, el, hll⟩ := cells_arr8 htn he hce hcn g1
  obtain ⟨b1, b2⟩ := bounds_u32 wc
  refine ⟨c, l, ?_, hll, b1, b2⟩
  have hcs : (Value.agg cs).cells.toList = cs.toList := by simp [Value.cells]
  have hlen : cs.toList.length = 13 := by rw [Array.length_toList, hsz, hct]
  congr 1
  apply Array.ext'
  have key : cs.toList = (cs.toList.drop 0).take 1 ++ (cs.toList.drop 1).take 12 := by
    rw [List.drop_zero, List.take_of_length_le (l := cs.toList.drop 1) (by rw [List.length_drop]; omega), List.take_append_drop]
  rw [key]
  have k0 : (cs.toList.drop 0).take 1 = [.int .u32 c] := by simpa [Value.cells] using ec
  have k1 : (cs.toList.drop 1).take 12 = (rowOf l).toList := by simpa [Value.cells] using el
  rw [k0, k1]
  simp [atRow]
end
end Go.Proofs.YtengjagahhfjoaaDoor
