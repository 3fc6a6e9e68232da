/-
  An array of bytes, taken by value.
-/
import Derived.Test.YtegfnlnbhhmkjaaDoorLp
namespace Go.Proofs.YtegfnlnbhhmkjaaDoor
set_option maxRecDepth 100000
open Go.ChangeShapes Go.WideShapes Go.ChangeAt Go.RowKit
set_option linter.unusedVariables false

def byteOf : Value → UInt8
  | .int _ z => UInt8.ofNat z.toNat
  | _ => 0
theorem open_arr8 {H : Type} {enc : TypeId × Value → H} {P : Program} {n : Nat} {t e : TypeId} {w : World} {b0 base : Nat} {sp : Nat → Bool} {held : Bool} {r : Reach} {v : Value} {d : DataW H} {p : List MemPlace}
    (ht : P.underlying t = some (.array n e)) (he : P.underlying e = some (.int .u8)) (hc : P.cellsOf e = 1) (hct : P.cellsOf t = n)
    (hv : Value.okWide P w r b0 t v) (h : DataW.Trod enc P w base sp held t v d p) :
    ∃ l : List UInt8, v = .agg (rowOf l) ∧ l.length = n := by
  obtain ⟨cs, rfl, hsz, _⟩ : ∃ cs, v = .agg cs ∧ cs.size = P.cellsOf t ∧ Row.okWide P w r b0 t cs := by simpa [Value.okWide, ht] using hv
  rw [hct] at hsz
  obtain ⟨fuel, hf⟩ := h
  obtain ⟨xs, m, _, _, _, hl, hel⟩ := DataW.trod_array ht hf
  have hcell : ∀ i (hi : i < cs.size), ∃ z : Int, cs[i] = .int .u8 z ∧ 0 ≤ z ∧ z ≤ 255 := fun i hi => by
    have h0 := hel i (by omega)
    rw [hc, List.getElem?_eq_getElem (by omega)] at h0
    obtain ⟨z, e0, _, wz⟩ := DataW.trod_int he h0
    obtain ⟨b1, b2⟩ := bounds_u8 wz
    refine ⟨z, ?_, b1, b2⟩
    have e1 := congrArg (fun l => l[0]?) e0
    have e2 : (List.take 1 (List.drop (i * 1) cs.toList))[0]? = some (.int .u8 z) := e1
    rw [Nat.mul_one, List.getElem?_take_of_lt (by omega), List.getElem?_drop, Nat.add_zero] at e2
    simpa [hi] using e2
  refine ⟨cs.toList.map byteOf, ?_, by simp [hsz]⟩
  congr 1
  apply Array.ext
  · simp [rowOf]
  · intro i h1 h2
    obtain ⟨z, ez, b1, b2⟩ := hcell i h1
    have hz : ((UInt8.ofNat z.toNat).toNat : Int) = z := by
      have : (UInt8.ofNat z.toNat).toNat = z.toNat := by simp; omega
      rw [this]; omega
    have e3 : (rowOf (cs.toList.map byteOf))[i]? = some (.int .u8 (((UInt8.ofNat z.toNat).toNat : Nat) : Int)) := by
      rw [rowOf_get, List.getElem?_map]
      simp [h1, ez, byteOf]
    have e4 := (Array.getElem?_eq_some_iff.1 e3).2
    rw [e4, ez, hz]
end Go.Proofs.YtegfnlnbhhmkjaaDoor
