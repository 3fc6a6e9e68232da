/-
  A key and a nonce, taken by value: their cells.
-/
import Derived.Test.YtopmngjaieobnaaEe
import Derived.Test.YtopmngjaieobnaaOb
namespace Go.Proofs.Ytopmngjaieobnaa
open Go.ChangeShapes Go.WideShapes Go.ChangeAt Go.RowKit
set_option linter.unusedVariables false

theorem rowOf_append (l m : List UInt8) : rowOf (l ++ m) = rowOf l ++ rowOf m := by simp [rowOf]
section
variable {H : Type} {enc : TypeId × Value → H} {P : Program} {w : World} {base : Nat} {sp : Nat → Bool} {held : Bool}
theorem open_sealing {t tk tn e : TypeId} {f0 f1 : Field} {b0 : Nat} {r : Reach} {v : Value} {d : DataW H} {p : List MemPlace}
    (ht : P.underlying t = some (.struct #[f0, f1])) (h0 : f0.type = tk ∧ f0.offset = 0) (h1 : f1.type = tn ∧ f1.offset = 32) (htk : P.underlying tk = some (.array 32 e)) (hck : P.cellsOf tk = 32)
    (htn : P.underlying tn = some (.array 12 e)) (he : P.underlying e = some (.int .u8)) (hce : P.cellsOf e = 1) (hcn : P.cellsOf tn = 12) (hct : P.cellsOf t = 44)
    (hv : Value.okWide P w r b0 t v) (h : DataW.Trod enc P w base sp held t v d p) :
    ∃ (k l : List UInt8), v = .agg (rowOf (k ++ l)) ∧ k.length = 32 ∧ l.length = 12 := by
  obtain ⟨cs, rfl, hsz⟩ : ∃ cs, v = .agg cs ∧ cs.size = P.cellsOf t := by
    obtain ⟨cs, e, hs, _⟩ : ∃ cs, v = .agg cs ∧ cs.size = P.cellsOf t ∧ Row.okWide P w r b0 t cs := by simpa [Value.okWide, ht] using hv
    exact ⟨cs, e, hs⟩
  obtain ⟨fuel, hf⟩ := h
  obtain ⟨y0, y1, m, _, hl, g0, g1⟩ := trod_struct2 ht hf
  obtain ⟨e0, o0⟩ := h0
  obtain ⟨e1, o1⟩ := h1
  rw [e0, o0, hck] at g0
  rw [e1, o1, hcn] at g1
  obtain ⟨k, ek, hkl⟩ := cells_arr8 htk he hce hck g0
  obtain ⟨l, el, hll⟩ := cells_arr8 htn he hce hcn g1
  refine ⟨k, l, ?_, hkl, hll⟩
  have hlen : cs.toList.length = 44 := by rw [Array.length_toList, hsz, hct]
  congr 1
  apply Array.ext'
  have key : cs.toList = (cs.toList.drop 0).take 32 ++ (cs.toList.drop 32).take 12 := by
    rw [List.drop_zero, List.take_of_length_le (l := cs.toList.drop 32) (by rw [List.length_drop]; omega), List.take_append_drop]
  rw [key]
  have k0 : (cs.toList.drop 0).take 32 = (rowOf k).toList := by simpa [Value.cells] using ek
  have k1 : (cs.toList.drop 32).take 12 = (rowOf l).toList := by simpa [Value.cells] using el
  rw [k0, k1, rowOf_append]
  simp
end
section
variable {w : World} {g : Nat} {t : TypeId} {k n : List UInt8}
theorem sg_key (h : Bk w g t (rowOf (k ++ n))) : ∀ j, j < (rowOf k).size → w.cell? ⟨g, 0 + j, none⟩ = (rowOf k)[j]? := fun j hj => by
  rw [rowOf_size] at hj
  rw [h.cell, Nat.zero_add, rowOf_append, Array.getElem?_append_left (by rw [rowOf_size]; exact hj)]
theorem sg_nonce (hk : k.length = 32) (h : Bk w g t (rowOf (k ++ n))) : ∀ j, j < (rowOf n).size → w.cell? ⟨g, 32 + j, none⟩ = (rowOf n)[j]? := fun j hj => by
  rw [h.cell, rowOf_append, Array.getElem?_append_right (by rw [rowOf_size, hk]; omega), rowOf_size, hk]
  congr 1
  omega
theorem sg_rdk (h : Bk w g t (rowOf (k ++ n))) : Rd w (g + 1) (some ⟨g, 0, none⟩) k := fun _ =>
  ⟨g, 0, rfl, Nat.lt_succ_self _, fun j hj => by rw [sg_key h j (by rw [rowOf_size]; exact hj), rowOf_at k j hj]⟩
theorem sg_rdn (hk : k.length = 32) (h : Bk w g t (rowOf (k ++ n))) : Rd w (g + 1) (some ⟨g, 32, none⟩) n := fun _ =>
  ⟨g, 32, rfl, Nat.lt_succ_self _, fun j hj => by rw [sg_nonce hk h j (by rw [rowOf_size]; exact hj), rowOf_at n j hj]⟩
end
theorem sl_sgk (g : Nat) (W : World) :
    (Instr.sliceAt 22 (.pointer (some ⟨g, 0, none⟩)) none none none).run Try.prog W = .ok (.slice (some ⟨g, 0, none⟩) 32 32) W := slice_all32 g W
theorem sl_sgn (g : Nat) (W : World) :
    (Instr.sliceAt 32 (.pointer (some ⟨g, 32, none⟩)) none none none).run Try.prog W = .ok (.slice (some ⟨g, 32, none⟩) 12 12) W := by
  have he : Try.prog.elem 32 = 5 := by kernel_rfl
  have hn : Try.prog.arrayLen 32 = 12 := by kernel_rfl
  have ht : Try.prog.underlying 32 = some (.array (Try.prog.arrayLen 32) (Try.prog.elem 32)) := by rw [he, hn]; exact Try.underlying32
  rw [run_sliceAt_array_all W 32 ⟨g, 32, none⟩ ht, he, size8w, hn]
  rfl
theorem isg (l : List UInt8) (h : l.length = 44) : (Try.prog.info? 34).map (·.size) = some (rowOf l).size := by
  rw [rowOf_size, h]
  kernel_rfl
end Go.Proofs.Ytopmngjaieobnaa
