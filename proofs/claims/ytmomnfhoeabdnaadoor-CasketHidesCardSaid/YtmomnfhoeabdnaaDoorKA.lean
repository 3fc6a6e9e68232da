/-
  Merged: Ob Ka.
-/
import Derived.Test.YtmomnfhoeabdnaaDoorOa
import Derived.Test.YtmomnfhoeabdnaaDoorKK
import Derived.ChangeSame
import Derived.Test.YtmomnfhoeabdnaaDoorK7K
import Derived.Test.YtmomnfhoeabdnaaDoorQQ
import Derived.Test.YtmomnfhoeabdnaaDoorDn
namespace Go.Proofs.YtmomnfhoeabdnaaDoor
set_option maxRecDepth 100000
open Go.ChangeShapes Go.WideShapes Go.ChangeAt Go.RowKit
set_option linter.unusedVariables false

section
variable {H : Type} {enc : TypeId × Value → H} {P : Program} {w : World} {base : Nat} {sp : Nat → Bool} {held : Bool}
theorem cells_arr8 {n fuel : Nat} {t e : TypeId} {cs : List Value} {d : DataW H × List MemPlace}
    (ht : P.underlying t = some (.array n e)) (he : P.underlying e = some (.int .u8)) (hc : P.cellsOf e = 1) (hct : P.cellsOf t = n)
    (hf : DataW.trod enc P w base sp held fuel t cs = some d) : ∃ l : List UInt8, cs = (rowOf l).toList ∧ l.length = n := by
  obtain ⟨xs, m, _, _, hsz, hl, hel⟩ := DataW.trod_array ht hf
  rw [hct] at hsz
  have hcell : ∀ i (hi : i < cs.length), ∃ z : Int, cs[i] = .int .u8 z ∧ 0 ≤ z ∧ z ≤ 255 := fun i hi => by
    have h0 := hel i (by omega)
    rw [hc, List.getElem?_eq_getElem (by omega)] at h0
    obtain ⟨z, e0, _, wz⟩ := DataW.trod_int he h0
    obtain ⟨b1, b2⟩ := bounds_u8 wz
    refine ⟨z, ?_, b1, b2⟩
    have e1 := congrArg (fun l => l[0]?) e0
    have e2 : (List.take 1 (List.drop (i * 1) cs))[0]? = some (.int .u8 z) := e1
    rw [Nat.mul_one, List.getElem?_take_of_lt (by omega), List.getElem?_drop, Nat.add_zero] at e2
    simpa [hi] using e2
  refine ⟨cs.map byteOf, ?_, by simp [hsz]⟩
  apply List.ext_getElem
  · simp [rowOf]
  · intro i h1 h2
    obtain ⟨z, ez, b1, b2⟩ := hcell i h1
    have hz : ((UInt8.ofNat z.toNat).toNat : Int) = z := by
      have : (UInt8.ofNat z.toNat).toNat = z.toNat := by simp; omega
      rw [this]; omega
    simp only [rowOf, List.getElem_map, ez, byteOf, hz]
/-- The cells of a counter and a nonce. -/
def atRow (c : Int) (nonce : List UInt8) : Array Value := #[.int .u32 c] ++ rowOf nonce
theorem open_at {t tc tn e : TypeId} {f0 f1 : Field} {b0 : Nat} {r : Reach} {v : Value} {d : DataW H} {p : List MemPlace}
    (ht : P.underlying t = some (.struct #[f0, f1])) (h0 : f0.type = tc ∧ f0.offset = 0) (h1 : f1.type = tn ∧ f1.offset = 1) (htc : P.underlying tc = some (.int .u32)) (hcc : P.cellsOf tc = 1)
    (htn : P.underlying tn = some (.array 12 e)) (he : P.underlying e = some (.int .u8)) (hce : P.cellsOf e = 1) (hcn : P.cellsOf tn = 12) (hct : P.cellsOf t = 13)
    (hv : Value.okWide P w r b0 t v) (h : DataW.Trod enc P w base sp held t v d p) :
    ∃ (c : Int) (l : List UInt8), v = .agg (atRow c l) ∧ l.length = 12 ∧ ok32q c := by
  obtain ⟨cs, rfl, hsz⟩ : ∃ cs, v = .agg cs ∧ cs.size = P.cellsOf t := by
    obtain ⟨cs, e, hs, _⟩ : ∃ cs, v = .agg cs ∧ cs.size = P.cellsOf t ∧ Row.okWide P w r b0 t cs := by simpa [Value.okWide, ht] using hv
    exact ⟨cs, e, hs⟩
  obtain ⟨fuel, hf⟩ := h
  obtain ⟨y0, y1, m, _, hl, g0, g1⟩ := trod_struct2 ht hf
  obtain ⟨e0, o0⟩ := h0
  obtain ⟨e1, o1⟩ := h1
  rw [e0, o0, hcc] at g0
  rw [e1, o1, hcn] at g1
  obtain ⟨c, ec, _, wc⟩ := DataW.trod_int htc g0
  obtain ⟨l, el, hll⟩ := cells_arr8 htn he hce hcn g1
  obtain ⟨b1, b2⟩ := bounds_u32 wc
  refine ⟨c, l, ?_, hll, b1, b2⟩
  have hcs : (Value.agg cs).cells.toList = cs.toList := by simp [Value.cells]
  have hlen : cs.toList.length = 13 := by rw [Array.length_toList, hsz, hct]
  congr 1
  apply Array.ext'
  have key : cs.toList = (cs.toList.drop 0).take 1 ++ (cs.toList.drop 1).take 12 := by
    rw [List.drop_zero, List.take_of_length_le (l := cs.toList.drop 1) (by rw [List.length_drop]; omega), List.take_append_drop]
  rw [key]
  have k0 : (cs.toList.drop 0).take 1 = [.int .u32 c] := by simpa [Value.cells] using ec
  have k1 : (cs.toList.drop 1).take 12 = (rowOf l).toList := by simpa [Value.cells] using el
  rw [k0, k1]
  simp [atRow]
end
end Go.Proofs.YtmomnfhoeabdnaaDoor

namespace Go.Proofs.YtmomnfhoeabdnaaDoor
set_option maxRecDepth 100000
open Go.RowKit
set_option linter.unusedVariables false
set_option linter.unusedSimpArgs false

/-- The first k blocks. -/
def catS (key nonce : List UInt8) (c : Int) : Nat → List UInt8
  | 0 => []
  | k + 1 => catS key nonce c k ++ blockB key (ctrN c k) nonce
theorem catS_len (key nonce : List UInt8) (c : Int) (k : Nat) : (catS key nonce c k).length = 64 * k := by
  induction k with
  | zero => rfl
  | succ k ih => rw [catS, List.length_append, ih, blockB_len]; omega
theorem mixB_app : ∀ (p b q : List UInt8), mixB b (p ++ q) = mixB b p ++ mixB (b.drop p.length) q
  | [], b, q => by simp [mixB]
  | x :: p, [], q => by simp [mixB]
  | x :: p, y :: b, q => by
    have ih := mixB_app p b q
    show (y ^^^ x) :: mixB b (p ++ q) = (y ^^^ x) :: (mixB b p ++ mixB (b.drop p.length) q)
    rw [ih]
theorem soFar_cat (key nonce : List UInt8) (c : Int) (b : List UInt8) (k : Nat) : soFar key nonce c b k = mixB b (catS key nonce c k) := by
  induction k with
  | zero => simp [soFar, catS, mixB]
  | succ k ih => rw [soFar, catS, mixB_app, ih, catS_len]
theorem mixB_back : ∀ (l m : List UInt8), mixB (mixB l m) m = l.take (min l.length m.length)
  | [], m => by simp [mixB]
  | _ :: _, [] => by simp [mixB]
  | a :: l, b :: m => by
    have ih := mixB_back l m
    have e : a ^^^ b ^^^ b = a := by rw [UInt8.xor_assoc, UInt8.xor_self, UInt8.xor_zero]
    have hm : min (a :: l).length (b :: m).length = min l.length m.length + 1 := by simp only [List.length_cons]; omega
    rw [hm, List.take_succ_cons, ← ih]
    show (a ^^^ b ^^^ b) :: mixB (mixB l m) m = _
    rw [e]
theorem stream_twice (key nonce : List UInt8) (c : Int) (b : List UInt8) : streamB key nonce c (streamB key nonce c b) = b := by
  have hl := streamB_len key nonce c b
  rw [streamB, hl, soFar_cat]
  have h2 : streamB key nonce c b = mixB b (catS key nonce c ((b.length + 63) / 64)) := by rw [streamB, soFar_cat]
  rw [h2, mixB_back, catS_len]
  exact List.take_of_length_le (by omega)
theorem ctrN_shift (c : Int) (k : Nat) : ctrN ((c + 1) % 4294967296) k = ctrN c (k + 1) := by unfold ctrN; omega
theorem catS_left (key nonce : List UInt8) (c : Int) (k : Nat) : catS key nonce c (k + 1) = blockB key (ctrN c 0) nonce ++ catS key nonce ((c + 1) % 4294967296) k := by
  have h1 : ∀ d j, catS key nonce d (j + 1) = catS key nonce d j ++ blockB key (ctrN d j) nonce := fun d j => by rw [catS]
  have h0 : ∀ d, catS key nonce d 0 = [] := fun d => by rw [catS]
  induction k with
  | zero => rw [h1, h0, h0, List.nil_append, List.append_nil]
  | succ k ih => rw [h1, ih, h1, ctrN_shift, List.append_assoc]
theorem stream_tail (key nonce : List UInt8) (c : Int) (b : List UInt8) (h : 64 < b.length) : (streamB key nonce c b).drop 64 = streamB key nonce ((c + 1) % 4294967296) (b.drop 64) := by
  obtain ⟨k, hk⟩ : ∃ k, (b.length + 63) / 64 = k + 1 := ⟨(b.length + 63) / 64 - 1, by omega⟩
  have e2 : ((b.drop 64).length + 63) / 64 = k := by rw [List.length_drop]; omega
  have hb := blockB_len key (ctrN c 0) nonce
  have hd : ∀ X : List UInt8, (blockB key (ctrN c 0) nonce ++ X).drop 64 = X := fun X => by
    have h := List.drop_left (l₁ := blockB key (ctrN c 0) nonce) (l₂ := X)
    rwa [hb] at h
  rw [streamB, hk, soFar_cat, streamB, e2, soFar_cat, catS_left]
  generalize catS key nonce ((c + 1) % 4294967296) k = X at *
  have hd1 := hd X
  generalize blockB key (ctrN c 0) nonce ++ X = Y at *
  have e : (mixB b Y).drop 64 = mixB (b.drop 64) (Y.drop 64) := by
    unfold mixB
    rw [List.drop_zipWith]
  rw [e, hd1]

theorem atRow0 (c : Int) (nonce : List UInt8) : (atRow c nonce)[0]? = some (.int .u32 c) := by
  unfold atRow
  rw [Array.getElem?_append_left (by simp)]
  rfl
theorem atRow1 (c : Int) (nonce : List UInt8) (j : Nat) : (atRow c nonce)[1 + j]? = (rowOf nonce)[j]? := by
  simp [atRow, Array.getElem?_append, Nat.add_comm 1 j]
theorem at_rd {w : World} {g B : Nat} {t : TypeId} {c : Int} {nonce : List UInt8} (h : Bk w g t (atRow c nonce)) (hB : g < B) : Rd w B (some ⟨g, 1, none⟩) nonce := fun _ =>
  ⟨g, 1, rfl, hB, fun j hj => by rw [h.cell (1 + j), atRow1, rowOf_at nonce j hj]⟩
set_option maxRecDepth 100000 in
theorem sl_nonce1 (g : Nat) (W : World) :
    (Instr.sliceAt 84 (.pointer (some ⟨g, 1, none⟩)) none none none).run Tryd.prog W = .ok (.slice (some ⟨g, 1, none⟩) 12 12) W := by
  have he : Tryd.prog.elem 84 = 5 := by kernel_rfl
  have hn : Tryd.prog.arrayLen 84 = 12 := by kernel_rfl
  have ht : Tryd.prog.underlying 84 = some (.array (Tryd.prog.arrayLen 84) (Tryd.prog.elem 84)) := by rw [he, hn]; exact Tryd.underlying84
  rw [run_sliceAt_array_all W 84 ⟨g, 1, none⟩ ht, he, size8w, hn]
  rfl
end Go.Proofs.YtmomnfhoeabdnaaDoor
