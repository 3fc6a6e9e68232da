/-
  Contract: keys.Nonce; what the laws of keys begin with.
-/
import Derived.Test.YtengjagahhfjoaaDoorDn
import Derived.Test.YtengjagahhfjoaaDoorFr
import Derived.Laws.Cover3
import Derived.LaidEqlPtr
namespace Go.Proofs.YtengjagahhfjoaaDoor
open Go.RowKit
set_option linter.unusedVariables false
set_option linter.unusedSimpArgs false

theorem hidn_ {p : Prop} (h : p) : Hid p := h
theorem results_cell_slot {P : Program} {fn : Func} {p q : Tmp} {ty : TypeId} (h : fn.results = #[.cell p ty, .tmp q]) (tmps : Array Value) (w : World) (g : Nat) {v v' : Value}
    (hp : tmps.getD p undef = .pointer (some ⟨g, 0, none⟩)) (hq : tmps.getD q undef = v')
    (h1 : (loadVar ty ⟨g, 0, none⟩).run P w = .ok v w) :
    (results fn tmps).run P w = .ok (.tuple #[v, v']) w := by
  have hp' : tmps[p]?.getD undef = .pointer (some ⟨g, 0, none⟩) := by simpa using hp
  have hq' : tmps[q]?.getD undef = v' := by simpa using hq
  simp [results, h, hp', hq', asAddr, h1]
theorem z12 (W : World) : (zeroValue 29).run Tryd.prog W = .ok (.agg (rowOf (zbytes 12))) W := by kernel_rfl
theorem i12_ : (Tryd.prog.info? 29).map (·.size) = some 12 := by kernel_rfl
theorem i12 (l : List UInt8) (h : l.length = 12) : (Tryd.prog.info? 29).map (·.size) = some (rowOf l).size := by rw [rowOf_size, h]; exact i12_
/-- A nonce's bytes. -/
def nonceB (c n : Nat) : List UInt8 := highB 4 c ++ highB 8 n
theorem nonceB_len (c n : Nat) : (nonceB c n).length = 12 := by rw [nonceB, List.length_append, highB_len, highB_len]
def NonceOk (a b : Int) : Prop := 1 ≤ a ∧ a ≤ 16 ∧ 1 ≤ b ∧ b ≤ 4611686018427387904
instance (a b : Int) : Decidable (NonceOk a b) := by unfold NonceOk; infer_instance
theorem cat_two (w3 : World) (g1 g2 n1 n2 : Nat) (l1 l2 : List UInt8) (h1 : Blk8 w3 g1 l1) (h2 : Blk8 w3 g2 l2) (hn1 : l1.length = n1) (hn2 : l2.length = n2) :
    CatAt (w3.alloc (.cells #[.slice (some ⟨g1, 0, none⟩) n1 n1, .slice (some ⟨g2, 0, none⟩) n2 n2] 22)) (w3.alloc (.cells #[.slice (some ⟨g1, 0, none⟩) n1 n1, .slice (some ⟨g2, 0, none⟩) n2 n2] 22)).heap.size w3.heap.size [(some ⟨g1, 0, none⟩, n1, l1), (some ⟨g2, 0, none⟩, n2, l2)] := by
  have hb := Bk.new w3 22 #[.slice (some ⟨g1, 0, none⟩) n1 n1, .slice (some ⟨g2, 0, none⟩) n2 n2]
  refine ⟨hb.lt, fun i hi => ?_⟩
  have hcell := hb.cell i
  have hlt : i < 2 := hi
  rcases i with _ | _ | i
  · exact ⟨hcell.trans (by simp [hn1]), (h1.alloc _).rd (h1.alloc _).lt⟩
  · exact ⟨hcell.trans (by simp [hn2]), (h2.alloc _).rd (h2.alloc _).lt⟩
  · omega
end Go.Proofs.YtengjagahhfjoaaDoor
