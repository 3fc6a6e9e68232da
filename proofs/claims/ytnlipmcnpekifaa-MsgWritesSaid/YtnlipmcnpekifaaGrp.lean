/-
  A row of elements that came in.
-/
import Derived.Test.YtnlipmcnpekifaaGro
import Derived.Test.YtnlipmcnpekifaaLp
import Derived.Deep.Strs
import Derived.Deep.Slices
namespace Go.Proofs.Ytnlipmcnpekifaa
set_option maxRecDepth 100000
open Go.ChangeShapes Go.WideShapes Go.ChangeAt Go.RowKit
set_option linter.unusedVariables false
set_option linter.unusedSimpArgs false

section
variable {H : Type} {enc : TypeId × Value → H} {P : Program} {w : World} {sp : Nat → Bool} {held : Bool}
theorem cells_rowG {α : Type} [Inhabited α] {N : Enc α} {ts te : TypeId} (Ok : α → Prop) (hts : P.underlying ts = some (.slice te)) (hk : P.cellsOf te = N.k)
    (hone : ∀ (n : Nat) (cs : List Value) (x : DataW H × List MemPlace), cs.length = N.k → DataW.trod enc P w 0 sp held n te cs = some x → ∃ q, cs = N.c q ∧ Ok q)
    {fuel : Nat} {cs : List Value} {d : DataW H × List MemPlace} (hf : DataW.trod enc P w 0 sp held fuel ts cs = some d) :
    ∃ A l c, cs = [.slice A (l : List α).length c] ∧ RdG N w w.heap.size A l ∧ (∀ q ∈ l, Ok q) ∧ l.length ≤ c ∧ c ≤ maxLen := by
  rcases Go.Deep.open_slice hts hf with ⟨hcs, hx⟩ | ⟨a, len, cap, m, n, D, Pl, hcs, _, hl, hm, hmm, hx, hel⟩
  · exact ⟨none, [], 0, hcs, fun h => by simp at h, fun _ h => (by cases h), Nat.le_refl _, Nat.zero_le _⟩
  · have hlm : len ≤ m := by rw [hmm]; split <;> omega
    rw [hk] at hel
    have h1 : ∀ j, j < len → ∃ q : α, (∀ t, t < N.k → w.cell? (a.add (j * N.k + t)) = (N.c q)[t]?) ∧ Ok q := by
      intro j hj
      obtain ⟨cs', hc1, hc2⟩ := hel j (by omega)
      obtain ⟨_, hlen, hcell⟩ := World.cells?_some hc1
      obtain ⟨q, e, ho⟩ := hone _ cs' _ (by simpa using hlen) hc2
      refine ⟨q, fun t ht => ?_, ho⟩
      have c0 := hcell t (by omega)
      rw [Go.Deep.add_add] at c0
      rw [c0, e]
    obtain ⟨q, hq⟩ := Go.Deep.choose_lt h1
    refine ⟨some a, (List.range len).map q, cap, by simpa using hcs, fun hn => ?_, fun x hx => ?_, by simpa using hl, hm⟩
    · have hn' : 0 < len := by simpa using hn
      obtain ⟨b, off, spot⟩ := a
      have hc0 := (hq 0 hn').1 0 N.pos
      rw [List.getElem?_eq_getElem (by rw [N.len]; exact N.pos)] at hc0
      have hspot : spot = none := by simpa [Addr.add] using World.cell?_spot hc0
      subst hspot
      have hplain : ∀ j, (⟨b, off, none⟩ : Addr).add j = ⟨b, off + j, none⟩ := fun j => by unfold Addr.add; split <;> simp_all
      rw [hplain] at hc0
      refine ⟨b, off, rfl, World.block_lt_of_cell? w _ hc0, fun j hj t ht => ?_⟩
      have hj' : j < len := by simpa using hj
      have h := (hq j hj').1 t ht
      have e : ((List.range len).map q)[j] = q j := by simp
      rw [e, ← h, hplain, Nat.add_assoc]
    · obtain ⟨j, hj, rfl⟩ := List.mem_map.1 hx
      exact (hq j (List.mem_range.1 hj)).2
theorem open_rowG {α : Type} [Inhabited α] {N : Enc α} {ts te : TypeId} (Ok : α → Prop) (hts : P.underlying ts = some (.slice te)) (hk : P.cellsOf te = N.k)
    (hone : ∀ (n : Nat) (cs : List Value) (x : DataW H × List MemPlace), cs.length = N.k → DataW.trod enc P w 0 sp held n te cs = some x → ∃ q, cs = N.c q ∧ Ok q)
    {b0 : Nat} {r : Reach} {v : Value} {d : DataW H} {p : List MemPlace} (hv : Value.okWide P w r b0 ts v) (h : DataW.Trod enc P w 0 sp held ts v d p) :
    ∃ A l c, v = .slice A (l : List α).length c ∧ RdG N w w.heap.size A l ∧ (∀ q ∈ l, Ok q) ∧ l.length ≤ c ∧ c ≤ maxLen := by
  obtain ⟨a0, len, cap, rfl⟩ := okWide_slice hts hv
  obtain ⟨fuel, hf⟩ := h
  obtain ⟨A, l, c, e1, h1, h2, h3, h4⟩ := cells_rowG Ok hts hk hone hf
  simp [Value.cells] at e1
  obtain ⟨rfl, rfl, rfl⟩ := e1
  exact ⟨_, l, _, rfl, h1, h2, h3, h4⟩
/-- Bools: one cell each. -/
def boolE : Enc Bool := ⟨1, by decide, fun b => [.bool b], fun _ => rfl, fun x u h => by rw [List.mem_singleton.1 h]; rfl⟩
theorem cells_boolG {t : TypeId} {fuel : Nat} {cs : List Value} {x : DataW H × List MemPlace} (ht : P.underlying t = some .bool) (hf : DataW.trod enc P w 0 sp held fuel t cs = some x) : ∃ q, cs = boolE.c q ∧ True := by
  obtain ⟨n, e, _⟩ := DataW.trod_bool ht hf
  exact ⟨n, e, trivial⟩
theorem cells_boolsG {t e : TypeId} {fuel : Nat} {cs : List Value} {d : DataW H × List MemPlace} (ht : P.underlying t = some (.slice e)) (he : P.underlying e = some .bool) (hc : P.cellsOf e = 1)
    (hf : DataW.trod enc P w 0 sp held fuel t cs = some d) : ∃ A l c, cs = [.slice A (l : List Bool).length c] ∧ RdG boolE w w.heap.size A l ∧ l.length ≤ c ∧ c ≤ maxLen := by
  obtain ⟨A, l, c, h1, h2, _, h3, h4⟩ := cells_rowG (N := boolE) (fun _ => True) ht hc (fun n cs x _ h => cells_boolG he h) hf
  exact ⟨A, l, c, h1, h2, h3, h4⟩
/-- Ints: one cell each. -/
def intE : Enc Int := ⟨1, by decide, fun z => [.int .i64 z], fun _ => rfl, fun x u h => by rw [List.mem_singleton.1 h]; rfl⟩
theorem cells_intG {t : TypeId} {fuel : Nat} {cs : List Value} {x : DataW H × List MemPlace} (ht : P.underlying t = some (.int .i64)) (hf : DataW.trod enc P w 0 sp held fuel t cs = some x) : ∃ z, cs = [.int .i64 z] ∧ -9223372036854775808 ≤ z ∧ z ≤ 9223372036854775807 := by
  obtain ⟨n, e, _, hw⟩ := DataW.trod_int ht hf
  exact ⟨n, e, bounds_i64 hw⟩
theorem cells_strG {t : TypeId} {fuel : Nat} {cs : List Value} {x : DataW H × List MemPlace} (ht : P.underlying t = some .string) (hf : DataW.trod enc P w 0 sp held fuel t cs = some x) : ∃ l : List UInt8, cs = [.string (strOf l)] ∧ l.length ≤ maxLen := by
  obtain ⟨s, e, _, hs⟩ := DataW.trod_string ht hf
  have hl : strOf s.data.toList = s := rfl
  refine ⟨s.data.toList, by rw [hl]; exact e, ?_⟩
  have : (strOf s.data.toList).size = s.data.toList.length := strOf_size _
  rw [hl] at this
  omega
theorem cells_bytesG {t e : TypeId} {fuel : Nat} {cs : List Value} {d : DataW H × List MemPlace}
    (ht : P.underlying t = some (.slice e)) (he : P.underlying e = some (.int .u8)) (hc : P.cellsOf e = 1)
    (hf : DataW.trod enc P w 0 sp held fuel t cs = some d) :
    ∃ A l c, cs = [.slice A (l : List UInt8).length c] ∧ Rd w w.heap.size A l ∧ l.length ≤ c ∧ c ≤ maxLen := by
  rcases open_ints ht he hc hf with ⟨hcs, hx⟩ | ⟨a, len, cap, zs, hcs, _, hl, hm, hz, hx, hcell, hwz⟩
  · exact ⟨none, [], 0, hcs, Rd.nil, Nat.le_refl _, Nat.zero_le _⟩
  · have hzl : len ≤ zs.length := by
      rw [hz]; split <;> omega
    have hlen : ((zs.take len).map fun n => UInt8.ofNat n.toNat).length = len := by
      rw [List.length_map, List.length_take]; omega
    refine ⟨some a, (zs.take len).map fun n => UInt8.ofNat n.toNat, cap, by rw [hlen]; exact hcs, fun h0 => ?_, by rw [hlen]; exact hl, hm⟩
    rw [hlen] at h0
    obtain ⟨b, off, spot⟩ := a
    have hc0 := hcell 0 (by omega)
    have hspot : spot = none := by simpa [Addr.add] using World.cell?_spot hc0
    subst hspot
    have hplain : ∀ j, (⟨b, off, none⟩ : Addr).add j = ⟨b, off + j, none⟩ := fun j => by unfold Addr.add; split <;> simp_all
    refine ⟨b, off, rfl, World.block_lt_of_cell? w _ hc0, fun j hj => ?_⟩
    rw [hlen] at hj
    rw [← hplain, hcell j (by omega)]
    have hb := bounds_u8 (hwz (zs.getD j 0) (by simp [List.getD, show j < zs.length by omega]))
    have e1 : ((zs.take len).map fun n => UInt8.ofNat n.toNat).getD j 0 = UInt8.ofNat (zs.getD j 0).toNat := by
      simp [List.getD, hj, show j < zs.length by omega]
    rw [e1]
    generalize zs.getD j 0 = z at hb
    congr 2
    simp
    omega
/-- A struct, opened: its fields' cells. -/
theorem trod_fieldsG {t : TypeId} {fs : Array Field} {fuel : Nat} {cs : List Value} {x : DataW H × List MemPlace} (ht : P.underlying t = some (.struct fs)) (h : DataW.trod enc P w 0 sp held fuel t cs = some x) :
    ∃ n, ∀ (i : Nat) (f : Field), fs[i]? = some f → ∃ y, DataW.trod enc P w 0 sp held n f.type ((cs.drop f.offset).take (P.cellsOf f.type)) = some y := by
  obtain ⟨xs, n, _, rfl, hl, hlen, hf⟩ := DataW.trod_struct ht h
  refine ⟨n, fun i f hi => ?_⟩
  have hlt := (Array.getElem?_eq_some_iff.1 hi).1
  rw [hf i f hi]
  exact ⟨_, List.getElem?_eq_getElem (by omega)⟩
end
end Go.Proofs.Ytnlipmcnpekifaa
