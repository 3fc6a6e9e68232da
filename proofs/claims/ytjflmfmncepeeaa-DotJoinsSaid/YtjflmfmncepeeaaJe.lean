/-
  A context, a dot, a slice of dots, that come in.
-/
import Derived.Test.YtjflmfmncepeeaaIc
import Derived.Test.YtjflmfmncepeeaaLp
import Derived.Deep.Strs
import Derived.Deep.Slices
import Derived.ChangeSame
namespace Go.Proofs.Ytjflmfmncepeeaa
open Go.ChangeShapes Go.WideShapes Go.ChangeAt Go.RowKit
set_option linter.unusedVariables false
set_option linter.unusedSimpArgs false

section
variable {H : Type} {enc : TypeId × Value → H} {P : Program} {w : World} {base : Nat} {sp : Nat → Bool} {held : Bool}
def intOfI : Value → Int
  | .int _ z => z
  | _ => 0
theorem cells_arrI {n fuel : Nat} {t e : TypeId} {cs : List Value} {d : DataW H × List MemPlace}
    (ht : P.underlying t = some (.array n e)) (he : P.underlying e = some (.int .i64)) (hc : P.cellsOf e = 1) (hct : P.cellsOf t = n)
    (hf : DataW.trod enc P w base sp held fuel t cs = some d) : ∃ l : List Int, cs = (intRow l).toList ∧ l.length = n ∧ ∀ k, -9223372036854775808 ≤ l.getD k 0 ∧ l.getD k 0 ≤ 9223372036854775807 := by
  obtain ⟨xs, m, _, _, hsz, hl, hel⟩ := DataW.trod_array ht hf
  rw [hct] at hsz
  have hcell : ∀ i (hi : i < cs.length), ∃ z : Int, cs[i] = .int .i64 z ∧ -9223372036854775808 ≤ z ∧ z ≤ 9223372036854775807 := fun i hi => by
    have h0 := hel i (by omega)
    rw [hc, List.getElem?_eq_getElem (by omega)] at h0
    obtain ⟨z, e0, _, wz⟩ := DataW.trod_int he h0
    obtain ⟨b1, b2⟩ := bounds_i64 wz
    refine ⟨z, ?_, b1, b2⟩
    have e1 := congrArg (fun l => l[0]?) e0
    have e2 : (List.take 1 (List.drop (i * 1) cs))[0]? = some (.int .i64 z) := e1
    rw [Nat.mul_one, List.getElem?_take_of_lt (by omega), List.getElem?_drop, Nat.add_zero] at e2
    simpa [hi] using e2
  refine ⟨cs.map intOfI, ?_, by simp [hsz], fun k => ?_⟩
  · apply List.ext_getElem
    · simp [intRow]
    · intro i h1 h2
      obtain ⟨z, ez, b1, b2⟩ := hcell i h1
      simp only [intRow, List.getElem_map, ez, intOfI]
  · rcases Nat.lt_or_ge k cs.length with hk | hk
    · obtain ⟨z, ez, b1, b2⟩ := hcell k hk
      simp only [List.getD, List.getElem?_map, List.getElem?_eq_getElem hk, ez, Option.map_some, intOfI, Option.getD_some]
      exact ⟨b1, b2⟩
    · simp only [List.getD, List.getElem?_map, List.getElem?_eq_none hk, Option.map_none, Option.getD_none]
      omega
def DotV.ok (d : DotV) : Prop := (-9223372036854775808 ≤ d.c ∧ d.c ≤ 9223372036854775807) ∧ -9223372036854775808 ≤ d.n ∧ d.n ≤ 9223372036854775807
theorem cells_dot {fuel : Nat} {t ti : TypeId} {f0 f1 : Field} {cs : List Value} {d : DataW H × List MemPlace}
    (ht : P.underlying t = some (.struct #[f0, f1])) (h0 : f0.type = ti ∧ f0.offset = 0) (h1 : f1.type = ti ∧ f1.offset = 1) (hi : P.underlying ti = some (.int .i64)) (ci : P.cellsOf ti = 1) (ct : P.cellsOf t = 2)
    (hf : DataW.trod enc P w base sp held fuel t cs = some d) : ∃ x : DotV, cs = x.row.toList ∧ x.ok := by
  obtain ⟨y0, y1, n, _, hl, g0, g1⟩ := trod_struct2 ht hf
  rw [h0.1, h0.2, ci] at g0
  rw [h1.1, h1.2, ci] at g1
  obtain ⟨z0, e0, _, w0⟩ := DataW.trod_int hi g0
  obtain ⟨z1, e1, _, w1⟩ := DataW.trod_int hi g1
  obtain ⟨a0, b0⟩ := bounds_i64 w0
  obtain ⟨a1, b1⟩ := bounds_i64 w1
  rw [ct] at hl
  match cs, hl with
  | [k0, k1], _ =>
    simp at e0 e1
    exact ⟨⟨z0, z1⟩, by rw [e0, e1]; rfl, ⟨a0, b0⟩, a1, b1⟩
theorem open_dot {t ti : TypeId} {f0 f1 : Field} {b0 : Nat} {r : Reach} {v : Value} {d : DataW H} {p : List MemPlace}
    (ht : P.underlying t = some (.struct #[f0, f1])) (h0 : f0.type = ti ∧ f0.offset = 0) (h1 : f1.type = ti ∧ f1.offset = 1) (hi : P.underlying ti = some (.int .i64)) (ci : P.cellsOf ti = 1) (ct : P.cellsOf t = 2)
    (hv : Value.okWide P w r b0 t v) (h : DataW.Trod enc P w base sp held t v d p) : ∃ x : DotV, v = .agg x.row ∧ x.ok := by
  obtain ⟨cs, rfl, hsz⟩ := okWide_struct ht hv
  obtain ⟨fuel, hf⟩ := h
  obtain ⟨x, e, ho⟩ := cells_dot ht h0 h1 hi ci ct hf
  refine ⟨x, ?_, ho⟩
  congr 1
  apply Array.ext'
  simpa [Value.cells] using e
/-- A slice of dots, its cells known. -/
theorem cells_dots {fuel : Nat} {t s ti : TypeId} {f0 f1 : Field} {cs : List Value} {d : DataW H × List MemPlace}
    (ht : P.underlying t = some (.slice s)) (hs : P.underlying s = some (.struct #[f0, f1])) (h0 : f0.type = ti ∧ f0.offset = 0) (h1 : f1.type = ti ∧ f1.offset = 1) (hi : P.underlying ti = some (.int .i64)) (ci : P.cellsOf ti = 1) (cts : P.cellsOf s = 2)
    (hf : DataW.trod enc P w 0 sp held fuel t cs = some d) :
    ∃ A l c, cs = [.slice A (l : List DotV).length c] ∧ RdD w w.heap.size A l ∧ (∀ x ∈ l, x.ok) ∧ l.length ≤ c ∧ c ≤ maxLen := by
  rcases Go.Deep.open_slice ht hf with ⟨hcs, hx⟩ | ⟨a, len, cap, m, n, D, Pl, hcs, _, hl, hm, hmm, hx, hel⟩
  · exact ⟨none, [], 0, hcs, fun h => by simp at h, fun x hx => (by cases hx), Nat.le_refl _, Nat.zero_le _⟩
  · have hlm : len ≤ m := by rw [hmm]; split <;> omega
    rw [cts] at hel
    have hone : ∀ j, j < len → ∃ q : DotV, w.cell? (a.add (j * 2)) = some (.int .i64 q.c) ∧ w.cell? (a.add (j * 2 + 1)) = some (.int .i64 q.n) ∧ q.ok := by
      intro j hj
      obtain ⟨cs', hc1, hc2⟩ := hel j (by omega)
      obtain ⟨_, hlen, hcell⟩ := World.cells?_some hc1
      obtain ⟨q, e, ho⟩ := cells_dot hs h0 h1 hi ci cts hc2
      have c0 := hcell 0 (by omega)
      have c1 := hcell 1 (by omega)
      rw [Go.Deep.add_add] at c0 c1
      subst e
      exact ⟨q, by simpa [DotV.row] using c0, by simpa [DotV.row] using c1, ho⟩
    haveI : Inhabited DotV := ⟨⟨0, 0⟩⟩
    obtain ⟨q, hq⟩ := Go.Deep.choose_lt hone
    refine ⟨some a, (List.range len).map q, cap, by simpa using hcs, fun hn => ?_, fun x hx => ?_, by simpa using hl, hm⟩
    · have hn' : 0 < len := by simpa using hn
      obtain ⟨b, off, spot⟩ := a
      have hc0 := (hq 0 hn').1
      have hspot : spot = none := by simpa [Addr.add] using World.cell?_spot hc0
      subst hspot
      have hplain : ∀ j, (⟨b, off, none⟩ : Addr).add j = ⟨b, off + j, none⟩ := fun j => by unfold Addr.add; split <;> simp_all
      refine ⟨b, off, rfl, World.block_lt_of_cell? w _ hc0, fun j hj => ?_⟩
      have hj' : j < len := by simpa using hj
      obtain ⟨h1, h2, _⟩ := hq j hj'
      rw [hplain] at h1 h2
      have e : ((List.range len).map q).getD j ⟨0, 0⟩ = q j := by simp [List.getD, hj']
      rw [e]
      exact ⟨h1, by rw [Nat.add_assoc]; exact h2⟩
    · obtain ⟨j, hj, rfl⟩ := List.mem_map.1 hx
      exact (hq j (by simpa using hj)).2.2
theorem open_dots {t s ti : TypeId} {f0 f1 : Field} {b0 : Nat} {r : Reach} {v : Value} {d : DataW H} {p : List MemPlace}
    (ht : P.underlying t = some (.slice s)) (hs : P.underlying s = some (.struct #[f0, f1])) (h0 : f0.type = ti ∧ f0.offset = 0) (h1 : f1.type = ti ∧ f1.offset = 1) (hi : P.underlying ti = some (.int .i64)) (ci : P.cellsOf ti = 1) (cts : P.cellsOf s = 2)
    (hv : Value.okWide P w r b0 t v) (h : DataW.Trod enc P w 0 sp held t v d p) :
    ∃ A l c, v = .slice A (l : List DotV).length c ∧ RdD w w.heap.size A l ∧ (∀ x ∈ l, x.ok) ∧ l.length ≤ c ∧ c ≤ maxLen := by
  obtain ⟨a0, len, cap, rfl⟩ := okWide_slice ht hv
  obtain ⟨fuel, hf⟩ := h
  obtain ⟨A, l, c, e, hr⟩ := cells_dots ht hs h0 h1 hi ci cts hf
  simp [Value.cells] at e
  obtain ⟨rfl, rfl, rfl⟩ := e
  exact ⟨a0, l, cap, rfl, hr⟩
theorem open_ctx {t tu tm s ti : TypeId} {g0 g1 f0 f1 : Field} {b0 : Nat} {r : Reach} {v : Value} {d : DataW H} {p : List MemPlace}
    (ht : P.underlying t = some (.struct #[g0, g1])) (e0 : g0.type = tu ∧ g0.offset = 0) (e1 : g1.type = tm ∧ g1.offset = 16) (hu : P.underlying tu = some (.array 16 ti)) (cu : P.cellsOf tu = 16) (cm : P.cellsOf tm = 1) (ct : P.cellsOf t = 17)
    (hm : P.underlying tm = some (.slice s)) (hs : P.underlying s = some (.struct #[f0, f1])) (h0 : f0.type = ti ∧ f0.offset = 0) (h1 : f1.type = ti ∧ f1.offset = 1) (hi : P.underlying ti = some (.int .i64)) (ci : P.cellsOf ti = 1) (cts : P.cellsOf s = 2)
    (hv : Value.okWide P w r b0 t v) (h : DataW.Trod enc P w 0 sp held t v d p) :
    ∃ up A l c, v = .agg (ctxRow up A (l : List DotV).length c) ∧ up.length = 16 ∧ (∀ k, -9223372036854775808 ≤ up.getD k 0 ∧ up.getD k 0 ≤ 9223372036854775807) ∧ RdD w w.heap.size A l ∧ (∀ x ∈ l, x.ok) ∧ l.length ≤ c ∧ c ≤ maxLen := by
  obtain ⟨cs, rfl, hsz⟩ := okWide_struct ht hv
  obtain ⟨fuel, hf⟩ := h
  obtain ⟨y0, y1, m, _, hl, k0, k1⟩ := trod_struct2 ht hf
  rw [e0.1, e0.2, cu] at k0
  rw [e1.1, e1.2, cm] at k1
  obtain ⟨up, eu, hul, hub⟩ := cells_arrI hu hi ci cu k0
  obtain ⟨A, l, c, em, hr⟩ := cells_dots hm hs h0 h1 hi ci cts k1
  refine ⟨up, A, l, c, ?_, hul, hub, hr⟩
  have hlen : cs.toList.length = 17 := by rw [Array.length_toList, hsz, ct]
  congr 1
  apply Array.ext'
  have key : cs.toList = (cs.toList.drop 0).take 16 ++ (cs.toList.drop 16).take 1 := by
    rw [List.drop_zero, List.take_of_length_le (l := cs.toList.drop 16) (by rw [List.length_drop]; omega), List.take_append_drop]
  have q0 : (cs.toList.drop 0).take 16 = (intRow up).toList := by simpa [Value.cells] using eu
  have q1 : (cs.toList.drop 16).take 1 = [.slice A l.length c] := by simpa [Value.cells] using em
  rw [key, q0, q1]
  simp [ctxRow, intRow]
end
end Go.Proofs.Ytjflmfmncepeeaa
