/-
  Words for the ring's laws: numbers drawn into bounds, who was seen.
-/
import Derived.Test.YtkhmghmilnfngaaDoorRgh
import Derived.Test.YtkhmghmilnfngaaDoorOa
namespace Go.Proofs.YtkhmghmilnfngaaDoor
set_option maxRecDepth 100000
open Go.ChangeShapes Go.WideShapes Go.ChangeAt Go.RowKit
set_option linter.unusedVariables false
set_option linter.unusedSimpArgs false

theorem u64_natY (z : Int) : ∃ x : Nat, IntKind.u64.wrap z = (x : Int) ∧ x ≤ 18446744073709551615 := by
  have h : IntKind.u64.wrap z = z % 18446744073709551616 := by simp [IntKind.wrap, IntKind.signed, IntKind.bits]
  have h0 : 0 ≤ z % 18446744073709551616 := Int.emod_nonneg _ (by omega)
  have h1 : z % 18446744073709551616 < 18446744073709551616 := Int.emod_lt_of_pos _ (by omega)
  exact ⟨(z % 18446744073709551616).toNat, by rw [h]; omega, by omega⟩
/-- A number drawn into 0 .. m-1: what the walk wants. -/
structure RestY (z : Int) (m U R : Nat) : Prop where
  u : IntKind.u64.wrap z = (U : Int)
  t : (U : Int).tmod (m : Int) = (R : Int)
  r : (U : Int) % (m : Int) = (R : Int)
  wu : IntKind.u64.wrap (R : Int) = (R : Int)
  wi : IntKind.i64.wrap (R : Int) = (R : Int)
  lt : R < m
theorem restY (z : Int) (m : Nat) (h0 : 0 < m) (h1 : m ≤ 1000000000) : ∃ U R, RestY z m U R := by
  obtain ⟨U, hU, hb⟩ := u64_natY z
  have hlt : U % m < m := Nat.mod_lt _ h0
  have e : (U : Int) % (m : Int) = ((U % m : Nat) : Int) := by simp
  exact ⟨U, U % m, hU, by rw [Int.tmod_eq_emod_of_nonneg (by omega), e], e, IntWalk.u64_in _ (by omega), IntWalk.i64_in _ (by omega), hlt⟩

def seenA (s : List Nat) : Array Value := ((List.range 8).map fun j => Value.bool (decide (j ∈ s))).toArray
theorem seenA_get (s : List Nat) {z : Nat} (h : z < 8) : (seenA s)[z]? = some (.bool (decide (z ∈ s))) := by
  simp [seenA, h]
theorem seenA_set (s : List Nat) {z : Nat} (h : z < 8) : (seenA s).setIfInBounds z (.bool true) = seenA (s ++ [z]) := by
  apply Array.ext_getElem?
  intro j
  by_cases hj : j = z
  · subst hj
    rw [seenA_get _ h, Array.getElem?_setIfInBounds_self_of_lt (by simp [seenA, h])]
    simp
  · rw [Array.getElem?_setIfInBounds_ne (by omega)]
    by_cases h8 : j < 8
    · rw [seenA_get _ h8, seenA_get _ h8]
      simp [hj]
    · simp [seenA, h8]
theorem seenA_nil : (#[.bool false, .bool false, .bool false, .bool false, .bool false, .bool false, .bool false, .bool false] : Array Value) = seenA [] := by simp [seenA]; rfl
def PrfO (w : World) (ws : List Nat) (q : Nat) (e : Ending) (w' : World) : Prop :=
  ∃ A c, e = .returned (.tuple #[.slice A q c, .int .i64 0]) ∧ RdZ w' w'.heap.size A (ws.take q) ∧ Below w.heap.size w w'
theorem prefer_ok (w : World) (g : Nat) (L : List PtV) (hr : RingIs w g L) (hs : Srt ltP L) (hm : L.length ≤ 1000000) (K : List UInt8) (hK : K.length = 32) (ws : List Nat) (hws : walkV (plB K) L = ws) (q : Nat) (z : Int) (hz : z = (q : Int)) (h1 : 1 ≤ q) (hq : q ≤ ws.length) (h6 : ws.length ≤ 1000000) :
    Calls Tryd.prog 8 #[.pointer (some ⟨g, 0, none⟩), .agg (rowOf K), .int .i64 z] w (PrfO w ws q) := by
  subst hws hz
  have h := prefer_any w g L hr hs hm K hK (q : Int) h6
  refine h.mono ?_
  rintro e w' ⟨A, n, c, rfl, hn, hrd, hb⟩
  have hif : (1 ≤ (q : Int) ∧ (q : Int) ≤ ((walkV (plB K) L).length : Int)) := by omega
  rw [if_pos hif] at hn hrd ⊢
  rw [Int.toNat_natCast] at hn hrd
  rw [List.length_take] at hn
  have e1 : n = q := by omega
  subst e1
  exact ⟨A, c, rfl, hrd, hb⟩
theorem wpList_load_rowWr {P : Program} {ops : Array Oper} {rest : List Oper} {o : Oper} {a : Act} {w : World} {Q : Exit → Act → World → Prop} (hw : Region.wanted o (yielded ops a.tmps) = true) (ty : TypeId) (x : Operand) (ho : o.op = .load ty x) (g : Nat) (hx : a.eval x = .pointer (some ⟨g, 0, none⟩)) (t : TypeId) (cs : Array Value) (hb : Bk w g t cs) (d : TypeDesc)
    (hu : P.underlying ty = some d) (hd : (match d with | .struct _ | .array _ _ => true | _ => false) = true) (hi : (P.info? ty).map (·.size) = some cs.size)
    (h : wpList P ops Q rest (a.put o.dst (.agg cs)) w) : wpList P ops Q (o :: rest) a w := by
  have hrun : (loadVar ty ⟨g, 0, none⟩).run P w = .ok (.agg cs) w := run_loadVar_row _ _ _ _ _ (0, 0) _ hb hu hd hi
  refine BigFrame.wpList_want hw fun K hK => ?_
  unfold Oper.wp execOp
  simp only [ho, hx, Instr.loadAt, Instr.sureAddr, Sem.run_bind, Sem.run_pure, Result.andThen_ok, hrun]
  exact hK _ _ h
theorem getD_of {l : List Nat} {k : Nat} (h : k < l.length) : ∃ z, l.getD k 0 = z ∧ z ∈ l ∧ l.take (k + 1) = l.take k ++ [z] := by
  refine ⟨_, rfl, ?_, getD_append_succ h⟩
  rw [List.getD_eq_getElem?_getD, List.getElem?_eq_getElem h]
  exact List.getElem_mem _
theorem nodup_take {l : List Nat} (hn : l.Nodup) {k z : Nat} (h : l.take (k + 1) = l.take k ++ [z]) : z ∉ l.take k := by
  have h1 : (l.take (k + 1)).Nodup := hn.sublist (List.take_sublist _ _)
  rw [h] at h1
  have h2 := (List.nodup_append.1 h1).2.2
  intro hz
  exact h2 z hz z (by simp) rfl
end Go.Proofs.YtkhmghmilnfngaaDoor
