/-
  For the laws of keys: the document's answers of layer 11, two arrays compared, an array of two ints that came in; that nonces of unlike ones are unlike.
-/
import Derived.Test.YtengjagahhfjoaaDoorHc
import Derived.Test.YtengjagahhfjoaaDoorLc
import Derived.Laws.StructEq
import Derived.Test.YtengjagahhfjoaaDoorQc
import Derived.BigFrame
namespace Go.Proofs.YtengjagahhfjoaaDoor
open Go.ChangeShapes Go.WideShapes Go.ChangeAt Go.RowKit
set_option linter.unusedVariables false
set_option linter.unusedSimpArgs false

section
variable {P : Program} {C : World → Prop} {ops : Array Oper} {rest : List Oper} {o : Oper} {a : Act} {w : World} {Q : Exit → Act → World → Prop} {K0 : Act → Prop}
/-- A whole row, read in a quiet region. -/
theorem quiet_load_row (ty : TypeId) (x : Operand) (ho : o.op = .load ty x) (g : Nat) (hx : a.eval x = .pointer (some ⟨g, 0, none⟩)) (t : TypeId) (cs : Array Value) (d : TypeDesc)
    (hu : P.underlying ty = some d) (hd : (match d with | .struct _ | .array _ _ => true | _ => false) = true) (hi : (P.info? ty).map (·.size) = some cs.size)
    (hC : ∀ W, C W → Bk W g t cs) (hk : K0 (a.put o.dst (.agg cs))) : o.quiet P a C K0 :=
  quiet_run (.agg cs) (fun W hW => by
    have hrun : (loadVar ty ⟨g, 0, none⟩).run P W = .ok (.agg cs) W := run_loadVar_row _ _ _ _ _ (0, 0) _ (hC W hW) hu hd hi
    unfold execOp
    simp only [ho, hx, Instr.loadAt, Instr.sureAddr, Sem.run_bind, Sem.run_pure, Result.andThen_ok, hrun]) hk
/-- A whole row read behind a guard that says yes. -/
theorem wpList_load_rowW (hw : Region.wanted o (yielded ops a.tmps) = true) (ty : TypeId) (x : Operand) (ho : o.op = .load ty x) (g : Nat) (hx : a.eval x = .pointer (some ⟨g, 0, none⟩)) (t : TypeId) (cs : Array Value) (hb : Bk w g t cs) (d : TypeDesc)
    (hu : P.underlying ty = some d) (hd : (match d with | .struct _ | .array _ _ => true | _ => false) = true) (hi : (P.info? ty).map (·.size) = some cs.size)
    (h : wpList P ops Q rest (a.put o.dst (.agg cs)) w) : wpList P ops Q (o :: rest) a w := by
  have hrun : (loadVar ty ⟨g, 0, none⟩).run P w = .ok (.agg cs) w := run_loadVar_row _ _ _ _ _ (0, 0) _ hb hu hd hi
  refine BigFrame.wpList_want hw fun K hK => ?_
  unfold Oper.wp execOp
  simp only [ho, hx, Instr.loadAt, Instr.sureAddr, Sem.run_bind, Sem.run_pure, Result.andThen_ok, hrun]
  exact hK _ _ h
end
theorem eql12 (l m : List UInt8) (hl : l.length = 12) (hm : m.length = 12) (W : World) :
    (binOp .eql 29 (.agg (rowOf l)) (.agg (rowOf m))).run Tryd.prog W = .ok (.bool (l == m)) W := by
  have hs : ∀ W : World, (sizeOf 5).run Tryd.prog W = .ok 1 W := fun W => by
    obtain ⟨i, hi, hz, hsize, hby⟩ := info_parts info8
    simp [sizeOf, typeInfo, hi, hsize]
  exact run_eql_bytes W 29 5 12 Tryd.underlying29 Tryd.underlying5 hs l m hl hm
theorem run_equalIn_ints2 {P : Program} (w : World) (d : Nat) (t e : TypeId) (ht : P.underlying t = some (.array 2 e)) (he : P.underlying e = some (.int .i64)) (hsz : ∀ w, (sizeOf e).run P w = .ok 1 w) (a0 a1 b0 b1 : Int) :
    (Op.equalIn (d + 2) t (.agg #[.int .i64 a0, .int .i64 a1]) (.agg #[.int .i64 b0, .int .i64 b1])).run P w = .ok (a0 == b0 && a1 == b1) w := by
  rw [Op.equalIn]
  simp only [Sem.run_bind, run_underlying ht, Result.andThen_ok, hsz, Std.Legacy.Range.forIn_eq_forIn_range', Std.Legacy.Range.size, Nat.sub_zero, Nat.add_sub_cancel, Nat.div_one]
  have pa : ∀ (x y : Int) (i : Nat), i < 2 → (part e #[Value.int .i64 x, Value.int .i64 y] (i * 1)).run P w = .ok (.int .i64 (if i = 0 then x else y)) w := fun x y i hi => by
    rcases i with _ | _ | i
    · simp [part, isAgg, run_underlying he]
    · simp [part, isAgg, run_underlying he]
    · omega
  have pe : ∀ x y : Int, (Op.equalIn (d + 1) e (.int .i64 x) (.int .i64 y)).run P w = .ok (x == y) w := fun x y => run_equalIn_int w d e .i64 .i64 x y he
  simp only [List.range'_succ, List.range'_zero, List.forIn_cons, List.forIn_nil, Sem.run_bind, pa _ _ 0 (by omega), pa _ _ (0 + 1) (by omega), pe, Result.andThen_ok]
  have pa1 : ∀ x y : Int, (part e #[Value.int .i64 x, Value.int .i64 y] 1).run P w = .ok (.int .i64 y) w := fun x y => by simpa using pa x y 1 (by omega)
  cases h0 : (a0 == b0) <;> cases h1 : (a1 == b1) <;> simp [h0, h1, pa1, pe]
/-- An array of two ints, taken by value. -/
theorem open_pair {H : Type} {enc : TypeId × Value → H} {P : Program} {t e : TypeId} {w : World} {b0 base : Nat} {sp : Nat → Bool} {held : Bool} {r : Reach} {v : Value} {d : DataW H} {p : List MemPlace}
    (ht : P.underlying t = some (.array 2 e)) (he : P.underlying e = some (.int .i64)) (hc : P.cellsOf e = 1) (hct : P.cellsOf t = 2)
    (hv : Value.okWide P w r b0 t v) (h : DataW.Trod enc P w base sp held t v d p) :
    ∃ a b : Int, v = .agg #[.int .i64 a, .int .i64 b] ∧ (-9223372036854775808 ≤ a ∧ a ≤ 9223372036854775807) ∧ (-9223372036854775808 ≤ b ∧ b ≤ 9223372036854775807) := by
  obtain ⟨cs, rfl, hsz, _⟩ : ∃ cs, v = .agg cs ∧ cs.size = P.cellsOf t ∧ Row.okWide P w r b0 t cs := by simpa [Value.okWide, ht] using hv
  rw [hct] at hsz
  obtain ⟨l⟩ := cs
  match l, hsz with
  | [c0, c1], _ =>
    obtain ⟨fuel, hf⟩ := h
    obtain ⟨xs, m, _, _, _, hl, hel⟩ := DataW.trod_array ht hf
    have h0 := hel 0 (by omega)
    have h1 := hel 1 (by omega)
    rw [hc] at h0 h1
    rw [List.getElem?_eq_getElem (by omega)] at h0 h1
    obtain ⟨a, e0, _, wa⟩ := DataW.trod_int he h0
    obtain ⟨b, e1, _, wb⟩ := DataW.trod_int he h1
    simp [Value.cells] at e0 e1
    exact ⟨a, b, by rw [e0, e1], bounds_i64 wa, bounds_i64 wb⟩
def clientB (z : Int) : Bool := decide (1 ≤ z) && decide (z ≤ 16)
def counterB (z : Int) : Bool := decide (1 ≤ z) && decide (z ≤ 4611686018427387904)
theorem nonceOk_iff (a b : Int) : (clientB a && counterB b) = true ↔ NonceOk a b := by
  unfold clientB counterB NonceOk
  simp
  omega
theorem nonceB_inj (a b c d : Nat) (ha : a ≤ 16) (hb : b ≤ 4611686018427387904) (hc : c ≤ 16) (hd : d ≤ 4611686018427387904) (h : nonceB a b = nonceB c d) : a = c ∧ b = d := by
  unfold nonceB at h
  obtain ⟨h1, h2⟩ := List.append_inj h (by rw [highB_len, highB_len])
  have e1 := congrArg beN h1
  have e2 := congrArg beN h2
  rw [beN_highB, beN_highB] at e1 e2
  have p4 : (256 : Nat) ^ 4 = 4294967296 := by decide
  have p8 : (256 : Nat) ^ 8 = 18446744073709551616 := by decide
  rw [p4] at e1
  rw [p8] at e2
  omega
end Go.Proofs.YtengjagahhfjoaaDoor
