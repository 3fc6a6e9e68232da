/-
  A row of an act, loaded.
-/
import Derived.Test.YtdkemjipbkanoaaVr
namespace Go.Proofs.Ytdkemjipbkanoaa
open Go.RowKit
set_option linter.unusedVariables false
set_option linter.unusedSimpArgs false

def ActV.row (v : ActV) : Array Value := #[.int .i64 v.kind, .int .i64 v.num, .int .i64 v.k, .slice v.at_ v.text.length v.cap]
theorem ActV.row_one (v : ActV) : v.row.all (·.oneCell') = true := by simp [ActV.row, Value.oneCell']
theorem iAct (v : ActV) : (Try.prog.info? 41).map (·.size) = some v.row.size := by kernel_rfl
theorem run_load_row {P : Program} {w : World} (ty : TypeId) (g off : Nat) (cs : Array Value) (hc : ∀ j, j < cs.size → w.cell? ⟨g, off + j, none⟩ = cs[j]?) (d : TypeDesc)
    (hu : P.underlying ty = some d) (hd : (match d with | .struct _ | .array _ _ => true | _ => false) = true) (hi : (P.info? ty).map (·.size) = some cs.size) : (loadVar ty ⟨g, off, none⟩).run P w = .ok (.agg cs) w := by
  have hl : (loadCells ⟨g, off, none⟩ cs.toList.length).run P w = .ok cs.toList.toArray w :=
    run_loadCells_list (P := P) w ⟨g, off, none⟩ cs.toList (fun j v hv => by
      have hadd : (⟨g, off, none⟩ : Addr).add j = ⟨g, off + j, none⟩ := by unfold Addr.add; split <;> simp_all
      have hj : j < cs.size := by
        have := (List.getElem?_eq_some_iff.1 hv).1
        simpa using this
      rw [hadd, hc j hj]
      simpa using hv)
  cases hq : P.info? ty with
  | none => simp [hq] at hi
  | some i =>
    have hs : i.size = cs.size := by simpa [hq] using hi
    have hagg : (isAgg ty).run P w = .ok true w := by
      unfold isAgg
      rw [Sem.run_bind, run_underlying hu w]
      cases d <;> simp_all
    simp only [Array.length_toList, Array.toArray_toList] at hl
    simp [loadVar, Sem.run_bind, hagg, sizeOf, typeInfo, hq, hs, hl]
theorem wpList_load_act {ops : Array Oper} {rest : List Oper} {o : Oper} {a : Act} {w : World} {Q : Exit → Act → World → Prop} (hgd : o.guard = none) (x : Operand) (ho : o.op = .load 41 x) (g off : Nat) (hx : a.eval x = .pointer (some ⟨g, off, none⟩)) (v : ActV) (hc : ∀ j, j < v.row.size → w.cell? ⟨g, off + j, none⟩ = v.row[j]?)
    (h : wpList Try.prog ops Q rest (a.put o.dst (.agg v.row)) w) : wpList Try.prog ops Q (o :: rest) a w := by
  have hrun : (loadVar 41 ⟨g, off, none⟩).run Try.prog w = .ok (.agg v.row) w := run_load_row 41 g off v.row hc _ Try.underlying41 rfl (iAct v)
  refine wpList_plain hgd fun K hK => ?_
  unfold Oper.wp execOp
  simp only [ho, hx, Instr.loadAt, Instr.sureAddr, Sem.run_bind, Sem.run_pure, Result.andThen_ok, hrun]
  exact hK _ _ h
theorem RdAct.row {w : World} {B : Nat} {A : Option Addr} {l : List ActV} (h : RdAct w B A l) (j : Nat) (hj : j < l.length) : ∃ b off, A = some ⟨b, off, none⟩ ∧ b < B ∧ (∀ i, i < (l[j]).row.size → w.cell? ⟨b, off + j * 4 + i, none⟩ = (l[j]).row[i]?) ∧ ActOk w B l[j] := by
  obtain ⟨b, off, e, hlt, hc⟩ := h (by omega)
  obtain ⟨h1, h2, h3, h5, h4⟩ := hc j hj
  rw [Nat.mul_comm 4 j] at h1 h2 h3 h5
  refine ⟨b, off, e, hlt, fun i hi => ?_, h4⟩
  have hi4 : i < 4 := hi
  match i, hi4 with
  | 0, _ => exact h1
  | 1, _ => exact h2
  | 2, _ => exact h3
  | 3, _ => exact h5
end Go.Proofs.Ytdkemjipbkanoaa
