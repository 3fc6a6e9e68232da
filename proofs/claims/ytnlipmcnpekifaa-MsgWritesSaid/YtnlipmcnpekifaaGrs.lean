/-
  A slice of one element, laid as a whole.
-/
import Derived.Test.YtnlipmcnpekifaaGrp
import Derived.Great.BuildSlice
namespace Go.Proofs.Ytnlipmcnpekifaa
set_option maxRecDepth 100000
open Go.RowKit
set_option linter.unusedVariables false
set_option linter.unusedSimpArgs false

theorem run_oneG {α : Type} (N : Enc α) {ts te : TypeId} {by_ : Nat} (hts : Try.prog.underlying ts = some (.slice te)) (hinfo : (Try.prog.info? te).map (fun i => (i.size, i.bytes, i.zero.map (·.cells.size))) = some (N.k, by_, some N.k)) (hk : N.k ≤ 1000)
    (w : World) (x : α) (cs : Array Value) (hcs : cs = (N.c x).toArray) : (Instr.buildSlice ts 1 #[(0, .agg cs)]).run Try.prog w = .ok (.slice (some ⟨w.heap.size, 0, none⟩) 1 1) (w.alloc (.cells cs te)) := by
  subst hcs
  obtain ⟨i, hi, hii⟩ := Option.map_eq_some_iff.1 hinfo
  simp only [Prod.mk.injEq] at hii
  obtain ⟨hsize, hby, hzz⟩ := hii
  obtain ⟨z, hz, hzs⟩ := Option.map_eq_some_iff.1 hzz
  have hp := N.pos
  refine run_buildSlice w ts te 1 _ (N.c x).toArray i z hts hi hz (by rw [hsize]; omega) (by rw [hsize]; omega) ?_
  rw [hsize]
  have h := Go.Great.fill_whole (s := N.k) hp [.agg (N.c x).toArray] ((Array.range (1 * N.k)).map (z.cells[· % z.cells.size]!)) (fun v hv => by simp at hv; subst hv; simp [Value.cells, N.len]) (by simp)
  rw [show ([Value.agg (N.c x).toArray].flatMap fun v => v.cells.toList).toArray = (N.c x).toArray by simp [Value.cells]] at h
  exact h
section
variable {α : Type} (N : Enc α) {ts te : TypeId} {by_ : Nat} {ops : Array Oper} {rest : List Oper} {o : Oper} {a : Act} {w : World} {Q : Exit → Act → World → Prop}
theorem wpList_oneG (hts : Try.prog.underlying ts = some (.slice te)) (hinfo : (Try.prog.info? te).map (fun i => (i.size, i.bytes, i.zero.map (·.cells.size))) = some (N.k, by_, some N.k)) (hk : N.k ≤ 1000)
    (hgd : o.guard = none) (y : Operand) (ho : o.op = .buildSlice ts 1 #[(0, y)]) (cs : Array Value) (hx : a.eval y = .agg cs) (x : α) (hcs : cs = (N.c x).toArray)
    (hK : wpList Try.prog ops Q rest (a.put o.dst (.slice (some ⟨w.heap.size, 0, none⟩) 1 1)) (w.alloc (.cells cs te))) : wpList Try.prog ops Q (o :: rest) a w :=
  wpList_plain hgd fun _ h => by
    unfold Oper.wp execOp
    simp only [ho, Sem.run_bind, Sem.run_pure, Result.andThen_ok, List.map_toArray, List.map_cons, List.map_nil, hx, run_oneG N hts hinfo hk w x cs hcs]
    exact h _ _ hK
theorem step_oneG {K : Act → World → Prop} {E : Prop} (hts : Try.prog.underlying ts = some (.slice te)) (hinfo : (Try.prog.info? te).map (fun i => (i.size, i.bytes, i.zero.map (·.cells.size))) = some (N.k, by_, some N.k)) (hk : N.k ≤ 1000)
    (hw : Region.wanted o (yielded ops a.tmps) = true) (y : Operand) (ho : o.op = .buildSlice ts 1 #[(0, y)]) (cs : Array Value) (hx : a.eval y = .agg cs) (x : α) (hcs : cs = (N.c x).toArray)
    (hK : K (a.put o.dst (.slice (some ⟨w.heap.size, 0, none⟩) 1 1)) (w.alloc (.cells cs te))) : if Region.wanted o (yielded ops a.tmps) = true then Oper.wp Try.prog o a w K Q else E := by
  refine step_run hw (v := .slice (some ⟨w.heap.size, 0, none⟩) 1 1) (w' := w.alloc (.cells cs te)) ?_ hK
  unfold execOp
  simp only [ho, Sem.run_bind, Sem.run_pure, List.map_toArray, List.map_cons, List.map_nil, hx, run_oneG N hts hinfo hk w x cs hcs, Result.andThen_ok]
end
end Go.Proofs.Ytnlipmcnpekifaa
