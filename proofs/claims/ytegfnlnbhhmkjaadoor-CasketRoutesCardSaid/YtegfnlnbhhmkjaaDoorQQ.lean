/-
  Merged: Qi St.
-/
import Derived.Test.YtegfnlnbhhmkjaaDoorQd
import Derived.Test.YtegfnlnbhhmkjaaDoorR3
import Derived.BigCall
namespace Go.Proofs.YtegfnlnbhhmkjaaDoor
set_option maxRecDepth 100000
set_option linter.unusedSimpArgs false
set_option linter.unusedVariables false
section
variable {P : Program} {ops : Array Oper} {md : Region.Mode}

/-- The slot that operation j writes. -/
def dstOf (ops : Array Oper) (j : Nat) : Option Nat := (ops[j]?).bind (·.dst)
/-- What lies there. -/
def valOf (ops : Array Oper) (a : Act) (j : Nat) : Value := match dstOf ops j with | some s => a.tmps.getD s undef | none => undef
/-- No two operations write one slot; each slot is there. -/
def slotsB (ops : Array Oper) (n : Nat) : Bool :=
  (List.range ops.size).all fun i => match dstOf ops i with
    | some s => decide (s < n) && (List.range ops.size).all fun j => decide (j = i) || decide (dstOf ops j ≠ some s)
    | none => true
/-- What is waited for stands ahead. -/
def topoB (md : Region.Mode) (ops : Array Oper) : Bool :=
  (List.range ops.size).all fun i => match ops[i]? with
    | some o => o.after.all fun e => !Region.binds md e || decide (e.on < i)
    | none => true
/-- Slot s is written by none that may come ahead of operation i. -/
def keptB (md : Region.Mode) (ops : Array Oper) (i s : Nat) : Bool :=
  (List.range ops.size).all fun k => decide (dstOf ops k ≠ some s) || decide (k = i) || Region.waitsFor md ops k i
def freeB (ops : Array Oper) (s : Nat) : Bool := (List.range ops.size).all fun k => decide (dstOf ops k ≠ some s)

/-- One operation, in whatever state. -/
def StepOk (P : Program) (md : Region.Mode) (ops : Array Oper) (Q : Exit → Act → World → Prop) (a0 : Act) (C : World → Prop) (T : World → World → Prop) (R : Nat → Value → World → Prop) (i : Nat) (o : Oper) : Prop :=
  ∀ (a : Act) (w : World), C w → a.defers = a0.defers → (∀ s, keptB md ops i s = true → a.tmps.getD s undef = a0.tmps.getD s undef) → (∀ j, Region.waitsFor md ops i j = true → R j (valOf ops a j) w) →
    ∀ K : Act → World → Prop, (∀ v w', C w' → T w w' → R i v w' → K (a.put o.dst v) w') → if Region.wanted o (yielded ops a.tmps) = true then Oper.wp P o a w K Q else K (a.put o.dst undef) w
def StepsOk (P : Program) (md : Region.Mode) (ops : Array Oper) (Q : Exit → Act → World → Prop) (a0 : Act) (C : World → Prop) (T : World → World → Prop) (R : Nat → Value → World → Prop) : Nat → List Oper → Prop
  | _, [] => True
  | i, o :: l => StepOk P md ops Q a0 C T R i o ∧ StepsOk P md ops Q a0 C T R (i + 1) l
theorem steps_at {Q : Exit → Act → World → Prop} {a0 : Act} {C : World → Prop} {T : World → World → Prop} {R : Nat → Value → World → Prop} : ∀ (l : List Oper) (k i : Nat) (o : Oper), StepsOk P md ops Q a0 C T R k l → l[i]? = some o → StepOk P md ops Q a0 C T R (k + i) o
  | [], _, _, _, _, h => by simp at h
  | x :: l, k, 0, o, hs, h => by
    have : x = o := by simpa using h
    subst this
    exact hs.1
  | x :: l, k, i + 1, o, hs, h => by
    have := steps_at l (k + 1) i o hs.2 (by simpa using h)
    rwa [show k + 1 + i = k + (i + 1) by omega] at this

structure Inv (md : Region.Mode) (ops : Array Oper) (a0 : Act) (C : World → Prop) (R : Nat → Value → World → Prop) (listed : Array Bool) (a : Act) (w : World) : Prop where
  size : listed.size = ops.size
  closed : ∀ j oj, ops[j]? = some oj → listed.getD j false = true → ∀ e ∈ oj.after, Region.binds md e = true → listed.getD e.on false = true
  cls : C w
  defers : a.defers = a0.defers
  slots : a.tmps.size = a0.tmps.size
  frame : ∀ s, (∀ j, listed.getD j false = true → dstOf ops j ≠ some s) → a.tmps.getD s undef = a0.tmps.getD s undef
  vals : ∀ j, listed.getD j false = true → R j (valOf ops a j) w

theorem put_getD_ne (a : Act) (d : Option Nat) (v : Value) (s : Nat) (h : d ≠ some s) : (a.put d v).tmps.getD s undef = a.tmps.getD s undef := by
  cases d with
  | none => rfl
  | some t =>
    have hts : t ≠ s := fun e => h (by rw [e])
    simp [Act.put, Array.getElem?_setIfInBounds, hts]
theorem put_getD_eq (a : Act) (v : Value) (s : Nat) (h : s < a.tmps.size) : (a.put (some s) v).tmps.getD s undef = v := by
  simp [Act.put, h]
theorem put_size (a : Act) (d : Option Nat) (v : Value) : (a.put d v).tmps.size = a.tmps.size := by
  cases d <;> simp [Act.put]
theorem put_defers (a : Act) (d : Option Nat) (v : Value) : (a.put d v).defers = a.defers := by
  cases d <;> rfl

theorem inv_step {a0 : Act} {C : World → Prop} {T : World → World → Prop} {R : Nat → Value → World → Prop} {listed : Array Bool} {a : Act} {w w' : World} {i : Nat} {o : Oper} {v : Value}
    (hstab : ∀ j v w w', T w w' → R j v w → R j v w') (hsl : slotsB ops a0.tmps.size = true) (inv : Inv md ops a0 C R listed a w) (ho : ops[i]? = some o) (hun : listed.getD i true = false)
    (hall : ∀ e ∈ o.after, Region.binds md e = true → listed.getD e.on false = true) (hC : C w') (hT : T w w') (hR : dstOf ops i = none ∨ True → R i (if dstOf ops i = none then undef else v) w') :
    Inv md ops a0 C R (listed.setIfInBounds i true) (a.put o.dst v) w' := by
  have hd : dstOf ops i = o.dst := by simp [dstOf, ho]
  have his : i < ops.size := (Array.getElem?_eq_some_iff.1 ho).1
  have hother : ∀ j, j ≠ i → ∀ s, dstOf ops j = some s → o.dst ≠ some s := by
    intro j hji s hj he
    have h1 := List.all_eq_true.1 hsl i (List.mem_range.2 his)
    rw [hd, he] at h1
    simp only [Bool.and_eq_true, decide_eq_true_eq] at h1
    have hjs : j < ops.size := by
      unfold dstOf at hj
      cases hq : ops[j]? with
      | none => simp [hq] at hj
      | some oj => exact (Array.getElem?_eq_some_iff.1 hq).1
    have h2 := List.all_eq_true.1 h1.2 j (List.mem_range.2 hjs)
    simp only [Bool.or_eq_true, decide_eq_true_eq] at h2
    rcases h2 with h2 | h2
    · exact hji h2
    · exact h2 hj
  refine ⟨by simp [inv.size], fun j oj hj hl e he hb => ?_, hC, by rw [put_defers, inv.defers], by rw [put_size, inv.slots], fun s hs => ?_, fun j hl => ?_⟩
  · by_cases hij : i = j
    · subst hij
      have : oj = o := Option.some.inj (hj.symm.trans ho)
      subst this
      exact getD_set_true (hall e he hb)
    · rw [getD_set_ne false hij] at hl
      exact getD_set_true (inv.closed j oj hj hl e he hb)
  · have h1 : o.dst ≠ some s := by
      rw [← hd]
      refine hs i ?_
      have : i < listed.size := by rw [inv.size]; exact his
      simp [this]
    rw [put_getD_ne _ _ _ _ h1]
    exact inv.frame s fun j hl => hs j (getD_set_true hl)
  · by_cases hij : i = j
    · subst hij
      have h1 := hR (Or.inr trivial)
      unfold valOf
      rw [hd]
      cases hq : o.dst with
      | none => rw [hd, hq] at h1; simpa using h1
      | some s =>
        rw [hd, hq] at h1
        have h2 := List.all_eq_true.1 hsl i (List.mem_range.2 his)
        rw [hd, hq] at h2
        simp only [Bool.and_eq_true, decide_eq_true_eq] at h2
        show R i ((a.put (some s) v).tmps.getD s undef) w'
        rw [put_getD_eq a v s (by rw [inv.slots]; exact h2.1)]
        simpa using h1
    · rw [getD_set_ne false hij] at hl
      have h1 := hstab j _ w w' hT (inv.vals j hl)
      have h2 : valOf ops (a.put o.dst v) j = valOf ops a j := by
        unfold valOf
        cases hq : dstOf ops j with
        | none => rfl
        | some s => exact put_getD_ne a o.dst v s (hother j (Ne.symm hij) s hq)
      rwa [h2]

theorem all_listed {a0 : Act} {C : World → Prop} {R : Nat → Value → World → Prop} {listed : Array Bool} {a : Act} {w : World} (ht : topoB md ops = true) (inv : Inv md ops a0 C R listed a w) (hr : Region.ready md ops listed = []) :
    ∀ i, i < ops.size → listed.getD i false = true := by
  intro i
  induction i using Nat.strongRecOn with
  | _ i ih =>
    intro hi
    cases hl : listed.getD i false with
    | true => rfl
    | false =>
      exfalso
      have hun : listed.getD i true = false := getD_in (by rw [inv.size]; exact hi) hl
      have ho : ops[i]? = some ops[i] := Array.getElem?_eq_getElem hi
      have h1 := List.all_eq_true.1 ht i (List.mem_range.2 hi)
      rw [ho] at h1
      have hmem : i ∈ Region.ready md ops listed := mem_ready.2 ⟨hun, _, ho, fun e he hb => by
        have h2 := (Array.all_eq_true'.1 h1) e he
        simp only [hb, Bool.not_true, Bool.false_or, decide_eq_true_eq] at h2
        exact ih e.on h2 (by omega)⟩
      rw [hr] at hmem
      cases hmem

theorem any_by {Q : Exit → Act → World → Prop} {a0 : Act} {C : World → Prop} {T : World → World → Prop} {R : Nat → Value → World → Prop}
    (hstab : ∀ j v w w', T w w' → R j v w → R j v w') (hnone : ∀ j v w, j < ops.size → dstOf ops j = none → R j v w → R j undef w) (hsl : slotsB ops a0.tmps.size = true) (ht : topoB md ops = true)
    (hsteps : ∀ i o, ops[i]? = some o → StepOk P md ops Q a0 C T R i o)
    (hend : ∀ a w, C w → a.defers = a0.defers → a.tmps.size = a0.tmps.size → (∀ s, freeB ops s = true → a.tmps.getD s undef = a0.tmps.getD s undef) → (∀ j, j < ops.size → R j (valOf ops a j) w) → Q .normal a w) :
    ∀ (fuel : Nat) (listed : Array Bool) (a : Act) (w : World), listed.toList.count false ≤ fuel → Inv md ops a0 C R listed a w → wpAny P md ops Q fuel listed a w := by
  have hfin : ∀ (listed : Array Bool) (a : Act) (w : World), Inv md ops a0 C R listed a w → Region.ready md ops listed = [] → Q .normal a w := by
    intro listed a w inv hr
    have hal := all_listed ht inv hr
    refine hend a w inv.cls inv.defers inv.slots (fun s hs => inv.frame s fun j hl => ?_) fun j hj => inv.vals j (hal j hj)
    by_cases hj : j < ops.size
    · have := List.all_eq_true.1 hs j (List.mem_range.2 hj)
      simpa using this
    · have : dstOf ops j = none := by simp [dstOf, Array.getElem?_eq_none (Nat.le_of_not_lt hj)]
      rw [this]
      simp
  intro fuel
  induction fuel with
  | zero =>
    intro listed a w hc inv
    have hr : Region.ready md ops listed = [] := by
      cases hq : Region.ready md ops listed with
      | nil => rfl
      | cons i l =>
        exfalso
        have hmem : i ∈ Region.ready md ops listed := by rw [hq]; simp
        obtain ⟨hun, oi, hoi, _⟩ := mem_ready.1 hmem
        have his : i < listed.size := by rw [inv.size]; exact (Array.getElem?_eq_some_iff.1 hoi).1
        have h0 : false ∈ listed.toList := by
          have : listed[i] = false := by simpa [his] using hun
          rw [← this]
          simp
        have := List.count_pos_iff.2 h0
        omega
    exact ⟨hr, hfin _ _ _ inv hr⟩
  | succ fuel ih =>
    intro listed a w hc inv
    refine ⟨fun hr => hfin _ _ _ inv hr, fun i hi => ?_⟩
    obtain ⟨hun, o, ho, hall⟩ := mem_ready.1 hi
    have his : i < listed.size := by rw [inv.size]; exact (Array.getElem?_eq_some_iff.1 ho).1
    have hcount : (listed.setIfInBounds i true).toList.count false ≤ fuel := by
      have h1 : listed.toList[i]'(by simpa using his) = false := by simpa [his] using hun
      have h2 : false ∈ listed.toList := by rw [← h1]; exact List.getElem_mem _
      have h3 := List.count_pos_iff.2 h2
      rw [Array.toList_setIfInBounds, List.count_set (by simpa using his), h1]
      have e1 : (if (false == false) = true then 1 else 0 : Nat) = 1 := rfl
      have e2 : (if (true == false) = true then 1 else 0 : Nat) = 0 := rfl
      rw [e1, e2]
      omega
    refine wpOp_step ho fun K' hK => ?_
    refine hsteps i o ho a w inv.cls inv.defers (fun s hs => inv.frame s fun k hl hk => ?_) (fun j hj => ?_) K' fun v w' hC hT hR => hK _ _ (ih _ _ _ hcount (inv_step hstab hsl inv ho hun hall hC hT fun _ => ?_))
    · have hks : k < ops.size := by
        unfold dstOf at hk
        cases hq : ops[k]? with
        | none => simp [hq] at hk
        | some ok => exact (Array.getElem?_eq_some_iff.1 hq).1
      have h1 := List.all_eq_true.1 hs k (List.mem_range.2 hks)
      simp only [Bool.or_eq_true, decide_eq_true_eq] at h1
      rcases h1 with (h1 | h1) | h1
      · exact h1 hk
      · subst h1
        rw [getD_both hun] at hl
        cases hl
      · obtain ⟨ok, hok, e, he, hb, hon⟩ := Region.waitsFor_spec h1
        have h2 := inv.closed k ok hok hl e he hb
        rw [hon, getD_both hun] at h2
        cases h2
    · obtain ⟨o', ho', e, he, hb, hon⟩ := Region.waitsFor_spec hj
      have : o' = o := Option.some.inj (ho'.symm.trans ho)
      subst this
      have := inv.vals e.on (hall e he hb)
      rwa [hon] at this
    · by_cases hd : dstOf ops i = none
      · rw [if_pos hd]; exact hnone i v w' (Array.getElem?_eq_some_iff.1 ho).1 hd hR
      · rw [if_neg hd]; exact hR

theorem yield_of {a : Act} {j s : Nat} {b : Bool} (hd : dstOf ops j = some s) (h : a.tmps.getD s undef = .bool b) : yielded ops a.tmps j = some b := by
  unfold yielded
  have e : (ops[j]?).bind (·.dst) = some s := hd
  rw [e]
  show (match a.tmps[s]? with | some (.bool b) => some b | _ => none) = some b
  cases hq : a.tmps[s]? with
  | none =>
    have : a.tmps.getD s undef = undef := by simp [hq]
    rw [this] at h
    cases h
  | some v =>
    have : a.tmps.getD s undef = v := by simp [hq]
    rw [this] at h
    subst h
    rfl
theorem wanted_at {a : Act} {o : Oper} {j s : Nat} {b : Bool} (hg : o.guard = some (j, b)) (hd : dstOf ops j = some s) (h : a.tmps.getD s undef = .bool b) : Region.wanted o (yielded ops a.tmps) = true := by
  have := yield_of hd h
  simp [Region.wanted, hg, this]
/-- The region, by what each operation leaves. -/
theorem region_by {id : Nat} {Q : Exit → Act → World → Prop} {a0 : Act} {w0 : World} {l : List Oper} (C : World → Prop) (T : World → World → Prop) (R : Nat → Value → World → Prop)
    (hm : P.follows .mixedOrders = true) (hsl : slotsB l.toArray a0.tmps.size = true) (ht : topoB .any l.toArray = true)
    (hstab : ∀ j v w w', T w w' → R j v w → R j v w') (hnone : ∀ j v w, j < l.toArray.size → dstOf l.toArray j = none → R j v w → R j undef w)
    (hC : C { w0 with drawn := w0.drawn + 1 }) (hsteps : StepsOk P .any l.toArray Q a0 C T R 0 l)
    (hend : ∀ a w, C w → a.defers = a0.defers → a.tmps.size = a0.tmps.size → (∀ s, freeB l.toArray s = true → a.tmps.getD s undef = a0.tmps.getD s undef) → (∀ j, j < l.toArray.size → R j (valOf l.toArray a j) w) → Q .normal a w) :
    (Code.region id l.toArray true).wp P Q a0 w0 := by
  refine wp_region_any hm ?_
  refine any_by hstab hnone hsl ht (fun i o ho => ?_) hend _ _ _ _ (by simp [List.count_le_length]) ?_
  · have := steps_at l 0 i o hsteps (by simpa using ho)
    rwa [Nat.zero_add] at this
  · refine ⟨by simp, fun j oj _ hl => (by rw [getD_replicate_false] at hl; cases hl), hC, rfl, rfl, fun _ _ => rfl, fun j hl => (by rw [getD_replicate_false] at hl; cases hl)⟩
end
end Go.Proofs.YtegfnlnbhhmkjaaDoor

namespace Go.Proofs.YtegfnlnbhhmkjaaDoor
set_option maxRecDepth 100000
open Go.RowKit
set_option linter.unusedVariables false
set_option linter.unusedSimpArgs false

section
variable {P : Program} {ops : Array Oper} {o : Oper} {a : Act} {w w' : World} {K : Act → World → Prop} {Q : Exit → Act → World → Prop} {E : Prop} {v : Value}
theorem step_run (hw : Region.wanted o (yielded ops a.tmps) = true) (h : (execOp a.eval o).run P w = .ok (.value v) w') (hk : K (a.put o.dst v) w') : if Region.wanted o (yielded ops a.tmps) = true then Oper.wp P o a w K Q else E := by
  rw [if_pos hw]
  unfold Oper.wp
  rw [h]
  exact hk
theorem step_call (f : FuncId) (args : Array Value) (v : Value) (hw : Region.wanted o (yielded ops a.tmps) = true) (h : (execOp a.eval o).run P w = .ok (.enter f args) w') (hc : Calls P f args w' fun e w2 => e = .returned v ∧ K (a.put o.dst v) w2) : if Region.wanted o (yielded ops a.tmps) = true then Oper.wp P o a w K Q else E := by
  rw [if_pos hw]
  unfold Oper.wp
  rw [h]
  exact hc.mono fun e w2 hh => by
    obtain ⟨rfl, hk⟩ := hh
    exact hk
theorem wanted_none (hg : o.guard = none) : Region.wanted o (yielded ops a.tmps) = true := by simp [Region.wanted, hg]
end
theorem slot_of {a : Act} {s : Nat} {v : Value} (h : a.tmps.getD s undef = v) : a.tmps[s]?.getD undef = v := by simpa using h
theorem eval_of {a : Act} {s : Nat} {v : Value} (h : a.tmps.getD s undef = v) : a.eval (.tmp s) = v := h

theorem step_load_sub {P : Program} {ops : Array Oper} {o : Oper} {a : Act} {w : World} {K : Act → World → Prop} {Q : Exit → Act → World → Prop} {E : Prop} (hwt : Region.wanted o (yielded ops a.tmps) = true) (ty : TypeId) (x : Operand) (ho : o.op = .load ty x)
    (g off : Nat) (hx : a.eval x = .pointer (some ⟨g, off, none⟩)) (cs : Array Value) (hc : ∀ j, j < cs.size → w.cell? ⟨g, off + j, none⟩ = cs[j]?) (d : TypeDesc)
    (hu : P.underlying ty = some d) (hd : (match d with | .struct _ | .array _ _ => true | _ => false) = true) (hi : (P.info? ty).map (·.size) = some cs.size)
    (h : K (a.put o.dst (.agg cs)) w) : if Region.wanted o (yielded ops a.tmps) = true then Oper.wp P o a w K Q else E := by
  have hl : (loadCells ⟨g, off, none⟩ cs.toList.length).run P w = .ok cs.toList.toArray w :=
    run_loadCells_list (P := P) w ⟨g, off, none⟩ cs.toList (fun j v hv => by
      have hadd : (⟨g, off, none⟩ : Addr).add j = ⟨g, off + j, none⟩ := by unfold Addr.add; split <;> simp_all
      have hj : j < cs.size := by
        have := (List.getElem?_eq_some_iff.1 hv).1
        simpa using this
      rw [hadd, hc j hj]
      simpa using hv)
  have hrun : (loadVar ty ⟨g, off, none⟩).run P w = .ok (.agg cs) w := by
    cases hq : P.info? ty with
    | none => simp [hq] at hi
    | some i =>
      have hs : i.size = cs.size := by simpa [hq] using hi
      have hagg : (isAgg ty).run P w = .ok true w := by
        unfold isAgg
        rw [Sem.run_bind, run_underlying hu w]
        cases d <;> simp_all
      simp only [Array.length_toList, Array.toArray_toList] at hl
      simp [loadVar, Sem.run_bind, hagg, sizeOf, typeInfo, hq, hs, hl]
  rw [if_pos hwt]
  unfold Oper.wp execOp
  simp only [ho, hx, Instr.loadAt, Instr.sureAddr, Sem.run_bind, Sem.run_pure, Result.andThen_ok, hrun]
  exact h

theorem step_callx {P : Program} {ops : Array Oper} {o : Oper} {a : Act} {w w' : World} {K : Act → World → Prop} {Q : Exit → Act → World → Prop} {E : Prop} (f : FuncId) (args : Array Value) (hw : Region.wanted o (yielded ops a.tmps) = true) (h : (execOp a.eval o).run P w = .ok (.enter f args) w') (hc : Calls P f args w' fun e w2 => ∃ v, e = .returned v ∧ K (a.put o.dst v) w2) : if Region.wanted o (yielded ops a.tmps) = true then Oper.wp P o a w K Q else E := by
  rw [if_pos hw]
  unfold Oper.wp
  rw [h]
  exact hc.mono fun e w2 hh => by
    obtain ⟨v, rfl, hk⟩ := hh
    exact hk
end Go.Proofs.YtegfnlnbhhmkjaaDoor
