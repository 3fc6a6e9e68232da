/-
  A region by what its operations leave, its frame written out again behind it; append onto an empty slice of the call's own.
-/
import Derived.Test.YtegfnlnbhhmkjaaDoorQQ
import Derived.Test.YtegfnlnbhhmkjaaDoorDn
import Derived.Deep.Upon
namespace Go.Proofs.YtegfnlnbhhmkjaaDoor
set_option maxRecDepth 100000
open Go.RowKit
set_option linter.unusedSimpArgs false
set_option linter.unusedVariables false
section
variable {P : Program} {ops : Array Oper} {md : Region.Mode}
/-- A frame, some slots of it laid anew. -/
def framed (slots : List Nat) (f : Nat → Value) (a : Array Value) : Array Value := slots.foldl (fun x s => x.setIfInBounds s (f s)) a
theorem framed_size (f : Nat → Value) : ∀ (slots : List Nat) (a : Array Value), (framed slots f a).size = a.size
  | [], a => rfl
  | s :: l, a => by
    have := framed_size f l (a.setIfInBounds s (f s))
    simpa [framed] using this
theorem framed_getD (f : Nat → Value) : ∀ (slots : List Nat) (a : Array Value) (i : Nat), i < a.size → (framed slots f a).getD i undef = if i ∈ slots then f i else a.getD i undef
  | [], a, i, h => by simp [framed]
  | s :: l, a, i, h => by
    have ih := framed_getD f l (a.setIfInBounds s (f s)) i (by simpa using h)
    have e : framed (s :: l) f a = framed l f (a.setIfInBounds s (f s)) := rfl
    rw [e, ih]
    by_cases hl : i ∈ l
    · simp [hl]
    · by_cases hs : s = i
      · subst hs
        simp [hl, h]
      · simp [hl, hs, Ne.symm hs, Array.getElem?_setIfInBounds]
theorem frame_back (slots : List Nat) (a a0 : Array Value) (hsz : a.size = a0.size) (h : ∀ s, s ∉ slots → a.getD s undef = a0.getD s undef) : a = framed slots (fun s => a.getD s undef) a0 := by
  apply Array.ext
  · rw [framed_size, hsz]
  · intro i h1 h2
    have h3 := framed_getD (fun s => a.getD s undef) slots a0 i (by omega)
    have e1 : a[i] = a.getD i undef := by simp [h1]
    have e2 : (framed slots (fun s => a.getD s undef) a0)[i] = (framed slots (fun s => a.getD s undef) a0).getD i undef := by
      rw [Array.getD_eq_getD_getElem?, Array.getElem?_eq_getElem h2]; rfl
    rw [e1, e2, h3]
    by_cases hs : i ∈ slots
    · rw [if_pos hs]
    · rw [if_neg hs, h i hs]
def dstsOf (ops : List Oper) : List Nat := ops.filterMap (·.dst)
theorem free_of {l : List Oper} {s : Nat} (h : s ∉ dstsOf l) : freeB l.toArray s = true := by
  unfold freeB
  rw [List.all_eq_true]
  intro k _
  simp only [decide_eq_true_eq]
  intro e
  apply h
  unfold dstOf at e
  cases hq : l.toArray[k]? with
  | none => rw [hq] at e; cases e
  | some o =>
    rw [hq] at e
    have ho : o ∈ l := by
      have : l[k]? = some o := by simpa using hq
      exact List.mem_of_getElem? this
    exact List.mem_filterMap.2 ⟨o, ho, e⟩
/-- region_by; what follows is told at a frame that is written out. -/
theorem region_byF {id : Nat} {Q : Exit → Act → World → Prop} {a0 : Act} {w0 : World} {l : List Oper} (slots : List Nat) (C : World → Prop) (T : World → World → Prop) (R : Nat → Value → World → Prop)
    (hm : P.follows .mixedOrders = true) (hsl : slotsB l.toArray a0.tmps.size = true) (ht : topoB .any l.toArray = true) (hd : dstsOf l = slots)
    (hstab : ∀ j v w w', T w w' → R j v w → R j v w') (hnone : ∀ j v w, j < l.toArray.size → dstOf l.toArray j = none → R j v w → R j undef w)
    (hC : C { w0 with drawn := w0.drawn + 1 }) (hsteps : StepsOk P .any l.toArray Q a0 C T R 0 l)
    (hend : ∀ (f : Nat → Value) w, C w → (∀ j, j < l.toArray.size → R j (match dstOf l.toArray j with | some s => f s | none => undef) w) → Q .normal { tmps := framed slots f a0.tmps, defers := a0.defers } w) :
    (Code.region id l.toArray true).wp P Q a0 w0 := by
  refine region_by C T R hm hsl ht hstab hnone hC hsteps fun a w hC hdf hsz hf hv => ?_
  have e := frame_back slots a.tmps a0.tmps hsz fun s hs => hf s (free_of (by rw [hd]; exact hs))
  obtain ⟨tm, df⟩ := a
  obtain rfl : df = a0.defers := hdf
  have h := hend (fun s => tm.getD s undef) w hC fun j hj => by
    have h1 := hv j hj
    unfold valOf at h1
    exact h1
  rw [← e] at h
  exact h
end
/-- append onto a slice with no room: it is new, or nothing was appended. -/
theorem run_app0 {w : World} {B : Nat} {A : Option Addr} {m : List UInt8} (b0 : Addr) (hr : Rd w B A m) (n c : Nat) (hn : m.length = n) (hm : n ≤ 140737488355328) (ty : TypeId) :
    ∃ A' c' w', (Builtin.append_ #[39, 39] ty #[.slice (some b0) 0 0, .slice A n c]).run Tryd.prog w = .ok (.slice A' n c') w' ∧ Rd w' w'.heap.size A' m ∧ n ≤ c' ∧ c' ≤ 9223372036854775807 ∧ Below w.heap.size w w' := by
  subst hn
  obtain ⟨i, hi, hz, hsize, hby⟩ := info_parts info8
  rcases Nat.eq_zero_or_pos m.length with h0 | h0
  · have hm0 : m = [] := List.eq_nil_of_length_eq_zero h0
    subst hm0
    refine ⟨some b0, 0, w, ?_, Rd.nil, Nat.le_refl _, Nat.zero_le _, Below.refl _ _⟩
    cases A with
    | none => simp [Builtin.append_, run_underlying Tryd.underlying39, sizeOf, typeInfo, hi, Builtin.lenOf, Builtin.firstCells, storeCells]
    | some ad => simp [Builtin.append_, run_underlying Tryd.underlying39, sizeOf, typeInfo, hi, Builtin.lenOf, Builtin.firstCells, storeCells, loadCells, loadCellsFrom]
  · obtain ⟨b, off, rfl, _, _⟩ := hr h0
    have hl : (rowOf m).toList.length = m.length * i.size := by rw [hsize]; simp [rowOf]
    have hr2 := run_append_grow (P := Tryd.prog) w 39 ty 5 i (.int .u8 0) Tryd.underlying39 hi hz b0 0 0 [] (by simp) (by intro j v hj; simp at hj) ⟨b, off, none⟩ m.length c (rowOf m).toList hl (news_of_rd hr)
      (by omega) (by omega) (growslice_fits (by omega) (by rw [hby]; omega))
    simp only [Nat.zero_add] at hr2
    have hge := grownCap_ge w m.length 0 5
    have hcm : grownCap w m.length 0 5 ≤ maxLen := grownCap_le_maxLen w m.length 0 5 (by unfold maxLen; omega)
    refine ⟨_, _, _, hr2, fun _ => ⟨_, 0, rfl, by simp, fun j hj => ?_⟩, hge, by unfold maxLen at hcm; omega, ((Below.refl _ _).drew).alloc (by simp) _⟩
    have h1 := World.cell?_alloc_mark w.drew (([] : List Value).toArray ++ (rowOf m).toList.toArray ++ Builtin.zeroCells (Value.int IntKind.u8 0).cells (grownCap w m.length 0 5 - m.length)) 5 (0, 0) j
    rw [Nat.zero_add]
    refine h1.trans ?_
    have h2 := rowOf_at m j hj
    have hsz : j < (rowOf m).size := by rw [rowOf_size]; exact hj
    rw [Array.getElem?_append_left (by simp [rowOf, hj])]
    simpa using h2
/-- At the operation. -/
theorem step_app0 {ops : Array Oper} {o : Oper} {a : Act} {K : Act → World → Prop} {Q : Exit → Act → World → Prop} {E : Prop} {w : World} {B : Nat} {A : Option Addr} {m : List UInt8} (hw : Region.wanted o (yielded ops a.tmps) = true) (s x : Operand)
    (ho : o.op = .call { callee := .builtin .append, args := #[s, x], argTypes := #[39, 39] })
    (b0 : Addr) (hs : a.eval s = .slice (some b0) 0 0) (n c : Nat) (hx : a.eval x = .slice A n c) (hr : Rd w B A m) (hn : m.length = n) (hm : n ≤ 140737488355328)
    (hK : ∀ A' c' w', Rd w' w'.heap.size A' m → n ≤ c' → c' ≤ 9223372036854775807 → Below w.heap.size w w' → K (a.put o.dst (.slice A' n c')) w') :
    if Region.wanted o (yielded ops a.tmps) = true then Oper.wp Tryd.prog o a w K Q else E := by
  rw [if_pos hw]
  obtain ⟨A', c', w', hrun, h1, h2, h3, h4⟩ := run_app0 (w := w) b0 hr n c hn hm o.type
  unfold Oper.wp execOp
  simp only [ho, resolve, invoke, builtin, Sem.run_bind, Sem.run_pure, Result.andThen_ok, List.map_toArray, List.map_cons, List.map_nil, hs, hx, hrun]
  exact hK A' c' w' h1 h2 h3 h4
/-! ### An own slice, written in place -/
section
variable {w : World} {base : Nat} {A : Option Addr} {n c g : Nat} {l : List UInt8}
theorem Own8.block_ (h : Own8 w base (.slice A n c) l) (h0 : 0 < n) : ∃ g, A = some ⟨g, 0, none⟩ := by
  have hl := h.rd.2
  rcases h.2 with ⟨h1, h2⟩ | ⟨g, cap, cur, hv, _⟩
  · omega
  · injection hv with e1 e2 e3
    exact ⟨g, e1⟩
theorem Own8.cellz (h : Own8 w base (.slice (some ⟨g, 0, none⟩) n c) l) (j : Nat) (hj : j < n) : w.cell? ⟨g, j, none⟩ = some (.int .u8 ((l.getD j 0).toNat : Int)) := by
  have hl := h.rd.2
  subst hl
  have hc := World.ownsRow.cellAt h j (by omega)
  rw [hc]
  have := rowOf_at l j hj
  simpa using this
theorem Own8.frozenz (h : Own8 w base (.slice (some ⟨g, 0, none⟩) n c) l) (j : Nat) : w.frozen? ⟨g, j, none⟩ = false := by
  have hl := h.rd.2
  subst hl
  exact World.ownsRow.frozenAt h j
theorem Own8.put_ (h : Own8 w base (.slice (some ⟨g, 0, none⟩) n c) l) (j : Nat) (b : UInt8) : Own8 (w.setCell ⟨g, j, none⟩ (.int .u8 (b.toNat : Int))) base (.slice (some ⟨g, 0, none⟩) n c) (l.set j b) ∧ base ≤ g := by
  have hl := h.rd.2
  subst hl
  have h1 := (World.ownsRow.stored h j (.int .u8 (b.toNat : Int))).1
  have e : (rowOf l).toList.set j (.int .u8 (b.toNat : Int)) = (rowOf (l.set j b)).toList := by
    rw [← rowOf_set]
    simp
  rw [e] at h1
  refine ⟨?_, (h.lt g rfl).1⟩
  unfold Own8
  rw [List.length_set]
  exact h1
end
end Go.Proofs.YtegfnlnbhhmkjaaDoor
