/-
  Merged: Dki Lgv Dkj.
-/
import Derived.Test.YtdlciehboimciaaDD
import Derived.OrdersIn
import Derived.TacticsIn
import Derived.RangeFuncNested
import Derived.RangeFuncBound
import Derived.RangeFuncCalls
import Derived.RangeFuncLeaves
import Derived.Shelf.Abstract
import Derived.Shelf.RegionOpen
import Derived.WalkKit
import Derived.OwnWalkIn
import Derived.TacticsInMore
import Derived.LoopNIn
import Derived.LoopIn
namespace Go.Proofs.Ytdlciehboimciaa
set_option maxRecDepth 100000
open Go.RowKit
set_option linter.unusedVariables false
set_option linter.unusedSimpArgs false

def okR : Result Next → Prop
  | .ok (.value _) _ => True
  | .ok .skip _ => True
  | .halt _ _ => True
  | _ => False
def PlainOp (P : Program) (o : Oper) : Prop := (∀ w ρ, o.about P w ρ = none) ∧ (∀ c, o.op ≠ .defer c) ∧ ∀ ρ w, okR ((execOp ρ o).run P w)
theorem plain_mk {P : Program} {o : Oper} (h1 : ∀ c, o.op ≠ .call c) (h2 : ∀ c, o.op ≠ .defer c) (h3 : ∀ ρ w, okR ((execOp ρ o).run P w)) : PlainOp P o :=
  ⟨fun w ρ => by
    unfold Oper.about
    cases ho : o.op <;> first | rfl | exact absurd ho (h1 _), h2, h3⟩
theorem plain_v {P : Program} {m : Sem Value} (w : World) : okR (((do pure (.value (← m)) : Sem Next)).run P w) := by
  simp only [Sem.run_bind, Sem.run_pure]
  cases h : m.run P w <;> simp [Result.andThen, okR]
theorem plain_u {P : Program} {m : Sem Unit} (w : World) : okR (((do m; pure .skip : Sem Next)).run P w) := by
  simp only [Sem.run_bind, Sem.run_pure]
  cases h : m.run P w <;> simp [Result.andThen, okR]
theorem plain_load {P : Program} {o : Oper} {t : TypeId} {x : Operand} (h : o.op = .load t x) : PlainOp P o := plain_mk (fun c e => (by rw [h] at e; cases e)) (fun c e => (by rw [h] at e; cases e)) (fun ρ w => by unfold execOp; simp only [h]; exact plain_v w)
theorem plain_move {P : Program} {o : Oper} {x : Operand} (h : o.op = .move x) : PlainOp P o := plain_mk (fun c e => (by rw [h] at e; cases e)) (fun c e => (by rw [h] at e; cases e)) (fun ρ w => by unfold execOp; simp only [h]; trivial)
theorem plain_field {P : Program} {o : Oper} {t : TypeId} {x : Operand} {f : Nat} (h : o.op = .fieldAddr t x f) : PlainOp P o := plain_mk (fun c e => (by rw [h] at e; cases e)) (fun c e => (by rw [h] at e; cases e)) (fun ρ w => by unfold execOp; simp only [h]; exact plain_v w)
theorem plain_index {P : Program} {o : Oper} {t : TypeId} {x y : Operand} (h : o.op = .indexAddr t x y) : PlainOp P o := plain_mk (fun c e => (by rw [h] at e; cases e)) (fun c e => (by rw [h] at e; cases e)) (fun ρ w => by unfold execOp; simp only [h]; exact plain_v w)
theorem plain_store {P : Program} {o : Oper} {t : TypeId} {x y : Operand} (h : o.op = .store t x y) : PlainOp P o := plain_mk (fun c e => (by rw [h] at e; cases e)) (fun c e => (by rw [h] at e; cases e)) (fun ρ w => by unfold execOp; simp only [h]; exact plain_u w)
theorem plain_nil {P : Program} {o : Oper} {x : Operand} (h : o.op = .nilCheck x) : PlainOp P o := plain_mk (fun c e => (by rw [h] at e; cases e)) (fun c e => (by rw [h] at e; cases e)) (fun ρ w => by
  unfold execOp; simp only [h]
  split
  · simp [runtimePanic, okR]
  · simp [runtimePanic, okR]
  · simp [runtimePanic, okR]
  · split
    · simp [runtimePanic, okR]
    · simp only [Sem.run_bind]
      cases hr : (program : Sem Program).run P w with
      | halt x w' => simp [Result.andThen, okR]
      | ok p w' =>
        simp only [Result.andThen]
        cases hr2 : (nilAhead (p.types.size + Made.depth) _ _ _).run P w' with
        | halt x w' => simp [okR]
        | ok b w2 =>
          simp only
          split <;> simp [unsupported, Result.andThen, okR]
    · trivial
  · trivial)
theorem plain_about {P : Program} {o : Oper} (h : PlainOp P o) (w : World) (ρ : Operand → Value) : o.about P w ρ = none := h.1 w ρ
theorem plain_slice {P : Program} {o : Oper} {t : TypeId} {x : Operand} {lo hi mx : Option Operand} (h : o.op = .slice t x lo hi mx) : PlainOp P o := plain_mk (fun c e => (by rw [h] at e; cases e)) (fun c e => (by rw [h] at e; cases e)) (fun ρ w => by unfold execOp; simp only [h]; exact plain_v w)
theorem plain_bin {P : Program} {o : Oper} {k : BinOp} {t u : TypeId} {x y : Operand} (h : o.op = .binOp k t x y u) : PlainOp P o := plain_mk (fun c e => (by rw [h] at e; cases e)) (fun c e => (by rw [h] at e; cases e)) (fun ρ w => by unfold execOp; simp only [h]; exact plain_v w)
theorem plain_assign {P : Program} {o : Oper} {x : Operand} (h : o.op = .assign x) : PlainOp P o := plain_mk (fun c e => (by rw [h] at e; cases e)) (fun c e => (by rw [h] at e; cases e)) (fun ρ w => by unfold execOp; simp only [h]; trivial)
theorem plain_wpIn {F : Fence} {n : Nat} {P : Program} {o : Oper} (h : PlainOp P o) {a : Act} {w : World} {K : Act → World → Prop} {Q : Exit → Act → World → Prop} (hh : o.wp P a w K Q) : o.wpIn F n P a w K Q := by
  refine ⟨fun f hf => (by rw [plain_about h] at hf; cases hf), ?_⟩
  rw [Oper.semAt_eq _ _ _ h.2.1]
  have h3 := h.2.2 a.eval w
  unfold Oper.wp at hh
  cases hr : (execOp a.eval o).run P w with
  | ok x w' =>
    rw [hr] at hh h3
    cases x <;> first | exact hh | exact h3.elim
  | halt x w' =>
    rw [hr] at hh
    cases x <;> first | exact hh | exact hh.elim
section
variable {F : Fence} {n : Nat} {P : Program} {ops : Array Oper} {Q : Exit → Act → World → Prop} {md : Region.Mode}
theorem wpAny_in (hp : ∀ (i : Nat) (o : Oper), ops[i]? = some o → PlainOp P o) (hQ : ¬ LetsOut Q) : ∀ (fuel : Nat) (listed : Array Bool) (a : Act) (w : World), wpAny P md ops Q fuel listed a w → wpAnyIn F n P md ops Q fuel listed a w
  | 0, _, _, _, h => h
  | fuel + 1, listed, a, w, h => ⟨h.1, fun i hi => by
    have h2 := h.2 i hi
    unfold wpOp at h2
    unfold wpOpIn
    cases ho : ops[i]? with
    | none =>
      rw [ho] at h2
      exact wpAny_in hp hQ fuel _ _ _ h2
    | some o =>
      rw [ho] at h2
      simp only at h2 ⊢
      by_cases hw : Region.wanted o (yielded ops a.tmps) = true
      · rw [if_pos hw] at h2 ⊢
        rcases h2 with h2 | h2
        · exact Oper.wpIn_mono (fun a w hh => wpAny_in hp hQ fuel _ a w hh) (plain_wpIn (hp i o ho) h2)
        · exact absurd h2.2 hQ
      · rw [if_neg hw] at h2 ⊢
        exact ⟨fun f hf => (by rw [plain_about (hp i o ho)] at hf; cases hf), wpAny_in hp hQ fuel _ _ _ h2⟩⟩
end

def PlainL (P : Program) : List Oper → Prop
  | [] => True
  | o :: l => PlainOp P o ∧ PlainL P l
theorem plainL_at {P : Program} : ∀ (l : List Oper), PlainL P l → ∀ (i : Nat) (o : Oper), l.toArray[i]? = some o → PlainOp P o
  | [], _, i, o, h => by simp at h
  | x :: l, hp, 0, o, h => by
    have : x = o := by simpa using h
    subst this
    exact hp.1
  | x :: l, hp, i + 1, o, h => plainL_at l hp.2 i o (by simpa using h)
theorem region_byJFIn {F : Fence} {n : Nat} {P : Program} {id : Nat} {Q : Exit → Act → World → Prop} {a0 : Act} {w0 : World} {l : List Oper} (slots : List Nat) (C : World → Prop) (T : World → World → Prop) (R : Nat → Value → World → Prop) (J : (Nat → Bool) → Act → World → Prop)
    (hpl : PlainL P l) (hQ : ¬ LetsOut Q)
    (hm : P.follows .mixedOrders = true) (hsl : slotsB l.toArray a0.tmps.size = true) (ht : topoB .any l.toArray = true) (hd : dstsOf l = slots)
    (hstab : ∀ j v w w', T w w' → R j v w → R j v w') (hnone : ∀ j v w, j < l.toArray.size → dstOf l.toArray j = none → R j v w → R j undef w)
    (hC : C { w0 with drawn := w0.drawn + 1 }) (hsteps : StepsOkJ P .any l.toArray Q a0 C T R J 0 l) (hJ0 : J (fun _ => false) a0 { w0 with drawn := w0.drawn + 1 })
    (hend : ∀ (f : Nat → Value) w, C w → (∀ j, j < l.toArray.size → R j (match dstOf l.toArray j with | some s => f s | none => undef) w) → ∀ L : Nat → Bool, (∀ j, j < l.toArray.size → L j = true) → (∃ a : Act, J L a w ∧ ∀ s, a.tmps.getD s undef = f s) → Q .normal { tmps := framed slots f a0.tmps, defers := a0.defers } w) :
    (Code.region id l.toArray true).wpIn F n P Q a0 w0 := by
  refine wpIn_region_any hm (wpAny_in (plainL_at l hpl) hQ _ _ _ _ ?_)
  refine any_byJ (C := C) (T := T) (R := R) (J := J) (a0 := a0) hstab hnone hsl ht (fun i o ho => ?_) (fun a w hC hdf hsz hf hv L hL hJ => ?_) _ _ _ _ (by simp [List.count_le_length]) ?_ ?_
  · have := stepsJ_at l 0 i o hsteps (by simpa using ho)
    rwa [Nat.zero_add] at this
  · have e := frame_back slots a.tmps a0.tmps hsz fun s hs => hf s (free_of (by rw [hd]; exact hs))
    obtain ⟨tm, df⟩ := a
    obtain rfl : df = a0.defers := hdf
    have h := hend (fun s => tm.getD s undef) w hC (fun j hj => by
      have h1 := hv j hj
      unfold valOf at h1
      exact h1) L hL ⟨_, hJ, fun _ => rfl⟩
    rw [← e] at h
    exact h
  · refine ⟨by simp, fun j oj _ hl => (by rw [getD_replicate_false] at hl; cases hl), hC, rfl, rfl, fun _ _ => rfl, fun j hl => (by rw [getD_replicate_false] at hl; cases hl)⟩
  · have e : (fun j => (Array.replicate l.toArray.size false).getD j false) = fun _ => false := funext fun j => getD_replicate_false ..
    rw [e]
    exact hJ0
end Go.Proofs.Ytdlciehboimciaa

namespace Go.Proofs.Ytdlciehboimciaa
set_option maxRecDepth 100000
open Go.RowKit
set_option linter.unusedVariables false
set_option linter.unusedSimpArgs false

theorem rowsIn_wide {n : Nat} {P : Program} {row : String} {args : Array Value} {w : World} {R : Value → World → Prop} (h : Rows P row args w R) : RowsIn Fence.wide n P row args w R :=
  fun c cs _ => let ⟨v, w', r, s⟩ := h c cs; ⟨v, w', r, stepsIn_wide.2 s⟩
theorem wide_op {l n : Nat} {P : Program} {o : Oper} {a : Act} {w : World} {K : Act → World → Prop} {Q : Exit → Act → World → Prop} (hd : ∀ c, o.op ≠ .defer c) (h : o.wp P a w K Q) : o.wpIn (Fence.wide.inRound l) n P a w K Q := by
  refine ⟨fun _ _ => trivial, ?_⟩
  rw [Oper.semAt_eq _ _ _ hd]
  unfold Oper.wp at h
  generalize (execOp a.eval o).run P w = r at h ⊢
  cases r with
  | ok x w' =>
    cases x <;> simp only [Oper.upon, Oper.uponIn] at h ⊢
    all_goals first
      | exact h
      | exact h.elim
      | exact ⟨fun e => (by cases e), CallsIn.inRound l (callsIn_wide.2 (Calls.mono h fun e w'' he => by cases e <;> exact he))⟩
      | exact ⟨fun e => (by cases e), rowsIn_wide h⟩
  | halt x w' => cases x <;> first | exact h | exact h.elim
def noDef (o : Oper) : Bool := match o.op with
  | .defer _ => false
  | _ => true
theorem noDef_ne {o : Oper} (h : noDef o = true) (c) : o.op ≠ .defer c := fun e => by
  unfold noDef at h
  rw [e] at h
  cases h
section
variable {l n : Nat} {P : Program} {ops : Array Oper} {Q : Exit → Act → World → Prop} {md : Region.Mode}
theorem wpAny_wide (hp : ∀ (i : Nat) (o : Oper), ops[i]? = some o → noDef o = true) (hQ : ¬ LetsOut Q) : ∀ (fuel : Nat) (listed : Array Bool) (a : Act) (w : World), wpAny P md ops Q fuel listed a w → wpAnyIn (Fence.wide.inRound l) n P md ops Q fuel listed a w
  | 0, _, _, _, h => h
  | fuel + 1, listed, a, w, h => ⟨h.1, fun i hi => by
    have h2 := h.2 i hi
    unfold wpOp at h2
    unfold wpOpIn
    cases ho : ops[i]? with
    | none =>
      rw [ho] at h2
      exact wpAny_wide hp hQ fuel _ _ _ h2
    | some o =>
      rw [ho] at h2
      simp only at h2 ⊢
      by_cases hw : Region.wanted o (yielded ops a.tmps) = true
      · rw [if_pos hw] at h2 ⊢
        rcases h2 with h2 | h2
        · exact Oper.wpIn_mono (fun a w hh => wpAny_wide hp hQ fuel _ a w hh) (wide_op (noDef_ne (hp i o ho)) h2)
        · exact absurd h2.2 hQ
      · rw [if_neg hw] at h2 ⊢
        exact ⟨fun f hf => trivial, wpAny_wide hp hQ fuel _ _ _ h2⟩⟩
end
/-- A drawn region in a round of the wide fence: as region_byJF. -/
theorem region_byJFW {l0 : Nat} {n : Nat} {P : Program} {id : Nat} {Q : Exit → Act → World → Prop} {a0 : Act} {w0 : World} {l : List Oper} (slots : List Nat) (C : World → Prop) (T : World → World → Prop) (R : Nat → Value → World → Prop) (J : (Nat → Bool) → Act → World → Prop)
    (hpl : l.all noDef = true) (hQ : ¬ LetsOut Q)
    (hm : P.follows .mixedOrders = true) (hsl : slotsB l.toArray a0.tmps.size = true) (ht : topoB .any l.toArray = true) (hd : dstsOf l = slots)
    (hstab : ∀ j v w w', T w w' → R j v w → R j v w') (hnone : ∀ j v w, j < l.toArray.size → dstOf l.toArray j = none → R j v w → R j undef w)
    (hC : C { w0 with drawn := w0.drawn + 1 }) (hsteps : StepsOkJ P .any l.toArray Q a0 C T R J 0 l) (hJ0 : J (fun _ => false) a0 { w0 with drawn := w0.drawn + 1 })
    (hend : ∀ (f : Nat → Value) w, C w → (∀ j, j < l.toArray.size → R j (match dstOf l.toArray j with | some s => f s | none => undef) w) → ∀ L : Nat → Bool, (∀ j, j < l.toArray.size → L j = true) → (∃ a : Act, J L a w ∧ ∀ s, a.tmps.getD s undef = f s) → Q .normal { tmps := framed slots f a0.tmps, defers := a0.defers } w) :
    (Code.region id l.toArray true).wpIn (Fence.wide.inRound l0) n P Q a0 w0 := by
  refine wpIn_region_any hm (wpAny_wide (fun i o ho => ?_) hQ _ _ _ _ ?_)
  · exact List.all_eq_true.1 hpl o (List.mem_of_getElem? (by simpa using ho))
  refine any_byJ (C := C) (T := T) (R := R) (J := J) (a0 := a0) hstab hnone hsl ht (fun i o ho => ?_) (fun a w hC hdf hsz hf hv L hL hJ => ?_) _ _ _ _ (by simp [List.count_le_length]) ?_ ?_
  · have := stepsJ_at l 0 i o hsteps (by simpa using ho)
    rwa [Nat.zero_add] at this
  · have e := frame_back slots a.tmps a0.tmps hsz fun s hs => hf s (free_of (by rw [hd]; exact hs))
    obtain ⟨tm, df⟩ := a
    obtain rfl : df = a0.defers := hdf
    have h := hend (fun s => tm.getD s undef) w hC (fun j hj => by
      have h1 := hv j hj
      unfold valOf at h1
      exact h1) L hL ⟨_, hJ, fun _ => rfl⟩
    rw [← e] at h
    exact h
  · refine ⟨by simp, fun j oj _ hl => (by rw [getD_replicate_false] at hl; cases hl), hC, rfl, rfl, fun _ _ => rfl, fun j hl => (by rw [getD_replicate_false] at hl; cases hl)⟩
  · have e : (fun j => (Array.replicate l.toArray.size false).getD j false) = fun _ => false := funext fun j => getD_replicate_false ..
    rw [e]
    exact hJ0
/-- One operation of a region that doesn't draw its order, in a round. -/
theorem wpListIn_wide {l0 n : Nat} {P : Program} {ops : Array Oper} {Q : Exit → Act → World → Prop} {o : Oper} {rest : List Oper} {a : Act} {w : World} (hg : o.guard = none) (hd : noDef o = true) (h : o.wp P a w (wpListIn (Fence.wide.inRound l0) n P ops Q rest) Q) : wpListIn (Fence.wide.inRound l0) n P ops Q (o :: rest) a w := by
  unfold wpListIn
  have hw : Region.wanted o (yielded ops a.tmps) = true := by simp [Region.wanted, hg]
  rw [if_pos hw]
  exact wide_op (noDef_ne hd) h
section
variable {l0 n : Nat} {ops : Array Oper} {Q : Exit → Act → World → Prop} {rest : List Oper} {o : Oper} {a : Act} {w : World}
theorem wpListIn_copy8 (hgd : o.guard = none) (d x : Operand) (ho : o.op = .call { callee := .builtin .copy, args := #[d, x], argTypes := #[39, 39] })
    (g i dl dc : Nat) (hd : a.eval d = .slice (some ⟨g, i, none⟩) dl dc) (A : Option Addr) (m c : Nat) (hx : a.eval x = .slice A m c) (l : List UInt8) (r : Nat) (hlr : l.length = r) (hl : 0 < r) (hln : r = Nat.min m dl)
    (h : Nat) (hr : RdN w h A l) (t : TypeId) (cur : Array Value) (hg : Bk w g t cur) (hfit : i + r ≤ cur.size)
    (hK : ∀ w', Bk w' g t (cur.toList.take i ++ (rowOf l).toList ++ cur.toList.drop (i + (rowOf l).toList.length)).toArray → w.grownBy w' (some g) → w'.heap.size = w.heap.size → wpListIn (Fence.wide.inRound l0) n Try.prog ops Q rest (a.put o.dst (.int .i64 (r : Int))) w') : wpListIn (Fence.wide.inRound l0) n Try.prog ops Q (o :: rest) a w :=
  wpListIn_wide hgd (by unfold noDef; rw [ho]) (wp_copy8 d x ho g i dl dc hd A m c hx l r hlr hl hln h hr t cur hg hfit hK)
end
end Go.Proofs.Ytdlciehboimciaa

namespace Go.Proofs.Ytdlciehboimciaa
set_option maxRecDepth 100000
open Go.RowKit Go.Shelf
set_option linter.unusedVariables false
set_option linter.unusedSimpArgs false

attribute [local go_sem] Oper.semAt_some
section
variable {F : Fence} {n : Nat} {P : Program} {ops : Array Oper} {rest : List Oper} {o : Oper} {a : Act} {w : World} {Q : Exit → Act → World → Prop}
theorem run_load_mid (ty : TypeId) (g off : Nat) (cs : Array Value) (hc : ∀ j, j < cs.size → w.cell? ⟨g, off + j, none⟩ = cs[j]?) (d : TypeDesc)
    (hu : P.underlying ty = some d) (hd : (match d with | .struct _ | .array _ _ => true | _ => false) = true) (hi : (P.info? ty).map (·.size) = some cs.size) : (loadVar ty ⟨g, off, none⟩).run P w = .ok (.agg cs) w := by
  have hl : (loadCells ⟨g, off, none⟩ cs.toList.length).run P w = .ok cs.toList.toArray w :=
    run_loadCells_list (P := P) w ⟨g, off, none⟩ cs.toList (fun j v hv => by
      have hadd : (⟨g, off, none⟩ : Addr).add j = ⟨g, off + j, none⟩ := by unfold Addr.add; split <;> simp_all
      have hj : j < cs.size := by
        have := (List.getElem?_eq_some_iff.1 hv).1
        simpa using this
      rw [hadd, hc j hj]
      simpa using hv)
  cases hq : P.info? ty with
  | none => simp [hq] at hi
  | some i =>
    have hs : i.size = cs.size := by simpa [hq] using hi
    have hagg : (isAgg ty).run P w = .ok true w := by
      unfold isAgg
      rw [Sem.run_bind, run_underlying hu w]
      cases d <;> simp_all
    simp only [Array.length_toList, Array.toArray_toList] at hl
    simp [loadVar, Sem.run_bind, hagg, sizeOf, typeInfo, hq, hs, hl]
theorem wpListIn_load_mid (hgd : o.guard = none) (ty : TypeId) (x : Operand) (ho : o.op = .load ty x) (g off : Nat) (hx : a.eval x = .pointer (some ⟨g, off, none⟩)) (cs : Array Value) (hc : ∀ j, j < cs.size → w.cell? ⟨g, off + j, none⟩ = cs[j]?) (d : TypeDesc)
    (hu : P.underlying ty = some d) (hd : (match d with | .struct _ | .array _ _ => true | _ => false) = true) (hi : (P.info? ty).map (·.size) = some cs.size)
    (h : wpListIn F n P ops Q rest (a.put o.dst (.agg cs)) w) : wpListIn F n P ops Q (o :: rest) a w := by
  have hrun := run_load_mid (P := P) (w := w) ty g off cs hc d hu hd hi
  refine wpListIn_plain hgd fun K hK => plain_wpIn (plain_load ho) ?_
  unfold Oper.wp execOp
  simp only [ho, hx, Instr.loadAt, Instr.sureAddr, Sem.run_bind, Sem.run_pure, Result.andThen_ok, hrun]
  exact hK _ _ h
theorem wpListIn_put_row (hgd : o.guard = none) (ty : TypeId) (x y : Operand) (ho : o.op = .store ty x y)
    (g : Nat) (cells : Array Value) (hx : a.eval x = .pointer (some ⟨g, 0, none⟩)) (hy : a.eval y = .agg cells)
    (t : TypeId) (old : Array Value) (hg : Bk w g t old) (hi : (P.info? ty).map (·.size) = some cells.size)
    (hold : old.size = cells.size) (h1 : cells.all (·.oneCell') = true)
    (h : ∀ w', Bk w' g t cells → w.grownBy w' (some g) → w'.heap.size = w.heap.size → wpListIn F n P ops Q rest (a.put o.dst undef) w') : wpListIn F n P ops Q (o :: rest) a w :=
  wpListIn_plain hgd fun K hK => plain_wpIn (plain_store ho) (wp_store_row ty x y ho g cells hx hy t old hg hi hold h1 (hK _ _ (h _ (hg.rowed cells) (grown_row (World.grownBy.refl w _) cells) (by simp))))
end
/-! What comes. -/
abbrev WsV := Nat × List UInt8 × List UInt8
/-- What a loop's body is handed: a place, and a write into one of the sectors. -/
abbrev BwV (n : Nat) := { x : Nat × WsV // x.2.1 < n ∧ x.2.2.1.length = 64 ∧ x.2.2.2.length = 64 }
def wsD : WsV := (0, [], [])
/-- What has come when k rounds are over. -/
def bkl (l : List WsV) (k : Nat) : List (Nat × WsV) := (List.range k).map fun i => (l.length - 1 - i, l.getD (l.length - 1 - i) wsD)
theorem bkl_succ (l : List WsV) (k : Nat) : bkl l (k + 1) = bkl l k ++ [(l.length - 1 - k, l.getD (l.length - 1 - k) wsD)] := by simp [bkl, List.range_succ]
def undL (S : List (List UInt8)) (l : List (Nat × WsV)) : List (List UInt8) := l.foldl (fun S x => S.set x.2.1 x.2.2.1) S
theorem undL_snoc (S : List (List UInt8)) (l : List (Nat × WsV)) (x : Nat × WsV) : undL S (l ++ [x]) = (undL S l).set x.2.1 x.2.2.1 := by simp [undL]
theorem und_len : ∀ (l : List (Nat × WsV)) (S : List (List UInt8)), (undL S l).length = S.length
  | [], S => rfl
  | x :: l, S => by
    have ih := und_len l (S.set x.2.1 x.2.2.1)
    simp only [undL, List.foldl_cons] at ih ⊢
    rw [ih, List.length_set]
theorem und_all {P : List UInt8 → Prop} : ∀ (l : List (Nat × WsV)) (S : List (List UInt8)), (∀ D ∈ S, P D) → (∀ x ∈ l, P x.2.2.1) → ∀ D ∈ undL S l, P D
  | [], S, h, _ => h
  | x :: l, S, h, hr => by
    have ih := und_all l (S.set x.2.1 x.2.2.1) (fun D hD => by
      rcases List.mem_or_eq_of_mem_set hD with h1 | h1
      · exact h D h1
      · rw [h1]; exact hr x (by simp)) (fun y hy => hr y (List.mem_cons_of_mem _ hy))
    simpa [undL] using ih
/-- Undone from behind, what stood there ahead of all writes stands there again. -/
theorem und_back (F : List (List UInt8)) (R : List WrV) (hR : ∀ x ∈ R, x.1 < F.length) : ∀ k, k ≤ R.length → undL (appl F R) (bkl (wasL F R) k) = appl F (R.take (R.length - k))
  | 0, _ => by simp [bkl, undL]
  | k + 1, h => by
    have ih := und_back F R hR k (by omega)
    have hk : R.length - 1 - k < R.length := by omega
    have e := wasL_at R F (R.length - 1 - k) hk
    have e2 : (wasL F R).getD (R.length - 1 - k) wsD = (R[R.length - 1 - k].1, (appl F (R.take (R.length - 1 - k))).getD R[R.length - 1 - k].1 [], R[R.length - 1 - k].2) := by simp [List.getD, e]
    rw [bkl_succ, undL_snoc, ih, wasL_len, e2, show R.length - k = (R.length - 1 - k) + 1 by omega, undo F R _ hk (hR _ (List.getElem_mem hk)), show R.length - (k + 1) = R.length - 1 - k by omega]
theorem und_whole (F : List (List UInt8)) (R : List WrV) (hR : ∀ x ∈ R, x.1 < F.length) : undL (appl F R) (bkl (wasL F R) R.length) = F := by
  rw [und_back F R hR R.length (Nat.le_refl _)]
  simp [appl]
/-- What a round keeps of the blocks below n₀: all but one. -/
def KpQ (n₀ q : Nat) (A B : World) : Prop := A.heap.size ≤ B.heap.size ∧ ∀ k, k < n₀ → k ≠ q → B.heap[k]? = A.heap[k]?
theorem KpQ.refl (n₀ q : Nat) (A : World) : KpQ n₀ q A A := ⟨Nat.le_refl _, fun _ _ _ => rfl⟩
theorem KpQ.trans {n₀ q : Nat} {A B C : World} (h : KpQ n₀ q A B) (k : KpQ n₀ q B C) : KpQ n₀ q A C := ⟨Nat.le_trans h.1 k.1, fun i hi hq => (k.2 i hi hq).trans (h.2 i hi hq)⟩
theorem KpQ.cell {n₀ q : Nat} {A B : World} (h : KpQ n₀ q A B) {b : Nat} (hb : b < n₀) (hq : b ≠ q) (o : Nat) : B.cell? ⟨b, o, none⟩ = A.cell? ⟨b, o, none⟩ := World.cell?_of_block (h.2 b hb hq)
set_option maxRecDepth 100000 in
set_option maxHeartbeats 2000000 in
/-- The iterator, over a slice that has a block. -/
theorem back1_in (F : Fence) (n : Nat) (h7 : F.fn 64) (hro : F.round = none) (hn : 1 ≤ n) (l Bs n₀ b q cap N : Nat) (zs : List WsV) (hz : ∀ x ∈ zs, x.1 < N ∧ x.2.1.length = 64 ∧ x.2.2.length = 64) (hm : zs.length ≤ 1000000) (hb : b < n₀) (hbq : b ≠ q) (hB : Bs < n₀) (hBq : Bs ≠ q) (J Jx : List (BwV N) → World → Prop)
    (hY : ∀ pre x W, J pre W → pre.length < zs.length → YieldAt F (n - 1) Try.prog l #[.int .i64 (x.1.1 : Int), .agg (wrR x.1.2)] W fun e W' =>
      (e = .returned (.bool true) ∧ J (pre ++ [x]) W' ∧ KpQ n₀ q W W') ∨ (e = .returned (.bool false) ∧ Jx (pre ++ [x]) W'))
    (W : World) (hBs : W.cell? ⟨Bs, 0, none⟩ = some (.slice (some ⟨b, 0, none⟩) zs.length cap)) (hc : ∀ k (h : k < zs.length) j, j < (wrR zs[k]).size → W.cell? ⟨b, k * 129 + j, none⟩ = (wrR zs[k])[j]?) (h0 : J [] W) :
    CallsIn F n Try.prog 64 #[.func (.yield l) #[] #[], .pointer (some ⟨Bs, 0, none⟩)] W fun e W' => (∃ v, e = .returned v) ∧
      ((∃ ys, ys.map (·.1) = bkl zs zs.length ∧ J ys W') ∨ (∃ pre, True ∧ Jx pre W')) := by
  obtain ⟨m, hmm⟩ : ∃ m, zs.length = m := ⟨_, rfl⟩
  have HM := hidD_ hmm
  have HC := hidD_ hc
  have HZ := hidD_ hz
  rw [hmm] at hm hY hBs
  clear hc hz
  refine callsIn_of_wp Try.func64 rfl h7 ?_ hro
  simp only [Try.ntmps64, List.size_toArray, List.length_cons, List.length_nil, Nat.reduceAdd, Nat.reduceSub, Array.replicate_succ, Array.replicate_zero, List.push_toArray, List.append_toArray, List.nil_append, List.cons_append]
  gi_wp2
  gi_loopw [3] (fun i wr => ∃ (j : Nat) (pre : List (BwV N)), j ≤ m ∧ i = .int .i64 ((j : Int) - 1) ∧ Hid (pre.map (·.1) = bkl zs (m - j)) ∧ J pre wr ∧ KpQ n₀ q W wr)
    (fun i _ => (intOf i + 1).toNat)
  case atStart => exact ⟨m, [], Nat.le_refl _, rfl, hidD_ (by simp [bkl]), h0, KpQ.refl _ _ _⟩
  case round =>
    obtain ⟨j, pre, hj, rfl, hpre, hJs, hkp⟩ := hrel
    have hcs : wr.cell? ⟨Bs, 0, none⟩ = some (.slice (some ⟨b, 0, none⟩) m cap) := (hkp.cell hB hBq 0).trans hBs
    rcases j with _ | j
    · have d1 : decide ((0 : Int) ≤ ((0 : Nat) : Int) - 1) = false := by decide
      gi_wp2
      go_end0
      exact ⟨⟨_, rfl⟩, .inl ⟨pre, by rw [HM.out]; simpa using hpre.out, hJs⟩⟩
    · have hjz : j < zs.length := by rw [hmm]; omega
      have hzz := HZ.out zs[j] (List.getElem_mem hjz)
      obtain ⟨fn, tmps, assign, body, hy, hR⟩ := hY pre ⟨(j, zs[j]), hzz⟩ wr hJs (by
        have := congrArg List.length hpre.out
        simp [bkl] at this
        omega)
      dsimp only at hy
      have HCW := hidD_ (fun i (hi : i < (wrR zs[j]).size) => (hkp.cell hb hbq (j * 129 + i)).trans (HC.out j hjz i hi))
      have HI := hidD_ (show (Try.prog.info? 86).map (·.size) = some (wrR zs[j]).size by rw [wrR_size _ hzz.2.1 hzz.2.2]; kernel_rfl)
      have e1 : ((j + 1 : Nat) : Int) - 1 = (j : Int) := by omega
      have d1 : decide ((0 : Int) ≤ (j : Int)) = true := decide_eq_true (by omega)
      have t0 : (0 : Int) ≤ (j : Int) := by omega
      have tn : (j : Int) < (m : Int) := by omega
      rw [e1]
      generalize hzj : zs[j] = x at *
      gi_wp2_with (refine wpListIn_load_mid rfl 86 (.tmp 15) rfl b (j * 129) rfl (wrR x) HCW.out _ Try.underlying86 rfl HI.out ?_)
      refine hR.mono ?_
      rintro e W3 (⟨rfl, hJ3, hk3⟩ | ⟨rfl, hJx3⟩)
      · gi_wp2
        go_roundw
        case rel =>
          refine ⟨j, _, by omega, rfl, hidD_ ?_, hJ3, hkp.trans hk3⟩
          rw [List.map_append, hpre.out, show m - j = (m - (j + 1)) + 1 by omega, bkl_succ, HM.out]
          have e5 : m - 1 - (m - (j + 1)) = j := by omega
          rw [e5]
          simp [List.getD, hjz, hzj]
        case measure => simp [intOf]
      · gi_wp2
        refine bodyPost_ret (results_none rfl _ _ _) rfl ?_
        exact ⟨⟨_, rfl⟩, .inr ⟨_, trivial, hJx3⟩⟩
set_option maxRecDepth 100000 in
set_option maxHeartbeats 1000000 in
/-- .. over the nil slice: no round. -/
theorem back1_nil_in (F : Fence) (n : Nat) (h7 : F.fn 64) (hro : F.round = none) (l Bs N : Nat) (J : List (BwV N) → World → Prop) (W : World) (hBs : W.cell? ⟨Bs, 0, none⟩ = some (.slice none 0 0)) (h0 : J [] W) :
    CallsIn F n Try.prog 64 #[.func (.yield l) #[] #[], .pointer (some ⟨Bs, 0, none⟩)] W fun e W' => (∃ v, e = .returned v) ∧ J [] W' := by
  refine callsIn_of_wp Try.func64 rfl h7 ?_ hro
  simp only [Try.ntmps64, List.size_toArray, List.length_cons, List.length_nil, Nat.reduceAdd, Nat.reduceSub, Array.replicate_succ, Array.replicate_zero, List.push_toArray, List.append_toArray, List.nil_append, List.cons_append]
  gi_wp2
  gi_loopw [3] (fun i wr => i = .int .i64 (-1) ∧ J [] wr) (fun _ _ => 0)
  case atStart => exact ⟨rfl, h0⟩
  case round =>
    obtain ⟨rfl, hJs⟩ := hrel
    gi_wp2
    go_end0
    exact ⟨⟨_, rfl⟩, hJs⟩
set_option maxHeartbeats 1000000 in
theorem back_in (F : Fence) (n : Nat) (h5 : F.fn 46) (hro : F.round = none) (a : Option Addr) (len cap : Nat) (w : World) :
    CallsIn F n Try.prog 46 #[.slice a len cap] w fun e w' => e = .returned (.func (.func 64) #[] #[.pointer (some ⟨w.heap.size, 0, none⟩)]) ∧ w' = w.alloc (.cells #[.slice a len cap] 65) := by
  refine callsIn_of_wp Try.func46 rfl h5 ?_ hro
  simp only [Try.ntmps46, List.size_toArray, List.length_cons, List.length_nil, Nat.reduceAdd, Nat.reduceSub, Array.replicate_succ, Array.replicate_zero, List.push_toArray, List.append_toArray, List.nil_append, List.cons_append]
  gi_wp2
  go_ret
  exact ⟨rfl, rfl⟩
/-- The value that Backward gives. -/
theorem back_stops (F : Fence) (n : Nat) (h7 : F.fn 64) (hro : F.round = none) (hn : 1 ≤ n) (Bs n₀ q N b0 : Nat) (A : Option Addr) (cap : Nat) (zs : List WsV) (hz : ∀ x ∈ zs, x.1 < N ∧ x.2.1.length = 64 ∧ x.2.2.length = 64) (hm : zs.length ≤ 1000000) (w : World) (hB : Bs < n₀) (hBq : Bs ≠ q) (hn₀ : n₀ ≤ w.heap.size)
    (hc : w.cell? ⟨Bs, 0, none⟩ = some (.slice A zs.length cap)) (hlo : w.ownsRow b0 86 129 (.slice A zs.length cap) zs.length (flatC wrR zs)) (hq : ∀ g, (Value.slice A zs.length cap).ownBlock = some g → g < n₀ ∧ g ≠ q) :
    SeqStopsK F n Try.prog 64 #[.pointer (some ⟨Bs, 0, none⟩)] (fun x : BwV N => #[.int .i64 (x.1.1 : Int), .agg (wrR x.1.2)]) (KpQ n₀ q) (fun ys => ys.map (·.1) = bkl zs zs.length) (fun _ => True) zs.length w := fun l J Jx W hW _ _ hY h0 => by
  have hc' := (hW.cell (p := ⟨Bs, 0, none⟩) (Nat.lt_of_lt_of_le hB hn₀)).trans hc
  have hlo' : W.ownsRow b0 86 129 (.slice A zs.length cap) zs.length (flatC wrR zs) := ownsRow_heapk hlo fun g hg => hW.block g (World.ownsRow.lt hlo g hg).2
  rcases hlo'.2 with ⟨hv, hz0⟩ | ⟨g, cap', cur, hv, hbg, hh, rest⟩
  · injection hv with e1 e2 e3
    subst e1 e3
    have hzz : zs = [] := List.eq_nil_of_length_eq_zero hz0
    subst hzz
    exact (back1_nil_in F n h7 hro l Bs N J W hc' h0).mono fun e W' ⟨he, hj⟩ => ⟨he, .inl ⟨[], rfl, hj⟩⟩
  · injection hv with e1 e2 e3
    subst e1 e3
    obtain ⟨hg1, hg2⟩ := hq g rfl
    refine (back1_in F n h7 hro hn l Bs n₀ g q cap N zs hz hm hg1 hg2 hB hBq J Jx hY W hc' (fun k hk j hj => ?_) h0)
    have h129 : ∀ x ∈ zs, (wrR x).size = 129 := fun x hx => wrR_size x (hz x hx).2.1 (hz x hx).2.2
    rw [h129 _ (List.getElem_mem hk)] at hj
    rw [World.ownsRow.cellAt hlo' (k * 129 + j) (by omega)]
    exact flatC_at zs k j hk h129 hj
end Go.Proofs.Ytdlciehboimciaa
