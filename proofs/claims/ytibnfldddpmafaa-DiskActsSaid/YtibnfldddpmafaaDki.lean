/-
  A drawn region of a round (or of any fence) whose operations call nothing: as region_byJF.
-/
import Derived.Test.YtibnfldddpmafaaDkh
import Derived.OrdersIn
import Derived.TacticsIn
import Derived.RangeFuncNested
import Derived.RangeFuncBound
import Derived.RangeFuncCalls
import Derived.RangeFuncLeaves
import Derived.Shelf.Abstract
import Derived.Shelf.RegionOpen
import Derived.WalkKit
import Derived.OwnWalkIn
import Derived.TacticsInMore
import Derived.LoopNIn
import Derived.LoopIn
namespace Go.Proofs.Ytibnfldddpmafaa
open Go.RowKit
set_option linter.unusedVariables false
set_option linter.unusedSimpArgs false

def okR : Result Next → Prop
  | .ok (.value _) _ => True
  | .ok .skip _ => True
  | .halt _ _ => True
  | _ => False
def PlainOp (P : Program) (o : Oper) : Prop := (∀ c, o.op ≠ .call c) ∧ (∀ c, o.op ≠ .defer c) ∧ ∀ ρ w, okR ((execOp ρ o).run P w)
theorem plain_v {P : Program} {m : Sem Value} (w : World) : okR (((do pure (.value (← m)) : Sem Next)).run P w) := by
  simp only [Sem.run_bind, Sem.run_pure]
  cases h : m.run P w <;> simp [Result.andThen, okR]
theorem plain_u {P : Program} {m : Sem Unit} (w : World) : okR (((do m; pure .skip : Sem Next)).run P w) := by
  simp only [Sem.run_bind, Sem.run_pure]
  cases h : m.run P w <;> simp [Result.andThen, okR]
theorem plain_load {P : Program} {o : Oper} {t : TypeId} {x : Operand} (h : o.op = .load t x) : PlainOp P o := ⟨fun c e => (by rw [h] at e; cases e), fun c e => (by rw [h] at e; cases e), fun ρ w => by unfold execOp; simp only [h]; exact plain_v w⟩
theorem plain_move {P : Program} {o : Oper} {x : Operand} (h : o.op = .move x) : PlainOp P o := ⟨fun c e => (by rw [h] at e; cases e), fun c e => (by rw [h] at e; cases e), fun ρ w => by unfold execOp; simp only [h]; trivial⟩
theorem plain_field {P : Program} {o : Oper} {t : TypeId} {x : Operand} {f : Nat} (h : o.op = .fieldAddr t x f) : PlainOp P o := ⟨fun c e => (by rw [h] at e; cases e), fun c e => (by rw [h] at e; cases e), fun ρ w => by unfold execOp; simp only [h]; exact plain_v w⟩
theorem plain_index {P : Program} {o : Oper} {t : TypeId} {x y : Operand} (h : o.op = .indexAddr t x y) : PlainOp P o := ⟨fun c e => (by rw [h] at e; cases e), fun c e => (by rw [h] at e; cases e), fun ρ w => by unfold execOp; simp only [h]; exact plain_v w⟩
theorem plain_store {P : Program} {o : Oper} {t : TypeId} {x y : Operand} (h : o.op = .store t x y) : PlainOp P o := ⟨fun c e => (by rw [h] at e; cases e), fun c e => (by rw [h] at e; cases e), fun ρ w => by unfold execOp; simp only [h]; exact plain_u w⟩
theorem plain_nil {P : Program} {o : Oper} {x : Operand} (h : o.op = .nilCheck x) : PlainOp P o := ⟨fun c e => (by rw [h] at e; cases e), fun c e => (by rw [h] at e; cases e), fun ρ w => by
  unfold execOp; simp only [h]
  split
  · simp [runtimePanic, okR]
  · simp [runtimePanic, okR]
  · simp [runtimePanic, okR]
  · split
    · simp [runtimePanic, okR]
    · simp only [Sem.run_bind]
      cases hr : (program : Sem Program).run P w with
      | halt x w' => simp [Result.andThen, okR]
      | ok p w' =>
        simp only [Result.andThen]
        cases hr2 : (nilAhead (p.types.size + Made.depth) _ _ _).run P w' with
        | halt x w' => simp [okR]
        | ok b w2 =>
          simp only
          split <;> simp [unsupported, Result.andThen, okR]
    · trivial
  · trivial⟩
theorem plain_about {P : Program} {o : Oper} (h : PlainOp P o) (w : World) (ρ : Operand → Value) : o.about P w ρ = none := by
  unfold Oper.about
  cases ho : o.op <;> first | rfl | exact absurd ho (h.1 _)
theorem plain_wpIn {F : Fence} {n : Nat} {P : Program} {o : Oper} (h : PlainOp P o) {a : Act} {w : World} {K : Act → World → Prop} {Q : Exit → Act → World → Prop} (hh : o.wp P a w K Q) : o.wpIn F n P a w K Q := by
  refine ⟨fun f hf => (by rw [plain_about h] at hf; cases hf), ?_⟩
  rw [Oper.semAt_eq _ _ _ h.2.1]
  have h3 := h.2.2 a.eval w
  unfold Oper.wp at hh
  cases hr : (execOp a.eval o).run P w with
  | ok x w' =>
    rw [hr] at hh h3
    cases x <;> first | exact hh | exact h3.elim
  | halt x w' =>
    rw [hr] at hh
    cases x <;> first | exact hh | exact hh.elim
section
variable {F : Fence} {n : Nat} {P : Program} {ops : Array Oper} {Q : Exit → Act → World → Prop} {md : Region.Mode}
theorem wpAny_in (hp : ∀ (i : Nat) (o : Oper), ops[i]? = some o → PlainOp P o) (hQ : ¬ LetsOut Q) : ∀ (fuel : Nat) (listed : Array Bool) (a : Act) (w : World), wpAny P md ops Q fuel listed a w → wpAnyIn F n P md ops Q fuel listed a w
  | 0, _, _, _, h => h
  | fuel + 1, listed, a, w, h => ⟨h.1, fun i hi => by
    have h2 := h.2 i hi
    unfold wpOp at h2
    unfold wpOpIn
    cases ho : ops[i]? with
    | none =>
      rw [ho] at h2
      exact wpAny_in hp hQ fuel _ _ _ h2
    | some o =>
      rw [ho] at h2
      simp only at h2 ⊢
      by_cases hw : Region.wanted o (yielded ops a.tmps) = true
      · rw [if_pos hw] at h2 ⊢
        rcases h2 with h2 | h2
        · exact Oper.wpIn_mono (fun a w hh => wpAny_in hp hQ fuel _ a w hh) (plain_wpIn (hp i o ho) h2)
        · exact absurd h2.2 hQ
      · rw [if_neg hw] at h2 ⊢
        exact ⟨fun f hf => (by rw [plain_about (hp i o ho)] at hf; cases hf), wpAny_in hp hQ fuel _ _ _ h2⟩⟩
end

def PlainL (P : Program) : List Oper → Prop
  | [] => True
  | o :: l => PlainOp P o ∧ PlainL P l
theorem plainL_at {P : Program} : ∀ (l : List Oper), PlainL P l → ∀ (i : Nat) (o : Oper), l.toArray[i]? = some o → PlainOp P o
  | [], _, i, o, h => by simp at h
  | x :: l, hp, 0, o, h => by
    have : x = o := by simpa using h
    subst this
    exact hp.1
  | x :: l, hp, i + 1, o, h => plainL_at l hp.2 i o (by simpa using h)
theorem region_byJFIn {F : Fence} {n : Nat} {P : Program} {id : Nat} {Q : Exit → Act → World → Prop} {a0 : Act} {w0 : World} {l : List Oper} (slots : List Nat) (C : World → Prop) (T : World → World → Prop) (R : Nat → Value → World → Prop) (J : (Nat → Bool) → Act → World → Prop)
    (hpl : PlainL P l) (hQ : ¬ LetsOut Q)
    (hm : P.follows .mixedOrders = true) (hsl : slotsB l.toArray a0.tmps.size = true) (ht : topoB .any l.toArray = true) (hd : dstsOf l = slots)
    (hstab : ∀ j v w w', T w w' → R j v w → R j v w') (hnone : ∀ j v w, j < l.toArray.size → dstOf l.toArray j = none → R j v w → R j undef w)
    (hC : C { w0 with drawn := w0.drawn + 1 }) (hsteps : StepsOkJ P .any l.toArray Q a0 C T R J 0 l) (hJ0 : J (fun _ => false) a0 { w0 with drawn := w0.drawn + 1 })
    (hend : ∀ (f : Nat → Value) w, C w → (∀ j, j < l.toArray.size → R j (match dstOf l.toArray j with | some s => f s | none => undef) w) → ∀ L : Nat → Bool, (∀ j, j < l.toArray.size → L j = true) → (∃ a : Act, J L a w ∧ ∀ s, a.tmps.getD s undef = f s) → Q .normal { tmps := framed slots f a0.tmps, defers := a0.defers } w) :
    (Code.region id l.toArray true).wpIn F n P Q a0 w0 := by
  refine wpIn_region_any hm (wpAny_in (plainL_at l hpl) hQ _ _ _ _ ?_)
  refine any_byJ (C := C) (T := T) (R := R) (J := J) (a0 := a0) hstab hnone hsl ht (fun i o ho => ?_) (fun a w hC hdf hsz hf hv L hL hJ => ?_) _ _ _ _ (by simp [List.count_le_length]) ?_ ?_
  · have := stepsJ_at l 0 i o hsteps (by simpa using ho)
    rwa [Nat.zero_add] at this
  · have e := frame_back slots a.tmps a0.tmps hsz fun s hs => hf s (free_of (by rw [hd]; exact hs))
    obtain ⟨tm, df⟩ := a
    obtain rfl : df = a0.defers := hdf
    have h := hend (fun s => tm.getD s undef) w hC (fun j hj => by
      have h1 := hv j hj
      unfold valOf at h1
      exact h1) L hL ⟨_, hJ, fun _ => rfl⟩
    rw [← e] at h
    exact h
  · refine ⟨by simp, fun j oj _ hl => (by rw [getD_replicate_false] at hl; cases hl), hC, rfl, rfl, fun _ _ => rfl, fun j hl => (by rw [getD_replicate_false] at hl; cases hl)⟩
  · have e : (fun j => (Array.replicate l.toArray.size false).getD j false) = fun _ => false := funext fun j => getD_replicate_false ..
    rw [e]
    exact hJ0
end Go.Proofs.Ytibnfldddpmafaa
