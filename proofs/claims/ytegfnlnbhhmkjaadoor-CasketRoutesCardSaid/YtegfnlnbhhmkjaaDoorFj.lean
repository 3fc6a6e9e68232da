/-
  A drawn region told by what holds of its operations together, the frame written out again.
-/
import Derived.Test.YtegfnlnbhhmkjaaDoorFr
import Derived.Test.YtegfnlnbhhmkjaaDoorQj
namespace Go.Proofs.YtegfnlnbhhmkjaaDoor
set_option maxRecDepth 100000
open Go.RowKit
set_option linter.unusedVariables false
set_option linter.unusedSimpArgs false
section
variable {P : Program}
/-- region_byJ; what follows is told at a frame that is written out. -/
theorem region_byJF {id : Nat} {Q : Exit → Act → World → Prop} {a0 : Act} {w0 : World} {l : List Oper} (slots : List Nat) (C : World → Prop) (T : World → World → Prop) (R : Nat → Value → World → Prop) (J : (Nat → Bool) → Act → World → Prop)
    (hm : P.follows .mixedOrders = true) (hsl : slotsB l.toArray a0.tmps.size = true) (ht : topoB .any l.toArray = true) (hd : dstsOf l = slots)
    (hstab : ∀ j v w w', T w w' → R j v w → R j v w') (hnone : ∀ j v w, j < l.toArray.size → dstOf l.toArray j = none → R j v w → R j undef w)
    (hC : C { w0 with drawn := w0.drawn + 1 }) (hsteps : StepsOkJ P .any l.toArray Q a0 C T R J 0 l) (hJ0 : J (fun _ => false) a0 { w0 with drawn := w0.drawn + 1 })
    (hend : ∀ (f : Nat → Value) w, C w → (∀ j, j < l.toArray.size → R j (match dstOf l.toArray j with | some s => f s | none => undef) w) → ∀ L : Nat → Bool, (∀ j, j < l.toArray.size → L j = true) → (∃ a : Act, J L a w ∧ ∀ s, a.tmps.getD s undef = f s) → Q .normal { tmps := framed slots f a0.tmps, defers := a0.defers } w) :
    (Code.region id l.toArray true).wp P Q a0 w0 := by
  refine region_byJ C T R J hm hsl ht hstab hnone hC hsteps hJ0 fun a w hC hdf hsz hf hv L hL hJ => ?_
  have e := frame_back slots a.tmps a0.tmps hsz fun s hs => hf s (free_of (by rw [hd]; exact hs))
  obtain ⟨tm, df⟩ := a
  obtain rfl : df = a0.defers := hdf
  have h := hend (fun s => tm.getD s undef) w hC (fun j hj => by
    have h1 := hv j hj
    unfold valOf at h1
    exact h1) L hL ⟨_, hJ, fun _ => rfl⟩
  rw [← e] at h
  exact h
end
theorem step_skip {P : Program} {ops : Array Oper} {o : Oper} {a : Act} {w w' : World} {K : Act → World → Prop} {Q : Exit → Act → World → Prop} {E : Prop} (hw : Region.wanted o (yielded ops a.tmps) = true) (h : (execOp a.eval o).run P w = .ok .skip w') (hk : K (a.put o.dst undef) w') : if Region.wanted o (yielded ops a.tmps) = true then Oper.wp P o a w K Q else E := by
  rw [if_pos hw]
  unfold Oper.wp
  rw [h]
  exact hk
theorem orf_ne {L : Nat → Bool} {i j : Nat} (h : j ≠ i) : (decide (j = i) || L j) = L j := by simp [h]
theorem orf_eq {L : Nat → Bool} {i : Nat} : (decide (i = i) || L i) = true := by simp
end Go.Proofs.YtegfnlnbhhmkjaaDoor
