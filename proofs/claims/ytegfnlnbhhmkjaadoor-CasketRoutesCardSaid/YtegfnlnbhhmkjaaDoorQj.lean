/-
  A region that draws its order, by what each of its operations leaves and by what holds of several of them together (that two new blocks are two; what lies in a block behind its store).
-/
import Derived.Test.YtegfnlnbhhmkjaaDoorQQ
namespace Go.Proofs.YtegfnlnbhhmkjaaDoor
set_option maxRecDepth 100000
set_option linter.unusedSimpArgs false
set_option linter.unusedVariables false
section
variable {P : Program} {ops : Array Oper} {md : Region.Mode}

/-- One operation, in whatever state; J: what holds of those that are done, together. -/
def StepOkJ (P : Program) (md : Region.Mode) (ops : Array Oper) (Q : Exit → Act → World → Prop) (a0 : Act) (C : World → Prop) (T : World → World → Prop) (R : Nat → Value → World → Prop) (J : (Nat → Bool) → Act → World → Prop) (i : Nat) (o : Oper) : Prop :=
  ∀ (L : Nat → Bool) (a : Act) (w : World), C w → a.defers = a0.defers → a.tmps.size = a0.tmps.size → (∀ s, keptB md ops i s = true → a.tmps.getD s undef = a0.tmps.getD s undef) → (∀ j, Region.waitsFor md ops i j = true → R j (valOf ops a j) w) → J L a w → L i = false → (∀ j, Region.waitsFor md ops i j = true → L j = true) →
    ∀ K : Act → World → Prop, (∀ v w', C w' → T w w' → R i v w' → J (fun j => decide (j = i) || L j) (a.put o.dst v) w' → K (a.put o.dst v) w') → if Region.wanted o (yielded ops a.tmps) = true then Oper.wp P o a w K Q else K (a.put o.dst undef) w
def StepsOkJ (P : Program) (md : Region.Mode) (ops : Array Oper) (Q : Exit → Act → World → Prop) (a0 : Act) (C : World → Prop) (T : World → World → Prop) (R : Nat → Value → World → Prop) (J : (Nat → Bool) → Act → World → Prop) : Nat → List Oper → Prop
  | _, [] => True
  | i, o :: l => StepOkJ P md ops Q a0 C T R J i o ∧ StepsOkJ P md ops Q a0 C T R J (i + 1) l
theorem stepsJ_at {Q : Exit → Act → World → Prop} {a0 : Act} {C : World → Prop} {T : World → World → Prop} {R : Nat → Value → World → Prop} {J : (Nat → Bool) → Act → World → Prop} : ∀ (l : List Oper) (k i : Nat) (o : Oper), StepsOkJ P md ops Q a0 C T R J k l → l[i]? = some o → StepOkJ P md ops Q a0 C T R J (k + i) o
  | [], _, _, _, _, h => by simp at h
  | x :: l, k, 0, o, hs, h => by
    have : x = o := by simpa using h
    subst this
    exact hs.1
  | x :: l, k, i + 1, o, hs, h => by
    have := stepsJ_at l (k + 1) i o hs.2 (by simpa using h)
    rwa [show k + 1 + i = k + (i + 1) by omega] at this
theorem done_set {listed : Array Bool} {i : Nat} (h : i < listed.size) : (fun j => (listed.setIfInBounds i true).getD j false) = fun j => decide (j = i) || listed.getD j false := by
  funext j
  by_cases hij : i = j
  · subst hij
    simp [h]
  · rw [getD_set_ne false hij]
    have : ¬ j = i := fun e => hij e.symm
    simp [this]

theorem any_byJ {Q : Exit → Act → World → Prop} {a0 : Act} {C : World → Prop} {T : World → World → Prop} {R : Nat → Value → World → Prop} {J : (Nat → Bool) → Act → World → Prop}
    (hstab : ∀ j v w w', T w w' → R j v w → R j v w') (hnone : ∀ j v w, j < ops.size → dstOf ops j = none → R j v w → R j undef w) (hsl : slotsB ops a0.tmps.size = true) (ht : topoB md ops = true)
    (hsteps : ∀ i o, ops[i]? = some o → StepOkJ P md ops Q a0 C T R J i o)
    (hend : ∀ a w, C w → a.defers = a0.defers → a.tmps.size = a0.tmps.size → (∀ s, freeB ops s = true → a.tmps.getD s undef = a0.tmps.getD s undef) → (∀ j, j < ops.size → R j (valOf ops a j) w) → (∀ L : Nat → Bool, (∀ j, j < ops.size → L j = true) → J L a w → Q .normal a w)) :
    ∀ (fuel : Nat) (listed : Array Bool) (a : Act) (w : World), listed.toList.count false ≤ fuel → Inv md ops a0 C R listed a w → J (fun j => listed.getD j false) a w → wpAny P md ops Q fuel listed a w := by
  have hfin : ∀ (listed : Array Bool) (a : Act) (w : World), Inv md ops a0 C R listed a w → J (fun j => listed.getD j false) a w → Region.ready md ops listed = [] → Q .normal a w := by
    intro listed a w inv hJ hr
    have hal := all_listed ht inv hr
    refine hend a w inv.cls inv.defers inv.slots (fun s hs => inv.frame s fun j hl => ?_) (fun j hj => inv.vals j (hal j hj)) (fun j => listed.getD j false) hal hJ
    by_cases hj : j < ops.size
    · have := List.all_eq_true.1 hs j (List.mem_range.2 hj)
      simpa using this
    · have : dstOf ops j = none := by simp [dstOf, Array.getElem?_eq_none (Nat.le_of_not_lt hj)]
      rw [this]
      simp
  intro fuel
  induction fuel with
  | zero =>
    intro listed a w hc inv hJ
    have hr : Region.ready md ops listed = [] := by
      cases hq : Region.ready md ops listed with
      | nil => rfl
      | cons i l =>
        exfalso
        have hmem : i ∈ Region.ready md ops listed := by rw [hq]; simp
        obtain ⟨hun, oi, hoi, _⟩ := mem_ready.1 hmem
        have his : i < listed.size := by rw [inv.size]; exact (Array.getElem?_eq_some_iff.1 hoi).1
        have h0 : false ∈ listed.toList := by
          have : listed[i] = false := by simpa [his] using hun
          rw [← this]
          simp
        have := List.count_pos_iff.2 h0
        omega
    exact ⟨hr, hfin _ _ _ inv hJ hr⟩
  | succ fuel ih =>
    intro listed a w hc inv hJ
    refine ⟨fun hr => hfin _ _ _ inv hJ hr, fun i hi => ?_⟩
    obtain ⟨hun, o, ho, hall⟩ := mem_ready.1 hi
    have his : i < listed.size := by rw [inv.size]; exact (Array.getElem?_eq_some_iff.1 ho).1
    have hcount : (listed.setIfInBounds i true).toList.count false ≤ fuel := by
      have h1 : listed.toList[i]'(by simpa using his) = false := by simpa [his] using hun
      have h2 : false ∈ listed.toList := by rw [← h1]; exact List.getElem_mem _
      have h3 := List.count_pos_iff.2 h2
      rw [Array.toList_setIfInBounds, List.count_set (by simpa using his), h1]
      have e1 : (if (false == false) = true then 1 else 0 : Nat) = 1 := rfl
      have e2 : (if (true == false) = true then 1 else 0 : Nat) = 0 := rfl
      rw [e1, e2]
      omega
    refine wpOp_step ho fun K' hK => ?_
    refine hsteps i o ho (fun j => listed.getD j false) a w inv.cls inv.defers inv.slots (fun s hs => inv.frame s fun k hl hk => ?_) (fun j hj => ?_) hJ (getD_both hun) (fun j hj => ?_) K' fun v w' hC hT hR hJ' => hK _ _ (ih _ _ _ hcount (inv_step hstab hsl inv ho hun hall hC hT fun _ => ?_) (by rw [done_set his]; exact hJ'))
    · have hks : k < ops.size := by
        unfold dstOf at hk
        cases hq : ops[k]? with
        | none => simp [hq] at hk
        | some ok => exact (Array.getElem?_eq_some_iff.1 hq).1
      have h1 := List.all_eq_true.1 hs k (List.mem_range.2 hks)
      simp only [Bool.or_eq_true, decide_eq_true_eq] at h1
      rcases h1 with (h1 | h1) | h1
      · exact h1 hk
      · subst h1
        rw [getD_both hun] at hl
        cases hl
      · obtain ⟨ok, hok, e, he, hb, hon⟩ := Region.waitsFor_spec h1
        have h2 := inv.closed k ok hok hl e he hb
        rw [hon, getD_both hun] at h2
        cases h2
    · obtain ⟨o', ho', e, he, hb, hon⟩ := Region.waitsFor_spec hj
      have : o' = o := Option.some.inj (ho'.symm.trans ho)
      subst this
      have := inv.vals e.on (hall e he hb)
      rwa [hon] at this
    · obtain ⟨o', ho', e, he, hb, hon⟩ := Region.waitsFor_spec hj
      have : o' = o := Option.some.inj (ho'.symm.trans ho)
      subst this
      have := hall e he hb
      rwa [hon] at this
    · by_cases hd : dstOf ops i = none
      · rw [if_pos hd]; exact hnone i v w' (Array.getElem?_eq_some_iff.1 ho).1 hd hR
      · rw [if_neg hd]; exact hR
/-- The region, by what each operation leaves, and what holds of several together. -/
theorem region_byJ {id : Nat} {Q : Exit → Act → World → Prop} {a0 : Act} {w0 : World} {l : List Oper} (C : World → Prop) (T : World → World → Prop) (R : Nat → Value → World → Prop) (J : (Nat → Bool) → Act → World → Prop)
    (hm : P.follows .mixedOrders = true) (hsl : slotsB l.toArray a0.tmps.size = true) (ht : topoB .any l.toArray = true)
    (hstab : ∀ j v w w', T w w' → R j v w → R j v w') (hnone : ∀ j v w, j < l.toArray.size → dstOf l.toArray j = none → R j v w → R j undef w)
    (hC : C { w0 with drawn := w0.drawn + 1 }) (hsteps : StepsOkJ P .any l.toArray Q a0 C T R J 0 l) (hJ0 : J (fun _ => false) a0 { w0 with drawn := w0.drawn + 1 })
    (hend : ∀ a w, C w → a.defers = a0.defers → a.tmps.size = a0.tmps.size → (∀ s, freeB l.toArray s = true → a.tmps.getD s undef = a0.tmps.getD s undef) → (∀ j, j < l.toArray.size → R j (valOf l.toArray a j) w) → (∀ L : Nat → Bool, (∀ j, j < l.toArray.size → L j = true) → J L a w → Q .normal a w)) :
    (Code.region id l.toArray true).wp P Q a0 w0 := by
  refine wp_region_any hm ?_
  refine any_byJ hstab hnone hsl ht (fun i o ho => ?_) hend _ _ _ _ (by simp [List.count_le_length]) ?_ ?_
  · have := stepsJ_at l 0 i o hsteps (by simpa using ho)
    rwa [Nat.zero_add] at this
  · refine ⟨by simp, fun j oj _ hl => (by rw [getD_replicate_false] at hl; cases hl), hC, rfl, rfl, fun _ _ => rfl, fun j hl => (by rw [getD_replicate_false] at hl; cases hl)⟩
  · have e : (fun j => (Array.replicate l.toArray.size false).getD j false) = fun _ => false := funext fun j => getD_replicate_false ..
    rw [e]
    exact hJ0
end
end Go.Proofs.YtegfnlnbhhmkjaaDoor
