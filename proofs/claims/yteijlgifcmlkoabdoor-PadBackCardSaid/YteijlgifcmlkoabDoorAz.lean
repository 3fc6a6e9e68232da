/-
  Append of noughts onto a slice of the call's own (what append of what make gives says).
-/
import Derived.Test.YteijlgifcmlkoabDoorAm
import Derived.Test.YteijlgifcmlkoabDoorCc
import Derived.Lib.AppendZerosOnto
import Derived.Lib.ConvBytes
namespace Go.Proofs.YteijlgifcmlkoabDoor
open Go.RowKit Go.Lib
set_option linter.unusedVariables false

section
variable {w : World} {base : Nat} {v : Value} {l : List UInt8}
theorem own_zeros (w : World) (base n G : Nat) (l : List UInt8) (hb : base ≤ w.heap.size) (hG1 : l.length + n ≤ G) (hG2 : G ≤ maxLen) :
    Own8 (w.alloc (.cells ((rowOf l) ++ rowOf (List.replicate n 0) ++ rowOf (List.replicate (G - (l.length + n)) 0)) 5)) base (.slice (some ⟨w.heap.size, 0, none⟩) (l.length + n) G) (l ++ List.replicate n 0) := by
  refine ⟨by simp [rowOf], .inr ⟨w.heap.size, G, _, by simp, hb, heap_alloc_new w _, by simpa using hG1, hG2, ?_, ?_⟩⟩
  · simp [rowOf]
    omega
  · have h : ((rowOf l) ++ rowOf (List.replicate n 0) ++ rowOf (List.replicate (G - (l.length + n)) 0)).toList = (rowOf (l ++ List.replicate n 0)).toList ++ (rowOf (List.replicate (G - (l.length + n)) 0)).toList := by simp [rowOf]
    rw [h, Nat.mul_one, List.take_left' (by simp [rowOf])]
/-- append of n noughts onto an own slice. -/
theorem run_appZ (h : Own8 w base v l) (n : Nat) (ty : TypeId) (hsz : l.length + n ≤ 140737488355328) (hbase : base ≤ w.heap.size) :
    ∃ v' w', (Builtin.append_ #[27, 3] ty #[v, .int .i64 (n : Int)]).run Tryd.prog w = .ok v' w' ∧ Own8 w' base v' (l ++ List.replicate n 0) ∧ w.grownBy w' v.ownBlock ∧ (v'.ownBlock = v.ownBlock ∨ v'.ownBlock = some w.heap.size) := by
  obtain ⟨i, hi, hz, hsize, hby⟩ := info_parts info8
  have hw : IntKind.i64.wrap (n : Int) = n := by rw [IntKind.wrap_i64]; omega
  have hneg : ¬ ((n : Int) < 0) := by omega
  have h48 : ¬ (281474976710656 < (n : Int) * ((1 : Nat) : Int)) := by omega
  by_cases h0 : n = 0
  · subst h0
    have hrun : (Builtin.append_ #[27, 3] ty #[v, .int .i64 ((0 : Nat) : Int)]).run Tryd.prog w = .ok v w := by
      have hw0 : IntKind.i64.wrap 0 = 0 := by rw [IntKind.wrap_i64]; omega
      rcases h.2 with ⟨hv, h0⟩ | ⟨g, cap, cur, hv, _, _, hnc, _⟩
      · subst hv
        simp [Builtin.append_, run_underlying Tryd.underlying27, run_underlying Tryd.underlying3, sizeOf, typeInfo, hi, asInt, asIntOf, hw0]
      · subst hv
        simp [Builtin.append_, run_underlying Tryd.underlying27, run_underlying Tryd.underlying3, sizeOf, typeInfo, hi, asInt, asIntOf, hw0, hnc, storeCells]
    exact ⟨v, w, hrun, by simpa using h, World.grownBy.refl w _, .inl rfl⟩
  · have hgrow : ∀ (b : Option Addr) (cap : Nat), cap < l.length + n → cap ≤ l.length + n → (Builtin.firstCells i.size l.length (.slice b l.length cap)).run Tryd.prog w.drew = .ok (rowOf l).toList.toArray w.drew →
        ∃ v' w', (Builtin.append_ #[27, 3] ty #[.slice b l.length cap, .int .i64 (n : Int)]).run Tryd.prog w = .ok v' w' ∧ Own8 w' base v' (l ++ List.replicate n 0) ∧ w.grownBy w' (Value.slice b l.length cap).ownBlock ∧ v'.ownBlock = some w.heap.size := fun b cap hlt hle hold => by
      have hr := run_append_grow_zeros w 27 3 ty 5 i (.int .u8 0) .i64 .i64 Tryd.underlying27 Tryd.underlying3 hi hz b l.length cap (rowOf l).toList hold n (by omega) (by omega) hlt (by omega) (by rw [hby]; omega) (growslice_fits (by omega) (by rw [hby]; omega))
      rw [zero_cells8, zero_cells8] at hr
      have hG1 := grownCap_ge w (l.length + n) cap 5
      have hG2 := grownCap_le_maxLen w (l.length + n) cap 5 (by unfold maxLen; omega)
      generalize grownCap w (l.length + n) cap 5 = G at *
      have ho := own_zeros w.drew base n G l hbase hG1 hG2
      exact ⟨_, _, hr, by simpa using ho, (World.grownBy_alloc w.drew _ _ : World.grownBy w.drew _ _) |> fun hg => ⟨hg.os, hg.tape, hg.output, hg.size, hg.block⟩, rfl⟩
    rcases h.2 with ⟨rfl, hl0⟩ | ⟨g, cap, cur, rfl, hbg, hg, hnc, hcm, hcs, htake⟩
    · have hl : l = [] := List.eq_nil_of_length_eq_zero hl0
      subst hl
      obtain ⟨v', w', h1, h2, h3, h4⟩ := hgrow none 0 (by simp; omega) (by omega) (run_firstCells_none w.drew i.size 0 0 0)
      exact ⟨v', w', h1, h2, h3, .inr h4⟩
    · by_cases hfit : l.length + n ≤ cap
      · have hst := storeCells_mark Tryd.prog g l.length 5 (0, 0) (rowOf (List.replicate n 0)).toList 0 cur w hg (fun j _ => by omega) (by simp [rowOf]; omega) (one_of_row _)
        refine ⟨.slice (some ⟨g, 0, none⟩) (l.length + n) cap, w.setRow g (cur.toList.take (l.length + 0) ++ (rowOf (List.replicate n 0)).toList ++ cur.toList.drop (l.length + 0 + (rowOf (List.replicate n 0)).toList.length)).toArray, ?_, ?_, ⟨rfl, rfl, rfl, by simp, fun k _ hk => setRow_other w g k _ (fun e => hk (by simp [e, Value.ownBlock]))⟩, .inl rfl⟩
        · have hadd : (⟨g, 0, none⟩ : Addr).add (l.length * i.size) = ⟨g, l.length, none⟩ := by rw [hsize, Nat.mul_one]; unfold Addr.add; split <;> simp_all
          have hn2 : n * i.size ≠ 0 := by rw [hsize]; omega
          simp [Builtin.append_, run_underlying Tryd.underlying27, run_underlying Tryd.underlying3, sizeOf, typeInfo, zeroValue, hi, hz, asInt, asIntOf, hw, hneg, hby, hfit, hn2, hadd]
          rw [if_neg (by omega), zero_cells8, hst]
          simp
        · refine ⟨by simp [rowOf], .inr ⟨g, cap, _, by simp, hbg, setRow_heap w g cur _ _ _ hg, by simpa using hfit, hcm, ?_, ?_⟩⟩
          · simp [rowOf]
            omega
          · rw [Nat.mul_one] at htake
            have h2 : (cur.toList.take (l.length + 0) ++ (rowOf (List.replicate n 0)).toList ++ cur.toList.drop (l.length + 0 + (rowOf (List.replicate n 0)).toList.length)).toArray.toList = (rowOf (l ++ List.replicate n 0)).toList ++ cur.toList.drop (l.length + 0 + (rowOf (List.replicate n 0)).toList.length) := by
              rw [Nat.add_zero, htake]
              simp [rowOf]
            rw [h2, Nat.mul_one, List.take_left' (by simp [rowOf])]
      · obtain ⟨v', w', h1, h2, h3, h4⟩ := hgrow (some ⟨g, 0, none⟩) cap (by omega) (by omega) (run_firstCells_some (P := Tryd.prog) (w := w.drew) i.size l.length ⟨g, 0, none⟩ l.length cap (rowOf l).toList (by simp [rowOf, hsize]) (fun j u hu => World.ownsRow.cells (w := w.drew) h.drew rfl j u hu))
        exact ⟨v', w', h1, h2, h3, .inr h4⟩
theorem wpList_appZ {ops : Array Oper} {rest : List Oper} {o : Oper} {a : Act} {Q : Exit → Act → World → Prop} (hgd : o.guard = none) (s x : Operand)
    (ho : o.op = .call { callee := .builtin .append, args := #[s, x], argTypes := #[27, 3] })
    (h : Own8 w base v l) (hs : a.eval s = v) (n : Nat) (hx : a.eval x = .int .i64 (n : Int))
    (hsz : l.length + n ≤ 140737488355328) (hbase : base ≤ w.heap.size)
    (hK : ∀ A' c' w', Own8 w' base (.slice A' (l.length + n) c') (l ++ List.replicate n 0) → w.grownBy w' v.ownBlock → ((Value.slice A' (l.length + n) c').ownBlock = v.ownBlock ∨ (Value.slice A' (l.length + n) c').ownBlock = some w.heap.size) → wpList Tryd.prog ops Q rest (a.put o.dst (.slice A' (l.length + n) c')) w') : wpList Tryd.prog ops Q (o :: rest) a w := by
  obtain ⟨v', w', hrun, h2, h3, h4⟩ := run_appZ h n o.type hsz hbase
  obtain ⟨A', c', hv, _⟩ := h2.form
  rw [List.length_append, List.length_replicate] at hv
  subst hv
  exact wpList_append_run w hgd s x _ _ ho _ _ hs hx _ w' hrun (hK A' c' w' h2 h3 h4)
end
end Go.Proofs.YteijlgifcmlkoabDoor
