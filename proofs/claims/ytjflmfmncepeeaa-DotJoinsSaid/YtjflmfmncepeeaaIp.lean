/-
  An own slice of dots, written in its middle; clear of its end.
-/
import Derived.Test.YtjflmfmncepeeaaAm
import Derived.Test.YtjflmfmncepeeaaIm
namespace Go.Proofs.Ytjflmfmncepeeaa
open Go.RowKit
set_option linter.unusedVariables false
set_option linter.unusedSimpArgs false

theorem OwnD.edit {w : World} {base g n c : Nat} {l : List DotV} (h : OwnD w base (.slice (some ⟨g, 0, none⟩) n c) l) (o : Nat) (vs : List Value) (ho : o + vs.length ≤ n * 2) (h1 : ∀ v ∈ vs, v.oneCell' = true) :
    ∃ w', (storeCells ⟨g, o, none⟩ vs).run Try.prog w = .ok () w' ∧ w.grownBy w' (some g) ∧ w'.heap.size = w.heap.size ∧
      ∀ (m : Nat) (l' : List DotV), m ≤ n → l'.length = m → ((rowD l).take o ++ vs ++ (rowD l).drop (o + vs.length)).take (m * 2) = rowD l' → OwnD w' base (.slice (some ⟨g, 0, none⟩) m c) l' := by
  obtain ⟨_, hn⟩ := h.rd
  rcases h.2 with ⟨hv, _⟩ | ⟨g', cap, cur, hv, hb, hg, hnc, hcm, hcs, ht⟩
  · cases hv
  · injection hv with e1 e2 e3
    injection e1 with e1
    injection e1 with e1
    subst e1 e3
    rw [← hn] at hnc ht
    have hlen : cur.toList.length = c * 2 := by rw [Array.length_toList]; exact hcs
    have hst := storeCells_mark Try.prog g o 27 (0, 0) vs 0 cur w hg (fun j _ hj => by omega) (by omega) h1
    rw [Nat.add_zero] at hst
    refine ⟨_, hst, grown_row (World.grownBy.refl w _) _, by simp, fun m l' hm hl he => ?_⟩
    refine ⟨by rw [rowD_len], .inr ⟨g, c, _, by rw [hl], hb, setRow_heap w g cur _ 27 (0, 0) hg, by omega, hcm, ?_, ?_⟩⟩
    · simp only [List.size_toArray, List.length_append, List.length_take, List.length_drop, hlen]
      omega
    · rw [hl, ← he, ← ht]
      apply List.ext_getElem?
      intro i
      simp only [List.getElem?_take, List.getElem?_append, List.getElem?_drop, List.length_append, List.length_take, hlen]
      by_cases hi : i < m * 2
      · rw [if_pos hi, if_pos hi]
        have a1 : min o (c * 2) = o := by omega
        have a2 : min o (min (n * 2) (c * 2)) = o := by omega
        rw [a1, a2]
        by_cases h2 : i < o
        · have h3 : i < o + vs.length := by omega
          have h4 : i < n * 2 := by omega
          simp [h2, h3, h4]
        · by_cases h3 : i < o + vs.length
          · simp [h2, h3]
          · have h4 : o + vs.length + (i - (o + vs.length)) < n * 2 := by omega
            simp [h3, h4]
      · rw [if_neg hi, if_neg hi]
theorem rowD_set : ∀ (l : List DotV) (k : Nat) (d : DotV), k < l.length → (rowD l).take (k * 2) ++ d.row.toList ++ (rowD l).drop (k * 2 + d.row.toList.length) = rowD (l.set k d)
  | [], _, _, h => absurd h (by simp)
  | p :: l, 0, d, _ => rfl
  | p :: l, k + 1, d, h => by
    have ih := rowD_set l k d (by simpa using h)
    have e : rowD (p :: l) = .int .i64 p.c :: .int .i64 p.n :: rowD l := rfl
    have e2 : rowD ((p :: l).set (k + 1) d) = .int .i64 p.c :: .int .i64 p.n :: rowD (l.set k d) := rfl
    rw [e, e2, ← ih, show (k + 1) * 2 = k * 2 + 1 + 1 by omega, show k * 2 + 1 + 1 + d.row.toList.length = k * 2 + d.row.toList.length + 1 + 1 by omega]
    rfl
theorem rowD_take : ∀ (l : List DotV) (k : Nat), (rowD l).take (k * 2) = rowD (l.take k)
  | [], k => by simp [rowD]
  | p :: l, 0 => rfl
  | p :: l, k + 1 => by
    have ih := rowD_take l k
    have e : rowD (p :: l) = .int .i64 p.c :: .int .i64 p.n :: rowD l := rfl
    have e2 : rowD ((p :: l).take (k + 1)) = .int .i64 p.c :: .int .i64 p.n :: rowD (l.take k) := rfl
    rw [e, e2, ← ih, show (k + 1) * 2 = k * 2 + 1 + 1 by omega]
    rfl
/-- s[k] = d. -/
theorem wpList_put_dot {ops : Array Oper} {rest : List Oper} {o : Oper} {a : Act} {w : World} {Q : Exit → Act → World → Prop} {base g n c : Nat} {l : List DotV} (hgd : o.guard = none) (x y : Operand) (ho : o.op = .store 27 x y)
    (h : OwnD w base (.slice (some ⟨g, 0, none⟩) n c) l) (k : Nat) (hk : k < n) (hx : a.eval x = .pointer (some ⟨g, k * 2, none⟩)) (d : DotV) (hy : a.eval y = .agg d.row)
    (hK : ∀ w', OwnD w' base (.slice (some ⟨g, 0, none⟩) n c) (l.set k d) → w.grownBy w' (some g) → w'.heap.size = w.heap.size → wpList Try.prog ops Q rest (a.put o.dst undef) w') : wpList Try.prog ops Q (o :: rest) a w := by
  obtain ⟨_, hn⟩ := h.rd
  have hl2 : d.row.toList.length = 2 := rfl
  obtain ⟨w', hst, hg', hs', hown⟩ := h.edit (k * 2) d.row.toList (by omega) (fun v hv => by simp [DotV.row] at hv; rcases hv with rfl | rfl <;> rfl)
  have hown' := hown n (l.set k d) (Nat.le_refl _) (by rw [List.length_set, hn]) (by
    rw [rowD_set l k d (by omega), List.take_of_length_le (by rw [rowD_len, List.length_set]; omega)])
  refine wpList_plain hgd fun _ hk => ?_
  have hrun : (storeVar 27 ⟨g, k * 2, none⟩ (.agg d.row)).run Try.prog w = .ok () w' := by
    have hi := iD_
    cases hq : Try.prog.info? 27 with
    | none => rw [hq] at hi; cases hi
    | some i =>
      have hs : i.size = 2 := by rw [hq] at hi; simpa using hi
      have hc : (Value.agg d.row).cells = d.row := rfl
      have hz : d.row.size = 2 := rfl
      simp [storeVar, sizeOf, typeInfo, hq, hc, hz, hs, hst]
  unfold Oper.wp execOp
  simp only [ho, hx, hy, Instr.storeAt, Instr.sureAddr, Sem.run_bind, Sem.run_pure, Result.andThen_ok, hrun]
  exact hk _ _ (hK w' hown' hg' hs')
/-- clear(s[k:]). -/
theorem run_clearD {w : World} {base g n c : Nat} {l : List DotV} (h : OwnD w base (.slice (some ⟨g, 0, none⟩) n c) l) (k : Nat) (hk : k < n) (c' : Nat) (ty : TypeId) :
    ∃ w', (Builtin.clear_ #[23] ty #[.slice (some ⟨g, k * 2, none⟩) (n - k) c']).run Try.prog w = .ok (.tuple #[]) w' ∧ OwnD w' base (.slice (some ⟨g, 0, none⟩) k c) (l.take k) ∧ w.grownBy w' (some g) ∧ w'.heap.size = w.heap.size := by
  obtain ⟨_, hn⟩ := h.rd
  have hl0 := rowD_len l
  have hz : (Builtin.zeroCells (Value.agg #[.int .i64 0, .int .i64 0]).cells (n - k)).toList.length = (n - k) * 2 := by simp [Builtin.zeroCells, Value.cells]
  obtain ⟨w', hst, hg', hs', hown⟩ := h.edit (k * 2) (Builtin.zeroCells (Value.agg #[.int .i64 0, .int .i64 0]).cells (n - k)).toList (by omega) (fun v hv => by
    obtain ⟨i, hi, rfl⟩ := List.mem_iff_getElem.1 hv
    simp only [Builtin.zeroCells, Value.cells, Array.getElem_toList, Array.getElem_map, Array.getElem_range]
    rcases (by have : i % 2 < 2 := Nat.mod_lt _ (by omega); omega : i % 2 = 0 ∨ i % 2 = 1) with e | e <;> simp [e, Value.oneCell'])
  refine ⟨w', ?_, hown k (l.take k) (by omega) (by rw [List.length_take]; omega) ?_, hg', hs'⟩
  · obtain ⟨m, hm⟩ : ∃ m, n - k = m + 1 := ⟨n - k - 1, by omega⟩
    rw [hm] at hst ⊢
    simp only [Builtin.clear_]
    simp [run_underlying Try.underlying23, zD_, hst]
  · rw [List.append_assoc, List.take_append_of_le_length (by rw [List.length_take]; omega), List.take_take, Nat.min_self, rowD_take]
end Go.Proofs.Ytjflmfmncepeeaa
