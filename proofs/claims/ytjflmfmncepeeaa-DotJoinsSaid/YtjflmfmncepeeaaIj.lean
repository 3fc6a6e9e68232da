/-
  Rows of dots: append onto a slice with no room; casketlaw14.tame.
-/
import Derived.Test.YtjflmfmncepeeaaIi
namespace Go.Proofs.Ytjflmfmncepeeaa
open Go.ChangeShapes Go.WideShapes Go.ChangeAt Go.RowKit
set_option linter.unusedVariables false
set_option linter.unusedSimpArgs false

def rowD (l : List DotV) : List Value := l.flatMap fun d => [.int .i64 d.c, .int .i64 d.n]
theorem rowD_len (l : List DotV) : (rowD l).length = l.length * 2 := by
  induction l with
  | nil => rfl
  | cons p l ih =>
    have e : rowD (p :: l) = [.int .i64 p.c, .int .i64 p.n] ++ rowD l := rfl
    rw [e, List.length_append, ih, List.length_cons, List.length_cons, List.length_cons, List.length_nil]
    omega
theorem rowD_at : ∀ (l : List DotV) (k : Nat) (h : k < l.length), (rowD l)[k * 2]? = some (.int .i64 (l.getD k ⟨0, 0⟩).c) ∧ (rowD l)[k * 2 + 1]? = some (.int .i64 (l.getD k ⟨0, 0⟩).n)
  | [], _, h => absurd h (by simp)
  | p :: l, 0, _ => ⟨rfl, rfl⟩
  | p :: l, k + 1, h => by
    have ih := rowD_at l k (by simpa using h)
    have e : rowD (p :: l) = [.int .i64 p.c, .int .i64 p.n] ++ rowD l := rfl
    have g : ∀ j, ([Value.int .i64 p.c, .int .i64 p.n] ++ rowD l)[(k + 1) * 2 + j]? = (rowD l)[k * 2 + j]? := fun j => by
      rw [List.getElem?_append_right (by simp only [List.length_cons, List.length_nil]; omega)]
      congr 1
      simp only [List.length_cons, List.length_nil]
      omega
    rw [e]
    have g0 := g 0
    rw [Nat.add_zero, Nat.add_zero] at g0
    rw [g0, g 1]
    simpa using ih
theorem rowD_one (l : List DotV) : ∀ u ∈ rowD l, u.oneCell' = true := fun u hu => by
  unfold rowD at hu
  rw [List.mem_flatMap] at hu
  obtain ⟨d, _, h⟩ := hu
  simp at h
  rcases h with rfl | rfl <;> rfl
theorem news_of_rdD {w : World} {B b off : Nat} {m : List DotV} (hr : RdD w B (some ⟨b, off, none⟩) m) : ∀ j u, (rowD m)[j]? = some u → w.cell? ((⟨b, off, none⟩ : Addr).add j) = some u := by
  intro j u hu
  have hl := rowD_len m
  have hj : j < m.length * 2 := by
    have := (List.getElem?_eq_some_iff.1 hu).1
    omega
  obtain ⟨b', off', e, _, hc⟩ := hr (by omega)
  injection e with e
  injection e with e1 e2 e3
  subst e1 e2
  have hadd : (⟨b, off, none⟩ : Addr).add j = ⟨b, off + j, none⟩ := by unfold Addr.add; split <;> simp_all
  rw [hadd]
  have hk : j / 2 < m.length := by omega
  obtain ⟨h1, h2⟩ := hc (j / 2) hk
  obtain ⟨r1, r2⟩ := rowD_at m (j / 2) hk
  rcases (by omega : j = j / 2 * 2 ∨ j = j / 2 * 2 + 1) with e | e
  · rw [e] at hu
    rw [r1] at hu
    rw [e, ← hu]
    exact h1
  · rw [e] at hu
    rw [r2] at hu
    rw [e, ← hu]
    exact h2
theorem RdD.take {w : World} {B : Nat} {A : Option Addr} {ms : List DotV} (h : RdD w B A ms) (k : Nat) : RdD w B A (ms.take k) := fun hn => by
  rw [List.length_take] at hn
  obtain ⟨b, off, e, hlt, hc⟩ := h (by omega)
  refine ⟨b, off, e, hlt, fun j hj => ?_⟩
  rw [List.length_take] at hj
  have e2 : (ms.take k).getD j ⟨0, 0⟩ = ms.getD j ⟨0, 0⟩ := by
    simp only [List.getD_eq_getElem?_getD, List.getElem?_take]
    rw [if_pos (by omega)]
  rw [e2]
  exact hc j (by omega)
theorem RdD.nil {w : World} {B : Nat} {A : Option Addr} : RdD w B A [] := fun h => absurd h (by simp)
theorem infoD : (Try.prog.info? 27).map (fun i => (i.size, i.bytes, i.zero)) = some (2, 16, some (.agg #[.int .i64 0, .int .i64 0])) := by kernel_rfl
/-- A slice's block is one of dots, if there are any. -/
def TyD (w : World) (A : Option Addr) (m : List DotV) : Prop := 0 < m.length → ∀ b off, A = some ⟨b, off, none⟩ → ∃ cs fr, w.heap[b]? = some (.cells cs 27 fr)
theorem TyD.grown {w w' : World} {A : Option Addr} {m : List DotV} {k : Nat} (h : TyD w A m) (hg : w.grownBy w' (some k)) (hne : 0 < m.length → ∀ b off, A = some ⟨b, off, none⟩ → b ≠ k) : TyD w' A m := fun h0 b off e => by
  obtain ⟨cs, fr, hh⟩ := h h0 b off e
  exact ⟨cs, fr, (hg.block b (Array.getElem?_eq_some_iff.1 hh).1 (fun e' => hne h0 b off e (by injection e'))).trans hh⟩
theorem TyD.below {w w' : World} {A : Option Addr} {m : List DotV} (h : TyD w A m) (hb : Below w.heap.size w w') : TyD w' A m := fun h0 b off e => by
  obtain ⟨cs, fr, hh⟩ := h h0 b off e
  exact ⟨cs, fr, (hb.block b (Array.getElem?_eq_some_iff.1 hh).1).trans hh⟩
/-- append onto a slice with no room: it is new, or nothing was appended. -/
theorem run_appD0 {w : World} {B : Nat} {A : Option Addr} {m : List DotV} (b0 : Addr) (hr : RdD w B A m) (n c : Nat) (hn : m.length = n) (hm : n ≤ 1000000) (ty : TypeId) :
    ∃ A' c' w', (Builtin.append_ #[23, 23] ty #[.slice (some b0) 0 0, .slice A n c]).run Try.prog w = .ok (.slice A' n c') w' ∧ RdD w' w'.heap.size A' m ∧ n ≤ c' ∧ c' ≤ 9223372036854775807 ∧ Below w.heap.size w w' ∧ (0 < n → A' = some ⟨w.heap.size, 0, none⟩) ∧ TyD w' A' m := by
  subst hn
  obtain ⟨i, hi, hii⟩ := Option.map_eq_some_iff.1 infoD
  simp only [Prod.mk.injEq] at hii
  obtain ⟨hsize, hby, hz⟩ := hii
  rcases Nat.eq_zero_or_pos m.length with h0 | h0
  · have hm0 : m = [] := List.eq_nil_of_length_eq_zero h0
    subst hm0
    refine ⟨some b0, 0, w, ?_, RdD.nil, Nat.le_refl _, Nat.zero_le _, Below.refl _ _, fun h => absurd h (by simp), fun h => absurd h (by simp)⟩
    cases A with
    | none => simp [Builtin.append_, run_underlying Try.underlying23, sizeOf, typeInfo, hi, Builtin.lenOf, Builtin.firstCells, storeCells]
    | some ad => simp [Builtin.append_, run_underlying Try.underlying23, sizeOf, typeInfo, hi, Builtin.lenOf, Builtin.firstCells, storeCells, loadCells, loadCellsFrom]
  · obtain ⟨b, off, rfl, _, _⟩ := id hr h0
    have hl : (rowD m).length = m.length * i.size := by rw [hsize, rowD_len]
    have hr2 := run_append_grow (P := Try.prog) w 23 ty 27 i (.agg #[.int .i64 0, .int .i64 0]) Try.underlying23 hi hz b0 0 0 [] (by simp) (by intro j v hj; simp at hj) ⟨b, off, none⟩ m.length c (rowD m) hl (news_of_rdD hr)
      (by omega) (by omega) (growslice_fits (by omega) (by rw [hby]; omega))
    simp only [Nat.zero_add] at hr2
    have hge := grownCap_ge w m.length 0 27
    have hcm : grownCap w m.length 0 27 ≤ maxLen := grownCap_le_maxLen w m.length 0 27 (by unfold maxLen; omega)
    have hcell : ∀ (j : Nat) (v : Value), (rowD m)[j]? = some v → (w.drew.alloc (.cells (([] : List Value).toArray ++ (rowD m).toArray ++ Builtin.zeroCells (Value.agg #[.int .i64 0, .int .i64 0]).cells (grownCap w m.length 0 27 - m.length)) 27)).cell? ⟨w.heap.size, j, none⟩ = some v := fun j v hv => by
      have hj := (List.getElem?_eq_some_iff.1 hv).1
      refine (World.cell?_alloc_mark w.drew (([] : List Value).toArray ++ (rowD m).toArray ++ Builtin.zeroCells (Value.agg #[.int .i64 0, .int .i64 0]).cells (grownCap w m.length 0 27 - m.length)) 27 (0, 0) j).trans ?_
      rw [Array.getElem?_append_left (by simp [hj])]
      simpa using hv
    refine ⟨_, _, _, hr2, fun _ => ⟨_, 0, rfl, by simp, fun j hj => ?_⟩, hge, by unfold maxLen at hcm; omega, ((Below.refl _ _).drew).alloc (by simp) _, fun _ => rfl, fun _ b off e => by
      injection e with e
      injection e with e1 e2
      subst e1
      exact ⟨_, _, heap_alloc_new w.drew _⟩⟩
    rw [Nat.zero_add]
    exact ⟨hcell _ _ (rowD_at m j hj).1, hcell _ _ (rowD_at m j hj).2⟩
theorem wpList_appD0 {ops : Array Oper} {rest : List Oper} {o : Oper} {a : Act} {Q : Exit → Act → World → Prop} {w : World} {B : Nat} {A : Option Addr} {m : List DotV} (hgd : o.guard = none) (s x : Operand)
    (ho : o.op = .call { callee := .builtin .append, args := #[s, x], argTypes := #[23, 23] })
    (b0 : Addr) (hs : a.eval s = .slice (some b0) 0 0) (n c : Nat) (hx : a.eval x = .slice A n c) (hr : RdD w B A m) (hn : m.length = n) (hm : n ≤ 1000000)
    (hK : ∀ A' c' w', RdD w' w'.heap.size A' m → n ≤ c' → c' ≤ 9223372036854775807 → Below w.heap.size w w' → (0 < n → A' = some ⟨w.heap.size, 0, none⟩) → TyD w' A' m → wpList Try.prog ops Q rest (a.put o.dst (.slice A' n c')) w') : wpList Try.prog ops Q (o :: rest) a w := by
  refine wpList_plain hgd fun _ hk => ?_
  obtain ⟨A', c', w', hrun, h1, h2, h3, h4, h5, h6⟩ := run_appD0 (w := w) b0 hr n c hn hm o.type
  unfold Oper.wp execOp
  simp only [ho, resolve, invoke, builtin, Sem.run_bind, Sem.run_pure, Result.andThen_ok, List.map_toArray, List.map_cons, List.map_nil, hs, hx, hrun]
  exact hk _ _ (hK A' c' w' h1 h2 h3 h4 h5 h6)
end Go.Proofs.Ytjflmfmncepeeaa
