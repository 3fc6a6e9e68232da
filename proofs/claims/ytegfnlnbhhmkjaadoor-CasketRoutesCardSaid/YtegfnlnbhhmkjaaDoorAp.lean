/-
  A slice of bytes of the call's own, and what append makes of it, whatever it is given: nothing, an own row, a part of an argument.
-/
import Derived.Test.YtegfnlnbhhmkjaaDoorBB
import Derived.Maps.AppendAt
import Derived.Deep.AppendLies
import Derived.RegionTactic
import Derived.OwnWalk
namespace Go.Proofs.YtegfnlnbhhmkjaaDoor
set_option maxRecDepth 100000
open Go.RowKit

/-- v is a slice of the call's own (its block from base on, or none), and reads as l. -/
def Own8 (w : World) (base : Nat) (v : Value) (l : List UInt8) : Prop := w.ownsRow base 5 1 v l.length (rowOf l).toList

section
variable {w w' : World} {base : Nat} {v : Value} {l : List UInt8}
theorem Own8.form (h : Own8 w base v l) : ∃ A c, v = .slice A l.length c ∧ Rd w w.heap.size A l ∧ (∀ g, v.ownBlock = some g → base ≤ g ∧ g < w.heap.size) := by
  have hlt := World.ownsRow.lt h
  rcases h.2 with ⟨hv, h0⟩ | ⟨g, cap, cur, hv, hb, hg, hn, hm, hs, ht⟩
  · have hl : l = [] := List.eq_nil_of_length_eq_zero h0
    subst hl
    exact ⟨none, 0, hv, Rd.nil, hlt⟩
  · subst hv
    refine ⟨_, cap, rfl, fun _ => ⟨g, 0, rfl, (hlt g rfl).2, fun j hj => ?_⟩, hlt⟩
    have hc := World.ownsRow.cellAt h j (by omega)
    rw [Nat.zero_add, hc]
    have := rowOf_at l j hj
    simpa using this
theorem Own8.rd {A : Option Addr} {n c : Nat} (h : Own8 w base (.slice A n c) l) : Rd w w.heap.size A l ∧ n = l.length := by
  obtain ⟨A', c', e, hr, _⟩ := h.form
  injection e with e1 e2 e3
  subst e1
  exact ⟨hr, e2⟩
theorem Own8.nil_ (w : World) (base : Nat) : Own8 w base (.slice none 0 0) [] := World.ownsRow_nil w base 5 1
/-- '[]byte{}', '[]byte{x}': just laid. -/
theorem Own8.lit (w : World) (base : Nat) (l : List UInt8) (hb : base ≤ w.heap.size) (hm : l.length ≤ maxLen) : Own8 (w.alloc (.cells (rowOf l) 5)) base (.slice (some ⟨w.heap.size, 0, none⟩) l.length l.length) l := by
  have h := World.ownsRow_lit (e := 5) (size := 1) w (rowOf l) l.length hb hm (by rw [rowOf_size, Nat.mul_one])
  exact h
theorem Own8.kept {row : Option Nat} (h : Own8 w base v l) (hg : w.grownBy w' row) (hne : v.ownBlock = none ∨ v.ownBlock ≠ row) : Own8 w' base v l := World.ownsRow.kept h hg hne
theorem Own8.below {B : Nat} (h : Own8 w base v l) (hb : Below B w w') (hB : w.heap.size ≤ B) : Own8 w' base v l := by
  refine World.ownsRow.kept (row := none) h ⟨hb.os, hb.tape, hb.output, hb.size, fun k hk _ => hb.block k (by omega)⟩ ?_
  cases h1 : v.ownBlock with
  | none => exact .inl rfl
  | some g => exact .inr (by simp)
theorem Own8.drew (h : Own8 w base v l) : Own8 w.drew base v l := h
theorem Own8.drewN (h : Own8 w base v l) (n : Nat) : Own8 (w.drewN n) base v l := h
theorem Own8.alloc (h : Own8 w base v l) (o : Obj) : Own8 (w.alloc o) base v l := World.ownsRow.alloc h o

theorem news_of_rd {B : Nat} {ad : Addr} {m : List UInt8} (hr : Rd w B (some ad) m) : ∀ j u, (rowOf m).toList[j]? = some u → w.cell? (ad.add j) = some u := by
  intro j u hu
  have hj : j < m.length := by
    have := (List.getElem?_eq_some_iff.1 hu).1
    simpa [rowOf] using this
  obtain ⟨b, off, e, _, hc⟩ := hr (by omega)
  injection e with e
  subst e
  have hp : (⟨b, off, none⟩ : Addr).add j = ⟨b, off + j, none⟩ := by unfold Addr.add; split <;> simp_all
  rw [hp, hc j hj]
  have h2 := rowOf_at m j hj
  have h3 : (rowOf m).toList[j]? = (rowOf m)[j]? := by simp
  rw [← hu, h3, h2]
theorem one_of_row (m : List UInt8) : ∀ u ∈ (rowOf m).toList, u.oneCell' = true := by
  intro u hu
  simp [rowOf] at hu
  obtain ⟨b, _, rfl⟩ := hu
  rfl

/-- append onto an own slice. -/
theorem run_app (h : Own8 w base v l) {B : Nat} {A : Option Addr} {m : List UInt8} (hr : Rd w B A m) (n c : Nat) (hn : m.length = n) (ty : TypeId)
    (hsz : l.length + n ≤ 140737488355328) (hbase : base ≤ w.heap.size) :
    ∃ v' w', (Builtin.append_ #[39, 39] ty #[v, .slice A n c]).run Tryd.prog w = .ok v' w' ∧ Own8 w' base v' (l ++ m) ∧ w.grownBy w' v.ownBlock ∧ (v'.ownBlock = v.ownBlock ∨ v'.ownBlock = some w.heap.size) := by
  subst hn
  obtain ⟨i, hi, hz, hsize, hby⟩ := info_parts info8
  rcases A with _ | ad
  · have hm : m = [] := by
      rcases Nat.eq_zero_or_pos m.length with h0 | h0
      · exact List.eq_nil_of_length_eq_zero h0
      · obtain ⟨_, _, e, _⟩ := hr h0
        cases e
    subst hm
    have hrun : (Builtin.append_ #[39, 39] ty #[v, .slice none 0 c]).run Tryd.prog w = .ok v w := by
      rcases h.2 with ⟨hv, h0⟩ | ⟨g, cap, cur, hv, _, _, hnc, _⟩
      · subst hv
        simp [Builtin.append_, run_underlying Tryd.underlying39, sizeOf, typeInfo, hi, Builtin.lenOf, Builtin.firstCells]
      · subst hv
        simp [Builtin.append_, run_underlying Tryd.underlying39, sizeOf, typeInfo, hi, Builtin.lenOf, Builtin.firstCells, hnc, storeCells]
    exact ⟨v, w, hrun, by rw [List.append_nil]; exact h, World.grownBy.refl w _, .inl rfl⟩
  · obtain ⟨v', w', hrun, h2, h3, _, h5⟩ := run_append_own_at (P := Tryd.prog) w base 39 ty 5 i (.int .u8 0) 1 1 Tryd.underlying39 hi hz hsize hby rfl (by decide) v l.length (rowOf l).toList h ad m.length c (rowOf m).toList
      (by simp [rowOf]) (news_of_rd hr) (one_of_row m) (by simp only [maxLen]; omega) (by omega) hbase
    refine ⟨v', w', hrun, ?_, h3, h5⟩
    have e : (rowOf l).toList ++ (rowOf m).toList = (rowOf (l ++ m)).toList := by simp [rowOf]
    rw [e] at h2
    unfold Own8
    rw [List.length_append]
    exact h2

/-- At the operation. -/
theorem wp_app {o : Oper} {a : Act} {K : Act → World → Prop} {Q : Exit → Act → World → Prop} (s x : Operand)
    (ho : o.op = .call { callee := .builtin .append, args := #[s, x], argTypes := #[39, 39] })
    (h : Own8 w base v l) (hs : a.eval s = v) {B : Nat} {A : Option Addr} {m : List UInt8} (n c : Nat) (hx : a.eval x = .slice A n c) (hr : Rd w B A m) (hn : m.length = n)
    (hsz : l.length + n ≤ 140737488355328) (hbase : base ≤ w.heap.size)
    (hK : ∀ A' c' w', Own8 w' base (.slice A' (l.length + n) c') (l ++ m) → w.grownBy w' v.ownBlock → ((Value.slice A' (l.length + n) c').ownBlock = v.ownBlock ∨ (Value.slice A' (l.length + n) c').ownBlock = some w.heap.size) → K (a.put o.dst (.slice A' (l.length + n) c')) w') : o.wp Tryd.prog a w K Q := by
  obtain ⟨v', w', hrun, h2, h3, h4⟩ := run_app h hr n c hn o.type hsz hbase
  obtain ⟨A', c', hv, _⟩ := h2.form
  rw [List.length_append, hn] at hv
  subst hv
  unfold Oper.wp execOp
  simp only [ho, resolve, invoke, builtin, Sem.run_bind, Sem.run_pure, Result.andThen_ok, List.map_toArray, List.map_cons, List.map_nil, hs, hx, hrun]
  exact hK A' c' w' h2 h3 h4
theorem wpList_app {ops : Array Oper} {rest : List Oper} {o : Oper} {a : Act} {Q : Exit → Act → World → Prop} (hgd : o.guard = none) (s x : Operand)
    (ho : o.op = .call { callee := .builtin .append, args := #[s, x], argTypes := #[39, 39] })
    (h : Own8 w base v l) (hs : a.eval s = v) {B : Nat} {A : Option Addr} {m : List UInt8} (n c : Nat) (hx : a.eval x = .slice A n c) (hr : Rd w B A m) (hn : m.length = n)
    (hsz : l.length + n ≤ 140737488355328) (hbase : base ≤ w.heap.size)
    (hK : ∀ A' c' w', Own8 w' base (.slice A' (l.length + n) c') (l ++ m) → w.grownBy w' v.ownBlock → ((Value.slice A' (l.length + n) c').ownBlock = v.ownBlock ∨ (Value.slice A' (l.length + n) c').ownBlock = some w.heap.size) → wpList Tryd.prog ops Q rest (a.put o.dst (.slice A' (l.length + n) c')) w') : wpList Tryd.prog ops Q (o :: rest) a w :=
  wpList_plain hgd fun _ hk => wp_app s x ho h hs n c hx hr hn hsz hbase fun A' c' w' h2 h3 h4 => hk _ _ (hK A' c' w' h2 h3 h4)
theorem step_app {ops : Array Oper} {o : Oper} {a : Act} {K : Act → World → Prop} {Q : Exit → Act → World → Prop} {E : Prop} (hgd : o.guard = none) (s x : Operand)
    (ho : o.op = .call { callee := .builtin .append, args := #[s, x], argTypes := #[39, 39] })
    (h : Own8 w base v l) (hs : a.eval s = v) {B : Nat} {A : Option Addr} {m : List UInt8} (n c : Nat) (hx : a.eval x = .slice A n c) (hr : Rd w B A m) (hn : m.length = n)
    (hsz : l.length + n ≤ 140737488355328) (hbase : base ≤ w.heap.size)
    (hK : ∀ A' c' w', Own8 w' base (.slice A' (l.length + n) c') (l ++ m) → w.grownBy w' v.ownBlock → ((Value.slice A' (l.length + n) c').ownBlock = v.ownBlock ∨ (Value.slice A' (l.length + n) c').ownBlock = some w.heap.size) → K (a.put o.dst (.slice A' (l.length + n) c')) w') :
    if Region.wanted o (yielded ops a.tmps) = true then Oper.wp Tryd.prog o a w K Q else E := by
  have hw : Region.wanted o (yielded ops a.tmps) = true := by simp [Region.wanted, hgd]
  rw [if_pos hw]
  exact wp_app s x ho h hs n c hx hr hn hsz hbase hK
end
end Go.Proofs.YtegfnlnbhhmkjaaDoor
