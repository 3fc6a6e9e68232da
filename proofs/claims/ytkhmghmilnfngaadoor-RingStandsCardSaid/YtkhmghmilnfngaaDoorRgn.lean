/-
  Rows of ints, told as numbers: reading them, a row of the call's own with append. (Printed out of the bytes' texts.)
-/
import Derived.Test.YtkhmghmilnfngaaDoorAp
namespace Go.Proofs.YtkhmghmilnfngaaDoor
set_option maxRecDepth 100000
open Go.RowKit
set_option linter.unusedVariables false
set_option linter.unusedSimpArgs false

theorem infoZ : (Tryd.prog.info? 3).map (fun i => (i.zero, i.size, i.bytes)) = some (some (.int .i64 0), 1, 8) := by kernel_rfl
/-- The cells of a row of bytes. -/
def rowZ (l : List Nat) : Array Value := (l.map fun (b : Nat) => Value.int .i64 (b : Int)).toArray

theorem rowZ_size (l : List Nat) : (rowZ l).size = l.length := by simp [rowZ]
theorem rowZ_get (l : List Nat) (i : Nat) : (rowZ l)[i]? = l[i]?.map fun (b : Nat) => Value.int .i64 (b : Int) := by simp [rowZ]
theorem rowZ_at (l : List Nat) (i : Nat) (h : i < l.length) : (rowZ l)[i]? = some (.int .i64 ((l.getD i 0 : Nat) : Int)) := by
  rw [rowZ_get, List.getElem?_eq_getElem h]
  simp [List.getD, h]
theorem rowZ_set (l : List Nat) (i : Nat) (b : Nat) : (rowZ l).setIfInBounds i (.int .i64 (b : Int)) = rowZ (l.set i b) := by
  simp [rowZ, List.map_set]
/-- A slice at A reads as the bytes l; its memory lies below block B. A is of no account where l is empty. -/
def RdZ (w : World) (B : Nat) (A : Option Addr) (l : List Nat) : Prop :=
  0 < l.length → ∃ b off, A = some ⟨b, off, none⟩ ∧ b < B ∧ ∀ j, j < l.length → w.cell? ⟨b, off + j, none⟩ = some (.int .i64 ((l.getD j 0 : Nat) : Int))

section
variable {w w' : World} {B B' : Nat} {A : Option Addr} {l : List Nat}
theorem RdZ.nil : RdZ w B A [] := fun h => absurd h (by simp)
theorem RdZ.at_ {k : Nat} (h : RdZ w B A l) (hk : k < l.length) : ∃ b off, A = some ⟨b, off, none⟩ ∧ b < B ∧ w.cell? ⟨b, off + k, none⟩ = some (.int .i64 ((l.getD k 0 : Nat) : Int)) := by
  obtain ⟨b, off, e, hb, hc⟩ := h (by omega)
  exact ⟨b, off, e, hb, hc k hk⟩
theorem RdZ.keep (h : RdZ w B A l) (hk : ∀ p : Addr, p.block < B → w'.cell? p = w.cell? p) : RdZ w' B A l := fun hn => by
  obtain ⟨b, off, e, hb, hc⟩ := h hn
  exact ⟨b, off, e, hb, fun j hj => (hk _ hb).trans (hc j hj)⟩
theorem RdZ.more (h : RdZ w B A l) (hB : B ≤ B') : RdZ w B' A l := fun hn => by
  obtain ⟨b, off, e, hb, hc⟩ := h hn
  exact ⟨b, off, e, by omega, hc⟩
theorem RdZ.below (h : RdZ w B A l) (hb : Below B w w') : RdZ w' B A l := h.keep fun _ hp => hb.cell hp
theorem RdZ.drew (h : RdZ w B A l) : RdZ w.drew B A l := h
theorem RdZ.drewN (h : RdZ w B A l) (n : Nat) : RdZ (w.drewN n) B A l := h
theorem RdZ.alloc (h : RdZ w B A l) (hB : B ≤ w.heap.size) (o : Obj) : RdZ (w.alloc o) B A l := h.keep fun p hp => World.cell?_alloc_lt w o p (by omega)
theorem RdZ.setCell (h : RdZ w B A l) {p : Addr} (hB : B ≤ p.block) (u : Value) : RdZ (w.setCell p u) B A l :=
  h.keep fun q hq => World.cell?_setCell_other w p q u (fun e => by subst e; omega)
theorem RdZ.take (h : RdZ w B A l) (n : Nat) : RdZ w B A (l.take n) := fun hn => by
  have hl : (l.take n).length ≤ l.length := by simp; omega
  obtain ⟨b, off, e, hb, hc⟩ := h (by omega)
  refine ⟨b, off, e, hb, fun j hj => ?_⟩
  rw [hc j (by omega)]
  have : j < n := by simp at hj; omega
  simp [List.getD, this]
theorem RdZ.drop {b off : Nat} (h : RdZ w B (some ⟨b, off, none⟩) l) (n : Nat) : RdZ w B (some ⟨b, off + n, none⟩) (l.drop n) := fun hn => by
  simp at hn
  obtain ⟨b', off', e, hb, hc⟩ := h (by omega)
  injection e with e
  injection e with e1 e2
  subst e1 e2
  refine ⟨b, off + n, rfl, hb, fun j hj => ?_⟩
  simp at hj
  rw [Nat.add_assoc, hc (n + j) (by omega)]
  simp [List.getD]
end

/-- v is a slice of the call's own (its block from base on, or none), and reads as l. -/
def OwnZ (w : World) (base : Nat) (v : Value) (l : List Nat) : Prop := w.ownsRow base 3 1 v l.length (rowZ l).toList

section
variable {w w' : World} {base : Nat} {v : Value} {l : List Nat}
theorem OwnZ.form (h : OwnZ w base v l) : ∃ A c, v = .slice A l.length c ∧ RdZ w w.heap.size A l ∧ (∀ g, v.ownBlock = some g → base ≤ g ∧ g < w.heap.size) := by
  have hlt := World.ownsRow.lt h
  rcases h.2 with ⟨hv, h0⟩ | ⟨g, cap, cur, hv, hb, hg, hn, hm, hs, ht⟩
  · have hl : l = [] := List.eq_nil_of_length_eq_zero h0
    subst hl
    exact ⟨none, 0, hv, RdZ.nil, hlt⟩
  · subst hv
    refine ⟨_, cap, rfl, fun _ => ⟨g, 0, rfl, (hlt g rfl).2, fun j hj => ?_⟩, hlt⟩
    have hc := World.ownsRow.cellAt h j (by omega)
    rw [Nat.zero_add, hc]
    have := rowZ_at l j hj
    simpa using this
theorem OwnZ.rd {A : Option Addr} {n c : Nat} (h : OwnZ w base (.slice A n c) l) : RdZ w w.heap.size A l ∧ n = l.length := by
  obtain ⟨A', c', e, hr, _⟩ := h.form
  injection e with e1 e2 e3
  subst e1
  exact ⟨hr, e2⟩
theorem OwnZ.nil_ (w : World) (base : Nat) : OwnZ w base (.slice none 0 0) [] := World.ownsRow_nil w base 3 1
/-- '[]byte{}', '[]byte{x}': just laid. -/
theorem OwnZ.lit (w : World) (base : Nat) (l : List Nat) (hb : base ≤ w.heap.size) (hm : l.length ≤ maxLen) : OwnZ (w.alloc (.cells (rowZ l) 3)) base (.slice (some ⟨w.heap.size, 0, none⟩) l.length l.length) l := by
  have h := World.ownsRow_lit (e := 3) (size := 1) w (rowZ l) l.length hb hm (by rw [rowZ_size, Nat.mul_one])
  exact h
theorem OwnZ.kept {row : Option Nat} (h : OwnZ w base v l) (hg : w.grownBy w' row) (hne : v.ownBlock = none ∨ v.ownBlock ≠ row) : OwnZ w' base v l := World.ownsRow.kept h hg hne
theorem OwnZ.below {B : Nat} (h : OwnZ w base v l) (hb : Below B w w') (hB : w.heap.size ≤ B) : OwnZ w' base v l := by
  refine World.ownsRow.kept (row := none) h ⟨hb.os, hb.tape, hb.output, hb.size, fun k hk _ => hb.block k (by omega)⟩ ?_
  cases h1 : v.ownBlock with
  | none => exact .inl rfl
  | some g => exact .inr (by simp)
theorem OwnZ.drew (h : OwnZ w base v l) : OwnZ w.drew base v l := h
theorem OwnZ.drewN (h : OwnZ w base v l) (n : Nat) : OwnZ (w.drewN n) base v l := h
theorem OwnZ.alloc (h : OwnZ w base v l) (o : Obj) : OwnZ (w.alloc o) base v l := World.ownsRow.alloc h o

theorem news_of_rdZ {B : Nat} {ad : Addr} {m : List Nat} (hr : RdZ w B (some ad) m) : ∀ j u, (rowZ m).toList[j]? = some u → w.cell? (ad.add j) = some u := by
  intro j u hu
  have hj : j < m.length := by
    have := (List.getElem?_eq_some_iff.1 hu).1
    simpa [rowZ] using this
  obtain ⟨b, off, e, _, hc⟩ := hr (by omega)
  injection e with e
  subst e
  have hp : (⟨b, off, none⟩ : Addr).add j = ⟨b, off + j, none⟩ := by unfold Addr.add; split <;> simp_all
  rw [hp, hc j hj]
  have h2 := rowZ_at m j hj
  have h3 : (rowZ m).toList[j]? = (rowZ m)[j]? := by simp
  rw [← hu, h3, h2]
theorem one_of_rowZ (m : List Nat) : ∀ u ∈ (rowZ m).toList, u.oneCell' = true := by
  intro u hu
  simp [rowZ] at hu
  obtain ⟨b, _, rfl⟩ := hu
  rfl

/-- append onto an own slice. -/
theorem run_appZ (h : OwnZ w base v l) {B : Nat} {A : Option Addr} {m : List Nat} (hr : RdZ w B A m) (n c : Nat) (hn : m.length = n) (ty : TypeId)
    (hsz : l.length + n ≤ 1000000) (hbase : base ≤ w.heap.size) :
    ∃ v' w', (Builtin.append_ #[24, 24] ty #[v, .slice A n c]).run Tryd.prog w = .ok v' w' ∧ OwnZ w' base v' (l ++ m) ∧ w.grownBy w' v.ownBlock ∧ (v'.ownBlock = v.ownBlock ∨ v'.ownBlock = some w.heap.size) := by
  subst hn
  obtain ⟨i, hi, hz, hsize, hby⟩ := info_parts infoZ
  rcases A with _ | ad
  · have hm : m = [] := by
      rcases Nat.eq_zero_or_pos m.length with h0 | h0
      · exact List.eq_nil_of_length_eq_zero h0
      · obtain ⟨_, _, e, _⟩ := hr h0
        cases e
    subst hm
    have hrun : (Builtin.append_ #[24, 24] ty #[v, .slice none 0 c]).run Tryd.prog w = .ok v w := by
      rcases h.2 with ⟨hv, h0⟩ | ⟨g, cap, cur, hv, _, _, hnc, _⟩
      · subst hv
        simp [Builtin.append_, run_underlying Tryd.underlying24, sizeOf, typeInfo, hi, Builtin.lenOf, Builtin.firstCells]
      · subst hv
        simp [Builtin.append_, run_underlying Tryd.underlying24, sizeOf, typeInfo, hi, Builtin.lenOf, Builtin.firstCells, hnc, storeCells]
    exact ⟨v, w, hrun, by rw [List.append_nil]; exact h, World.grownBy.refl w _, .inl rfl⟩
  · obtain ⟨v', w', hrun, h2, h3, _, h5⟩ := run_append_own_at (P := Tryd.prog) w base 24 ty 3 i (.int .i64 0) 1 8 Tryd.underlying24 hi hz hsize hby rfl (by decide) v l.length (rowZ l).toList h ad m.length c (rowZ m).toList
      (by simp [rowZ]) (news_of_rdZ hr) (one_of_rowZ m) (by simp only [maxLen]; omega) (by omega) hbase
    refine ⟨v', w', hrun, ?_, h3, h5⟩
    have e : (rowZ l).toList ++ (rowZ m).toList = (rowZ (l ++ m)).toList := by simp [rowZ]
    rw [e] at h2
    unfold OwnZ
    rw [List.length_append]
    exact h2

/-- At the operation. -/
theorem wp_appZ {o : Oper} {a : Act} {K : Act → World → Prop} {Q : Exit → Act → World → Prop} (s x : Operand)
    (ho : o.op = .call { callee := .builtin .append, args := #[s, x], argTypes := #[24, 24] })
    (h : OwnZ w base v l) (hs : a.eval s = v) {B : Nat} {A : Option Addr} {m : List Nat} (n c : Nat) (hx : a.eval x = .slice A n c) (hr : RdZ w B A m) (hn : m.length = n)
    (hsz : l.length + n ≤ 1000000) (hbase : base ≤ w.heap.size)
    (hK : ∀ A' c' w', OwnZ w' base (.slice A' (l.length + n) c') (l ++ m) → w.grownBy w' v.ownBlock → ((Value.slice A' (l.length + n) c').ownBlock = v.ownBlock ∨ (Value.slice A' (l.length + n) c').ownBlock = some w.heap.size) → K (a.put o.dst (.slice A' (l.length + n) c')) w') : o.wp Tryd.prog a w K Q := by
  obtain ⟨v', w', hrun, h2, h3, h4⟩ := run_appZ h hr n c hn o.type hsz hbase
  obtain ⟨A', c', hv, _⟩ := h2.form
  rw [List.length_append, hn] at hv
  subst hv
  unfold Oper.wp execOp
  simp only [ho, resolve, invoke, builtin, Sem.run_bind, Sem.run_pure, Result.andThen_ok, List.map_toArray, List.map_cons, List.map_nil, hs, hx, hrun]
  exact hK A' c' w' h2 h3 h4
theorem wpList_appZ {ops : Array Oper} {rest : List Oper} {o : Oper} {a : Act} {Q : Exit → Act → World → Prop} (hgd : o.guard = none) (s x : Operand)
    (ho : o.op = .call { callee := .builtin .append, args := #[s, x], argTypes := #[24, 24] })
    (h : OwnZ w base v l) (hs : a.eval s = v) {B : Nat} {A : Option Addr} {m : List Nat} (n c : Nat) (hx : a.eval x = .slice A n c) (hr : RdZ w B A m) (hn : m.length = n)
    (hsz : l.length + n ≤ 1000000) (hbase : base ≤ w.heap.size)
    (hK : ∀ A' c' w', OwnZ w' base (.slice A' (l.length + n) c') (l ++ m) → w.grownBy w' v.ownBlock → ((Value.slice A' (l.length + n) c').ownBlock = v.ownBlock ∨ (Value.slice A' (l.length + n) c').ownBlock = some w.heap.size) → wpList Tryd.prog ops Q rest (a.put o.dst (.slice A' (l.length + n) c')) w') : wpList Tryd.prog ops Q (o :: rest) a w :=
  wpList_plain hgd fun _ hk => wp_appZ s x ho h hs n c hx hr hn hsz hbase fun A' c' w' h2 h3 h4 => hk _ _ (hK A' c' w' h2 h3 h4)
theorem step_appZ {ops : Array Oper} {o : Oper} {a : Act} {K : Act → World → Prop} {Q : Exit → Act → World → Prop} {E : Prop} (hgd : o.guard = none) (s x : Operand)
    (ho : o.op = .call { callee := .builtin .append, args := #[s, x], argTypes := #[24, 24] })
    (h : OwnZ w base v l) (hs : a.eval s = v) {B : Nat} {A : Option Addr} {m : List Nat} (n c : Nat) (hx : a.eval x = .slice A n c) (hr : RdZ w B A m) (hn : m.length = n)
    (hsz : l.length + n ≤ 1000000) (hbase : base ≤ w.heap.size)
    (hK : ∀ A' c' w', OwnZ w' base (.slice A' (l.length + n) c') (l ++ m) → w.grownBy w' v.ownBlock → ((Value.slice A' (l.length + n) c').ownBlock = v.ownBlock ∨ (Value.slice A' (l.length + n) c').ownBlock = some w.heap.size) → K (a.put o.dst (.slice A' (l.length + n) c')) w') :
    if Region.wanted o (yielded ops a.tmps) = true then Oper.wp Tryd.prog o a w K Q else E := by
  have hw : Region.wanted o (yielded ops a.tmps) = true := by simp [Region.wanted, hgd]
  rw [if_pos hw]
  exact wp_appZ s x ho h hs n c hx hr hn hsz hbase hK
end
end Go.Proofs.YtkhmghmilnfngaaDoor
