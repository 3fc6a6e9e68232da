/-
  Rows of a ring's points: reading them, a row of the call's own with append. (Printed out of the dots' texts.)
-/
import Derived.Test.YtkhmghmilnfngaaDoorRga
import Derived.Test.YtkhmghmilnfngaaDoorRgn
import Derived.Test.YtkhmghmilnfngaaDoorPT
import Derived.Lib.AppendZerosOnto
import Derived.Lib.SliceRun
import Derived.WalkSpells
import Derived.WalkLawsBesides
import Derived.BigCall
import Derived.OwnWalk
namespace Go.Proofs.YtkhmghmilnfngaaDoor
set_option maxRecDepth 100000
open Go.ChangeShapes Go.WideShapes Go.ChangeAt Go.RowKit
set_option linter.unusedVariables false
set_option linter.unusedSimpArgs false

/-- A slice of dots that reads as ms, below B. -/
def RdD (w : World) (B : Nat) (A : Option Addr) (ms : List PtV) : Prop :=
  0 < ms.length → ∃ b off, A = some ⟨b, off, none⟩ ∧ b < B ∧ ∀ j, j < ms.length → w.cell? ⟨b, off + j * 2, none⟩ = some (.int .u64 ((ms.getD j ⟨0, 0⟩).p : Int)) ∧ w.cell? ⟨b, off + j * 2 + 1, none⟩ = some (.int .i64 ((ms.getD j ⟨0, 0⟩).r : Int))
theorem RdD.below {w w' : World} {B : Nat} {A : Option Addr} {ms : List PtV} (h : RdD w B A ms) (hb : Below B w w') : RdD w' B A ms := fun hn => by
  obtain ⟨b, off, e, hlt, hc⟩ := h hn
  exact ⟨b, off, e, hlt, fun j hj => ⟨(hb.cell (p := ⟨b, _, none⟩) hlt).trans (hc j hj).1, (hb.cell (p := ⟨b, _, none⟩) hlt).trans (hc j hj).2⟩⟩
theorem RdD.more {w : World} {B C : Nat} {A : Option Addr} {ms : List PtV} (h : RdD w B A ms) (hB : B ≤ C) : RdD w C A ms := fun hn => by
  obtain ⟨b, off, e, hlt, hc⟩ := h hn
  exact ⟨b, off, e, by omega, hc⟩
def rowD (l : List PtV) : List Value := l.flatMap fun d => [.int .u64 (d.p : Int), .int .i64 (d.r : Int)]
theorem rowD_len (l : List PtV) : (rowD l).length = l.length * 2 := by
  induction l with
  | nil => rfl
  | cons p l ih =>
    have e : rowD (p :: l) = [.int .u64 (p.p : Int), .int .i64 (p.r : Int)] ++ rowD l := rfl
    rw [e, List.length_append, ih, List.length_cons, List.length_cons, List.length_cons, List.length_nil]
    omega
theorem rowD_at : ∀ (l : List PtV) (k : Nat) (h : k < l.length), (rowD l)[k * 2]? = some (.int .u64 ((l.getD k ⟨0, 0⟩).p : Int)) ∧ (rowD l)[k * 2 + 1]? = some (.int .i64 ((l.getD k ⟨0, 0⟩).r : Int))
  | [], _, h => absurd h (by simp)
  | p :: l, 0, _ => ⟨rfl, rfl⟩
  | p :: l, k + 1, h => by
    have ih := rowD_at l k (by simpa using h)
    have e : rowD (p :: l) = [.int .u64 (p.p : Int), .int .i64 (p.r : Int)] ++ rowD l := rfl
    have g : ∀ j, ([Value.int .u64 (p.p : Int), .int .i64 (p.r : Int)] ++ rowD l)[(k + 1) * 2 + j]? = (rowD l)[k * 2 + j]? := fun j => by
      rw [List.getElem?_append_right (by simp only [List.length_cons, List.length_nil]; omega)]
      congr 1
      simp only [List.length_cons, List.length_nil]
      omega
    rw [e]
    have g0 := g 0
    rw [Nat.add_zero, Nat.add_zero] at g0
    rw [g0, g 1]
    simpa using ih
theorem rowD_one (l : List PtV) : ∀ u ∈ rowD l, u.oneCell' = true := fun u hu => by
  unfold rowD at hu
  rw [List.mem_flatMap] at hu
  obtain ⟨d, _, h⟩ := hu
  simp at h
  rcases h with rfl | rfl <;> rfl
theorem news_of_rdD {w : World} {B b off : Nat} {m : List PtV} (hr : RdD w B (some ⟨b, off, none⟩) m) : ∀ j u, (rowD m)[j]? = some u → w.cell? ((⟨b, off, none⟩ : Addr).add j) = some u := by
  intro j u hu
  have hl := rowD_len m
  have hj : j < m.length * 2 := by
    have := (List.getElem?_eq_some_iff.1 hu).1
    omega
  obtain ⟨b', off', e, _, hc⟩ := hr (by omega)
  injection e with e
  injection e with e1 e2 e3
  subst e1 e2
  have hadd : (⟨b, off, none⟩ : Addr).add j = ⟨b, off + j, none⟩ := by unfold Addr.add; split <;> simp_all
  rw [hadd]
  have hk : j / 2 < m.length := by omega
  obtain ⟨h1, h2⟩ := hc (j / 2) hk
  obtain ⟨r1, r2⟩ := rowD_at m (j / 2) hk
  rcases (by omega : j = j / 2 * 2 ∨ j = j / 2 * 2 + 1) with e | e
  · rw [e] at hu
    rw [r1] at hu
    rw [e, ← hu]
    exact h1
  · rw [e] at hu
    rw [r2] at hu
    rw [e, ← hu]
    exact h2
theorem RdD.take {w : World} {B : Nat} {A : Option Addr} {ms : List PtV} (h : RdD w B A ms) (k : Nat) : RdD w B A (ms.take k) := fun hn => by
  rw [List.length_take] at hn
  obtain ⟨b, off, e, hlt, hc⟩ := h (by omega)
  refine ⟨b, off, e, hlt, fun j hj => ?_⟩
  rw [List.length_take] at hj
  have e2 : (ms.take k).getD j ⟨0, 0⟩ = ms.getD j ⟨0, 0⟩ := by
    simp only [List.getD_eq_getElem?_getD, List.getElem?_take]
    rw [if_pos (by omega)]
  rw [e2]
  exact hc j (by omega)
theorem RdD.nil {w : World} {B : Nat} {A : Option Addr} : RdD w B A [] := fun h => absurd h (by simp)
theorem infoD : (Tryd.prog.info? 55).map (fun i => (i.size, i.bytes, i.zero)) = some (2, 16, some (.agg #[.int .u64 0, .int .i64 0])) := by kernel_rfl
def OwnD (w : World) (base : Nat) (v : Value) (l : List PtV) : Prop := w.ownsRow base 55 2 v l.length (rowD l)
section
variable {w w' : World} {base : Nat} {v : Value} {l : List PtV}
theorem OwnD.form (h : OwnD w base v l) : ∃ A c, v = .slice A l.length c ∧ RdD w w.heap.size A l ∧ (∀ g, v.ownBlock = some g → base ≤ g ∧ g < w.heap.size) := by
  have hlt := World.ownsRow.lt h
  have hr := rowD_len l
  rcases h.2 with ⟨hv, h0⟩ | ⟨g, cap, cur, hv, hb, hg, hn, hm, hs, ht⟩
  · have hl : l = [] := List.eq_nil_of_length_eq_zero h0
    subst hl
    exact ⟨none, 0, hv, RdD.nil, hlt⟩
  · subst hv
    refine ⟨_, cap, rfl, fun _ => ⟨g, 0, rfl, (hlt g rfl).2, fun j hj => ?_⟩, hlt⟩
    have hc := World.ownsRow.cellAt h (j * 2) (by omega)
    have hd := World.ownsRow.cellAt h (j * 2 + 1) (by omega)
    rw [Nat.zero_add, hc, hd]
    exact rowD_at l j hj
theorem OwnD.rd {A : Option Addr} {n c : Nat} (h : OwnD w base (.slice A n c) l) : RdD w w.heap.size A l ∧ n = l.length := by
  obtain ⟨A', c', e, hr, _⟩ := h.form
  injection e with e1 e2 e3
  subst e1
  exact ⟨hr, e2⟩
theorem OwnD.cap {A : Option Addr} {n c : Nat} (h : OwnD w base (.slice A n c) l) : n ≤ c ∧ c ≤ 9223372036854775807 := by
  rcases h.2 with ⟨h0, _⟩ | ⟨g, cap, cur, hv, _, _, h1, h2, _⟩
  · injection h0 with e1 e2 e3
    omega
  · injection hv with e1 e2 e3
    unfold maxLen at h2
    omega
theorem OwnD.nil_ (w : World) (base : Nat) : OwnD w base (.slice none 0 0) [] := World.ownsRow_nil w base 55 2
theorem OwnD.lt (h : OwnD w base v l) : ∀ g, v.ownBlock = some g → base ≤ g ∧ g < w.heap.size := World.ownsRow.lt h
theorem OwnD.kept {row : Option Nat} (h : OwnD w base v l) (hg : w.grownBy w' row) (hne : v.ownBlock = none ∨ v.ownBlock ≠ row) : OwnD w' base v l := World.ownsRow.kept h hg hne
theorem OwnD.below {B : Nat} (h : OwnD w base v l) (hb : Below B w w') (hB : w.heap.size ≤ B) : OwnD w' base v l := by
  refine World.ownsRow.kept (row := none) h ⟨hb.os, hb.tape, hb.output, hb.size, fun k hk _ => hb.block k (by omega)⟩ ?_
  cases h1 : v.ownBlock with
  | none => exact .inl rfl
  | some g => exact .inr (by simp)
theorem OwnD.alloc (h : OwnD w base v l) (o : Obj) : OwnD (w.alloc o) base v l := World.ownsRow.alloc h o
theorem news_of_rdDa {B : Nat} {ad : Addr} {m : List PtV} (hr : RdD w B (some ad) m) : ∀ j u, (rowD m)[j]? = some u → w.cell? (ad.add j) = some u := by
  intro j u hu
  have hl := rowD_len m
  have hj := (List.getElem?_eq_some_iff.1 hu).1
  obtain ⟨b, off, e, _⟩ := id hr (by omega)
  injection e with e
  subst e
  exact news_of_rdD hr j u hu
/-- append onto an own slice. -/
theorem run_appDD (h : OwnD w base v l) {B : Nat} {A : Option Addr} {m : List PtV} (hr : RdD w B A m) (n c : Nat) (hn : m.length = n) (ty : TypeId)
    (hsz : l.length + n ≤ 1000000) (hbase : base ≤ w.heap.size) :
    ∃ v' w', (Builtin.append_ #[49, 49] ty #[v, .slice A n c]).run Tryd.prog w = .ok v' w' ∧ OwnD w' base v' (l ++ m) ∧ w.grownBy w' v.ownBlock ∧ (v'.ownBlock = v.ownBlock ∨ v'.ownBlock = some w.heap.size) := by
  subst hn
  obtain ⟨i, hi, hii⟩ := Option.map_eq_some_iff.1 infoD
  simp only [Prod.mk.injEq] at hii
  obtain ⟨hsize, hby, hz⟩ := hii
  rcases A with _ | ad
  · have hm : m = [] := by
      rcases Nat.eq_zero_or_pos m.length with h0 | h0
      · exact List.eq_nil_of_length_eq_zero h0
      · obtain ⟨_, _, e, _⟩ := hr h0
        cases e
    subst hm
    have hrun : (Builtin.append_ #[49, 49] ty #[v, .slice none 0 c]).run Tryd.prog w = .ok v w := by
      rcases h.2 with ⟨hv, h0⟩ | ⟨g, cap, cur, hv, _, _, hnc, _⟩
      · subst hv
        simp [Builtin.append_, run_underlying Tryd.underlying49, sizeOf, typeInfo, hi, Builtin.lenOf, Builtin.firstCells]
      · subst hv
        simp [Builtin.append_, run_underlying Tryd.underlying49, sizeOf, typeInfo, hi, Builtin.lenOf, Builtin.firstCells, hnc, storeCells]
    exact ⟨v, w, hrun, by rw [List.append_nil]; exact h, World.grownBy.refl w _, .inl rfl⟩
  · obtain ⟨v', w', hrun, h2, h3, _, h5⟩ := run_append_own_at (P := Tryd.prog) w base 49 ty 55 i (.agg #[.int .u64 0, .int .i64 0]) 2 16 Tryd.underlying49 hi hz hsize hby rfl (by decide) v l.length (rowD l) h ad m.length c (rowD m)
      (rowD_len m) (news_of_rdDa hr) (rowD_one m) (by simp only [maxLen]; omega) (by omega) hbase
    refine ⟨v', w', hrun, ?_, h3, h5⟩
    have e : rowD l ++ rowD m = rowD (l ++ m) := by simp [rowD]
    rw [e] at h2
    unfold OwnD
    rw [List.length_append]
    exact h2
/-- At the operation. -/
theorem wp_appDD {o : Oper} {a : Act} {K : Act → World → Prop} {Q : Exit → Act → World → Prop} (s x : Operand)
    (ho : o.op = .call { callee := .builtin .append, args := #[s, x], argTypes := #[49, 49] })
    (h : OwnD w base v l) (hs : a.eval s = v) {B : Nat} {A : Option Addr} {m : List PtV} (n c : Nat) (hx : a.eval x = .slice A n c) (hr : RdD w B A m) (hn : m.length = n)
    (hsz : l.length + n ≤ 1000000) (hbase : base ≤ w.heap.size)
    (hK : ∀ A' c' w', OwnD w' base (.slice A' (l.length + n) c') (l ++ m) → w.grownBy w' v.ownBlock → ((Value.slice A' (l.length + n) c').ownBlock = v.ownBlock ∨ (Value.slice A' (l.length + n) c').ownBlock = some w.heap.size) → K (a.put o.dst (.slice A' (l.length + n) c')) w') : o.wp Tryd.prog a w K Q := by
  obtain ⟨v', w', hrun, h2, h3, h4⟩ := run_appDD h hr n c hn o.type hsz hbase
  obtain ⟨A', c', hv, _⟩ := h2.form
  rw [List.length_append, hn] at hv
  subst hv
  unfold Oper.wp execOp
  simp only [ho, resolve, invoke, builtin, Sem.run_bind, Sem.run_pure, Result.andThen_ok, List.map_toArray, List.map_cons, List.map_nil, hs, hx, hrun]
  exact hK A' c' w' h2 h3 h4
theorem wpList_appDD {ops : Array Oper} {rest : List Oper} {o : Oper} {a : Act} {Q : Exit → Act → World → Prop} (hgd : o.guard = none) (s x : Operand)
    (ho : o.op = .call { callee := .builtin .append, args := #[s, x], argTypes := #[49, 49] })
    (h : OwnD w base v l) (hs : a.eval s = v) {B : Nat} {A : Option Addr} {m : List PtV} (n c : Nat) (hx : a.eval x = .slice A n c) (hr : RdD w B A m) (hn : m.length = n)
    (hsz : l.length + n ≤ 1000000) (hbase : base ≤ w.heap.size)
    (hK : ∀ A' c' w', OwnD w' base (.slice A' (l.length + n) c') (l ++ m) → w.grownBy w' v.ownBlock → ((Value.slice A' (l.length + n) c').ownBlock = v.ownBlock ∨ (Value.slice A' (l.length + n) c').ownBlock = some w.heap.size) → wpList Tryd.prog ops Q rest (a.put o.dst (.slice A' (l.length + n) c')) w') : wpList Tryd.prog ops Q (o :: rest) a w :=
  wpList_plain hgd fun _ hk => wp_appDD s x ho h hs n c hx hr hn hsz hbase fun A' c' w' h2 h3 h4 => hk _ _ (hK A' c' w' h2 h3 h4)
end
end Go.Proofs.YtkhmghmilnfngaaDoor
