/-
  Merged: Gro Grp Grs.
-/
import Derived.Test.YtegfnlnbhhmkjaaDoorUn
import Derived.Lib.AppendZerosOnto
import Derived.Lib.SliceRun
import Derived.WalkSpells
import Derived.WalkLawsBesides
import Derived.BigCall
import Derived.OwnWalk
import Derived.Test.YtegfnlnbhhmkjaaDoorLp
import Derived.Deep.Strs
import Derived.Deep.Slices
import Derived.Great.BuildSlice
namespace Go.Proofs.YtegfnlnbhhmkjaaDoor
set_option maxRecDepth 100000
open Go.ChangeShapes Go.WideShapes Go.ChangeAt Go.RowKit
set_option linter.unusedVariables false
set_option linter.unusedSimpArgs false

/-- What an element of a row is in memory: its cells, k of them, each one cell. -/
structure Enc (α : Type) where
  k : Nat
  pos : 0 < k
  c : α → List Value
  len : ∀ x, (c x).length = k
  one : ∀ x, ∀ u ∈ c x, u.oneCell' = true
section
variable {α : Type} (N : Enc α)
def rowG (l : List α) : List Value := l.flatMap N.c
theorem rowG_nil : rowG N [] = [] := rfl
theorem rowG_cons (p : α) (l : List α) : rowG N (p :: l) = N.c p ++ rowG N l := rfl
theorem rowG_app (l m : List α) : rowG N (l ++ m) = rowG N l ++ rowG N m := by simp [rowG]
theorem rowG_len (l : List α) : (rowG N l).length = l.length * N.k := by
  induction l with
  | nil => simp [rowG]
  | cons p l ih => rw [rowG_cons, List.length_append, ih, N.len, List.length_cons, Nat.add_mul]; omega
theorem rowG_at : ∀ (l : List α) (j : Nat) (h : j < l.length) (i : Nat), i < N.k → (rowG N l)[j * N.k + i]? = (N.c l[j])[i]?
  | [], _, h, _, _ => absurd h (by simp)
  | p :: l, 0, _, i, hi => by
    rw [rowG_cons, Nat.zero_mul, Nat.zero_add, List.getElem?_append_left (by rw [N.len]; exact hi)]
    rfl
  | p :: l, j + 1, h, i, hi => by
    have ih := rowG_at l j (by simpa using h) i hi
    have e : (j + 1) * N.k + i = N.k + (j * N.k + i) := by rw [Nat.add_mul]; omega
    rw [rowG_cons, List.getElem?_append_right (by rw [N.len]; omega), N.len, e, Nat.add_sub_cancel_left, ih]
    rfl
theorem rowG_one (l : List α) : ∀ u ∈ rowG N l, u.oneCell' = true := fun u hu => by
  unfold rowG at hu
  rw [List.mem_flatMap] at hu
  obtain ⟨d, _, h⟩ := hu
  exact N.one d u h
/-- A slice that reads as l, below B. -/
def RdG (w : World) (B : Nat) (A : Option Addr) (l : List α) : Prop :=
  0 < l.length → ∃ b off, A = some ⟨b, off, none⟩ ∧ b < B ∧ ∀ j (h : j < l.length) (i : Nat), i < N.k → w.cell? ⟨b, off + j * N.k + i, none⟩ = (N.c l[j])[i]?
variable {N}
theorem RdG.nil {w : World} {B : Nat} {A : Option Addr} : RdG N w B A [] := fun h => absurd h (by simp)
theorem RdG.below {w w' : World} {B : Nat} {A : Option Addr} {l : List α} (h : RdG N w B A l) (hb : Below B w w') : RdG N w' B A l := fun hn => by
  obtain ⟨b, off, e, hlt, hc⟩ := h hn
  exact ⟨b, off, e, hlt, fun j hj i hi => (hb.cell (p := ⟨b, _, none⟩) hlt).trans (hc j hj i hi)⟩
theorem RdG.more {w : World} {B C : Nat} {A : Option Addr} {l : List α} (h : RdG N w B A l) (hB : B ≤ C) : RdG N w C A l := fun hn => by
  obtain ⟨b, off, e, hlt, hc⟩ := h hn
  exact ⟨b, off, e, by omega, hc⟩
theorem RdG.drewN {w : World} {B : Nat} {A : Option Addr} {l : List α} (h : RdG N w B A l) (n : Nat) : RdG N (w.drewN n) B A l := h
theorem RdG.untouched {w w' : World} {F : List Nat} {B : Nat} {A : Option Addr} {l : List α} (h : RdG N w B A l) (hu : Untouched F w w') (hB : B ≤ w.heap.size) (hF : ∀ k ∈ F, B ≤ k) : RdG N w' B A l := fun hn => by
  obtain ⟨b, off, e, hlt, hc⟩ := h hn
  exact ⟨b, off, e, hlt, fun j hj i hi => (World.cell?_of_block (hu.block b (by omega) (fun hm => by have := hF b hm; omega))).trans (hc j hj i hi)⟩
theorem RdG.take {w : World} {B : Nat} {A : Option Addr} {l : List α} (h : RdG N w B A l) (m : Nat) : RdG N w B A (l.take m) := fun hn => by
  rw [List.length_take] at hn
  obtain ⟨b, off, e, hlt, hc⟩ := h (by omega)
  refine ⟨b, off, e, hlt, fun j hj i hi => ?_⟩
  have hj2 := hj
  rw [List.length_take] at hj2
  rw [hc j (by omega) i hi, List.getElem_take]
theorem RdG.one {w : World} {B b off : Nat} {p : α} (hb : b < B) (hc : ∀ i, i < N.k → w.cell? ⟨b, off + i, none⟩ = (N.c p)[i]?) : RdG N w B (some ⟨b, off, none⟩) [p] := fun _ =>
  ⟨b, off, rfl, hb, fun j hj i hi => by
    have : j = 0 := by simpa using hj
    subst this
    rw [Nat.zero_mul, Nat.add_zero, hc i hi]
    rfl⟩
theorem RdG.of_block {w : World} {B g : Nat} {t : TypeId} {p : α} (h : Bk w g t (N.c p).toArray) (hb : g < B) : RdG N w B (some ⟨g, 0, none⟩) [p] :=
  .one hb fun i _ => by rw [Nat.zero_add, h.cell i]; simp
/-- An element's cells. -/
theorem RdG.at_ {w : World} {B : Nat} {A : Option Addr} {l : List α} (h : RdG N w B A l) (j : Nat) (hj : j < l.length) : ∃ b off, A = some ⟨b, off, none⟩ ∧ b < B ∧ ∀ i, i < (N.c l[j]).toArray.size → w.cell? ⟨b, off + j * N.k + i, none⟩ = (N.c l[j]).toArray[i]? := by
  obtain ⟨b, off, e, hlt, hc⟩ := h (by omega)
  exact ⟨b, off, e, hlt, fun i hi => by rw [hc j hj i (by simpa [N.len] using hi)]; simp⟩
theorem news_of_rdG {w : World} {B : Nat} {ad : Addr} {m : List α} (hr : RdG N w B (some ad) m) : ∀ j u, (rowG N m)[j]? = some u → w.cell? (ad.add j) = some u := by
  intro j u hu
  have hl := rowG_len N m
  have hj := (List.getElem?_eq_some_iff.1 hu).1
  have hk := N.pos
  have h0 : 0 < m.length := by
    rcases Nat.eq_zero_or_pos m.length with h | h
    · rw [h, Nat.zero_mul] at hl; omega
    · exact h
  obtain ⟨b, off, e, _, hc⟩ := hr h0
  injection e with e
  subst e
  have hadd : (⟨b, off, none⟩ : Addr).add j = ⟨b, off + j, none⟩ := by unfold Addr.add; split <;> simp_all
  rw [hadd]
  have hq : j / N.k < m.length := by
    rw [Nat.div_lt_iff_lt_mul hk]
    omega
  have hr2 := Nat.mod_lt j hk
  have hdm := Nat.div_add_mod j N.k
  have e2 : j / N.k * N.k + j % N.k = j := by rw [Nat.mul_comm]; exact hdm
  have h1 := hc (j / N.k) hq (j % N.k) hr2
  have h2 := rowG_at N m (j / N.k) hq (j % N.k) hr2
  rw [Nat.add_assoc, e2] at h1
  rw [e2] at h2
  rw [h1, ← h2, hu]
variable (N)
/-- v is a slice of the call's own. -/
def OwnG (te : TypeId) (w : World) (base : Nat) (v : Value) (l : List α) : Prop := w.ownsRow base te N.k v l.length (rowG N l)
variable {N} {te : TypeId} {w w' : World} {base : Nat} {v : Value} {l : List α}
theorem OwnG.lt (h : OwnG N te w base v l) : ∀ g, v.ownBlock = some g → base ≤ g ∧ g < w.heap.size := World.ownsRow.lt h
theorem OwnG.nil_ (te : TypeId) (w : World) (base : Nat) : OwnG N te w base (.slice none 0 0) [] := World.ownsRow_nil w base te N.k
theorem OwnG.alloc (h : OwnG N te w base v l) (o : Obj) : OwnG N te (w.alloc o) base v l := World.ownsRow.alloc h o
theorem OwnG.keep (h : OwnG N te w base v l) {F : List Nat} (hu : Untouched F w w') (hF : ∀ g, v.ownBlock = some g → g ∉ F) : OwnG N te w' base v l := by
  have hlt := h.lt
  refine ⟨h.1, ?_⟩
  rcases h.2 with hn | ⟨g, cap, cur, rfl, hb, hg, rest⟩
  · exact .inl hn
  · exact .inr ⟨g, cap, cur, rfl, hb, (hu.block g (hlt g rfl).2 (hF g rfl)).trans hg, rest⟩
theorem OwnG.below {B : Nat} (h : OwnG N te w base v l) (hb : Below B w w') (hB : w.heap.size ≤ B) : OwnG N te w' base v l :=
  h.keep (F := []) ⟨hb.os, hb.tape, hb.output, hb.size, fun j hj _ => hb.block j (by omega)⟩ fun _ _ => by simp
theorem OwnG.drewN (h : OwnG N te w base v l) (n : Nat) : OwnG N te (w.drewN n) base v l := h
theorem OwnG.lower {b' : Nat} (h : OwnG N te w base v l) (hb : b' ≤ base) : OwnG N te w b' v l := by
  refine ⟨h.1, ?_⟩
  rcases h.2 with hn | ⟨g, cap, cur, rfl, hb2, rest⟩
  · exact .inl hn
  · exact .inr ⟨g, cap, cur, rfl, by omega, rest⟩
theorem OwnG.form (h : OwnG N te w base v l) : ∃ A c, v = .slice A l.length c ∧ RdG N w w.heap.size A l := by
  have hlt := h.lt
  rcases id h.2 with ⟨hv, h0⟩ | ⟨g, cap, cur, hv, _⟩
  · have hl : l = [] := List.eq_nil_of_length_eq_zero h0
    subst hl
    exact ⟨none, 0, hv, RdG.nil⟩
  · subst hv
    refine ⟨_, cap, rfl, fun _ => ⟨g, 0, rfl, (hlt g rfl).2, fun j hj i hi => ?_⟩⟩
    have hle : j * N.k + i < l.length * N.k := by
      have : (j + 1) * N.k ≤ l.length * N.k := Nat.mul_le_mul_right _ hj
      rw [Nat.add_mul] at this
      omega
    have hc := World.ownsRow.cellAt h (j * N.k + i) hle
    rw [Nat.zero_add, hc]
    exact rowG_at N l j hj i hi
theorem OwnG.rd {A : Option Addr} {n c : Nat} (h : OwnG N te w base (.slice A n c) l) : RdG N w w.heap.size A l ∧ n = l.length := by
  obtain ⟨A', c', e, hr⟩ := h.form
  injection e with e1 e2 e3
  subst e1
  exact ⟨hr, e2⟩
theorem OwnG.cap {A : Option Addr} {n c : Nat} (h : OwnG N te w base (.slice A n c) l) : n ≤ c ∧ c ≤ 9223372036854775807 := by
  rcases h.2 with ⟨h0, _⟩ | ⟨g, cap, cur, hv, _, _, h1, h2, _⟩
  · injection h0 with e1 e2 e3
    omega
  · injection hv with e1 e2 e3
    unfold maxLen at h2
    omega
theorem OwnG.kept {row : Option Nat} (h : OwnG N te w base v l) (hg : w.grownBy w' row) (hne : v.ownBlock = none ∨ v.ownBlock ≠ row) : OwnG N te w' base v l := World.ownsRow.kept h hg hne
/-- append onto an own slice. -/
theorem run_appG {ts : TypeId} {by_ : Nat} (hts : Tryd.prog.underlying ts = some (.slice te)) (hinfo : (Tryd.prog.info? te).map (fun i => (i.size, i.bytes, i.zero.map (·.cells.size))) = some (N.k, by_, some N.k))
    (h : OwnG N te w base v l) {B : Nat} {A : Option Addr} {m : List α} (hr : RdG N w B A m) (n c : Nat) (hn : m.length = n) (ty : TypeId)
    (hsz : (l.length + n) * by_ ≤ 140737488355328) (hby0 : 0 < by_) (hbase : base ≤ w.heap.size) :
    ∃ v' w', (Builtin.append_ #[ts, ts] ty #[v, .slice A n c]).run Tryd.prog w = .ok v' w' ∧ OwnG N te w' base v' (l ++ m) ∧ w.grownBy w' v.ownBlock ∧ (v'.ownBlock = v.ownBlock ∨ v'.ownBlock = some w.heap.size) := by
  subst hn
  obtain ⟨i, hi, hii⟩ := Option.map_eq_some_iff.1 hinfo
  simp only [Prod.mk.injEq] at hii
  obtain ⟨hsize, hby, hzz⟩ := hii
  obtain ⟨z, hz, hzs⟩ := Option.map_eq_some_iff.1 hzz
  have hle : l.length + m.length ≤ (l.length + m.length) * by_ := Nat.le_mul_of_pos_right _ hby0
  rcases A with _ | ad
  · have hm : m = [] := by
      rcases Nat.eq_zero_or_pos m.length with h0 | h0
      · exact List.eq_nil_of_length_eq_zero h0
      · obtain ⟨_, _, e, _⟩ := hr h0
        cases e
    subst hm
    have hrun : (Builtin.append_ #[ts, ts] ty #[v, .slice none 0 c]).run Tryd.prog w = .ok v w := by
      rcases h.2 with ⟨hv, h0⟩ | ⟨g, cap, cur, hv, _, _, hnc, _⟩
      · subst hv
        simp [Builtin.append_, run_underlying hts, sizeOf, typeInfo, hi, Builtin.lenOf, Builtin.firstCells]
      · subst hv
        simp [Builtin.append_, run_underlying hts, sizeOf, typeInfo, hi, Builtin.lenOf, Builtin.firstCells, hnc, storeCells]
    exact ⟨v, w, hrun, by rw [List.append_nil]; exact h, World.grownBy.refl w _, .inl rfl⟩
  · obtain ⟨v', w', hrun, h2, h3, _, h5⟩ := run_append_own_at (P := Tryd.prog) w base ts ty te i z N.k by_ hts hi hz hsize hby hzs N.pos v l.length (rowG N l) h ad m.length c (rowG N m)
      (rowG_len N m) (news_of_rdG hr) (rowG_one N m) (by simp only [maxLen]; omega) hsz hbase
    refine ⟨v', w', hrun, ?_, h3, h5⟩
    rw [← rowG_app] at h2
    unfold OwnG
    rw [List.length_append]
    exact h2
/-- At the operation. -/
theorem wp_appG {ts : TypeId} {by_ : Nat} {o : Oper} {a : Act} {K : Act → World → Prop} {Q : Exit → Act → World → Prop} (s x : Operand)
    (ho : o.op = .call { callee := .builtin .append, args := #[s, x], argTypes := #[ts, ts] })
    (hts : Tryd.prog.underlying ts = some (.slice te)) (hinfo : (Tryd.prog.info? te).map (fun i => (i.size, i.bytes, i.zero.map (·.cells.size))) = some (N.k, by_, some N.k))
    (h : OwnG N te w base v l) (hs : a.eval s = v) {B : Nat} {A : Option Addr} {m : List α} (n c : Nat) (hx : a.eval x = .slice A n c) (hr : RdG N w B A m) (hn : m.length = n)
    (hsz : (l.length + n) * by_ ≤ 140737488355328) (hby0 : 0 < by_) (hbase : base ≤ w.heap.size)
    (hK : ∀ A' c' w', OwnG N te w' base (.slice A' (l.length + n) c') (l ++ m) → w.grownBy w' v.ownBlock → ((Value.slice A' (l.length + n) c').ownBlock = v.ownBlock ∨ (Value.slice A' (l.length + n) c').ownBlock = some w.heap.size) → K (a.put o.dst (.slice A' (l.length + n) c')) w') : o.wp Tryd.prog a w K Q := by
  obtain ⟨v', w', hrun, h2, h3, h4⟩ := run_appG hts hinfo h hr n c hn o.type hsz hby0 hbase
  obtain ⟨A', c', hv, _⟩ := h2.form
  rw [List.length_append, hn] at hv
  subst hv
  unfold Oper.wp execOp
  simp only [ho, resolve, invoke, builtin, Sem.run_bind, Sem.run_pure, Result.andThen_ok, List.map_toArray, List.map_cons, List.map_nil, hs, hx, hrun]
  exact hK A' c' w' h2 h3 h4
theorem wpList_appG {ts : TypeId} {by_ : Nat} {ops : Array Oper} {rest : List Oper} {o : Oper} {a : Act} {Q : Exit → Act → World → Prop} (hgd : o.guard = none) (s x : Operand)
    (ho : o.op = .call { callee := .builtin .append, args := #[s, x], argTypes := #[ts, ts] })
    (hts : Tryd.prog.underlying ts = some (.slice te)) (hinfo : (Tryd.prog.info? te).map (fun i => (i.size, i.bytes, i.zero.map (·.cells.size))) = some (N.k, by_, some N.k))
    (h : OwnG N te w base v l) (hs : a.eval s = v) {B : Nat} {A : Option Addr} {m : List α} (n c : Nat) (hx : a.eval x = .slice A n c) (hr : RdG N w B A m) (hn : m.length = n)
    (hsz : (l.length + n) * by_ ≤ 140737488355328) (hby0 : 0 < by_) (hbase : base ≤ w.heap.size)
    (hK : ∀ A' c' w', OwnG N te w' base (.slice A' (l.length + n) c') (l ++ m) → w.grownBy w' v.ownBlock → ((Value.slice A' (l.length + n) c').ownBlock = v.ownBlock ∨ (Value.slice A' (l.length + n) c').ownBlock = some w.heap.size) → wpList Tryd.prog ops Q rest (a.put o.dst (.slice A' (l.length + n) c')) w') : wpList Tryd.prog ops Q (o :: rest) a w :=
  wpList_plain hgd fun _ hk => wp_appG s x ho hts hinfo h hs n c hx hr hn hsz hby0 hbase fun A' c' w' h2 h3 h4 => hk _ _ (hK A' c' w' h2 h3 h4)
end
end Go.Proofs.YtegfnlnbhhmkjaaDoor

namespace Go.Proofs.YtegfnlnbhhmkjaaDoor
set_option maxRecDepth 100000
open Go.ChangeShapes Go.WideShapes Go.ChangeAt Go.RowKit
set_option linter.unusedVariables false
set_option linter.unusedSimpArgs false

section
variable {H : Type} {enc : TypeId × Value → H} {P : Program} {w : World} {sp : Nat → Bool} {held : Bool}
theorem cells_rowG {α : Type} [Inhabited α] {N : Enc α} {ts te : TypeId} (Ok : α → Prop) (hts : P.underlying ts = some (.slice te)) (hk : P.cellsOf te = N.k)
    (hone : ∀ (n : Nat) (cs : List Value) (x : DataW H × List MemPlace), cs.length = N.k → DataW.trod enc P w 0 sp held n te cs = some x → ∃ q, cs = N.c q ∧ Ok q)
    {fuel : Nat} {cs : List Value} {d : DataW H × List MemPlace} (hf : DataW.trod enc P w 0 sp held fuel ts cs = some d) :
    ∃ A l c, cs = [.slice A (l : List α).length c] ∧ RdG N w w.heap.size A l ∧ (∀ q ∈ l, Ok q) ∧ l.length ≤ c ∧ c ≤ maxLen := by
  rcases Go.Deep.open_slice hts hf with ⟨hcs, hx⟩ | ⟨a, len, cap, m, n, D, Pl, hcs, _, hl, hm, hmm, hx, hel⟩
  · exact ⟨none, [], 0, hcs, fun h => by simp at h, fun _ h => (by cases h), Nat.le_refl _, Nat.zero_le _⟩
  · have hlm : len ≤ m := by rw [hmm]; split <;> omega
    rw [hk] at hel
    have h1 : ∀ j, j < len → ∃ q : α, (∀ t, t < N.k → w.cell? (a.add (j * N.k + t)) = (N.c q)[t]?) ∧ Ok q := by
      intro j hj
      obtain ⟨cs', hc1, hc2⟩ := hel j (by omega)
      obtain ⟨_, hlen, hcell⟩ := World.cells?_some hc1
      obtain ⟨q, e, ho⟩ := hone _ cs' _ (by simpa using hlen) hc2
      refine ⟨q, fun t ht => ?_, ho⟩
      have c0 := hcell t (by omega)
      rw [Go.Deep.add_add] at c0
      rw [c0, e]
    obtain ⟨q, hq⟩ := Go.Deep.choose_lt h1
    refine ⟨some a, (List.range len).map q, cap, by simpa using hcs, fun hn => ?_, fun x hx => ?_, by simpa using hl, hm⟩
    · have hn' : 0 < len := by simpa using hn
      obtain ⟨b, off, spot⟩ := a
      have hc0 := (hq 0 hn').1 0 N.pos
      rw [List.getElem?_eq_getElem (by rw [N.len]; exact N.pos)] at hc0
      have hspot : spot = none := by simpa [Addr.add] using World.cell?_spot hc0
      subst hspot
      have hplain : ∀ j, (⟨b, off, none⟩ : Addr).add j = ⟨b, off + j, none⟩ := fun j => by unfold Addr.add; split <;> simp_all
      rw [hplain] at hc0
      refine ⟨b, off, rfl, World.block_lt_of_cell? w _ hc0, fun j hj t ht => ?_⟩
      have hj' : j < len := by simpa using hj
      have h := (hq j hj').1 t ht
      have e : ((List.range len).map q)[j] = q j := by simp
      rw [e, ← h, hplain, Nat.add_assoc]
    · obtain ⟨j, hj, rfl⟩ := List.mem_map.1 hx
      exact (hq j (List.mem_range.1 hj)).2
theorem open_rowG {α : Type} [Inhabited α] {N : Enc α} {ts te : TypeId} (Ok : α → Prop) (hts : P.underlying ts = some (.slice te)) (hk : P.cellsOf te = N.k)
    (hone : ∀ (n : Nat) (cs : List Value) (x : DataW H × List MemPlace), cs.length = N.k → DataW.trod enc P w 0 sp held n te cs = some x → ∃ q, cs = N.c q ∧ Ok q)
    {b0 : Nat} {r : Reach} {v : Value} {d : DataW H} {p : List MemPlace} (hv : Value.okWide P w r b0 ts v) (h : DataW.Trod enc P w 0 sp held ts v d p) :
    ∃ A l c, v = .slice A (l : List α).length c ∧ RdG N w w.heap.size A l ∧ (∀ q ∈ l, Ok q) ∧ l.length ≤ c ∧ c ≤ maxLen := by
  obtain ⟨a0, len, cap, rfl⟩ := okWide_slice hts hv
  obtain ⟨fuel, hf⟩ := h
  obtain ⟨A, l, c, e1, h1, h2, h3, h4⟩ := cells_rowG Ok hts hk hone hf
  simp [Value.cells] at e1
  obtain ⟨rfl, rfl, rfl⟩ := e1
  exact ⟨_, l, _, rfl, h1, h2, h3, h4⟩
/-- Bools: one cell each. -/
def boolE : Enc Bool := ⟨1, by decide, fun b => [.bool b], fun _ => rfl, fun x u h => by rw [List.mem_singleton.1 h]; rfl⟩
theorem cells_boolG {t : TypeId} {fuel : Nat} {cs : List Value} {x : DataW H × List MemPlace} (ht : P.underlying t = some .bool) (hf : DataW.trod enc P w 0 sp held fuel t cs = some x) : ∃ q, cs = boolE.c q ∧ True := by
  obtain ⟨n, e, _⟩ := DataW.trod_bool ht hf
  exact ⟨n, e, trivial⟩
theorem cells_boolsG {t e : TypeId} {fuel : Nat} {cs : List Value} {d : DataW H × List MemPlace} (ht : P.underlying t = some (.slice e)) (he : P.underlying e = some .bool) (hc : P.cellsOf e = 1)
    (hf : DataW.trod enc P w 0 sp held fuel t cs = some d) : ∃ A l c, cs = [.slice A (l : List Bool).length c] ∧ RdG boolE w w.heap.size A l ∧ l.length ≤ c ∧ c ≤ maxLen := by
  obtain ⟨A, l, c, h1, h2, _, h3, h4⟩ := cells_rowG (N := boolE) (fun _ => True) ht hc (fun n cs x _ h => cells_boolG he h) hf
  exact ⟨A, l, c, h1, h2, h3, h4⟩
/-- Ints: one cell each. -/
def intE : Enc Int := ⟨1, by decide, fun z => [.int .i64 z], fun _ => rfl, fun x u h => by rw [List.mem_singleton.1 h]; rfl⟩
theorem cells_intG {t : TypeId} {fuel : Nat} {cs : List Value} {x : DataW H × List MemPlace} (ht : P.underlying t = some (.int .i64)) (hf : DataW.trod enc P w 0 sp held fuel t cs = some x) : ∃ z, cs = [.int .i64 z] ∧ -9223372036854775808 ≤ z ∧ z ≤ 9223372036854775807 := by
  obtain ⟨n, e, _, hw⟩ := DataW.trod_int ht hf
  exact ⟨n, e, bounds_i64 hw⟩
theorem cells_strG {t : TypeId} {fuel : Nat} {cs : List Value} {x : DataW H × List MemPlace} (ht : P.underlying t = some .string) (hf : DataW.trod enc P w 0 sp held fuel t cs = some x) : ∃ l : List UInt8, cs = [.string (strOf l)] ∧ l.length ≤ maxLen := by
  obtain ⟨s, e, _, hs⟩ := DataW.trod_string ht hf
  have hl : strOf s.data.toList = s := rfl
  refine ⟨s.data.toList, by rw [hl]; exact e, ?_⟩
  have : (strOf s.data.toList).size = s.data.toList.length := strOf_size _
  rw [hl] at this
  omega
theorem cells_bytesG {t e : TypeId} {fuel : Nat} {cs : List Value} {d : DataW H × List MemPlace}
    (ht : P.underlying t = some (.slice e)) (he : P.underlying e = some (.int .u8)) (hc : P.cellsOf e = 1)
    (hf : DataW.trod enc P w 0 sp held fuel t cs = some d) :
    ∃ A l c, cs = [.slice A (l : List UInt8).length c] ∧ Rd w w.heap.size A l ∧ l.length ≤ c ∧ c ≤ maxLen := by
  rcases open_ints ht he hc hf with ⟨hcs, hx⟩ | ⟨a, len, cap, zs, hcs, _, hl, hm, hz, hx, hcell, hwz⟩
  · exact ⟨none, [], 0, hcs, Rd.nil, Nat.le_refl _, Nat.zero_le _⟩
  · have hzl : len ≤ zs.length := by
      rw [hz]; split <;> omega
    have hlen : ((zs.take len).map fun n => UInt8.ofNat n.toNat).length = len := by
      rw [List.length_map, List.length_take]; omega
    refine ⟨some a, (zs.take len).map fun n => UInt8.ofNat n.toNat, cap, by rw [hlen]; exact hcs, fun h0 => ?_, by rw [hlen]; exact hl, hm⟩
    rw [hlen] at h0
    obtain ⟨b, off, spot⟩ := a
    have hc0 := hcell 0 (by omega)
    have hspot : spot = none := by simpa [Addr.add] using World.cell?_spot hc0
    subst hspot
    have hplain : ∀ j, (⟨b, off, none⟩ : Addr).add j = ⟨b, off + j, none⟩ := fun j => by unfold Addr.add; split <;> simp_all
    refine ⟨b, off, rfl, World.block_lt_of_cell? w _ hc0, fun j hj => ?_⟩
    rw [hlen] at hj
    rw [← hplain, hcell j (by omega)]
    have hb := bounds_u8 (hwz (zs.getD j 0) (by simp [List.getD, show j < zs.length by omega]))
    have e1 : ((zs.take len).map fun n => UInt8.ofNat n.toNat).getD j 0 = UInt8.ofNat (zs.getD j 0).toNat := by
      simp [List.getD, hj, show j < zs.length by omega]
    rw [e1]
    generalize zs.getD j 0 = z at hb
    congr 2
    simp
    omega
/-- A struct, opened: its fields' cells. -/
theorem trod_fieldsG {t : TypeId} {fs : Array Field} {fuel : Nat} {cs : List Value} {x : DataW H × List MemPlace} (ht : P.underlying t = some (.struct fs)) (h : DataW.trod enc P w 0 sp held fuel t cs = some x) :
    ∃ n, ∀ (i : Nat) (f : Field), fs[i]? = some f → ∃ y, DataW.trod enc P w 0 sp held n f.type ((cs.drop f.offset).take (P.cellsOf f.type)) = some y := by
  obtain ⟨xs, n, _, rfl, hl, hlen, hf⟩ := DataW.trod_struct ht h
  refine ⟨n, fun i f hi => ?_⟩
  have hlt := (Array.getElem?_eq_some_iff.1 hi).1
  rw [hf i f hi]
  exact ⟨_, List.getElem?_eq_getElem (by omega)⟩
end
end Go.Proofs.YtegfnlnbhhmkjaaDoor

namespace Go.Proofs.YtegfnlnbhhmkjaaDoor
set_option maxRecDepth 100000
open Go.RowKit
set_option linter.unusedVariables false
set_option linter.unusedSimpArgs false

theorem run_oneG {α : Type} (N : Enc α) {ts te : TypeId} {by_ : Nat} (hts : Tryd.prog.underlying ts = some (.slice te)) (hinfo : (Tryd.prog.info? te).map (fun i => (i.size, i.bytes, i.zero.map (·.cells.size))) = some (N.k, by_, some N.k)) (hk : N.k ≤ 1000)
    (w : World) (x : α) (cs : Array Value) (hcs : cs = (N.c x).toArray) : (Instr.buildSlice ts 1 #[(0, .agg cs)]).run Tryd.prog w = .ok (.slice (some ⟨w.heap.size, 0, none⟩) 1 1) (w.alloc (.cells cs te)) := by
  subst hcs
  obtain ⟨i, hi, hii⟩ := Option.map_eq_some_iff.1 hinfo
  simp only [Prod.mk.injEq] at hii
  obtain ⟨hsize, hby, hzz⟩ := hii
  obtain ⟨z, hz, hzs⟩ := Option.map_eq_some_iff.1 hzz
  have hp := N.pos
  refine run_buildSlice w ts te 1 _ (N.c x).toArray i z hts hi hz (by rw [hsize]; omega) (by rw [hsize]; omega) ?_
  rw [hsize]
  have h := Go.Great.fill_whole (s := N.k) hp [.agg (N.c x).toArray] ((Array.range (1 * N.k)).map (z.cells[· % z.cells.size]!)) (fun v hv => by simp at hv; subst hv; simp [Value.cells, N.len]) (by simp)
  rw [show ([Value.agg (N.c x).toArray].flatMap fun v => v.cells.toList).toArray = (N.c x).toArray by simp [Value.cells]] at h
  exact h
section
variable {α : Type} (N : Enc α) {ts te : TypeId} {by_ : Nat} {ops : Array Oper} {rest : List Oper} {o : Oper} {a : Act} {w : World} {Q : Exit → Act → World → Prop}
theorem wpList_oneG (hts : Tryd.prog.underlying ts = some (.slice te)) (hinfo : (Tryd.prog.info? te).map (fun i => (i.size, i.bytes, i.zero.map (·.cells.size))) = some (N.k, by_, some N.k)) (hk : N.k ≤ 1000)
    (hgd : o.guard = none) (y : Operand) (ho : o.op = .buildSlice ts 1 #[(0, y)]) (cs : Array Value) (hx : a.eval y = .agg cs) (x : α) (hcs : cs = (N.c x).toArray)
    (hK : wpList Tryd.prog ops Q rest (a.put o.dst (.slice (some ⟨w.heap.size, 0, none⟩) 1 1)) (w.alloc (.cells cs te))) : wpList Tryd.prog ops Q (o :: rest) a w :=
  wpList_plain hgd fun _ h => by
    unfold Oper.wp execOp
    simp only [ho, Sem.run_bind, Sem.run_pure, Result.andThen_ok, List.map_toArray, List.map_cons, List.map_nil, hx, run_oneG N hts hinfo hk w x cs hcs]
    exact h _ _ hK
theorem step_oneG {K : Act → World → Prop} {E : Prop} (hts : Tryd.prog.underlying ts = some (.slice te)) (hinfo : (Tryd.prog.info? te).map (fun i => (i.size, i.bytes, i.zero.map (·.cells.size))) = some (N.k, by_, some N.k)) (hk : N.k ≤ 1000)
    (hw : Region.wanted o (yielded ops a.tmps) = true) (y : Operand) (ho : o.op = .buildSlice ts 1 #[(0, y)]) (cs : Array Value) (hx : a.eval y = .agg cs) (x : α) (hcs : cs = (N.c x).toArray)
    (hK : K (a.put o.dst (.slice (some ⟨w.heap.size, 0, none⟩) 1 1)) (w.alloc (.cells cs te))) : if Region.wanted o (yielded ops a.tmps) = true then Oper.wp Tryd.prog o a w K Q else E := by
  refine step_run hw (v := .slice (some ⟨w.heap.size, 0, none⟩) 1 1) (w' := w.alloc (.cells cs te)) ?_ hK
  unfold execOp
  simp only [ho, Sem.run_bind, Sem.run_pure, List.map_toArray, List.map_cons, List.map_nil, hx, run_oneG N hts hinfo hk w x cs hcs, Result.andThen_ok]
end
end Go.Proofs.YtegfnlnbhhmkjaaDoor
