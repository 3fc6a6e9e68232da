/-
  Merged: Rgn Rgb Rgt Rgv Rgu.
-/
import Derived.Test.YtegfnlnbhhmkjaaDoorAp
import Derived.Test.YtegfnlnbhhmkjaaDoorRga
import Derived.Test.YtegfnlnbhhmkjaaDoorPT
import Derived.Lib.AppendZerosOnto
import Derived.Lib.SliceRun
import Derived.WalkSpells
import Derived.WalkLawsBesides
import Derived.BigCall
import Derived.OwnWalk
namespace Go.Proofs.YtegfnlnbhhmkjaaDoor
set_option maxRecDepth 100000
open Go.RowKit
set_option linter.unusedVariables false
set_option linter.unusedSimpArgs false

theorem infoZ : (Tryd.prog.info? 3).map (fun i => (i.zero, i.size, i.bytes)) = some (some (.int .i64 0), 1, 8) := by kernel_rfl
/-- The cells of a row of bytes. -/
def rowZ (l : List Nat) : Array Value := (l.map fun (b : Nat) => Value.int .i64 (b : Int)).toArray

theorem rowZ_size (l : List Nat) : (rowZ l).size = l.length := by simp [rowZ]
theorem rowZ_get (l : List Nat) (i : Nat) : (rowZ l)[i]? = l[i]?.map fun (b : Nat) => Value.int .i64 (b : Int) := by simp [rowZ]
theorem rowZ_at (l : List Nat) (i : Nat) (h : i < l.length) : (rowZ l)[i]? = some (.int .i64 ((l.getD i 0 : Nat) : Int)) := by
  rw [rowZ_get, List.getElem?_eq_getElem h]
  simp [List.getD, h]
theorem rowZ_set (l : List Nat) (i : Nat) (b : Nat) : (rowZ l).setIfInBounds i (.int .i64 (b : Int)) = rowZ (l.set i b) := by
  simp [rowZ, List.map_set]
/-- A slice at A reads as the bytes l; its memory lies below block B. A is of no account where l is empty. -/
def RdZ (w : World) (B : Nat) (A : Option Addr) (l : List Nat) : Prop :=
  0 < l.length → ∃ b off, A = some ⟨b, off, none⟩ ∧ b < B ∧ ∀ j, j < l.length → w.cell? ⟨b, off + j, none⟩ = some (.int .i64 ((l.getD j 0 : Nat) : Int))

section
variable {w w' : World} {B B' : Nat} {A : Option Addr} {l : List Nat}
theorem RdZ.nil : RdZ w B A [] := fun h => absurd h (by simp)
theorem RdZ.at_ {k : Nat} (h : RdZ w B A l) (hk : k < l.length) : ∃ b off, A = some ⟨b, off, none⟩ ∧ b < B ∧ w.cell? ⟨b, off + k, none⟩ = some (.int .i64 ((l.getD k 0 : Nat) : Int)) := by
  obtain ⟨b, off, e, hb, hc⟩ := h (by omega)
  exact ⟨b, off, e, hb, hc k hk⟩
theorem RdZ.keep (h : RdZ w B A l) (hk : ∀ p : Addr, p.block < B → w'.cell? p = w.cell? p) : RdZ w' B A l := fun hn => by
  obtain ⟨b, off, e, hb, hc⟩ := h hn
  exact ⟨b, off, e, hb, fun j hj => (hk _ hb).trans (hc j hj)⟩
theorem RdZ.more (h : RdZ w B A l) (hB : B ≤ B') : RdZ w B' A l := fun hn => by
  obtain ⟨b, off, e, hb, hc⟩ := h hn
  exact ⟨b, off, e, by omega, hc⟩
theorem RdZ.below (h : RdZ w B A l) (hb : Below B w w') : RdZ w' B A l := h.keep fun _ hp => hb.cell hp
theorem RdZ.drew (h : RdZ w B A l) : RdZ w.drew B A l := h
theorem RdZ.drewN (h : RdZ w B A l) (n : Nat) : RdZ (w.drewN n) B A l := h
theorem RdZ.alloc (h : RdZ w B A l) (hB : B ≤ w.heap.size) (o : Obj) : RdZ (w.alloc o) B A l := h.keep fun p hp => World.cell?_alloc_lt w o p (by omega)
theorem RdZ.setCell (h : RdZ w B A l) {p : Addr} (hB : B ≤ p.block) (u : Value) : RdZ (w.setCell p u) B A l :=
  h.keep fun q hq => World.cell?_setCell_other w p q u (fun e => by subst e; omega)
theorem RdZ.take (h : RdZ w B A l) (n : Nat) : RdZ w B A (l.take n) := fun hn => by
  have hl : (l.take n).length ≤ l.length := by simp; omega
  obtain ⟨b, off, e, hb, hc⟩ := h (by omega)
  refine ⟨b, off, e, hb, fun j hj => ?_⟩
  rw [hc j (by omega)]
  have : j < n := by simp at hj; omega
  simp [List.getD, this]
theorem RdZ.drop {b off : Nat} (h : RdZ w B (some ⟨b, off, none⟩) l) (n : Nat) : RdZ w B (some ⟨b, off + n, none⟩) (l.drop n) := fun hn => by
  simp at hn
  obtain ⟨b', off', e, hb, hc⟩ := h (by omega)
  injection e with e
  injection e with e1 e2
  subst e1 e2
  refine ⟨b, off + n, rfl, hb, fun j hj => ?_⟩
  simp at hj
  rw [Nat.add_assoc, hc (n + j) (by omega)]
  simp [List.getD]
end

/-- v is a slice of the call's own (its block from base on, or none), and reads as l. -/
def OwnZ (w : World) (base : Nat) (v : Value) (l : List Nat) : Prop := w.ownsRow base 3 1 v l.length (rowZ l).toList

section
variable {w w' : World} {base : Nat} {v : Value} {l : List Nat}
theorem OwnZ.form (h : OwnZ w base v l) : ∃ A c, v = .slice A l.length c ∧ RdZ w w.heap.size A l ∧ (∀ g, v.ownBlock = some g → base ≤ g ∧ g < w.heap.size) := by
  have hlt := World.ownsRow.lt h
  rcases h.2 with ⟨hv, h0⟩ | ⟨g, cap, cur, hv, hb, hg, hn, hm, hs, ht⟩
  · have hl : l = [] := List.eq_nil_of_length_eq_zero h0
    subst hl
    exact ⟨none, 0, hv, RdZ.nil, hlt⟩
  · subst hv
    refine ⟨_, cap, rfl, fun _ => ⟨g, 0, rfl, (hlt g rfl).2, fun j hj => ?_⟩, hlt⟩
    have hc := World.ownsRow.cellAt h j (by omega)
    rw [Nat.zero_add, hc]
    have := rowZ_at l j hj
    simpa using this
theorem OwnZ.rd {A : Option Addr} {n c : Nat} (h : OwnZ w base (.slice A n c) l) : RdZ w w.heap.size A l ∧ n = l.length := by
  obtain ⟨A', c', e, hr, _⟩ := h.form
  injection e with e1 e2 e3
  subst e1
  exact ⟨hr, e2⟩
theorem OwnZ.nil_ (w : World) (base : Nat) : OwnZ w base (.slice none 0 0) [] := World.ownsRow_nil w base 3 1
/-- '[]byte{}', '[]byte{x}': just laid. -/
theorem OwnZ.lit (w : World) (base : Nat) (l : List Nat) (hb : base ≤ w.heap.size) (hm : l.length ≤ maxLen) : OwnZ (w.alloc (.cells (rowZ l) 3)) base (.slice (some ⟨w.heap.size, 0, none⟩) l.length l.length) l := by
  have h := World.ownsRow_lit (e := 3) (size := 1) w (rowZ l) l.length hb hm (by rw [rowZ_size, Nat.mul_one])
  exact h
theorem OwnZ.kept {row : Option Nat} (h : OwnZ w base v l) (hg : w.grownBy w' row) (hne : v.ownBlock = none ∨ v.ownBlock ≠ row) : OwnZ w' base v l := World.ownsRow.kept h hg hne
theorem OwnZ.below {B : Nat} (h : OwnZ w base v l) (hb : Below B w w') (hB : w.heap.size ≤ B) : OwnZ w' base v l := by
  refine World.ownsRow.kept (row := none) h ⟨hb.os, hb.tape, hb.output, hb.size, fun k hk _ => hb.block k (by omega)⟩ ?_
  cases h1 : v.ownBlock with
  | none => exact .inl rfl
  | some g => exact .inr (by simp)
theorem OwnZ.drew (h : OwnZ w base v l) : OwnZ w.drew base v l := h
theorem OwnZ.drewN (h : OwnZ w base v l) (n : Nat) : OwnZ (w.drewN n) base v l := h
theorem OwnZ.alloc (h : OwnZ w base v l) (o : Obj) : OwnZ (w.alloc o) base v l := World.ownsRow.alloc h o

theorem news_of_rdZ {B : Nat} {ad : Addr} {m : List Nat} (hr : RdZ w B (some ad) m) : ∀ j u, (rowZ m).toList[j]? = some u → w.cell? (ad.add j) = some u := by
  intro j u hu
  have hj : j < m.length := by
    have := (List.getElem?_eq_some_iff.1 hu).1
    simpa [rowZ] using this
  obtain ⟨b, off, e, _, hc⟩ := hr (by omega)
  injection e with e
  subst e
  have hp : (⟨b, off, none⟩ : Addr).add j = ⟨b, off + j, none⟩ := by unfold Addr.add; split <;> simp_all
  rw [hp, hc j hj]
  have h2 := rowZ_at m j hj
  have h3 : (rowZ m).toList[j]? = (rowZ m)[j]? := by simp
  rw [← hu, h3, h2]
theorem one_of_rowZ (m : List Nat) : ∀ u ∈ (rowZ m).toList, u.oneCell' = true := by
  intro u hu
  simp [rowZ] at hu
  obtain ⟨b, _, rfl⟩ := hu
  rfl

/-- append onto an own slice. -/
theorem run_appZ (h : OwnZ w base v l) {B : Nat} {A : Option Addr} {m : List Nat} (hr : RdZ w B A m) (n c : Nat) (hn : m.length = n) (ty : TypeId)
    (hsz : l.length + n ≤ 1000000) (hbase : base ≤ w.heap.size) :
    ∃ v' w', (Builtin.append_ #[25, 25] ty #[v, .slice A n c]).run Tryd.prog w = .ok v' w' ∧ OwnZ w' base v' (l ++ m) ∧ w.grownBy w' v.ownBlock ∧ (v'.ownBlock = v.ownBlock ∨ v'.ownBlock = some w.heap.size) := by
  subst hn
  obtain ⟨i, hi, hz, hsize, hby⟩ := info_parts infoZ
  rcases A with _ | ad
  · have hm : m = [] := by
      rcases Nat.eq_zero_or_pos m.length with h0 | h0
      · exact List.eq_nil_of_length_eq_zero h0
      · obtain ⟨_, _, e, _⟩ := hr h0
        cases e
    subst hm
    have hrun : (Builtin.append_ #[25, 25] ty #[v, .slice none 0 c]).run Tryd.prog w = .ok v w := by
      rcases h.2 with ⟨hv, h0⟩ | ⟨g, cap, cur, hv, _, _, hnc, _⟩
      · subst hv
        simp [Builtin.append_, run_underlying Tryd.underlying25, sizeOf, typeInfo, hi, Builtin.lenOf, Builtin.firstCells]
      · subst hv
        simp [Builtin.append_, run_underlying Tryd.underlying25, sizeOf, typeInfo, hi, Builtin.lenOf, Builtin.firstCells, hnc, storeCells]
    exact ⟨v, w, hrun, by rw [List.append_nil]; exact h, World.grownBy.refl w _, .inl rfl⟩
  · obtain ⟨v', w', hrun, h2, h3, _, h5⟩ := run_append_own_at (P := Tryd.prog) w base 25 ty 3 i (.int .i64 0) 1 8 Tryd.underlying25 hi hz hsize hby rfl (by decide) v l.length (rowZ l).toList h ad m.length c (rowZ m).toList
      (by simp [rowZ]) (news_of_rdZ hr) (one_of_rowZ m) (by simp only [maxLen]; omega) (by omega) hbase
    refine ⟨v', w', hrun, ?_, h3, h5⟩
    have e : (rowZ l).toList ++ (rowZ m).toList = (rowZ (l ++ m)).toList := by simp [rowZ]
    rw [e] at h2
    unfold OwnZ
    rw [List.length_append]
    exact h2

/-- At the operation. -/
theorem wp_appZ {o : Oper} {a : Act} {K : Act → World → Prop} {Q : Exit → Act → World → Prop} (s x : Operand)
    (ho : o.op = .call { callee := .builtin .append, args := #[s, x], argTypes := #[25, 25] })
    (h : OwnZ w base v l) (hs : a.eval s = v) {B : Nat} {A : Option Addr} {m : List Nat} (n c : Nat) (hx : a.eval x = .slice A n c) (hr : RdZ w B A m) (hn : m.length = n)
    (hsz : l.length + n ≤ 1000000) (hbase : base ≤ w.heap.size)
    (hK : ∀ A' c' w', OwnZ w' base (.slice A' (l.length + n) c') (l ++ m) → w.grownBy w' v.ownBlock → ((Value.slice A' (l.length + n) c').ownBlock = v.ownBlock ∨ (Value.slice A' (l.length + n) c').ownBlock = some w.heap.size) → K (a.put o.dst (.slice A' (l.length + n) c')) w') : o.wp Tryd.prog a w K Q := by
  obtain ⟨v', w', hrun, h2, h3, h4⟩ := run_appZ h hr n c hn o.type hsz hbase
  obtain ⟨A', c', hv, _⟩ := h2.form
  rw [List.length_append, hn] at hv
  subst hv
  unfold Oper.wp execOp
  simp only [ho, resolve, invoke, builtin, Sem.run_bind, Sem.run_pure, Result.andThen_ok, List.map_toArray, List.map_cons, List.map_nil, hs, hx, hrun]
  exact hK A' c' w' h2 h3 h4
theorem wpList_appZ {ops : Array Oper} {rest : List Oper} {o : Oper} {a : Act} {Q : Exit → Act → World → Prop} (hgd : o.guard = none) (s x : Operand)
    (ho : o.op = .call { callee := .builtin .append, args := #[s, x], argTypes := #[25, 25] })
    (h : OwnZ w base v l) (hs : a.eval s = v) {B : Nat} {A : Option Addr} {m : List Nat} (n c : Nat) (hx : a.eval x = .slice A n c) (hr : RdZ w B A m) (hn : m.length = n)
    (hsz : l.length + n ≤ 1000000) (hbase : base ≤ w.heap.size)
    (hK : ∀ A' c' w', OwnZ w' base (.slice A' (l.length + n) c') (l ++ m) → w.grownBy w' v.ownBlock → ((Value.slice A' (l.length + n) c').ownBlock = v.ownBlock ∨ (Value.slice A' (l.length + n) c').ownBlock = some w.heap.size) → wpList Tryd.prog ops Q rest (a.put o.dst (.slice A' (l.length + n) c')) w') : wpList Tryd.prog ops Q (o :: rest) a w :=
  wpList_plain hgd fun _ hk => wp_appZ s x ho h hs n c hx hr hn hsz hbase fun A' c' w' h2 h3 h4 => hk _ _ (hK A' c' w' h2 h3 h4)
theorem step_appZ {ops : Array Oper} {o : Oper} {a : Act} {K : Act → World → Prop} {Q : Exit → Act → World → Prop} {E : Prop} (hgd : o.guard = none) (s x : Operand)
    (ho : o.op = .call { callee := .builtin .append, args := #[s, x], argTypes := #[25, 25] })
    (h : OwnZ w base v l) (hs : a.eval s = v) {B : Nat} {A : Option Addr} {m : List Nat} (n c : Nat) (hx : a.eval x = .slice A n c) (hr : RdZ w B A m) (hn : m.length = n)
    (hsz : l.length + n ≤ 1000000) (hbase : base ≤ w.heap.size)
    (hK : ∀ A' c' w', OwnZ w' base (.slice A' (l.length + n) c') (l ++ m) → w.grownBy w' v.ownBlock → ((Value.slice A' (l.length + n) c').ownBlock = v.ownBlock ∨ (Value.slice A' (l.length + n) c').ownBlock = some w.heap.size) → K (a.put o.dst (.slice A' (l.length + n) c')) w') :
    if Region.wanted o (yielded ops a.tmps) = true then Oper.wp Tryd.prog o a w K Q else E := by
  have hw : Region.wanted o (yielded ops a.tmps) = true := by simp [Region.wanted, hgd]
  rw [if_pos hw]
  exact wp_appZ s x ho h hs n c hx hr hn hsz hbase hK
end
end Go.Proofs.YtegfnlnbhhmkjaaDoor

namespace Go.Proofs.YtegfnlnbhhmkjaaDoor
set_option maxRecDepth 100000
open Go.ChangeShapes Go.WideShapes Go.ChangeAt Go.RowKit
set_option linter.unusedVariables false
set_option linter.unusedSimpArgs false

/-- A slice of dots that reads as ms, below B. -/
def RdD (w : World) (B : Nat) (A : Option Addr) (ms : List PtV) : Prop :=
  0 < ms.length → ∃ b off, A = some ⟨b, off, none⟩ ∧ b < B ∧ ∀ j, j < ms.length → w.cell? ⟨b, off + j * 2, none⟩ = some (.int .u64 ((ms.getD j ⟨0, 0⟩).p : Int)) ∧ w.cell? ⟨b, off + j * 2 + 1, none⟩ = some (.int .i64 ((ms.getD j ⟨0, 0⟩).r : Int))
theorem RdD.below {w w' : World} {B : Nat} {A : Option Addr} {ms : List PtV} (h : RdD w B A ms) (hb : Below B w w') : RdD w' B A ms := fun hn => by
  obtain ⟨b, off, e, hlt, hc⟩ := h hn
  exact ⟨b, off, e, hlt, fun j hj => ⟨(hb.cell (p := ⟨b, _, none⟩) hlt).trans (hc j hj).1, (hb.cell (p := ⟨b, _, none⟩) hlt).trans (hc j hj).2⟩⟩
theorem RdD.more {w : World} {B C : Nat} {A : Option Addr} {ms : List PtV} (h : RdD w B A ms) (hB : B ≤ C) : RdD w C A ms := fun hn => by
  obtain ⟨b, off, e, hlt, hc⟩ := h hn
  exact ⟨b, off, e, by omega, hc⟩
def rowD (l : List PtV) : List Value := l.flatMap fun d => [.int .u64 (d.p : Int), .int .i64 (d.r : Int)]
theorem rowD_len (l : List PtV) : (rowD l).length = l.length * 2 := by
  induction l with
  | nil => rfl
  | cons p l ih =>
    have e : rowD (p :: l) = [.int .u64 (p.p : Int), .int .i64 (p.r : Int)] ++ rowD l := rfl
    rw [e, List.length_append, ih, List.length_cons, List.length_cons, List.length_cons, List.length_nil]
    omega
theorem rowD_at : ∀ (l : List PtV) (k : Nat) (h : k < l.length), (rowD l)[k * 2]? = some (.int .u64 ((l.getD k ⟨0, 0⟩).p : Int)) ∧ (rowD l)[k * 2 + 1]? = some (.int .i64 ((l.getD k ⟨0, 0⟩).r : Int))
  | [], _, h => absurd h (by simp)
  | p :: l, 0, _ => ⟨rfl, rfl⟩
  | p :: l, k + 1, h => by
    have ih := rowD_at l k (by simpa using h)
    have e : rowD (p :: l) = [.int .u64 (p.p : Int), .int .i64 (p.r : Int)] ++ rowD l := rfl
    have g : ∀ j, ([Value.int .u64 (p.p : Int), .int .i64 (p.r : Int)] ++ rowD l)[(k + 1) * 2 + j]? = (rowD l)[k * 2 + j]? := fun j => by
      rw [List.getElem?_append_right (by simp only [List.length_cons, List.length_nil]; omega)]
      congr 1
      simp only [List.length_cons, List.length_nil]
      omega
    rw [e]
    have g0 := g 0
    rw [Nat.add_zero, Nat.add_zero] at g0
    rw [g0, g 1]
    simpa using ih
theorem rowD_one (l : List PtV) : ∀ u ∈ rowD l, u.oneCell' = true := fun u hu => by
  unfold rowD at hu
  rw [List.mem_flatMap] at hu
  obtain ⟨d, _, h⟩ := hu
  simp at h
  rcases h with rfl | rfl <;> rfl
theorem news_of_rdD {w : World} {B b off : Nat} {m : List PtV} (hr : RdD w B (some ⟨b, off, none⟩) m) : ∀ j u, (rowD m)[j]? = some u → w.cell? ((⟨b, off, none⟩ : Addr).add j) = some u := by
  intro j u hu
  have hl := rowD_len m
  have hj : j < m.length * 2 := by
    have := (List.getElem?_eq_some_iff.1 hu).1
    omega
  obtain ⟨b', off', e, _, hc⟩ := hr (by omega)
  injection e with e
  injection e with e1 e2 e3
  subst e1 e2
  have hadd : (⟨b, off, none⟩ : Addr).add j = ⟨b, off + j, none⟩ := by unfold Addr.add; split <;> simp_all
  rw [hadd]
  have hk : j / 2 < m.length := by omega
  obtain ⟨h1, h2⟩ := hc (j / 2) hk
  obtain ⟨r1, r2⟩ := rowD_at m (j / 2) hk
  rcases (by omega : j = j / 2 * 2 ∨ j = j / 2 * 2 + 1) with e | e
  · rw [e] at hu
    rw [r1] at hu
    rw [e, ← hu]
    exact h1
  · rw [e] at hu
    rw [r2] at hu
    rw [e, ← hu]
    exact h2
theorem RdD.take {w : World} {B : Nat} {A : Option Addr} {ms : List PtV} (h : RdD w B A ms) (k : Nat) : RdD w B A (ms.take k) := fun hn => by
  rw [List.length_take] at hn
  obtain ⟨b, off, e, hlt, hc⟩ := h (by omega)
  refine ⟨b, off, e, hlt, fun j hj => ?_⟩
  rw [List.length_take] at hj
  have e2 : (ms.take k).getD j ⟨0, 0⟩ = ms.getD j ⟨0, 0⟩ := by
    simp only [List.getD_eq_getElem?_getD, List.getElem?_take]
    rw [if_pos (by omega)]
  rw [e2]
  exact hc j (by omega)
theorem RdD.nil {w : World} {B : Nat} {A : Option Addr} : RdD w B A [] := fun h => absurd h (by simp)
theorem infoD : (Tryd.prog.info? 61).map (fun i => (i.size, i.bytes, i.zero)) = some (2, 16, some (.agg #[.int .u64 0, .int .i64 0])) := by kernel_rfl
def OwnD (w : World) (base : Nat) (v : Value) (l : List PtV) : Prop := w.ownsRow base 61 2 v l.length (rowD l)
section
variable {w w' : World} {base : Nat} {v : Value} {l : List PtV}
theorem OwnD.form (h : OwnD w base v l) : ∃ A c, v = .slice A l.length c ∧ RdD w w.heap.size A l ∧ (∀ g, v.ownBlock = some g → base ≤ g ∧ g < w.heap.size) := by
  have hlt := World.ownsRow.lt h
  have hr := rowD_len l
  rcases h.2 with ⟨hv, h0⟩ | ⟨g, cap, cur, hv, hb, hg, hn, hm, hs, ht⟩
  · have hl : l = [] := List.eq_nil_of_length_eq_zero h0
    subst hl
    exact ⟨none, 0, hv, RdD.nil, hlt⟩
  · subst hv
    refine ⟨_, cap, rfl, fun _ => ⟨g, 0, rfl, (hlt g rfl).2, fun j hj => ?_⟩, hlt⟩
    have hc := World.ownsRow.cellAt h (j * 2) (by omega)
    have hd := World.ownsRow.cellAt h (j * 2 + 1) (by omega)
    rw [Nat.zero_add, hc, hd]
    exact rowD_at l j hj
theorem OwnD.rd {A : Option Addr} {n c : Nat} (h : OwnD w base (.slice A n c) l) : RdD w w.heap.size A l ∧ n = l.length := by
  obtain ⟨A', c', e, hr, _⟩ := h.form
  injection e with e1 e2 e3
  subst e1
  exact ⟨hr, e2⟩
theorem OwnD.cap {A : Option Addr} {n c : Nat} (h : OwnD w base (.slice A n c) l) : n ≤ c ∧ c ≤ 9223372036854775807 := by
  rcases h.2 with ⟨h0, _⟩ | ⟨g, cap, cur, hv, _, _, h1, h2, _⟩
  · injection h0 with e1 e2 e3
    omega
  · injection hv with e1 e2 e3
    unfold maxLen at h2
    omega
theorem OwnD.nil_ (w : World) (base : Nat) : OwnD w base (.slice none 0 0) [] := World.ownsRow_nil w base 61 2
theorem OwnD.lt (h : OwnD w base v l) : ∀ g, v.ownBlock = some g → base ≤ g ∧ g < w.heap.size := World.ownsRow.lt h
theorem OwnD.kept {row : Option Nat} (h : OwnD w base v l) (hg : w.grownBy w' row) (hne : v.ownBlock = none ∨ v.ownBlock ≠ row) : OwnD w' base v l := World.ownsRow.kept h hg hne
theorem OwnD.below {B : Nat} (h : OwnD w base v l) (hb : Below B w w') (hB : w.heap.size ≤ B) : OwnD w' base v l := by
  refine World.ownsRow.kept (row := none) h ⟨hb.os, hb.tape, hb.output, hb.size, fun k hk _ => hb.block k (by omega)⟩ ?_
  cases h1 : v.ownBlock with
  | none => exact .inl rfl
  | some g => exact .inr (by simp)
theorem OwnD.alloc (h : OwnD w base v l) (o : Obj) : OwnD (w.alloc o) base v l := World.ownsRow.alloc h o
theorem news_of_rdDa {B : Nat} {ad : Addr} {m : List PtV} (hr : RdD w B (some ad) m) : ∀ j u, (rowD m)[j]? = some u → w.cell? (ad.add j) = some u := by
  intro j u hu
  have hl := rowD_len m
  have hj := (List.getElem?_eq_some_iff.1 hu).1
  obtain ⟨b, off, e, _⟩ := id hr (by omega)
  injection e with e
  subst e
  exact news_of_rdD hr j u hu
/-- append onto an own slice. -/
theorem run_appDD (h : OwnD w base v l) {B : Nat} {A : Option Addr} {m : List PtV} (hr : RdD w B A m) (n c : Nat) (hn : m.length = n) (ty : TypeId)
    (hsz : l.length + n ≤ 1000000) (hbase : base ≤ w.heap.size) :
    ∃ v' w', (Builtin.append_ #[55, 55] ty #[v, .slice A n c]).run Tryd.prog w = .ok v' w' ∧ OwnD w' base v' (l ++ m) ∧ w.grownBy w' v.ownBlock ∧ (v'.ownBlock = v.ownBlock ∨ v'.ownBlock = some w.heap.size) := by
  subst hn
  obtain ⟨i, hi, hii⟩ := Option.map_eq_some_iff.1 infoD
  simp only [Prod.mk.injEq] at hii
  obtain ⟨hsize, hby, hz⟩ := hii
  rcases A with _ | ad
  · have hm : m = [] := by
      rcases Nat.eq_zero_or_pos m.length with h0 | h0
      · exact List.eq_nil_of_length_eq_zero h0
      · obtain ⟨_, _, e, _⟩ := hr h0
        cases e
    subst hm
    have hrun : (Builtin.append_ #[55, 55] ty #[v, .slice none 0 c]).run Tryd.prog w = .ok v w := by
      rcases h.2 with ⟨hv, h0⟩ | ⟨g, cap, cur, hv, _, _, hnc, _⟩
      · subst hv
        simp [Builtin.append_, run_underlying Tryd.underlying55, sizeOf, typeInfo, hi, Builtin.lenOf, Builtin.firstCells]
      · subst hv
        simp [Builtin.append_, run_underlying Tryd.underlying55, sizeOf, typeInfo, hi, Builtin.lenOf, Builtin.firstCells, hnc, storeCells]
    exact ⟨v, w, hrun, by rw [List.append_nil]; exact h, World.grownBy.refl w _, .inl rfl⟩
  · obtain ⟨v', w', hrun, h2, h3, _, h5⟩ := run_append_own_at (P := Tryd.prog) w base 55 ty 61 i (.agg #[.int .u64 0, .int .i64 0]) 2 16 Tryd.underlying55 hi hz hsize hby rfl (by decide) v l.length (rowD l) h ad m.length c (rowD m)
      (rowD_len m) (news_of_rdDa hr) (rowD_one m) (by simp only [maxLen]; omega) (by omega) hbase
    refine ⟨v', w', hrun, ?_, h3, h5⟩
    have e : rowD l ++ rowD m = rowD (l ++ m) := by simp [rowD]
    rw [e] at h2
    unfold OwnD
    rw [List.length_append]
    exact h2
/-- At the operation. -/
theorem wp_appDD {o : Oper} {a : Act} {K : Act → World → Prop} {Q : Exit → Act → World → Prop} (s x : Operand)
    (ho : o.op = .call { callee := .builtin .append, args := #[s, x], argTypes := #[55, 55] })
    (h : OwnD w base v l) (hs : a.eval s = v) {B : Nat} {A : Option Addr} {m : List PtV} (n c : Nat) (hx : a.eval x = .slice A n c) (hr : RdD w B A m) (hn : m.length = n)
    (hsz : l.length + n ≤ 1000000) (hbase : base ≤ w.heap.size)
    (hK : ∀ A' c' w', OwnD w' base (.slice A' (l.length + n) c') (l ++ m) → w.grownBy w' v.ownBlock → ((Value.slice A' (l.length + n) c').ownBlock = v.ownBlock ∨ (Value.slice A' (l.length + n) c').ownBlock = some w.heap.size) → K (a.put o.dst (.slice A' (l.length + n) c')) w') : o.wp Tryd.prog a w K Q := by
  obtain ⟨v', w', hrun, h2, h3, h4⟩ := run_appDD h hr n c hn o.type hsz hbase
  obtain ⟨A', c', hv, _⟩ := h2.form
  rw [List.length_append, hn] at hv
  subst hv
  unfold Oper.wp execOp
  simp only [ho, resolve, invoke, builtin, Sem.run_bind, Sem.run_pure, Result.andThen_ok, List.map_toArray, List.map_cons, List.map_nil, hs, hx, hrun]
  exact hK A' c' w' h2 h3 h4
theorem wpList_appDD {ops : Array Oper} {rest : List Oper} {o : Oper} {a : Act} {Q : Exit → Act → World → Prop} (hgd : o.guard = none) (s x : Operand)
    (ho : o.op = .call { callee := .builtin .append, args := #[s, x], argTypes := #[55, 55] })
    (h : OwnD w base v l) (hs : a.eval s = v) {B : Nat} {A : Option Addr} {m : List PtV} (n c : Nat) (hx : a.eval x = .slice A n c) (hr : RdD w B A m) (hn : m.length = n)
    (hsz : l.length + n ≤ 1000000) (hbase : base ≤ w.heap.size)
    (hK : ∀ A' c' w', OwnD w' base (.slice A' (l.length + n) c') (l ++ m) → w.grownBy w' v.ownBlock → ((Value.slice A' (l.length + n) c').ownBlock = v.ownBlock ∨ (Value.slice A' (l.length + n) c').ownBlock = some w.heap.size) → wpList Tryd.prog ops Q rest (a.put o.dst (.slice A' (l.length + n) c')) w') : wpList Tryd.prog ops Q (o :: rest) a w :=
  wpList_plain hgd fun _ hk => wp_appDD s x ho h hs n c hx hr hn hsz hbase fun A' c' w' h2 h3 h4 => hk _ _ (hK A' c' w' h2 h3 h4)
end
end Go.Proofs.YtegfnlnbhhmkjaaDoor

namespace Go.Proofs.YtegfnlnbhhmkjaaDoor
set_option maxRecDepth 100000
open Go.ChangeShapes Go.WideShapes Go.ChangeAt Go.RowKit
set_option linter.unusedVariables false
set_option linter.unusedSimpArgs false

/-- A pair: who, for whom. -/
structure PrV where
  p : Nat
  r : Nat
instance : Inhabited PrV := ⟨⟨0, 0⟩⟩
/-- A slice of dots that reads as ms, below B. -/
def RdE (w : World) (B : Nat) (A : Option Addr) (ms : List PrV) : Prop :=
  0 < ms.length → ∃ b off, A = some ⟨b, off, none⟩ ∧ b < B ∧ ∀ j, j < ms.length → w.cell? ⟨b, off + j * 2, none⟩ = some (.int .i64 ((ms.getD j ⟨0, 0⟩).p : Int)) ∧ w.cell? ⟨b, off + j * 2 + 1, none⟩ = some (.int .i64 ((ms.getD j ⟨0, 0⟩).r : Int))
theorem RdE.below {w w' : World} {B : Nat} {A : Option Addr} {ms : List PrV} (h : RdE w B A ms) (hb : Below B w w') : RdE w' B A ms := fun hn => by
  obtain ⟨b, off, e, hlt, hc⟩ := h hn
  exact ⟨b, off, e, hlt, fun j hj => ⟨(hb.cell (p := ⟨b, _, none⟩) hlt).trans (hc j hj).1, (hb.cell (p := ⟨b, _, none⟩) hlt).trans (hc j hj).2⟩⟩
theorem RdE.more {w : World} {B C : Nat} {A : Option Addr} {ms : List PrV} (h : RdE w B A ms) (hB : B ≤ C) : RdE w C A ms := fun hn => by
  obtain ⟨b, off, e, hlt, hc⟩ := h hn
  exact ⟨b, off, e, by omega, hc⟩
def rowE (l : List PrV) : List Value := l.flatMap fun d => [.int .i64 (d.p : Int), .int .i64 (d.r : Int)]
theorem rowE_len (l : List PrV) : (rowE l).length = l.length * 2 := by
  induction l with
  | nil => rfl
  | cons p l ih =>
    have e : rowE (p :: l) = [.int .i64 (p.p : Int), .int .i64 (p.r : Int)] ++ rowE l := rfl
    rw [e, List.length_append, ih, List.length_cons, List.length_cons, List.length_cons, List.length_nil]
    omega
theorem rowE_at : ∀ (l : List PrV) (k : Nat) (h : k < l.length), (rowE l)[k * 2]? = some (.int .i64 ((l.getD k ⟨0, 0⟩).p : Int)) ∧ (rowE l)[k * 2 + 1]? = some (.int .i64 ((l.getD k ⟨0, 0⟩).r : Int))
  | [], _, h => absurd h (by simp)
  | p :: l, 0, _ => ⟨rfl, rfl⟩
  | p :: l, k + 1, h => by
    have ih := rowE_at l k (by simpa using h)
    have e : rowE (p :: l) = [.int .i64 (p.p : Int), .int .i64 (p.r : Int)] ++ rowE l := rfl
    have g : ∀ j, ([Value.int .i64 (p.p : Int), .int .i64 (p.r : Int)] ++ rowE l)[(k + 1) * 2 + j]? = (rowE l)[k * 2 + j]? := fun j => by
      rw [List.getElem?_append_right (by simp only [List.length_cons, List.length_nil]; omega)]
      congr 1
      simp only [List.length_cons, List.length_nil]
      omega
    rw [e]
    have g0 := g 0
    rw [Nat.add_zero, Nat.add_zero] at g0
    rw [g0, g 1]
    simpa using ih
theorem rowE_one (l : List PrV) : ∀ u ∈ rowE l, u.oneCell' = true := fun u hu => by
  unfold rowE at hu
  rw [List.mem_flatMap] at hu
  obtain ⟨d, _, h⟩ := hu
  simp at h
  rcases h with rfl | rfl <;> rfl
theorem news_of_rdE {w : World} {B b off : Nat} {m : List PrV} (hr : RdE w B (some ⟨b, off, none⟩) m) : ∀ j u, (rowE m)[j]? = some u → w.cell? ((⟨b, off, none⟩ : Addr).add j) = some u := by
  intro j u hu
  have hl := rowE_len m
  have hj : j < m.length * 2 := by
    have := (List.getElem?_eq_some_iff.1 hu).1
    omega
  obtain ⟨b', off', e, _, hc⟩ := hr (by omega)
  injection e with e
  injection e with e1 e2 e3
  subst e1 e2
  have hadd : (⟨b, off, none⟩ : Addr).add j = ⟨b, off + j, none⟩ := by unfold Addr.add; split <;> simp_all
  rw [hadd]
  have hk : j / 2 < m.length := by omega
  obtain ⟨h1, h2⟩ := hc (j / 2) hk
  obtain ⟨r1, r2⟩ := rowE_at m (j / 2) hk
  rcases (by omega : j = j / 2 * 2 ∨ j = j / 2 * 2 + 1) with e | e
  · rw [e] at hu
    rw [r1] at hu
    rw [e, ← hu]
    exact h1
  · rw [e] at hu
    rw [r2] at hu
    rw [e, ← hu]
    exact h2
theorem RdE.take {w : World} {B : Nat} {A : Option Addr} {ms : List PrV} (h : RdE w B A ms) (k : Nat) : RdE w B A (ms.take k) := fun hn => by
  rw [List.length_take] at hn
  obtain ⟨b, off, e, hlt, hc⟩ := h (by omega)
  refine ⟨b, off, e, hlt, fun j hj => ?_⟩
  rw [List.length_take] at hj
  have e2 : (ms.take k).getD j ⟨0, 0⟩ = ms.getD j ⟨0, 0⟩ := by
    simp only [List.getD_eq_getElem?_getD, List.getElem?_take]
    rw [if_pos (by omega)]
  rw [e2]
  exact hc j (by omega)
theorem RdE.nil {w : World} {B : Nat} {A : Option Addr} : RdE w B A [] := fun h => absurd h (by simp)
theorem infoE : (Tryd.prog.info? 38).map (fun i => (i.size, i.bytes, i.zero)) = some (2, 16, some (.agg #[.int .i64 0, .int .i64 0])) := by kernel_rfl
def OwnE (w : World) (base : Nat) (v : Value) (l : List PrV) : Prop := w.ownsRow base 38 2 v l.length (rowE l)
section
variable {w w' : World} {base : Nat} {v : Value} {l : List PrV}
theorem OwnE.form (h : OwnE w base v l) : ∃ A c, v = .slice A l.length c ∧ RdE w w.heap.size A l ∧ (∀ g, v.ownBlock = some g → base ≤ g ∧ g < w.heap.size) := by
  have hlt := World.ownsRow.lt h
  have hr := rowE_len l
  rcases h.2 with ⟨hv, h0⟩ | ⟨g, cap, cur, hv, hb, hg, hn, hm, hs, ht⟩
  · have hl : l = [] := List.eq_nil_of_length_eq_zero h0
    subst hl
    exact ⟨none, 0, hv, RdE.nil, hlt⟩
  · subst hv
    refine ⟨_, cap, rfl, fun _ => ⟨g, 0, rfl, (hlt g rfl).2, fun j hj => ?_⟩, hlt⟩
    have hc := World.ownsRow.cellAt h (j * 2) (by omega)
    have hd := World.ownsRow.cellAt h (j * 2 + 1) (by omega)
    rw [Nat.zero_add, hc, hd]
    exact rowE_at l j hj
theorem OwnE.rd {A : Option Addr} {n c : Nat} (h : OwnE w base (.slice A n c) l) : RdE w w.heap.size A l ∧ n = l.length := by
  obtain ⟨A', c', e, hr, _⟩ := h.form
  injection e with e1 e2 e3
  subst e1
  exact ⟨hr, e2⟩
theorem OwnE.cap {A : Option Addr} {n c : Nat} (h : OwnE w base (.slice A n c) l) : n ≤ c ∧ c ≤ 9223372036854775807 := by
  rcases h.2 with ⟨h0, _⟩ | ⟨g, cap, cur, hv, _, _, h1, h2, _⟩
  · injection h0 with e1 e2 e3
    omega
  · injection hv with e1 e2 e3
    unfold maxLen at h2
    omega
theorem OwnE.nil_ (w : World) (base : Nat) : OwnE w base (.slice none 0 0) [] := World.ownsRow_nil w base 38 2
theorem OwnE.lt (h : OwnE w base v l) : ∀ g, v.ownBlock = some g → base ≤ g ∧ g < w.heap.size := World.ownsRow.lt h
theorem OwnE.kept {row : Option Nat} (h : OwnE w base v l) (hg : w.grownBy w' row) (hne : v.ownBlock = none ∨ v.ownBlock ≠ row) : OwnE w' base v l := World.ownsRow.kept h hg hne
theorem OwnE.below {B : Nat} (h : OwnE w base v l) (hb : Below B w w') (hB : w.heap.size ≤ B) : OwnE w' base v l := by
  refine World.ownsRow.kept (row := none) h ⟨hb.os, hb.tape, hb.output, hb.size, fun k hk _ => hb.block k (by omega)⟩ ?_
  cases h1 : v.ownBlock with
  | none => exact .inl rfl
  | some g => exact .inr (by simp)
theorem OwnE.alloc (h : OwnE w base v l) (o : Obj) : OwnE (w.alloc o) base v l := World.ownsRow.alloc h o
theorem news_of_rdEa {B : Nat} {ad : Addr} {m : List PrV} (hr : RdE w B (some ad) m) : ∀ j u, (rowE m)[j]? = some u → w.cell? (ad.add j) = some u := by
  intro j u hu
  have hl := rowE_len m
  have hj := (List.getElem?_eq_some_iff.1 hu).1
  obtain ⟨b, off, e, _⟩ := id hr (by omega)
  injection e with e
  subst e
  exact news_of_rdE hr j u hu
/-- append onto an own slice. -/
theorem run_appEE (h : OwnE w base v l) {B : Nat} {A : Option Addr} {m : List PrV} (hr : RdE w B A m) (n c : Nat) (hn : m.length = n) (ty : TypeId)
    (hsz : l.length + n ≤ 1000000) (hbase : base ≤ w.heap.size) :
    ∃ v' w', (Builtin.append_ #[34, 34] ty #[v, .slice A n c]).run Tryd.prog w = .ok v' w' ∧ OwnE w' base v' (l ++ m) ∧ w.grownBy w' v.ownBlock ∧ (v'.ownBlock = v.ownBlock ∨ v'.ownBlock = some w.heap.size) := by
  subst hn
  obtain ⟨i, hi, hii⟩ := Option.map_eq_some_iff.1 infoE
  simp only [Prod.mk.injEq] at hii
  obtain ⟨hsize, hby, hz⟩ := hii
  rcases A with _ | ad
  · have hm : m = [] := by
      rcases Nat.eq_zero_or_pos m.length with h0 | h0
      · exact List.eq_nil_of_length_eq_zero h0
      · obtain ⟨_, _, e, _⟩ := hr h0
        cases e
    subst hm
    have hrun : (Builtin.append_ #[34, 34] ty #[v, .slice none 0 c]).run Tryd.prog w = .ok v w := by
      rcases h.2 with ⟨hv, h0⟩ | ⟨g, cap, cur, hv, _, _, hnc, _⟩
      · subst hv
        simp [Builtin.append_, run_underlying Tryd.underlying34, sizeOf, typeInfo, hi, Builtin.lenOf, Builtin.firstCells]
      · subst hv
        simp [Builtin.append_, run_underlying Tryd.underlying34, sizeOf, typeInfo, hi, Builtin.lenOf, Builtin.firstCells, hnc, storeCells]
    exact ⟨v, w, hrun, by rw [List.append_nil]; exact h, World.grownBy.refl w _, .inl rfl⟩
  · obtain ⟨v', w', hrun, h2, h3, _, h5⟩ := run_append_own_at (P := Tryd.prog) w base 34 ty 38 i (.agg #[.int .i64 0, .int .i64 0]) 2 16 Tryd.underlying34 hi hz hsize hby rfl (by decide) v l.length (rowE l) h ad m.length c (rowE m)
      (rowE_len m) (news_of_rdEa hr) (rowE_one m) (by simp only [maxLen]; omega) (by omega) hbase
    refine ⟨v', w', hrun, ?_, h3, h5⟩
    have e : rowE l ++ rowE m = rowE (l ++ m) := by simp [rowE]
    rw [e] at h2
    unfold OwnE
    rw [List.length_append]
    exact h2
/-- At the operation. -/
theorem wp_appEE {o : Oper} {a : Act} {K : Act → World → Prop} {Q : Exit → Act → World → Prop} (s x : Operand)
    (ho : o.op = .call { callee := .builtin .append, args := #[s, x], argTypes := #[34, 34] })
    (h : OwnE w base v l) (hs : a.eval s = v) {B : Nat} {A : Option Addr} {m : List PrV} (n c : Nat) (hx : a.eval x = .slice A n c) (hr : RdE w B A m) (hn : m.length = n)
    (hsz : l.length + n ≤ 1000000) (hbase : base ≤ w.heap.size)
    (hK : ∀ A' c' w', OwnE w' base (.slice A' (l.length + n) c') (l ++ m) → w.grownBy w' v.ownBlock → ((Value.slice A' (l.length + n) c').ownBlock = v.ownBlock ∨ (Value.slice A' (l.length + n) c').ownBlock = some w.heap.size) → K (a.put o.dst (.slice A' (l.length + n) c')) w') : o.wp Tryd.prog a w K Q := by
  obtain ⟨v', w', hrun, h2, h3, h4⟩ := run_appEE h hr n c hn o.type hsz hbase
  obtain ⟨A', c', hv, _⟩ := h2.form
  rw [List.length_append, hn] at hv
  subst hv
  unfold Oper.wp execOp
  simp only [ho, resolve, invoke, builtin, Sem.run_bind, Sem.run_pure, Result.andThen_ok, List.map_toArray, List.map_cons, List.map_nil, hs, hx, hrun]
  exact hK A' c' w' h2 h3 h4
theorem wpList_appEE {ops : Array Oper} {rest : List Oper} {o : Oper} {a : Act} {Q : Exit → Act → World → Prop} (hgd : o.guard = none) (s x : Operand)
    (ho : o.op = .call { callee := .builtin .append, args := #[s, x], argTypes := #[34, 34] })
    (h : OwnE w base v l) (hs : a.eval s = v) {B : Nat} {A : Option Addr} {m : List PrV} (n c : Nat) (hx : a.eval x = .slice A n c) (hr : RdE w B A m) (hn : m.length = n)
    (hsz : l.length + n ≤ 1000000) (hbase : base ≤ w.heap.size)
    (hK : ∀ A' c' w', OwnE w' base (.slice A' (l.length + n) c') (l ++ m) → w.grownBy w' v.ownBlock → ((Value.slice A' (l.length + n) c').ownBlock = v.ownBlock ∨ (Value.slice A' (l.length + n) c').ownBlock = some w.heap.size) → wpList Tryd.prog ops Q rest (a.put o.dst (.slice A' (l.length + n) c')) w') : wpList Tryd.prog ops Q (o :: rest) a w :=
  wpList_plain hgd fun _ hk => wp_appEE s x ho h hs n c hx hr hn hsz hbase fun A' c' w' h2 h3 h4 => hk _ _ (hK A' c' w' h2 h3 h4)
end
end Go.Proofs.YtegfnlnbhhmkjaaDoor

namespace Go.Proofs.YtegfnlnbhhmkjaaDoor
set_option maxRecDepth 100000
open Go.RowKit
set_option linter.unusedVariables false
set_option linter.unusedSimpArgs false

theorem infoW : (Tryd.prog.info? 4).map (fun i => (i.zero, i.size, i.bytes)) = some (some (.bool false), 1, 1) := by kernel_rfl
/-- The cells of a row of bytes. -/
def rowW (l : List Bool) : Array Value := (l.map fun (b : Bool) => Value.bool b).toArray

theorem rowW_size (l : List Bool) : (rowW l).size = l.length := by simp [rowW]
theorem rowW_get (l : List Bool) (i : Nat) : (rowW l)[i]? = l[i]?.map fun (b : Bool) => Value.bool b := by simp [rowW]
theorem rowW_at (l : List Bool) (i : Nat) (h : i < l.length) : (rowW l)[i]? = some (.bool (l.getD i false)) := by
  rw [rowW_get, List.getElem?_eq_getElem h]
  simp [List.getD, h]
theorem rowW_set (l : List Bool) (i : Nat) (b : Bool) : (rowW l).setIfInBounds i (.bool b) = rowW (l.set i b) := by
  simp [rowW, List.map_set]
/-- A slice at A reads as the bytes l; its memory lies below block B. A is of no account where l is empty. -/
def RdW (w : World) (B : Nat) (A : Option Addr) (l : List Bool) : Prop :=
  0 < l.length → ∃ b off, A = some ⟨b, off, none⟩ ∧ b < B ∧ ∀ j, j < l.length → w.cell? ⟨b, off + j, none⟩ = some (.bool (l.getD j false))

section
variable {w w' : World} {B B' : Nat} {A : Option Addr} {l : List Bool}
theorem RdW.nil : RdW w B A [] := fun h => absurd h (by simp)
theorem RdW.at_ {k : Nat} (h : RdW w B A l) (hk : k < l.length) : ∃ b off, A = some ⟨b, off, none⟩ ∧ b < B ∧ w.cell? ⟨b, off + k, none⟩ = some (.bool (l.getD k false)) := by
  obtain ⟨b, off, e, hb, hc⟩ := h (by omega)
  exact ⟨b, off, e, hb, hc k hk⟩
theorem RdW.keep (h : RdW w B A l) (hk : ∀ p : Addr, p.block < B → w'.cell? p = w.cell? p) : RdW w' B A l := fun hn => by
  obtain ⟨b, off, e, hb, hc⟩ := h hn
  exact ⟨b, off, e, hb, fun j hj => (hk _ hb).trans (hc j hj)⟩
theorem RdW.more (h : RdW w B A l) (hB : B ≤ B') : RdW w B' A l := fun hn => by
  obtain ⟨b, off, e, hb, hc⟩ := h hn
  exact ⟨b, off, e, by omega, hc⟩
theorem RdW.below (h : RdW w B A l) (hb : Below B w w') : RdW w' B A l := h.keep fun _ hp => hb.cell hp
theorem RdW.drew (h : RdW w B A l) : RdW w.drew B A l := h
theorem RdW.drewN (h : RdW w B A l) (n : Nat) : RdW (w.drewN n) B A l := h
theorem RdW.alloc (h : RdW w B A l) (hB : B ≤ w.heap.size) (o : Obj) : RdW (w.alloc o) B A l := h.keep fun p hp => World.cell?_alloc_lt w o p (by omega)
theorem RdW.setCell (h : RdW w B A l) {p : Addr} (hB : B ≤ p.block) (u : Value) : RdW (w.setCell p u) B A l :=
  h.keep fun q hq => World.cell?_setCell_other w p q u (fun e => by subst e; omega)
theorem RdW.take (h : RdW w B A l) (n : Nat) : RdW w B A (l.take n) := fun hn => by
  have hl : (l.take n).length ≤ l.length := by simp; omega
  obtain ⟨b, off, e, hb, hc⟩ := h (by omega)
  refine ⟨b, off, e, hb, fun j hj => ?_⟩
  rw [hc j (by omega)]
  have : j < n := by simp at hj; omega
  simp [List.getD, this]
theorem RdW.drop {b off : Nat} (h : RdW w B (some ⟨b, off, none⟩) l) (n : Nat) : RdW w B (some ⟨b, off + n, none⟩) (l.drop n) := fun hn => by
  simp at hn
  obtain ⟨b', off', e, hb, hc⟩ := h (by omega)
  injection e with e
  injection e with e1 e2
  subst e1 e2
  refine ⟨b, off + n, rfl, hb, fun j hj => ?_⟩
  simp at hj
  rw [Nat.add_assoc, hc (n + j) (by omega)]
  simp [List.getD]
end

/-- v is a slice of the call's own (its block from base on, or none), and reads as l. -/
def OwnW (w : World) (base : Nat) (v : Value) (l : List Bool) : Prop := w.ownsRow base 4 1 v l.length (rowW l).toList

section
variable {w w' : World} {base : Nat} {v : Value} {l : List Bool}
theorem OwnW.form (h : OwnW w base v l) : ∃ A c, v = .slice A l.length c ∧ RdW w w.heap.size A l ∧ (∀ g, v.ownBlock = some g → base ≤ g ∧ g < w.heap.size) := by
  have hlt := World.ownsRow.lt h
  rcases h.2 with ⟨hv, h0⟩ | ⟨g, cap, cur, hv, hb, hg, hn, hm, hs, ht⟩
  · have hl : l = [] := List.eq_nil_of_length_eq_zero h0
    subst hl
    exact ⟨none, 0, hv, RdW.nil, hlt⟩
  · subst hv
    refine ⟨_, cap, rfl, fun _ => ⟨g, 0, rfl, (hlt g rfl).2, fun j hj => ?_⟩, hlt⟩
    have hc := World.ownsRow.cellAt h j (by omega)
    rw [Nat.zero_add, hc]
    have := rowW_at l j hj
    simpa using this
theorem OwnW.rd {A : Option Addr} {n c : Nat} (h : OwnW w base (.slice A n c) l) : RdW w w.heap.size A l ∧ n = l.length := by
  obtain ⟨A', c', e, hr, _⟩ := h.form
  injection e with e1 e2 e3
  subst e1
  exact ⟨hr, e2⟩
theorem OwnW.nil_ (w : World) (base : Nat) : OwnW w base (.slice none 0 0) [] := World.ownsRow_nil w base 4 1
/-- '[]byte{}', '[]byte{x}': just laid. -/
theorem OwnW.lit (w : World) (base : Nat) (l : List Bool) (hb : base ≤ w.heap.size) (hm : l.length ≤ maxLen) : OwnW (w.alloc (.cells (rowW l) 4)) base (.slice (some ⟨w.heap.size, 0, none⟩) l.length l.length) l := by
  have h := World.ownsRow_lit (e := 4) (size := 1) w (rowW l) l.length hb hm (by rw [rowW_size, Nat.mul_one])
  exact h
theorem OwnW.kept {row : Option Nat} (h : OwnW w base v l) (hg : w.grownBy w' row) (hne : v.ownBlock = none ∨ v.ownBlock ≠ row) : OwnW w' base v l := World.ownsRow.kept h hg hne
theorem OwnW.below {B : Nat} (h : OwnW w base v l) (hb : Below B w w') (hB : w.heap.size ≤ B) : OwnW w' base v l := by
  refine World.ownsRow.kept (row := none) h ⟨hb.os, hb.tape, hb.output, hb.size, fun k hk _ => hb.block k (by omega)⟩ ?_
  cases h1 : v.ownBlock with
  | none => exact .inl rfl
  | some g => exact .inr (by simp)
theorem OwnW.drew (h : OwnW w base v l) : OwnW w.drew base v l := h
theorem OwnW.drewN (h : OwnW w base v l) (n : Nat) : OwnW (w.drewN n) base v l := h
theorem OwnW.alloc (h : OwnW w base v l) (o : Obj) : OwnW (w.alloc o) base v l := World.ownsRow.alloc h o

theorem news_of_rdW {B : Nat} {ad : Addr} {m : List Bool} (hr : RdW w B (some ad) m) : ∀ j u, (rowW m).toList[j]? = some u → w.cell? (ad.add j) = some u := by
  intro j u hu
  have hj : j < m.length := by
    have := (List.getElem?_eq_some_iff.1 hu).1
    simpa [rowW] using this
  obtain ⟨b, off, e, _, hc⟩ := hr (by omega)
  injection e with e
  subst e
  have hp : (⟨b, off, none⟩ : Addr).add j = ⟨b, off + j, none⟩ := by unfold Addr.add; split <;> simp_all
  rw [hp, hc j hj]
  have h2 := rowW_at m j hj
  have h3 : (rowW m).toList[j]? = (rowW m)[j]? := by simp
  rw [← hu, h3, h2]
theorem one_of_rowW (m : List Bool) : ∀ u ∈ (rowW m).toList, u.oneCell' = true := by
  intro u hu
  have h2 : u ∈ m.map (fun (b : Bool) => Value.bool b) := by simpa only [rowW, List.toList_toArray] using hu
  obtain ⟨b, _, rfl⟩ := List.mem_map.1 h2
  rfl

/-- append onto an own slice. -/
theorem run_appW (h : OwnW w base v l) {B : Nat} {A : Option Addr} {m : List Bool} (hr : RdW w B A m) (n c : Nat) (hn : m.length = n) (ty : TypeId)
    (hsz : l.length + n ≤ 1000000) (hbase : base ≤ w.heap.size) :
    ∃ v' w', (Builtin.append_ #[24, 24] ty #[v, .slice A n c]).run Tryd.prog w = .ok v' w' ∧ OwnW w' base v' (l ++ m) ∧ w.grownBy w' v.ownBlock ∧ (v'.ownBlock = v.ownBlock ∨ v'.ownBlock = some w.heap.size) := by
  subst hn
  obtain ⟨i, hi, hz, hsize, hby⟩ := info_parts infoW
  rcases A with _ | ad
  · have hm : m = [] := by
      rcases Nat.eq_zero_or_pos m.length with h0 | h0
      · exact List.eq_nil_of_length_eq_zero h0
      · obtain ⟨_, _, e, _⟩ := hr h0
        cases e
    subst hm
    have hrun : (Builtin.append_ #[24, 24] ty #[v, .slice none 0 c]).run Tryd.prog w = .ok v w := by
      rcases h.2 with ⟨hv, h0⟩ | ⟨g, cap, cur, hv, _, _, hnc, _⟩
      · subst hv
        simp [Builtin.append_, run_underlying Tryd.underlying24, sizeOf, typeInfo, hi, Builtin.lenOf, Builtin.firstCells]
      · subst hv
        simp [Builtin.append_, run_underlying Tryd.underlying24, sizeOf, typeInfo, hi, Builtin.lenOf, Builtin.firstCells, hnc, storeCells]
    exact ⟨v, w, hrun, by rw [List.append_nil]; exact h, World.grownBy.refl w _, .inl rfl⟩
  · obtain ⟨v', w', hrun, h2, h3, _, h5⟩ := run_append_own_at (P := Tryd.prog) w base 24 ty 4 i (.bool false) 1 1 Tryd.underlying24 hi hz hsize hby rfl (by decide) v l.length (rowW l).toList h ad m.length c (rowW m).toList
      (by simp [rowW]) (news_of_rdW hr) (one_of_rowW m) (by simp only [maxLen]; omega) (by omega) hbase
    refine ⟨v', w', hrun, ?_, h3, h5⟩
    have e : (rowW l).toList ++ (rowW m).toList = (rowW (l ++ m)).toList := by simp [rowW]
    rw [e] at h2
    unfold OwnW
    rw [List.length_append]
    exact h2

/-- At the operation. -/
theorem wp_appW {o : Oper} {a : Act} {K : Act → World → Prop} {Q : Exit → Act → World → Prop} (s x : Operand)
    (ho : o.op = .call { callee := .builtin .append, args := #[s, x], argTypes := #[24, 24] })
    (h : OwnW w base v l) (hs : a.eval s = v) {B : Nat} {A : Option Addr} {m : List Bool} (n c : Nat) (hx : a.eval x = .slice A n c) (hr : RdW w B A m) (hn : m.length = n)
    (hsz : l.length + n ≤ 1000000) (hbase : base ≤ w.heap.size)
    (hK : ∀ A' c' w', OwnW w' base (.slice A' (l.length + n) c') (l ++ m) → w.grownBy w' v.ownBlock → ((Value.slice A' (l.length + n) c').ownBlock = v.ownBlock ∨ (Value.slice A' (l.length + n) c').ownBlock = some w.heap.size) → K (a.put o.dst (.slice A' (l.length + n) c')) w') : o.wp Tryd.prog a w K Q := by
  obtain ⟨v', w', hrun, h2, h3, h4⟩ := run_appW h hr n c hn o.type hsz hbase
  obtain ⟨A', c', hv, _⟩ := h2.form
  rw [List.length_append, hn] at hv
  subst hv
  unfold Oper.wp execOp
  simp only [ho, resolve, invoke, builtin, Sem.run_bind, Sem.run_pure, Result.andThen_ok, List.map_toArray, List.map_cons, List.map_nil, hs, hx, hrun]
  exact hK A' c' w' h2 h3 h4
theorem wpList_appW {ops : Array Oper} {rest : List Oper} {o : Oper} {a : Act} {Q : Exit → Act → World → Prop} (hgd : o.guard = none) (s x : Operand)
    (ho : o.op = .call { callee := .builtin .append, args := #[s, x], argTypes := #[24, 24] })
    (h : OwnW w base v l) (hs : a.eval s = v) {B : Nat} {A : Option Addr} {m : List Bool} (n c : Nat) (hx : a.eval x = .slice A n c) (hr : RdW w B A m) (hn : m.length = n)
    (hsz : l.length + n ≤ 1000000) (hbase : base ≤ w.heap.size)
    (hK : ∀ A' c' w', OwnW w' base (.slice A' (l.length + n) c') (l ++ m) → w.grownBy w' v.ownBlock → ((Value.slice A' (l.length + n) c').ownBlock = v.ownBlock ∨ (Value.slice A' (l.length + n) c').ownBlock = some w.heap.size) → wpList Tryd.prog ops Q rest (a.put o.dst (.slice A' (l.length + n) c')) w') : wpList Tryd.prog ops Q (o :: rest) a w :=
  wpList_plain hgd fun _ hk => wp_appW s x ho h hs n c hx hr hn hsz hbase fun A' c' w' h2 h3 h4 => hk _ _ (hK A' c' w' h2 h3 h4)
theorem step_appW {ops : Array Oper} {o : Oper} {a : Act} {K : Act → World → Prop} {Q : Exit → Act → World → Prop} {E : Prop} (hgd : o.guard = none) (s x : Operand)
    (ho : o.op = .call { callee := .builtin .append, args := #[s, x], argTypes := #[24, 24] })
    (h : OwnW w base v l) (hs : a.eval s = v) {B : Nat} {A : Option Addr} {m : List Bool} (n c : Nat) (hx : a.eval x = .slice A n c) (hr : RdW w B A m) (hn : m.length = n)
    (hsz : l.length + n ≤ 1000000) (hbase : base ≤ w.heap.size)
    (hK : ∀ A' c' w', OwnW w' base (.slice A' (l.length + n) c') (l ++ m) → w.grownBy w' v.ownBlock → ((Value.slice A' (l.length + n) c').ownBlock = v.ownBlock ∨ (Value.slice A' (l.length + n) c').ownBlock = some w.heap.size) → K (a.put o.dst (.slice A' (l.length + n) c')) w') :
    if Region.wanted o (yielded ops a.tmps) = true then Oper.wp Tryd.prog o a w K Q else E := by
  have hw : Region.wanted o (yielded ops a.tmps) = true := by simp [Region.wanted, hgd]
  rw [if_pos hw]
  exact wp_appW s x ho h hs n c hx hr hn hsz hbase hK
end
end Go.Proofs.YtegfnlnbhhmkjaaDoor

namespace Go.Proofs.YtegfnlnbhhmkjaaDoor
set_option maxRecDepth 100000
open Go.RowKit
set_option linter.unusedVariables false
set_option linter.unusedSimpArgs false

theorem infoU : (Tryd.prog.info? 50).map (fun i => (i.zero, i.size, i.bytes)) = some (some (.int .u64 0), 1, 8) := by kernel_rfl
/-- The cells of a row of bytes. -/
def rowU (l : List Nat) : Array Value := (l.map fun (b : Nat) => Value.int .u64 (b : Int)).toArray

theorem rowU_size (l : List Nat) : (rowU l).size = l.length := by simp [rowU]
theorem rowU_get (l : List Nat) (i : Nat) : (rowU l)[i]? = l[i]?.map fun (b : Nat) => Value.int .u64 (b : Int) := by simp [rowU]
theorem rowU_at (l : List Nat) (i : Nat) (h : i < l.length) : (rowU l)[i]? = some (.int .u64 ((l.getD i 0 : Nat) : Int)) := by
  rw [rowU_get, List.getElem?_eq_getElem h]
  simp [List.getD, h]
theorem rowU_set (l : List Nat) (i : Nat) (b : Nat) : (rowU l).setIfInBounds i (.int .u64 (b : Int)) = rowU (l.set i b) := by
  simp [rowU, List.map_set]
/-- A slice at A reads as the bytes l; its memory lies below block B. A is of no account where l is empty. -/
def RdU (w : World) (B : Nat) (A : Option Addr) (l : List Nat) : Prop :=
  0 < l.length → ∃ b off, A = some ⟨b, off, none⟩ ∧ b < B ∧ ∀ j, j < l.length → w.cell? ⟨b, off + j, none⟩ = some (.int .u64 ((l.getD j 0 : Nat) : Int))

section
variable {w w' : World} {B B' : Nat} {A : Option Addr} {l : List Nat}
theorem RdU.nil : RdU w B A [] := fun h => absurd h (by simp)
theorem RdU.at_ {k : Nat} (h : RdU w B A l) (hk : k < l.length) : ∃ b off, A = some ⟨b, off, none⟩ ∧ b < B ∧ w.cell? ⟨b, off + k, none⟩ = some (.int .u64 ((l.getD k 0 : Nat) : Int)) := by
  obtain ⟨b, off, e, hb, hc⟩ := h (by omega)
  exact ⟨b, off, e, hb, hc k hk⟩
theorem RdU.keep (h : RdU w B A l) (hk : ∀ p : Addr, p.block < B → w'.cell? p = w.cell? p) : RdU w' B A l := fun hn => by
  obtain ⟨b, off, e, hb, hc⟩ := h hn
  exact ⟨b, off, e, hb, fun j hj => (hk _ hb).trans (hc j hj)⟩
theorem RdU.more (h : RdU w B A l) (hB : B ≤ B') : RdU w B' A l := fun hn => by
  obtain ⟨b, off, e, hb, hc⟩ := h hn
  exact ⟨b, off, e, by omega, hc⟩
theorem RdU.below (h : RdU w B A l) (hb : Below B w w') : RdU w' B A l := h.keep fun _ hp => hb.cell hp
theorem RdU.drew (h : RdU w B A l) : RdU w.drew B A l := h
theorem RdU.drewN (h : RdU w B A l) (n : Nat) : RdU (w.drewN n) B A l := h
theorem RdU.alloc (h : RdU w B A l) (hB : B ≤ w.heap.size) (o : Obj) : RdU (w.alloc o) B A l := h.keep fun p hp => World.cell?_alloc_lt w o p (by omega)
theorem RdU.setCell (h : RdU w B A l) {p : Addr} (hB : B ≤ p.block) (u : Value) : RdU (w.setCell p u) B A l :=
  h.keep fun q hq => World.cell?_setCell_other w p q u (fun e => by subst e; omega)
theorem RdU.take (h : RdU w B A l) (n : Nat) : RdU w B A (l.take n) := fun hn => by
  have hl : (l.take n).length ≤ l.length := by simp; omega
  obtain ⟨b, off, e, hb, hc⟩ := h (by omega)
  refine ⟨b, off, e, hb, fun j hj => ?_⟩
  rw [hc j (by omega)]
  have : j < n := by simp at hj; omega
  simp [List.getD, this]
theorem RdU.drop {b off : Nat} (h : RdU w B (some ⟨b, off, none⟩) l) (n : Nat) : RdU w B (some ⟨b, off + n, none⟩) (l.drop n) := fun hn => by
  simp at hn
  obtain ⟨b', off', e, hb, hc⟩ := h (by omega)
  injection e with e
  injection e with e1 e2
  subst e1 e2
  refine ⟨b, off + n, rfl, hb, fun j hj => ?_⟩
  simp at hj
  rw [Nat.add_assoc, hc (n + j) (by omega)]
  simp [List.getD]
end

/-- v is a slice of the call's own (its block from base on, or none), and reads as l. -/
def OwnU (w : World) (base : Nat) (v : Value) (l : List Nat) : Prop := w.ownsRow base 50 1 v l.length (rowU l).toList

section
variable {w w' : World} {base : Nat} {v : Value} {l : List Nat}
theorem OwnU.form (h : OwnU w base v l) : ∃ A c, v = .slice A l.length c ∧ RdU w w.heap.size A l ∧ (∀ g, v.ownBlock = some g → base ≤ g ∧ g < w.heap.size) := by
  have hlt := World.ownsRow.lt h
  rcases h.2 with ⟨hv, h0⟩ | ⟨g, cap, cur, hv, hb, hg, hn, hm, hs, ht⟩
  · have hl : l = [] := List.eq_nil_of_length_eq_zero h0
    subst hl
    exact ⟨none, 0, hv, RdU.nil, hlt⟩
  · subst hv
    refine ⟨_, cap, rfl, fun _ => ⟨g, 0, rfl, (hlt g rfl).2, fun j hj => ?_⟩, hlt⟩
    have hc := World.ownsRow.cellAt h j (by omega)
    rw [Nat.zero_add, hc]
    have := rowU_at l j hj
    simpa using this
theorem OwnU.rd {A : Option Addr} {n c : Nat} (h : OwnU w base (.slice A n c) l) : RdU w w.heap.size A l ∧ n = l.length := by
  obtain ⟨A', c', e, hr, _⟩ := h.form
  injection e with e1 e2 e3
  subst e1
  exact ⟨hr, e2⟩
theorem OwnU.nil_ (w : World) (base : Nat) : OwnU w base (.slice none 0 0) [] := World.ownsRow_nil w base 50 1
/-- '[]byte{}', '[]byte{x}': just laid. -/
theorem OwnU.lit (w : World) (base : Nat) (l : List Nat) (hb : base ≤ w.heap.size) (hm : l.length ≤ maxLen) : OwnU (w.alloc (.cells (rowU l) 50)) base (.slice (some ⟨w.heap.size, 0, none⟩) l.length l.length) l := by
  have h := World.ownsRow_lit (e := 50) (size := 1) w (rowU l) l.length hb hm (by rw [rowU_size, Nat.mul_one])
  exact h
theorem OwnU.kept {row : Option Nat} (h : OwnU w base v l) (hg : w.grownBy w' row) (hne : v.ownBlock = none ∨ v.ownBlock ≠ row) : OwnU w' base v l := World.ownsRow.kept h hg hne
theorem OwnU.below {B : Nat} (h : OwnU w base v l) (hb : Below B w w') (hB : w.heap.size ≤ B) : OwnU w' base v l := by
  refine World.ownsRow.kept (row := none) h ⟨hb.os, hb.tape, hb.output, hb.size, fun k hk _ => hb.block k (by omega)⟩ ?_
  cases h1 : v.ownBlock with
  | none => exact .inl rfl
  | some g => exact .inr (by simp)
theorem OwnU.drew (h : OwnU w base v l) : OwnU w.drew base v l := h
theorem OwnU.drewN (h : OwnU w base v l) (n : Nat) : OwnU (w.drewN n) base v l := h
theorem OwnU.alloc (h : OwnU w base v l) (o : Obj) : OwnU (w.alloc o) base v l := World.ownsRow.alloc h o

theorem news_of_rdU {B : Nat} {ad : Addr} {m : List Nat} (hr : RdU w B (some ad) m) : ∀ j u, (rowU m).toList[j]? = some u → w.cell? (ad.add j) = some u := by
  intro j u hu
  have hj : j < m.length := by
    have := (List.getElem?_eq_some_iff.1 hu).1
    simpa [rowU] using this
  obtain ⟨b, off, e, _, hc⟩ := hr (by omega)
  injection e with e
  subst e
  have hp : (⟨b, off, none⟩ : Addr).add j = ⟨b, off + j, none⟩ := by unfold Addr.add; split <;> simp_all
  rw [hp, hc j hj]
  have h2 := rowU_at m j hj
  have h3 : (rowU m).toList[j]? = (rowU m)[j]? := by simp
  rw [← hu, h3, h2]
theorem one_of_rowU (m : List Nat) : ∀ u ∈ (rowU m).toList, u.oneCell' = true := by
  intro u hu
  simp [rowU] at hu
  obtain ⟨b, _, rfl⟩ := hu
  rfl

end
end Go.Proofs.YtegfnlnbhhmkjaaDoor
