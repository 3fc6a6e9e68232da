/-
  Words for blocks of memory known whole, and laws for whole rows that are loaded and stored: for the seats that don't know sha2.
-/
import Derived.Test.YtnlipmcnpekifaaBr
import Derived.Test.YtnlipmcnpekifaaAp
import Derived.Test.YtnlipmcnpekifaaLp
import Derived.Test.YtnlipmcnpekifaaQc
import Derived.Deep.QuietTactic
import Derived.BigQuiet
import Derived.Deep.RegionWith
import Derived.Deep.DeepCutAuto
import Derived.RegionTactic
import Derived.Deep.RegionLaw
import Derived.Laws.CopyRow
namespace Go.Proofs.Ytnlipmcnpekifaa
set_option maxRecDepth 100000
open Go.RowKit
set_option linter.unusedVariables false

theorem hid_ {p : Prop} (h : p) : Hid p := h
/-! ### Blocks known whole -/
/-- Block g is just these cells of type t. -/
def Bk (w : World) (g : Nat) (t : TypeId) (cs : Array Value) : Prop := w.heap[g]? = some (.cells cs t (0, 0))
section
variable {w w' : World} {g : Nat} {t : TypeId} {cs : Array Value}
theorem Bk.lt (h : Bk w g t cs) : g < w.heap.size := by
  rcases Nat.lt_or_ge g w.heap.size with hlt | hge
  · exact hlt
  · unfold Bk at h; rw [Array.getElem?_eq_none hge] at h; cases h
theorem Bk.cell (h : Bk w g t cs) (i : Nat) : w.cell? ⟨g, i, none⟩ = cs[i]? := by
  unfold Bk at h
  exact cell_of_row w g i _ _ (0, 0) h
theorem Bk.frozen (h : Bk w g t cs) (i : Nat) : w.frozen? ⟨g, i, none⟩ = false := by
  unfold Bk at h
  simp [World.frozen?, h]
theorem Bk.new (w : World) (t : TypeId) (cs : Array Value) : Bk (w.alloc (.cells cs t)) w.heap.size t cs := heap_alloc_new w _
theorem Bk.drew (h : Bk w g t cs) : Bk w.drew g t cs := h
theorem Bk.drewN (h : Bk w g t cs) (n : Nat) : Bk (w.drewN n) g t cs := h
theorem Bk.alloc (h : Bk w g t cs) (o : Obj) : Bk (w.alloc o) g t cs := (Below.heap_alloc w o g h.lt).trans h
theorem Bk.set_ (h : Bk w g t cs) (i : Nat) (u : Value) : Bk (w.setCell ⟨g, i, none⟩ u) g t (cs.setIfInBounds i u) := by
  unfold Bk at h ⊢
  simp [World.setCell, Array.getElem?_modify, h]
theorem Bk.far (h : Bk w g t cs) {p : Addr} (hp : g ≠ p.block) (u : Value) : Bk (w.setCell p u) g t cs := (Below.heap_setCell w p u g hp).trans h
theorem Bk.below {B : Nat} (h : Bk w g t cs) (hb : Below B w w') (hg : g < B) : Bk w' g t cs := (hb.block g hg).trans h
theorem Bk.grown {row : Option Nat} (h : Bk w g t cs) (hb : w.grownBy w' row) (hg : some g ≠ row) : Bk w' g t cs := (hb.block g h.lt hg).trans h
theorem Bk.rowed (h : Bk w g t cs) (cs' : Array Value) : Bk (w.setRow g cs') g t cs' := setRow_heap w g cs cs' t _ h
theorem Bk.rowfar (h : Bk w g t cs) {g' : Nat} (hne : g ≠ g') (cs' : Array Value) : Bk (w.setRow g' cs') g t cs := (setRow_other w g' g cs' hne).trans h
end
theorem grown_row {a w : World} {g : Nat} (h : a.grownBy w (some g)) (cs : Array Value) : a.grownBy (w.setRow g cs) (some g) :=
  ⟨h.os, h.tape, h.output, by simpa using h.size, fun i hi hne => (setRow_other w g i cs (fun e => hne (by rw [e]))).trans (h.block i hi hne)⟩
theorem grown_alloc {a w : World} {row : Option Nat} (h : a.grownBy w row) (o : Obj) : a.grownBy (w.alloc o) row :=
  ⟨h.os, h.tape, h.output, Nat.le_trans h.size (by simp), fun i hi hne => (Below.heap_alloc w o i (Nat.lt_of_lt_of_le hi h.size)).trans (h.block i hi hne)⟩
theorem grown_of_below {a w w' : World} {row : Option Nat} (h : a.grownBy w row) (hb : Below w.heap.size w w') : a.grownBy w' row :=
  ⟨hb.os.trans h.os, hb.tape.trans h.tape, hb.output.trans h.output, Nat.le_trans h.size hb.size, fun i hi hne => (hb.block i (Nat.lt_of_lt_of_le hi h.size)).trans (h.block i hi hne)⟩
theorem grown_drewN {a w : World} {row : Option Nat} (h : a.grownBy w row) (n : Nat) : a.grownBy (w.drewN n) row := ⟨h.os, h.tape, h.output, h.size, h.block⟩

section
variable {P : Program} {ops : Array Oper} {rest : List Oper} {o : Oper} {a : Act} {w : World} {Q : Exit → Act → World → Prop}
/-- A whole row is stored. -/
theorem wpList_put_row (hgd : o.guard = none) (ty : TypeId) (x y : Operand) (ho : o.op = .store ty x y)
    (g : Nat) (cells : Array Value) (hx : a.eval x = .pointer (some ⟨g, 0, none⟩)) (hy : a.eval y = .agg cells)
    (t : TypeId) (old : Array Value) (hg : Bk w g t old) (hi : (P.info? ty).map (·.size) = some cells.size)
    (hold : old.size = cells.size) (h1 : cells.all (·.oneCell') = true)
    (h : ∀ w', Bk w' g t cells → w.grownBy w' (some g) → w'.heap.size = w.heap.size → wpList P ops Q rest (a.put o.dst undef) w') : wpList P ops Q (o :: rest) a w :=
  wpList_store_row hgd ty x y ho g cells hx hy t old hg hi hold h1 (h _ (hg.rowed cells) (grown_row (World.grownBy.refl w _) cells) (by simp))
/-- A whole row is laid as a value. -/
theorem wpList_built (hg : o.guard = none) (t : TypeId) (parts : Array (Nat × Operand)) (ho : o.op = .build t parts) (X : Array Value)
    (hf : P.built t (parts.map fun (i, x) => (i, a.eval x)).toList = some X)
    (h : wpList P ops Q rest (a.put o.dst (.agg X)) w) : wpList P ops Q (o :: rest) a w :=
  wpList_build hg t parts ho (by rw [hf]; rfl) (by rw [hf]; exact h)
theorem step_load_row {K : Act → World → Prop} {E : Prop} (hgd : o.guard = none) (ty : TypeId) (x : Operand) (ho : o.op = .load ty x)
    (g : Nat) (hx : a.eval x = .pointer (some ⟨g, 0, none⟩)) (t : TypeId) (cs : Array Value) (hg : Bk w g t cs) (d : TypeDesc)
    (hu : P.underlying ty = some d) (hd : (match d with | .struct _ | .array _ _ => true | _ => false) = true) (hi : (P.info? ty).map (·.size) = some cs.size)
    (h : K (a.put o.dst (.agg cs)) w) : if Region.wanted o (yielded ops a.tmps) = true then Oper.wp P o a w K Q else E := by
  have hw : Region.wanted o (yielded ops a.tmps) = true := by simp [Region.wanted, hgd]
  rw [if_pos hw]
  exact wp_load_row ty x ho g hx t cs (0, 0) d hg hu hd hi h
theorem step_put_row {K : Act → World → Prop} {E : Prop} (hgd : o.guard = none) (ty : TypeId) (x y : Operand) (ho : o.op = .store ty x y)
    (g : Nat) (cells : Array Value) (hx : a.eval x = .pointer (some ⟨g, 0, none⟩)) (hy : a.eval y = .agg cells)
    (t : TypeId) (old : Array Value) (hg : Bk w g t old) (hi : (P.info? ty).map (·.size) = some cells.size)
    (hold : old.size = cells.size) (h1 : cells.all (·.oneCell') = true)
    (h : ∀ w', Bk w' g t cells → w.grownBy w' (some g) → w'.heap.size = w.heap.size → K (a.put o.dst undef) w') : if Region.wanted o (yielded ops a.tmps) = true then Oper.wp P o a w K Q else E := by
  have hw : Region.wanted o (yielded ops a.tmps) = true := by simp [Region.wanted, hgd]
  rw [if_pos hw]
  exact wp_store_row ty x y ho g cells hx hy t old hg hi hold h1 (h _ (hg.rowed cells) (grown_row (World.grownBy.refl w _) cells) (by simp))
end

/-- Two results that lie in memory. -/
theorem results_cells2 {P : Program} {fn : Func} {p q : Tmp} {ty ty' : TypeId} (h : fn.results = #[.cell p ty, .cell q ty']) (tmps : Array Value) (w : World) (g g' : Nat) {v v' : Value}
    (hp : tmps.getD p undef = .pointer (some ⟨g, 0, none⟩)) (hq : tmps.getD q undef = .pointer (some ⟨g', 0, none⟩))
    (h1 : (loadVar ty ⟨g, 0, none⟩).run P w = .ok v w) (h2 : (loadVar ty' ⟨g', 0, none⟩).run P w = .ok v' w) :
    (results fn tmps).run P w = .ok (.tuple #[v, v']) w := by
  have hp' : tmps[p]?.getD undef = .pointer (some ⟨g, 0, none⟩) := by simpa using hp
  have hq' : tmps[q]?.getD undef = .pointer (some ⟨g', 0, none⟩) := by simpa using hq
  simp [results, h, hp', hq', asAddr, h1, h2]

section
variable {P : Program} {ops : Array Oper} {rest : List Oper} {o : Oper} {a : Act} {w : World} {Q : Exit → Act → World → Prop}
/-- A part of a block, read as a whole. -/
theorem wpList_load_sub (hgd : o.guard = none) (ty : TypeId) (x : Operand) (ho : o.op = .load ty x)
    (g off : Nat) (hx : a.eval x = .pointer (some ⟨g, off, none⟩)) (cs : Array Value) (hc : ∀ j, j < cs.size → w.cell? ⟨g, off + j, none⟩ = cs[j]?) (d : TypeDesc)
    (hu : P.underlying ty = some d) (hd : (match d with | .struct _ | .array _ _ => true | _ => false) = true) (hi : (P.info? ty).map (·.size) = some cs.size)
    (h : wpList P ops Q rest (a.put o.dst (.agg cs)) w) : wpList P ops Q (o :: rest) a w := by
  have hl : (loadCells ⟨g, off, none⟩ cs.toList.length).run P w = .ok cs.toList.toArray w :=
    run_loadCells_list (P := P) w ⟨g, off, none⟩ cs.toList (fun j v hv => by
      have hadd : (⟨g, off, none⟩ : Addr).add j = ⟨g, off + j, none⟩ := by unfold Addr.add; split <;> simp_all
      have hj : j < cs.size := by
        have := (List.getElem?_eq_some_iff.1 hv).1
        simpa using this
      rw [hadd, hc j hj]
      simpa using hv)
  have hrun : (loadVar ty ⟨g, off, none⟩).run P w = .ok (.agg cs) w := by
    cases hq : P.info? ty with
    | none => simp [hq] at hi
    | some i =>
      have hs : i.size = cs.size := by simpa [hq] using hi
      have hagg : (isAgg ty).run P w = .ok true w := by
        unfold isAgg
        rw [Sem.run_bind, run_underlying hu w]
        cases d <;> simp_all
      simp only [Array.length_toList, Array.toArray_toList] at hl
      simp [loadVar, Sem.run_bind, hagg, sizeOf, typeInfo, hq, hs, hl]
  refine wpList_plain hgd fun _ hK => ?_
  unfold Oper.wp execOp
  simp only [ho, hx, Instr.loadAt, Instr.sureAddr, Sem.run_bind, Sem.run_pure, Result.andThen_ok, hrun]
  exact hK _ _ h
end

theorem rd_of_bk {w : World} {g : Nat} {t : TypeId} {b : List UInt8} (h : Bk w g t (rowOf b)) {B : Nat} (hB : g < B) : Rd w B (some ⟨g, 0, none⟩) b := fun _ =>
  ⟨g, 0, rfl, hB, fun j hj => by rw [Nat.zero_add, h.cell j, rowOf_at b j hj]⟩

/-- The block with l laid from 'at' on. -/
def laid (blk : List UInt8) (i : Nat) (l : List UInt8) : List UInt8 := blk.take i ++ l ++ blk.drop (i + l.length)
theorem laid_len {blk : List UInt8} {i : Nat} {l : List UInt8} (h : i + l.length ≤ blk.length) : (laid blk i l).length = blk.length := by
  unfold laid; simp; omega
theorem laid_cons {blk : List UInt8} {i : Nat} (c : UInt8) {l : List UInt8} (h : i + (c :: l).length ≤ blk.length) : laid (blk.set i c) (i + 1) l = laid blk i (c :: l) := by
  simp only [List.length_cons] at h
  have hi : i < blk.length := by omega
  unfold laid
  have h1 : (blk.set i c).take (i + 1) = blk.take i ++ [c] := by
    rw [List.take_set, List.take_succ_eq_append_getElem hi, List.set_append_right _ _ (by simp; omega)]
    simp [Nat.min_eq_left (Nat.le_of_lt hi)]
  have h2 : (blk.set i c).drop (i + 1 + l.length) = blk.drop (i + (c :: l).length) := by
    rw [List.drop_set, if_pos (by omega), List.length_cons, show i + 1 + l.length = i + (l.length + 1) by omega]
  rw [h1, h2]
  simp
/-- A slice that reads as l; its memory is not block g. -/
def RdN (w : World) (g : Nat) (A : Option Addr) (l : List UInt8) : Prop :=
  0 < l.length → ∃ b off, A = some ⟨b, off, none⟩ ∧ b ≠ g ∧ b < w.heap.size ∧ ∀ j, j < l.length → w.cell? ⟨b, off + j, none⟩ = some (.int .u8 ((l.getD j 0).toNat : Int))
section
variable {w w' : World} {g : Nat} {A : Option Addr} {l : List UInt8}
theorem Rd.rdn {B : Nat} (h : Rd w B A l) (hB : B ≤ g) (hg : g ≤ w.heap.size) : RdN w g A l := fun hn => by
  obtain ⟨b, off, e, hb, hc⟩ := h hn
  exact ⟨b, off, e, by omega, by omega, hc⟩
theorem RdN.grown (h : RdN w g A l) (hg : w.grownBy w' (some g)) : RdN w' g A l := fun hn => by
  obtain ⟨b, off, e, hb, hlt, hc⟩ := h hn
  exact ⟨b, off, e, hb, Nat.lt_of_lt_of_le hlt hg.size, fun j hj => (World.cell?_of_block (hg.block b hlt (fun e => by injection e with e; exact hb e))).trans (hc j hj)⟩
theorem RdN.drop {b off : Nat} (h : RdN w g (some ⟨b, off, none⟩) l) (n : Nat) : RdN w g (some ⟨b, off + n, none⟩) (l.drop n) := fun hn => by
  simp at hn
  obtain ⟨b', off', e, hb, hlt, hc⟩ := h (by omega)
  injection e with e
  injection e with e1 e2
  subst e1 e2
  refine ⟨b, off + n, rfl, hb, hlt, fun j hj => ?_⟩
  simp at hj
  rw [Nat.add_assoc, hc (n + j) (by omega)]
  simp [List.getD]
theorem Blk8.rdn {g' : Nat} (h : Blk8 w g' l) (hne : g' ≠ g) : RdN w g (some ⟨g', 0, none⟩) l := fun _ =>
  ⟨g', 0, rfl, hne, h.lt, fun j hj => by rw [Nat.zero_add]; exact h.cell j hj⟩
end
/-- The rest of a slice. -/
theorem slice_from (A : Option Addr) (n c k : Nat) (hk : k ≤ n) (W : World) :
    (Instr.slice 30 (.slice A n c) (some (.int .i64 (k : Int))) none none).run Try.prog W = .ok (.slice (if c = k then A else A.map (·.add k)) (n - k) (c - k)) W := by
  have he : Try.prog.elem 30 = 5 := by kernel_rfl
  rw [run_slice_l W 30 A n c (by rw [he]; exact Try.underlying30) .i64 k (by omega) (by omega)]
  have hs : (sizeOf (Try.prog.elem 30)).run Try.prog W = .ok 1 W := by
    rw [he]
    obtain ⟨i, hi, hz, hsize, hby⟩ := info_parts info8
    simp [sizeOf, typeInfo, hi, hsize]
  rw [hs]
  simp only [Result.andThen, sliced, Int.toNat_natCast, Nat.mul_one]
theorem rdn_from {w : World} {g : Nat} {A : Option Addr} {l : List UInt8} (h : RdN w g A l) (c k : Nat) (hk : k ≤ l.length) (hc : l.length ≤ c) : RdN w g (if c = k then A else A.map (·.add k)) (l.drop k) := by
  by_cases hck : c = k
  · rw [if_pos hck]
    have : l.drop k = [] := List.drop_eq_nil_of_le (by omega)
    rw [this]
    exact fun hn => absurd hn (by simp)
  · rw [if_neg hck]
    intro hn
    have hl : 0 < l.length := by simp at hn; omega
    obtain ⟨b, off, e, _⟩ := h hl
    subst e
    have := h.drop k hn
    simp only [Option.map_some]
    have hp : (⟨b, off, none⟩ : Addr).add k = ⟨b, off + k, none⟩ := by unfold Addr.add; split <;> simp_all
    rw [hp]
    exact this

section
variable {ops : Array Oper} {rest : List Oper} {o : Oper} {a : Act} {w : World} {Q : Exit → Act → World → Prop}
/-- copy into a block known whole. -/
theorem wp_copy8 {K : Act → World → Prop} (d x : Operand) (ho : o.op = .call { callee := .builtin .copy, args := #[d, x], argTypes := #[30, 30] })
    (g i dl dc : Nat) (hd : a.eval d = .slice (some ⟨g, i, none⟩) dl dc) (A : Option Addr) (n c : Nat) (hx : a.eval x = .slice A n c) (l : List UInt8) (r : Nat) (hlr : l.length = r) (hl : 0 < r) (hln : r = Nat.min n dl)
    (h : Nat) (hr : RdN w h A l) (t : TypeId) (cur : Array Value) (hg : Bk w g t cur) (hfit : i + r ≤ cur.size)
    (hK : ∀ w', Bk w' g t (cur.toList.take i ++ (rowOf l).toList ++ cur.toList.drop (i + (rowOf l).toList.length)).toArray → w.grownBy w' (some g) → w'.heap.size = w.heap.size → K (a.put o.dst (.int .i64 (r : Int))) w') : o.wp Try.prog a w K Q := by
  subst hlr
  obtain ⟨b, off, rfl, _, _, hc⟩ := hr hl
  have hrl : (rowOf l).toList.length = l.length := by simp [rowOf]
  have hsrc : ∀ j v, (rowOf l).toList[j]? = some v → w.cell? ((⟨b, off, none⟩ : Addr).add j) = some v := by
    intro j v hj
    have hjl : j < l.length := by
      have := (List.getElem?_eq_some_iff.1 hj).1
      omega
    have hp : (⟨b, off, none⟩ : Addr).add j = ⟨b, off + j, none⟩ := by unfold Addr.add; split <;> simp_all
    have h2 := rowOf_at l j hjl
    have h3 : (rowOf l).toList[j]? = (rowOf l)[j]? := by simp
    rw [hp, hc j hjl, ← hj, h3, h2]
  have hrun := run_copy_row (P := Try.prog) w 30 30 o.type 5 g i dl dc ⟨b, off, none⟩ n c cur t (rowOf l).toList Try.underlying30 (by kernel_rfl) hg (by rw [hrl]; exact hln) hsrc (by rw [hrl]; exact hfit) (one_of_row l)
  unfold Oper.wp execOp
  simp only [ho, resolve, invoke, builtin, Sem.run_bind, Sem.run_pure, Result.andThen_ok, List.map_toArray, List.map_cons, List.map_nil, hd, hx, hrun]
  have := hK _ (hg.rowed _) (grown_row (World.grownBy.refl w _) _) (by simp)
  rw [hrl] at this ⊢
  exact this
theorem wpList_copy8 (hgd : o.guard = none) (d x : Operand) (ho : o.op = .call { callee := .builtin .copy, args := #[d, x], argTypes := #[30, 30] })
    (g i dl dc : Nat) (hd : a.eval d = .slice (some ⟨g, i, none⟩) dl dc) (A : Option Addr) (n c : Nat) (hx : a.eval x = .slice A n c) (l : List UInt8) (r : Nat) (hlr : l.length = r) (hl : 0 < r) (hln : r = Nat.min n dl)
    (h : Nat) (hr : RdN w h A l) (t : TypeId) (cur : Array Value) (hg : Bk w g t cur) (hfit : i + r ≤ cur.size)
    (hK : ∀ w', Bk w' g t (cur.toList.take i ++ (rowOf l).toList ++ cur.toList.drop (i + (rowOf l).toList.length)).toArray → w.grownBy w' (some g) → w'.heap.size = w.heap.size → wpList Try.prog ops Q rest (a.put o.dst (.int .i64 (r : Int))) w') : wpList Try.prog ops Q (o :: rest) a w :=
  wpList_plain hgd fun _ hk => wp_copy8 d x ho g i dl dc hd A n c hx l r hlr hl hln h hr t cur hg hfit fun w' h1 h2 h3 => hk _ _ (hK w' h1 h2 h3)
theorem step_copy8 {K : Act → World → Prop} {E : Prop} (hgd : o.guard = none) (d x : Operand) (ho : o.op = .call { callee := .builtin .copy, args := #[d, x], argTypes := #[30, 30] })
    (g i dl dc : Nat) (hd : a.eval d = .slice (some ⟨g, i, none⟩) dl dc) (A : Option Addr) (n c : Nat) (hx : a.eval x = .slice A n c) (l : List UInt8) (r : Nat) (hlr : l.length = r) (hl : 0 < r) (hln : r = Nat.min n dl)
    (h : Nat) (hr : RdN w h A l) (t : TypeId) (cur : Array Value) (hg : Bk w g t cur) (hfit : i + r ≤ cur.size)
    (hK : ∀ w', Bk w' g t (cur.toList.take i ++ (rowOf l).toList ++ cur.toList.drop (i + (rowOf l).toList.length)).toArray → w.grownBy w' (some g) → w'.heap.size = w.heap.size → K (a.put o.dst (.int .i64 (r : Int))) w') :
    if Region.wanted o (yielded ops a.tmps) = true then Oper.wp Try.prog o a w K Q else E := by
  have hw : Region.wanted o (yielded ops a.tmps) = true := by simp [Region.wanted, hgd]
  rw [if_pos hw]
  exact wp_copy8 d x ho g i dl dc hd A n c hx l r hlr hl hln h hr t cur hg hfit hK
end

def zbytes (n : Nat) : List UInt8 := List.replicate n 0
theorem zbytes_len (n : Nat) : (zbytes n).length = n := by simp [zbytes]
theorem laid_app (p z l : List UInt8) : laid (p ++ z) p.length l = p ++ l ++ z.drop l.length := by
  unfold laid
  rw [List.take_left, ← List.drop_drop, List.drop_left]
theorem row_laid (out : List UInt8) (i : Nat) (l : List UInt8) : ((rowOf out).toList.take i ++ (rowOf l).toList ++ (rowOf out).toList.drop (i + (rowOf l).toList.length)).toArray = rowOf (laid out i l) := by
  apply Array.ext'
  simp [rowOf, laid, List.map_take, List.map_drop]

theorem bytes_one (l : List UInt8) : (rowOf l).all (·.oneCell') = true := by
  rw [Array.all_eq_true_iff_forall_mem]
  intro v hv
  simp [rowOf] at hv
  obtain ⟨x, _, rfl⟩ := hv
  rfl
def lenOf : Value → Nat | .slice _ n _ => n | _ => 0
theorem Bk.rd {w : World} {g B : Nat} {t : TypeId} {l : List UInt8} (h : Bk w g t (rowOf l)) (hB : g < B) : Rd w B (some ⟨g, 0, none⟩) l := fun _ =>
  ⟨g, 0, rfl, hB, fun j hj => by rw [Nat.zero_add, h.cell, rowOf_at l j hj]⟩

end Go.Proofs.Ytnlipmcnpekifaa
