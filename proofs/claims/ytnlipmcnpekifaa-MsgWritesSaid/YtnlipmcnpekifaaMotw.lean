/-
  For the laws of messages: what stands in memory while a message is tamed.
-/
import Derived.Test.YtnlipmcnpekifaaMoqw
import Derived.Test.YtnlipmcnpekifaaMol
namespace Go.Proofs.Ytnlipmcnpekifaa
set_option maxRecDepth 100000
open Go.RowKit
set_option linter.unusedVariables false
set_option linter.unusedSimpArgs false

structure TmS (w : World) (g : Nat) (q : RmV) (W : World) : Prop where
  m : Bk W g 28 (rmC q)
  r0 : Bk W (g + 1) 28 (rmC rmZ)
  bel : Below g w W
section
variable {w W W' : World} {g : Nat} {q q' : RmV}
theorem TmS.low (h : TmS w g q W) (hb : Below W.heap.size W W') : TmS w g q W' := ⟨h.m.below hb h.m.lt, h.r0.below hb h.r0.lt, h.bel.trans (hb.mono (Nat.le_of_lt h.m.lt))⟩
theorem TmS.put (h : TmS w g q W) (hb : Bk W' g 28 (rmC q')) (hu : Untouched [g] W W') : TmS w g q' W' :=
  ⟨hb, h.r0.untouched hu (by simp), h.bel.trans (hu.below (fun k hk => by rw [List.mem_singleton.1 hk]; exact Nat.le_refl _) (Nat.le_of_lt h.m.lt))⟩
theorem TmS.grow {own : Option Nat} (h : TmS w g q W) (hg : W.grownBy W' own) (ho : ∀ k, own = some k → g + 2 ≤ k) : TmS w g q W' :=
  ⟨h.m.grown hg (fun e => by have := ho _ e.symm; omega), h.r0.grown hg (fun e => by have := ho _ e.symm; omega), h.bel.grown hg (Nat.le_of_lt h.m.lt) (fun k hk => by have := ho _ hk; omega)⟩
theorem TmS.lt2 (h : TmS w g q W) : g + 2 ≤ W.heap.size := h.r0.lt
end
/-- The last operation is done behind all. -/
def AllD (n : Nat) (D : Nat → Bool) : Prop := D n = true → ∀ j, j < n → D j = true
theorem AllD.start (n : Nat) : AllD n (fun _ => false) := fun h => by cases h
theorem AllD.same {n : Nat} {D : Nat → Bool} (h : AllD n D) (i : Nat) (hi : n ≠ i) : AllD n (fun j => decide (j = i) || D j) := fun hn j hj => by
  simp [hi] at hn
  simp [h hn j hj]
theorem AllD.end_ {n : Nat} {D : Nat → Bool} (h : ∀ j, j < n → D j = true) : AllD n (fun j => decide (j = n) || D j) := fun _ j hj => by simp [h j hj]
theorem AllD.not {n i : Nat} {D : Nat → Bool} (h : AllD n D) (hi : i < n) (hL : D i = false) : D n = false := by
  cases e : D n with
  | false => rfl
  | true => rw [h e i hi] at hL; cases hL
/-- Two of a chain: a call, the store. -/
def TwC (A B : World → Prop) : Nat → World → Prop := fun m W => match m with
  | 0 => A W
  | 1 => A W
  | _ => B W
theorem ChJ.first {a b : Nat} {A B : World → Prop} {D : Nat → Bool} {W : World} (h : ChJ [a, b] (TwC A B) D W) (hb : D b = false) : A W := by
  obtain ⟨m, hm, hd, hs⟩ := h
  have h1 := hd 1 (by simp)
  have hm1 : ¬ 1 < m := fun hlt => by rw [decide_eq_true hlt] at h1; exact absurd (hb.symm.trans h1) (by decide)
  rcases (by omega : m = 0 ∨ m = 1) with rfl | rfl <;> exact hs
theorem step_store_midM {P : Program} {ops : Array Oper} {o : Oper} {a : Act} {w : World} {Q : Exit → Act → World → Prop} {K : Act → World → Prop} {E : Prop} (hw : Region.wanted o (yielded ops a.tmps) = true) (ty : TypeId) (x y : Operand) (ho : o.op = .store ty x y) (g off : Nat) (hx : a.eval x = .pointer (some ⟨g, off, none⟩)) (vs : Array Value) (hy : a.eval y = .agg vs)
    (t : TypeId) (cs : Array Value) (hb : Bk w g t cs) (hi : (P.info? ty).map (·.size) = some vs.size) (hl : off + vs.size ≤ cs.size) (h1 : ∀ v ∈ vs.toList, v.oneCell' = true)
    (hk : ∀ w', Bk w' g t (cs.toList.take off ++ vs.toList ++ cs.toList.drop (off + vs.toList.length)).toArray → w.grownBy w' (some g) → K (a.put o.dst undef) w') : if Region.wanted o (yielded ops a.tmps) = true then Oper.wp P o a w K Q else E := by
  rw [if_pos hw]
  have h := run_storeVar_midM hb ty off vs hi hl h1
  unfold Oper.wp execOp
  simp only [ho, hx, hy, Instr.storeAt, Instr.sureAddr, Sem.run_bind, Sem.run_pure, Result.andThen_ok, h]
  exact hk _ (hb.rowed _) (grown_row (World.grownBy.refl w _) _)
/-- A slice of what came in, cut: ints. -/
theorem slice_toI (A : Option Addr) (n c : Nat) (z : Int) (k : Nat) (hz : z = (k : Int)) (hk : k ≤ c) (W : World) :
    (Instr.slice 24 (.slice A n c) none (some (.int .i64 z)) none).run Try.prog W = .ok (.slice A k c) W := by
  subst hz
  have he : Try.prog.elem 24 = 3 := by kernel_rfl
  rw [run_slice_h W 24 A n c (by rw [he]; exact Try.underlying24) .i64 k (by omega) (by omega)]
  have hs : (sizeOf (Try.prog.elem 24)).run Try.prog W = .ok 1 W := by
    rw [he]
    obtain ⟨i, hi, hii⟩ := Option.map_eq_some_iff.1 infoInt
    simp only [Prod.mk.injEq] at hii
    obtain ⟨hsize, _, _⟩ := hii
    rw [show intE.k = 1 from rfl] at hsize
    simp [sizeOf, typeInfo, hi, hsize]
  rw [hs]
  simp only [Result.andThen, sliced]
  congr 2
  by_cases h : c = 0
  · rw [if_pos h]
  · rw [if_neg h]
    cases A with
    | none => rfl
    | some a => simp [Addr.add]
theorem put_ne (a : Act) (s s2 : Nat) (v : Value) (h : s ≠ s2) : (a.put (some s) v).tmps.getD s2 undef = a.tmps.getD s2 undef := by
  simp [Act.put, Array.getElem?_setIfInBounds, h]
theorem put_eq (a : Act) (s : Nat) (v : Value) (h : s < a.tmps.size) : (a.put (some s) v).tmps.getD s undef = v := by
  simp [Act.put, Array.getElem?_setIfInBounds, h]
/-- A chain, and what two slots hold when two operations are done. -/
def JAp (ix : List Nat) (S : Nat → World → Prop) (n1 n2 s1 s2 : Nat) (V : Value → World → Prop) (D : Nat → Bool) (a : Act) (W : World) : Prop := ChJ ix S D W ∧ (D n1 = true → V (a.tmps.getD s1 undef) W) ∧ (D n2 = true → V (a.tmps.getD s2 undef) W)
theorem JAp.same {ix : List Nat} {S : Nat → World → Prop} {n1 n2 s1 s2 : Nat} {V : Value → World → Prop} {D : Nat → Bool} {a : Act} {W : World} (h : JAp ix S n1 n2 s1 s2 V D a W) (i s : Nat) (hi : i ∉ ix) (h1 : n1 ≠ i) (h2 : n2 ≠ i) (e1 : s ≠ s1) (e2 : s ≠ s2) (v : Value) : JAp ix S n1 n2 s1 s2 V (fun j => decide (j = i) || D j) (a.put (some s) v) W := by
  refine ⟨h.1.same i hi, fun hd => ?_, fun hd => ?_⟩
  · rw [put_ne a s s1 v e1]
    exact h.2.1 (by simpa [h1] using hd)
  · rw [put_ne a s s2 v e2]
    exact h.2.2 (by simpa [h2] using hd)
theorem vacD {D : Nat → Bool} {n i : Nat} {X : Prop} (hn : D n = false) (h : n ≠ i) : (decide (n = i) || D n) = true → X := fun e => by simp [h, hn] at e
/-- What tame makes of a message. -/
def tmR (r : KrV) : KrV := ⟨pad32 r.key, r.set.take 60⟩
def tm (m : MgV) : MgV := { m with row := ⟨pad32 m.row.key, m.row.set.take 200⟩, ats := m.ats.take 260, digs := (m.digs.take 260).map pad32, rows := (m.rows.take 260).map tmR }
end Go.Proofs.Ytnlipmcnpekifaa
