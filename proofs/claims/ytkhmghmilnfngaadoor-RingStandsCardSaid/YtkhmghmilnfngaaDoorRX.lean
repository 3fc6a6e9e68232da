/-
  Merged: Rgs Rgt Rgv Rgw Rgx Rgy Rgz Rgk Rgo.
-/
import Derived.Test.YtkhmghmilnfngaaDoorRgr
import Derived.Test.YtkhmghmilnfngaaDoorRi
import Derived.Test.YtkhmghmilnfngaaDoorRgb
import Derived.Test.YtkhmghmilnfngaaDoorRgn
import Derived.Test.YtkhmghmilnfngaaDoorPT
import Derived.Lib.AppendZerosOnto
import Derived.Lib.SliceRun
import Derived.WalkSpells
import Derived.WalkLawsBesides
import Derived.BigCall
import Derived.OwnWalk
import Derived.Test.YtkhmghmilnfngaaDoorAp
import Derived.Deep.Upon
namespace Go.Proofs.YtkhmghmilnfngaaDoor
set_option maxRecDepth 100000
open Go.ChangeShapes Go.WideShapes Go.ChangeAt Go.RowKit
set_option linter.unusedVariables false
set_option linter.unusedSimpArgs false

section
variable {P : Program} {C : World → Prop} {ops : Array Oper} {rest : List Oper} {o : Oper} {a : Act} {w : World} {Q : Exit → Act → World → Prop} {K0 : Act → Prop}
/-- A whole row, read in a quiet region. -/
theorem quiet_load_row (ty : TypeId) (x : Operand) (ho : o.op = .load ty x) (g : Nat) (hx : a.eval x = .pointer (some ⟨g, 0, none⟩)) (t : TypeId) (cs : Array Value) (d : TypeDesc)
    (hu : P.underlying ty = some d) (hd : (match d with | .struct _ | .array _ _ => true | _ => false) = true) (hi : (P.info? ty).map (·.size) = some cs.size)
    (hC : ∀ W, C W → Bk W g t cs) (hk : K0 (a.put o.dst (.agg cs))) : o.quiet P a C K0 :=
  quiet_run (.agg cs) (fun W hW => by
    have hrun : (loadVar ty ⟨g, 0, none⟩).run P W = .ok (.agg cs) W := run_loadVar_row _ _ _ _ _ (0, 0) _ (hC W hW) hu hd hi
    unfold execOp
    simp only [ho, hx, Instr.loadAt, Instr.sureAddr, Sem.run_bind, Sem.run_pure, Result.andThen_ok, hrun]) hk

end
theorem sizeB_ (W : World) : (sizeOf (Tryd.prog.elem 23)).run Tryd.prog W = .ok 1 W := by
  have he : Tryd.prog.elem 23 = 5 := by kernel_rfl
  rw [he]
  obtain ⟨i, hi, hz, hsize, hby⟩ := info_parts info8
  simp [sizeOf, typeInfo, hi, hsize]
theorem slice_allB (g : Nat) (W : World) :
    (Instr.sliceAt 23 (.pointer (some ⟨g, 0, none⟩)) none none none).run Tryd.prog W = .ok (.slice (some ⟨g, 0, none⟩) 32 32) W := by
  have he : Tryd.prog.elem 23 = 5 := by kernel_rfl
  have hn : Tryd.prog.arrayLen 23 = 32 := by kernel_rfl
  have hs : Tryd.prog.cellsOf (Tryd.prog.elem 23) = 1 := by kernel_rfl
  have ht : Tryd.prog.underlying 23 = some (.array (Tryd.prog.arrayLen 23) (Tryd.prog.elem 23)) := by rw [he, hn]; exact Tryd.underlying23
  rw [run_sliceAt_array_all W 23 ⟨g, 0, none⟩ ht, sizeB_, hn]
  rfl
theorem rd_bk {w : World} {g : Nat} {t : TypeId} {l : List UInt8} (h : Bk w g t (rowOf l)) : Rd w w.heap.size (some ⟨g, 0, none⟩) l := fun _ => ⟨g, 0, rfl, h.lt, fun j hj => by rw [Nat.zero_add]; exact (h.cell j).trans (rowOf_at l j hj)⟩

set_option maxHeartbeats 1000000 in
theorem none_any (w : World) : Calls Tryd.prog 7 #[] w fun e w' => e = .returned (.pointer none) ∧ w = w' := by
  go_enter Tryd.func7, Tryd.ntmps7
  go_wp2
  go_ret
  exact ⟨rfl, rfl⟩
set_option maxRecDepth 100000 in
set_option maxHeartbeats 2000000 in
theorem walk_nil (w : World) (K : List UInt8) : Calls Tryd.prog 12 #[.pointer none, .agg (rowOf K)] w fun e w' => e = .returned (.slice none 0 0) ∧ Below w.heap.size w w' := by
  have B1 := hidrg_ ((Below.refl w.heap.size w).alloc (Nat.le_refl _) (.cells (rowOf K) 23))
  go_enter Tryd.func12, Tryd.ntmps12
  go_wp2
  go_ret
  exact ⟨rfl, B1.out⟩
set_option maxRecDepth 100000 in
set_option maxHeartbeats 2000000 in
theorem prefer_nil (w : World) (K : List UInt8) (hK : K.length = 32) : Calls Tryd.prog 8 #[.pointer none, .agg (rowOf K), .int .i64 1] w fun e w' => e = .returned (.tuple #[.slice none 0 0, .int .i64 1]) ∧ Below w.heap.size w w' := by
  obtain ⟨gk, hgk⟩ : ∃ g, w.heap.size = g := ⟨_, rfl⟩
  obtain ⟨w1, hw1⟩ : ∃ W, w.alloc (.cells (rowOf K) 23) = W := ⟨_, rfl⟩
  have B1 := hidrg_ (show Below w.heap.size w w1 by rw [← hw1]; exact (Below.refl _ _).alloc (Nat.le_refl _) _)
  have K1 := hidrg_ (show Bk w1 gk 23 (rowOf K) by rw [← hw1, ← hgk]; exact Bk.new w _ _)
  have KL := hidrg_ (iBlind K hK)
  have cw := walk_nil w1 K
  go_enter Tryd.func8, Tryd.ntmps8
  go_wp2_with (first
    | (refine wpList_load_row rfl 23 (.tmp 4) rfl gk rfl 23 (rowOf K) (0, 0) _ K1.out Tryd.underlying23 rfl KL.out ?_)
    | (go_at_call 12; ((with_reducible refine cw.mono ?_); clear cw; rintro e w2 ⟨rfl, hb⟩; have B2 := hidrg_ (B1.out.trans (hb.mono B1.out.size)); clear hb)))
  go_ret2
  exact ⟨rfl, B2.out⟩
set_option maxRecDepth 100000 in
set_option maxHeartbeats 2000000 in
theorem stand_nil (w : World) (K : List UInt8) (hK : K.length = 32) : Calls Tryd.prog 9 #[.pointer none, .agg (rowOf K), .int .i64 1, .slice none 0 0] w fun e w' => e = .returned (.tuple #[.slice none 0 0, .int .i64 1]) ∧ Below w.heap.size w w' := by
  obtain ⟨gk, hgk⟩ : ∃ g, w.heap.size = g := ⟨_, rfl⟩
  obtain ⟨w0, hw0⟩ : ∃ W, w.alloc (.cells (rowOf K) 23) = W := ⟨_, rfl⟩
  have b0 : Below w.heap.size w w0 := by rw [← hw0]; exact (Below.refl _ _).alloc (Nat.le_refl _) _
  have k0 : Bk w0 gk 23 (rowOf K) := by rw [← hw0, ← hgk]; exact Bk.new w _ _
  obtain ⟨w1, hw1⟩ : ∃ W, w0.alloc (.cells #[.slice none 0 0] 42) = W := ⟨_, rfl⟩
  have B1 := hidrg_ (show Below w.heap.size w w1 by rw [← hw1]; exact b0.alloc b0.size _)
  have K1 := hidrg_ (show Bk w1 gk 23 (rowOf K) by rw [← hw1]; exact k0.alloc _)
  have KL := hidrg_ (iBlind K hK)
  have cw := walk_nil w1 K
  clear b0 k0
  go_enter Tryd.func9, Tryd.ntmps9
  go_wp2_with (first
    | (refine wpList_load_row rfl 23 (.tmp 5) rfl gk rfl 23 (rowOf K) (0, 0) _ K1.out Tryd.underlying23 rfl KL.out ?_)
    | (go_at_call 12; ((with_reducible refine cw.mono ?_); clear cw; rintro e w2 ⟨rfl, hb⟩; have B2 := hidrg_ (B1.out.trans (hb.mono B1.out.size)); clear hb)))
  go_ret2
  exact ⟨rfl, B2.out⟩
def okR (z1 z2 : Int) : Prop := 1 ≤ z1 ∧ z1 ≤ 8 ∧ 1 ≤ z2 ∧ z2 ≤ 64
/-- What New tells, whatever it is asked for. -/
def NewB (w : World) (z1 z2 : Int) (e : Ending) (w' : World) : Prop := ∃ (P : Option Addr) (er : Int), e = .returned (.tuple #[.pointer P, .int .i64 er]) ∧ Below w.heap.size w w' ∧ ((¬ okR z1 z2 ∧ P = none ∧ er = 1) ∨ (okR z1 z2 ∧ er = 0 ∧ ∃ g, P = some ⟨g, 0, none⟩ ∧ RingIs w' g (ringL plcS z1.toNat z2.toNat)))
theorem new_both (w : World) (z1 z2 : Int) (ht : Tab w) (hg1 : 0 < w.heap.size) : Calls Tryd.prog 10 #[.int .i64 z1, .int .i64 z2] w (NewB w z1 z2) := by
  by_cases h : okR z1 z2
  · obtain ⟨h1, h2, h3, h4⟩ := h
    obtain ⟨n, rfl⟩ : ∃ n : Nat, z1 = (n : Int) := ⟨z1.toNat, by omega⟩
    obtain ⟨k, rfl⟩ : ∃ k : Nat, z2 = (k : Int) := ⟨z2.toNat, by omega⟩
    refine (new_any w n k (by omega) (by omega) (by omega) (by omega) ht hg1).mono ?_
    rintro e w' ⟨g, rfl, hri, hb⟩
    exact ⟨_, _, rfl, hb, .inr ⟨⟨h1, h2, h3, h4⟩, rfl, g, rfl, by rw [Int.toNat_natCast, Int.toNat_natCast]; exact hri⟩⟩
  · refine (new_no w z1 z2 (by unfold okR at h; omega)).mono ?_
    rintro e w' ⟨rfl, rfl⟩
    exact ⟨_, _, rfl, Below.refl _ _, .inl ⟨h, rfl, rfl⟩⟩
end Go.Proofs.YtkhmghmilnfngaaDoor

namespace Go.Proofs.YtkhmghmilnfngaaDoor
set_option maxRecDepth 100000
open Go.ChangeShapes Go.WideShapes Go.ChangeAt Go.RowKit
set_option linter.unusedVariables false
set_option linter.unusedSimpArgs false

/-- A pair: who, for whom. -/
structure PrV where
  p : Nat
  r : Nat
instance : Inhabited PrV := ⟨⟨0, 0⟩⟩
/-- A slice of dots that reads as ms, below B. -/
def RdE (w : World) (B : Nat) (A : Option Addr) (ms : List PrV) : Prop :=
  0 < ms.length → ∃ b off, A = some ⟨b, off, none⟩ ∧ b < B ∧ ∀ j, j < ms.length → w.cell? ⟨b, off + j * 2, none⟩ = some (.int .i64 ((ms.getD j ⟨0, 0⟩).p : Int)) ∧ w.cell? ⟨b, off + j * 2 + 1, none⟩ = some (.int .i64 ((ms.getD j ⟨0, 0⟩).r : Int))
theorem RdE.below {w w' : World} {B : Nat} {A : Option Addr} {ms : List PrV} (h : RdE w B A ms) (hb : Below B w w') : RdE w' B A ms := fun hn => by
  obtain ⟨b, off, e, hlt, hc⟩ := h hn
  exact ⟨b, off, e, hlt, fun j hj => ⟨(hb.cell (p := ⟨b, _, none⟩) hlt).trans (hc j hj).1, (hb.cell (p := ⟨b, _, none⟩) hlt).trans (hc j hj).2⟩⟩
theorem RdE.more {w : World} {B C : Nat} {A : Option Addr} {ms : List PrV} (h : RdE w B A ms) (hB : B ≤ C) : RdE w C A ms := fun hn => by
  obtain ⟨b, off, e, hlt, hc⟩ := h hn
  exact ⟨b, off, e, by omega, hc⟩
def rowE (l : List PrV) : List Value := l.flatMap fun d => [.int .i64 (d.p : Int), .int .i64 (d.r : Int)]
theorem rowE_len (l : List PrV) : (rowE l).length = l.length * 2 := by
  induction l with
  | nil => rfl
  | cons p l ih =>
    have e : rowE (p :: l) = [.int .i64 (p.p : Int), .int .i64 (p.r : Int)] ++ rowE l := rfl
    rw [e, List.length_append, ih, List.length_cons, List.length_cons, List.length_cons, List.length_nil]
    omega
theorem rowE_at : ∀ (l : List PrV) (k : Nat) (h : k < l.length), (rowE l)[k * 2]? = some (.int .i64 ((l.getD k ⟨0, 0⟩).p : Int)) ∧ (rowE l)[k * 2 + 1]? = some (.int .i64 ((l.getD k ⟨0, 0⟩).r : Int))
  | [], _, h => absurd h (by simp)
  | p :: l, 0, _ => ⟨rfl, rfl⟩
  | p :: l, k + 1, h => by
    have ih := rowE_at l k (by simpa using h)
    have e : rowE (p :: l) = [.int .i64 (p.p : Int), .int .i64 (p.r : Int)] ++ rowE l := rfl
    have g : ∀ j, ([Value.int .i64 (p.p : Int), .int .i64 (p.r : Int)] ++ rowE l)[(k + 1) * 2 + j]? = (rowE l)[k * 2 + j]? := fun j => by
      rw [List.getElem?_append_right (by simp only [List.length_cons, List.length_nil]; omega)]
      congr 1
      simp only [List.length_cons, List.length_nil]
      omega
    rw [e]
    have g0 := g 0
    rw [Nat.add_zero, Nat.add_zero] at g0
    rw [g0, g 1]
    simpa using ih
theorem rowE_one (l : List PrV) : ∀ u ∈ rowE l, u.oneCell' = true := fun u hu => by
  unfold rowE at hu
  rw [List.mem_flatMap] at hu
  obtain ⟨d, _, h⟩ := hu
  simp at h
  rcases h with rfl | rfl <;> rfl
theorem news_of_rdE {w : World} {B b off : Nat} {m : List PrV} (hr : RdE w B (some ⟨b, off, none⟩) m) : ∀ j u, (rowE m)[j]? = some u → w.cell? ((⟨b, off, none⟩ : Addr).add j) = some u := by
  intro j u hu
  have hl := rowE_len m
  have hj : j < m.length * 2 := by
    have := (List.getElem?_eq_some_iff.1 hu).1
    omega
  obtain ⟨b', off', e, _, hc⟩ := hr (by omega)
  injection e with e
  injection e with e1 e2 e3
  subst e1 e2
  have hadd : (⟨b, off, none⟩ : Addr).add j = ⟨b, off + j, none⟩ := by unfold Addr.add; split <;> simp_all
  rw [hadd]
  have hk : j / 2 < m.length := by omega
  obtain ⟨h1, h2⟩ := hc (j / 2) hk
  obtain ⟨r1, r2⟩ := rowE_at m (j / 2) hk
  rcases (by omega : j = j / 2 * 2 ∨ j = j / 2 * 2 + 1) with e | e
  · rw [e] at hu
    rw [r1] at hu
    rw [e, ← hu]
    exact h1
  · rw [e] at hu
    rw [r2] at hu
    rw [e, ← hu]
    exact h2
theorem RdE.take {w : World} {B : Nat} {A : Option Addr} {ms : List PrV} (h : RdE w B A ms) (k : Nat) : RdE w B A (ms.take k) := fun hn => by
  rw [List.length_take] at hn
  obtain ⟨b, off, e, hlt, hc⟩ := h (by omega)
  refine ⟨b, off, e, hlt, fun j hj => ?_⟩
  rw [List.length_take] at hj
  have e2 : (ms.take k).getD j ⟨0, 0⟩ = ms.getD j ⟨0, 0⟩ := by
    simp only [List.getD_eq_getElem?_getD, List.getElem?_take]
    rw [if_pos (by omega)]
  rw [e2]
  exact hc j (by omega)
theorem RdE.nil {w : World} {B : Nat} {A : Option Addr} : RdE w B A [] := fun h => absurd h (by simp)
theorem infoE : (Tryd.prog.info? 41).map (fun i => (i.size, i.bytes, i.zero)) = some (2, 16, some (.agg #[.int .i64 0, .int .i64 0])) := by kernel_rfl
def OwnE (w : World) (base : Nat) (v : Value) (l : List PrV) : Prop := w.ownsRow base 41 2 v l.length (rowE l)
section
variable {w w' : World} {base : Nat} {v : Value} {l : List PrV}
theorem OwnE.form (h : OwnE w base v l) : ∃ A c, v = .slice A l.length c ∧ RdE w w.heap.size A l ∧ (∀ g, v.ownBlock = some g → base ≤ g ∧ g < w.heap.size) := by
  have hlt := World.ownsRow.lt h
  have hr := rowE_len l
  rcases h.2 with ⟨hv, h0⟩ | ⟨g, cap, cur, hv, hb, hg, hn, hm, hs, ht⟩
  · have hl : l = [] := List.eq_nil_of_length_eq_zero h0
    subst hl
    exact ⟨none, 0, hv, RdE.nil, hlt⟩
  · subst hv
    refine ⟨_, cap, rfl, fun _ => ⟨g, 0, rfl, (hlt g rfl).2, fun j hj => ?_⟩, hlt⟩
    have hc := World.ownsRow.cellAt h (j * 2) (by omega)
    have hd := World.ownsRow.cellAt h (j * 2 + 1) (by omega)
    rw [Nat.zero_add, hc, hd]
    exact rowE_at l j hj
theorem OwnE.rd {A : Option Addr} {n c : Nat} (h : OwnE w base (.slice A n c) l) : RdE w w.heap.size A l ∧ n = l.length := by
  obtain ⟨A', c', e, hr, _⟩ := h.form
  injection e with e1 e2 e3
  subst e1
  exact ⟨hr, e2⟩
theorem OwnE.cap {A : Option Addr} {n c : Nat} (h : OwnE w base (.slice A n c) l) : n ≤ c ∧ c ≤ 9223372036854775807 := by
  rcases h.2 with ⟨h0, _⟩ | ⟨g, cap, cur, hv, _, _, h1, h2, _⟩
  · injection h0 with e1 e2 e3
    omega
  · injection hv with e1 e2 e3
    unfold maxLen at h2
    omega
theorem OwnE.nil_ (w : World) (base : Nat) : OwnE w base (.slice none 0 0) [] := World.ownsRow_nil w base 41 2
theorem OwnE.lt (h : OwnE w base v l) : ∀ g, v.ownBlock = some g → base ≤ g ∧ g < w.heap.size := World.ownsRow.lt h
theorem OwnE.kept {row : Option Nat} (h : OwnE w base v l) (hg : w.grownBy w' row) (hne : v.ownBlock = none ∨ v.ownBlock ≠ row) : OwnE w' base v l := World.ownsRow.kept h hg hne
theorem OwnE.below {B : Nat} (h : OwnE w base v l) (hb : Below B w w') (hB : w.heap.size ≤ B) : OwnE w' base v l := by
  refine World.ownsRow.kept (row := none) h ⟨hb.os, hb.tape, hb.output, hb.size, fun k hk _ => hb.block k (by omega)⟩ ?_
  cases h1 : v.ownBlock with
  | none => exact .inl rfl
  | some g => exact .inr (by simp)
theorem OwnE.alloc (h : OwnE w base v l) (o : Obj) : OwnE (w.alloc o) base v l := World.ownsRow.alloc h o
theorem news_of_rdEa {B : Nat} {ad : Addr} {m : List PrV} (hr : RdE w B (some ad) m) : ∀ j u, (rowE m)[j]? = some u → w.cell? (ad.add j) = some u := by
  intro j u hu
  have hl := rowE_len m
  have hj := (List.getElem?_eq_some_iff.1 hu).1
  obtain ⟨b, off, e, _⟩ := id hr (by omega)
  injection e with e
  subst e
  exact news_of_rdE hr j u hu
/-- append onto an own slice. -/
theorem run_appEE (h : OwnE w base v l) {B : Nat} {A : Option Addr} {m : List PrV} (hr : RdE w B A m) (n c : Nat) (hn : m.length = n) (ty : TypeId)
    (hsz : l.length + n ≤ 1000000) (hbase : base ≤ w.heap.size) :
    ∃ v' w', (Builtin.append_ #[30, 30] ty #[v, .slice A n c]).run Tryd.prog w = .ok v' w' ∧ OwnE w' base v' (l ++ m) ∧ w.grownBy w' v.ownBlock ∧ (v'.ownBlock = v.ownBlock ∨ v'.ownBlock = some w.heap.size) := by
  subst hn
  obtain ⟨i, hi, hii⟩ := Option.map_eq_some_iff.1 infoE
  simp only [Prod.mk.injEq] at hii
  obtain ⟨hsize, hby, hz⟩ := hii
  rcases A with _ | ad
  · have hm : m = [] := by
      rcases Nat.eq_zero_or_pos m.length with h0 | h0
      · exact List.eq_nil_of_length_eq_zero h0
      · obtain ⟨_, _, e, _⟩ := hr h0
        cases e
    subst hm
    have hrun : (Builtin.append_ #[30, 30] ty #[v, .slice none 0 c]).run Tryd.prog w = .ok v w := by
      rcases h.2 with ⟨hv, h0⟩ | ⟨g, cap, cur, hv, _, _, hnc, _⟩
      · subst hv
        simp [Builtin.append_, run_underlying Tryd.underlying30, sizeOf, typeInfo, hi, Builtin.lenOf, Builtin.firstCells]
      · subst hv
        simp [Builtin.append_, run_underlying Tryd.underlying30, sizeOf, typeInfo, hi, Builtin.lenOf, Builtin.firstCells, hnc, storeCells]
    exact ⟨v, w, hrun, by rw [List.append_nil]; exact h, World.grownBy.refl w _, .inl rfl⟩
  · obtain ⟨v', w', hrun, h2, h3, _, h5⟩ := run_append_own_at (P := Tryd.prog) w base 30 ty 41 i (.agg #[.int .i64 0, .int .i64 0]) 2 16 Tryd.underlying30 hi hz hsize hby rfl (by decide) v l.length (rowE l) h ad m.length c (rowE m)
      (rowE_len m) (news_of_rdEa hr) (rowE_one m) (by simp only [maxLen]; omega) (by omega) hbase
    refine ⟨v', w', hrun, ?_, h3, h5⟩
    have e : rowE l ++ rowE m = rowE (l ++ m) := by simp [rowE]
    rw [e] at h2
    unfold OwnE
    rw [List.length_append]
    exact h2
/-- At the operation. -/
theorem wp_appEE {o : Oper} {a : Act} {K : Act → World → Prop} {Q : Exit → Act → World → Prop} (s x : Operand)
    (ho : o.op = .call { callee := .builtin .append, args := #[s, x], argTypes := #[30, 30] })
    (h : OwnE w base v l) (hs : a.eval s = v) {B : Nat} {A : Option Addr} {m : List PrV} (n c : Nat) (hx : a.eval x = .slice A n c) (hr : RdE w B A m) (hn : m.length = n)
    (hsz : l.length + n ≤ 1000000) (hbase : base ≤ w.heap.size)
    (hK : ∀ A' c' w', OwnE w' base (.slice A' (l.length + n) c') (l ++ m) → w.grownBy w' v.ownBlock → ((Value.slice A' (l.length + n) c').ownBlock = v.ownBlock ∨ (Value.slice A' (l.length + n) c').ownBlock = some w.heap.size) → K (a.put o.dst (.slice A' (l.length + n) c')) w') : o.wp Tryd.prog a w K Q := by
  obtain ⟨v', w', hrun, h2, h3, h4⟩ := run_appEE h hr n c hn o.type hsz hbase
  obtain ⟨A', c', hv, _⟩ := h2.form
  rw [List.length_append, hn] at hv
  subst hv
  unfold Oper.wp execOp
  simp only [ho, resolve, invoke, builtin, Sem.run_bind, Sem.run_pure, Result.andThen_ok, List.map_toArray, List.map_cons, List.map_nil, hs, hx, hrun]
  exact hK A' c' w' h2 h3 h4
theorem wpList_appEE {ops : Array Oper} {rest : List Oper} {o : Oper} {a : Act} {Q : Exit → Act → World → Prop} (hgd : o.guard = none) (s x : Operand)
    (ho : o.op = .call { callee := .builtin .append, args := #[s, x], argTypes := #[30, 30] })
    (h : OwnE w base v l) (hs : a.eval s = v) {B : Nat} {A : Option Addr} {m : List PrV} (n c : Nat) (hx : a.eval x = .slice A n c) (hr : RdE w B A m) (hn : m.length = n)
    (hsz : l.length + n ≤ 1000000) (hbase : base ≤ w.heap.size)
    (hK : ∀ A' c' w', OwnE w' base (.slice A' (l.length + n) c') (l ++ m) → w.grownBy w' v.ownBlock → ((Value.slice A' (l.length + n) c').ownBlock = v.ownBlock ∨ (Value.slice A' (l.length + n) c').ownBlock = some w.heap.size) → wpList Tryd.prog ops Q rest (a.put o.dst (.slice A' (l.length + n) c')) w') : wpList Tryd.prog ops Q (o :: rest) a w :=
  wpList_plain hgd fun _ hk => wp_appEE s x ho h hs n c hx hr hn hsz hbase fun A' c' w' h2 h3 h4 => hk _ _ (hK A' c' w' h2 h3 h4)
end
end Go.Proofs.YtkhmghmilnfngaaDoor

namespace Go.Proofs.YtkhmghmilnfngaaDoor
set_option maxRecDepth 100000
open Go.RowKit
set_option linter.unusedVariables false
set_option linter.unusedSimpArgs false

theorem infoW : (Tryd.prog.info? 4).map (fun i => (i.zero, i.size, i.bytes)) = some (some (.bool false), 1, 1) := by kernel_rfl
/-- The cells of a row of bytes. -/
def rowW (l : List Bool) : Array Value := (l.map fun (b : Bool) => Value.bool b).toArray

theorem rowW_size (l : List Bool) : (rowW l).size = l.length := by simp [rowW]
theorem rowW_get (l : List Bool) (i : Nat) : (rowW l)[i]? = l[i]?.map fun (b : Bool) => Value.bool b := by simp [rowW]
theorem rowW_at (l : List Bool) (i : Nat) (h : i < l.length) : (rowW l)[i]? = some (.bool (l.getD i false)) := by
  rw [rowW_get, List.getElem?_eq_getElem h]
  simp [List.getD, h]
theorem rowW_set (l : List Bool) (i : Nat) (b : Bool) : (rowW l).setIfInBounds i (.bool b) = rowW (l.set i b) := by
  simp [rowW, List.map_set]
/-- A slice at A reads as the bytes l; its memory lies below block B. A is of no account where l is empty. -/
def RdW (w : World) (B : Nat) (A : Option Addr) (l : List Bool) : Prop :=
  0 < l.length → ∃ b off, A = some ⟨b, off, none⟩ ∧ b < B ∧ ∀ j, j < l.length → w.cell? ⟨b, off + j, none⟩ = some (.bool (l.getD j false))

section
variable {w w' : World} {B B' : Nat} {A : Option Addr} {l : List Bool}
theorem RdW.nil : RdW w B A [] := fun h => absurd h (by simp)
theorem RdW.at_ {k : Nat} (h : RdW w B A l) (hk : k < l.length) : ∃ b off, A = some ⟨b, off, none⟩ ∧ b < B ∧ w.cell? ⟨b, off + k, none⟩ = some (.bool (l.getD k false)) := by
  obtain ⟨b, off, e, hb, hc⟩ := h (by omega)
  exact ⟨b, off, e, hb, hc k hk⟩
theorem RdW.keep (h : RdW w B A l) (hk : ∀ p : Addr, p.block < B → w'.cell? p = w.cell? p) : RdW w' B A l := fun hn => by
  obtain ⟨b, off, e, hb, hc⟩ := h hn
  exact ⟨b, off, e, hb, fun j hj => (hk _ hb).trans (hc j hj)⟩
theorem RdW.more (h : RdW w B A l) (hB : B ≤ B') : RdW w B' A l := fun hn => by
  obtain ⟨b, off, e, hb, hc⟩ := h hn
  exact ⟨b, off, e, by omega, hc⟩
theorem RdW.below (h : RdW w B A l) (hb : Below B w w') : RdW w' B A l := h.keep fun _ hp => hb.cell hp
theorem RdW.drew (h : RdW w B A l) : RdW w.drew B A l := h
theorem RdW.drewN (h : RdW w B A l) (n : Nat) : RdW (w.drewN n) B A l := h
theorem RdW.alloc (h : RdW w B A l) (hB : B ≤ w.heap.size) (o : Obj) : RdW (w.alloc o) B A l := h.keep fun p hp => World.cell?_alloc_lt w o p (by omega)
theorem RdW.setCell (h : RdW w B A l) {p : Addr} (hB : B ≤ p.block) (u : Value) : RdW (w.setCell p u) B A l :=
  h.keep fun q hq => World.cell?_setCell_other w p q u (fun e => by subst e; omega)
theorem RdW.take (h : RdW w B A l) (n : Nat) : RdW w B A (l.take n) := fun hn => by
  have hl : (l.take n).length ≤ l.length := by simp; omega
  obtain ⟨b, off, e, hb, hc⟩ := h (by omega)
  refine ⟨b, off, e, hb, fun j hj => ?_⟩
  rw [hc j (by omega)]
  have : j < n := by simp at hj; omega
  simp [List.getD, this]
theorem RdW.drop {b off : Nat} (h : RdW w B (some ⟨b, off, none⟩) l) (n : Nat) : RdW w B (some ⟨b, off + n, none⟩) (l.drop n) := fun hn => by
  simp at hn
  obtain ⟨b', off', e, hb, hc⟩ := h (by omega)
  injection e with e
  injection e with e1 e2
  subst e1 e2
  refine ⟨b, off + n, rfl, hb, fun j hj => ?_⟩
  simp at hj
  rw [Nat.add_assoc, hc (n + j) (by omega)]
  simp [List.getD]
end

/-- v is a slice of the call's own (its block from base on, or none), and reads as l. -/
def OwnW (w : World) (base : Nat) (v : Value) (l : List Bool) : Prop := w.ownsRow base 4 1 v l.length (rowW l).toList

section
variable {w w' : World} {base : Nat} {v : Value} {l : List Bool}
theorem OwnW.form (h : OwnW w base v l) : ∃ A c, v = .slice A l.length c ∧ RdW w w.heap.size A l ∧ (∀ g, v.ownBlock = some g → base ≤ g ∧ g < w.heap.size) := by
  have hlt := World.ownsRow.lt h
  rcases h.2 with ⟨hv, h0⟩ | ⟨g, cap, cur, hv, hb, hg, hn, hm, hs, ht⟩
  · have hl : l = [] := List.eq_nil_of_length_eq_zero h0
    subst hl
    exact ⟨none, 0, hv, RdW.nil, hlt⟩
  · subst hv
    refine ⟨_, cap, rfl, fun _ => ⟨g, 0, rfl, (hlt g rfl).2, fun j hj => ?_⟩, hlt⟩
    have hc := World.ownsRow.cellAt h j (by omega)
    rw [Nat.zero_add, hc]
    have := rowW_at l j hj
    simpa using this
theorem OwnW.rd {A : Option Addr} {n c : Nat} (h : OwnW w base (.slice A n c) l) : RdW w w.heap.size A l ∧ n = l.length := by
  obtain ⟨A', c', e, hr, _⟩ := h.form
  injection e with e1 e2 e3
  subst e1
  exact ⟨hr, e2⟩
theorem OwnW.nil_ (w : World) (base : Nat) : OwnW w base (.slice none 0 0) [] := World.ownsRow_nil w base 4 1
/-- '[]byte{}', '[]byte{x}': just laid. -/
theorem OwnW.lit (w : World) (base : Nat) (l : List Bool) (hb : base ≤ w.heap.size) (hm : l.length ≤ maxLen) : OwnW (w.alloc (.cells (rowW l) 4)) base (.slice (some ⟨w.heap.size, 0, none⟩) l.length l.length) l := by
  have h := World.ownsRow_lit (e := 4) (size := 1) w (rowW l) l.length hb hm (by rw [rowW_size, Nat.mul_one])
  exact h
theorem OwnW.kept {row : Option Nat} (h : OwnW w base v l) (hg : w.grownBy w' row) (hne : v.ownBlock = none ∨ v.ownBlock ≠ row) : OwnW w' base v l := World.ownsRow.kept h hg hne
theorem OwnW.below {B : Nat} (h : OwnW w base v l) (hb : Below B w w') (hB : w.heap.size ≤ B) : OwnW w' base v l := by
  refine World.ownsRow.kept (row := none) h ⟨hb.os, hb.tape, hb.output, hb.size, fun k hk _ => hb.block k (by omega)⟩ ?_
  cases h1 : v.ownBlock with
  | none => exact .inl rfl
  | some g => exact .inr (by simp)
theorem OwnW.drew (h : OwnW w base v l) : OwnW w.drew base v l := h
theorem OwnW.drewN (h : OwnW w base v l) (n : Nat) : OwnW (w.drewN n) base v l := h
theorem OwnW.alloc (h : OwnW w base v l) (o : Obj) : OwnW (w.alloc o) base v l := World.ownsRow.alloc h o

theorem news_of_rdW {B : Nat} {ad : Addr} {m : List Bool} (hr : RdW w B (some ad) m) : ∀ j u, (rowW m).toList[j]? = some u → w.cell? (ad.add j) = some u := by
  intro j u hu
  have hj : j < m.length := by
    have := (List.getElem?_eq_some_iff.1 hu).1
    simpa [rowW] using this
  obtain ⟨b, off, e, _, hc⟩ := hr (by omega)
  injection e with e
  subst e
  have hp : (⟨b, off, none⟩ : Addr).add j = ⟨b, off + j, none⟩ := by unfold Addr.add; split <;> simp_all
  rw [hp, hc j hj]
  have h2 := rowW_at m j hj
  have h3 : (rowW m).toList[j]? = (rowW m)[j]? := by simp
  rw [← hu, h3, h2]
theorem one_of_rowW (m : List Bool) : ∀ u ∈ (rowW m).toList, u.oneCell' = true := by
  intro u hu
  have h2 : u ∈ m.map (fun (b : Bool) => Value.bool b) := by simpa only [rowW, List.toList_toArray] using hu
  obtain ⟨b, _, rfl⟩ := List.mem_map.1 h2
  rfl

/-- append onto an own slice. -/
theorem run_appW (h : OwnW w base v l) {B : Nat} {A : Option Addr} {m : List Bool} (hr : RdW w B A m) (n c : Nat) (hn : m.length = n) (ty : TypeId)
    (hsz : l.length + n ≤ 1000000) (hbase : base ≤ w.heap.size) :
    ∃ v' w', (Builtin.append_ #[42, 42] ty #[v, .slice A n c]).run Tryd.prog w = .ok v' w' ∧ OwnW w' base v' (l ++ m) ∧ w.grownBy w' v.ownBlock ∧ (v'.ownBlock = v.ownBlock ∨ v'.ownBlock = some w.heap.size) := by
  subst hn
  obtain ⟨i, hi, hz, hsize, hby⟩ := info_parts infoW
  rcases A with _ | ad
  · have hm : m = [] := by
      rcases Nat.eq_zero_or_pos m.length with h0 | h0
      · exact List.eq_nil_of_length_eq_zero h0
      · obtain ⟨_, _, e, _⟩ := hr h0
        cases e
    subst hm
    have hrun : (Builtin.append_ #[42, 42] ty #[v, .slice none 0 c]).run Tryd.prog w = .ok v w := by
      rcases h.2 with ⟨hv, h0⟩ | ⟨g, cap, cur, hv, _, _, hnc, _⟩
      · subst hv
        simp [Builtin.append_, run_underlying Tryd.underlying42, sizeOf, typeInfo, hi, Builtin.lenOf, Builtin.firstCells]
      · subst hv
        simp [Builtin.append_, run_underlying Tryd.underlying42, sizeOf, typeInfo, hi, Builtin.lenOf, Builtin.firstCells, hnc, storeCells]
    exact ⟨v, w, hrun, by rw [List.append_nil]; exact h, World.grownBy.refl w _, .inl rfl⟩
  · obtain ⟨v', w', hrun, h2, h3, _, h5⟩ := run_append_own_at (P := Tryd.prog) w base 42 ty 4 i (.bool false) 1 1 Tryd.underlying42 hi hz hsize hby rfl (by decide) v l.length (rowW l).toList h ad m.length c (rowW m).toList
      (by simp [rowW]) (news_of_rdW hr) (one_of_rowW m) (by simp only [maxLen]; omega) (by omega) hbase
    refine ⟨v', w', hrun, ?_, h3, h5⟩
    have e : (rowW l).toList ++ (rowW m).toList = (rowW (l ++ m)).toList := by simp [rowW]
    rw [e] at h2
    unfold OwnW
    rw [List.length_append]
    exact h2

/-- At the operation. -/
theorem wp_appW {o : Oper} {a : Act} {K : Act → World → Prop} {Q : Exit → Act → World → Prop} (s x : Operand)
    (ho : o.op = .call { callee := .builtin .append, args := #[s, x], argTypes := #[42, 42] })
    (h : OwnW w base v l) (hs : a.eval s = v) {B : Nat} {A : Option Addr} {m : List Bool} (n c : Nat) (hx : a.eval x = .slice A n c) (hr : RdW w B A m) (hn : m.length = n)
    (hsz : l.length + n ≤ 1000000) (hbase : base ≤ w.heap.size)
    (hK : ∀ A' c' w', OwnW w' base (.slice A' (l.length + n) c') (l ++ m) → w.grownBy w' v.ownBlock → ((Value.slice A' (l.length + n) c').ownBlock = v.ownBlock ∨ (Value.slice A' (l.length + n) c').ownBlock = some w.heap.size) → K (a.put o.dst (.slice A' (l.length + n) c')) w') : o.wp Tryd.prog a w K Q := by
  obtain ⟨v', w', hrun, h2, h3, h4⟩ := run_appW h hr n c hn o.type hsz hbase
  obtain ⟨A', c', hv, _⟩ := h2.form
  rw [List.length_append, hn] at hv
  subst hv
  unfold Oper.wp execOp
  simp only [ho, resolve, invoke, builtin, Sem.run_bind, Sem.run_pure, Result.andThen_ok, List.map_toArray, List.map_cons, List.map_nil, hs, hx, hrun]
  exact hK A' c' w' h2 h3 h4
theorem wpList_appW {ops : Array Oper} {rest : List Oper} {o : Oper} {a : Act} {Q : Exit → Act → World → Prop} (hgd : o.guard = none) (s x : Operand)
    (ho : o.op = .call { callee := .builtin .append, args := #[s, x], argTypes := #[42, 42] })
    (h : OwnW w base v l) (hs : a.eval s = v) {B : Nat} {A : Option Addr} {m : List Bool} (n c : Nat) (hx : a.eval x = .slice A n c) (hr : RdW w B A m) (hn : m.length = n)
    (hsz : l.length + n ≤ 1000000) (hbase : base ≤ w.heap.size)
    (hK : ∀ A' c' w', OwnW w' base (.slice A' (l.length + n) c') (l ++ m) → w.grownBy w' v.ownBlock → ((Value.slice A' (l.length + n) c').ownBlock = v.ownBlock ∨ (Value.slice A' (l.length + n) c').ownBlock = some w.heap.size) → wpList Tryd.prog ops Q rest (a.put o.dst (.slice A' (l.length + n) c')) w') : wpList Tryd.prog ops Q (o :: rest) a w :=
  wpList_plain hgd fun _ hk => wp_appW s x ho h hs n c hx hr hn hsz hbase fun A' c' w' h2 h3 h4 => hk _ _ (hK A' c' w' h2 h3 h4)
theorem step_appW {ops : Array Oper} {o : Oper} {a : Act} {K : Act → World → Prop} {Q : Exit → Act → World → Prop} {E : Prop} (hgd : o.guard = none) (s x : Operand)
    (ho : o.op = .call { callee := .builtin .append, args := #[s, x], argTypes := #[42, 42] })
    (h : OwnW w base v l) (hs : a.eval s = v) {B : Nat} {A : Option Addr} {m : List Bool} (n c : Nat) (hx : a.eval x = .slice A n c) (hr : RdW w B A m) (hn : m.length = n)
    (hsz : l.length + n ≤ 1000000) (hbase : base ≤ w.heap.size)
    (hK : ∀ A' c' w', OwnW w' base (.slice A' (l.length + n) c') (l ++ m) → w.grownBy w' v.ownBlock → ((Value.slice A' (l.length + n) c').ownBlock = v.ownBlock ∨ (Value.slice A' (l.length + n) c').ownBlock = some w.heap.size) → K (a.put o.dst (.slice A' (l.length + n) c')) w') :
    if Region.wanted o (yielded ops a.tmps) = true then Oper.wp Tryd.prog o a w K Q else E := by
  have hw : Region.wanted o (yielded ops a.tmps) = true := by simp [Region.wanted, hgd]
  rw [if_pos hw]
  exact wp_appW s x ho h hs n c hx hr hn hsz hbase hK
end
end Go.Proofs.YtkhmghmilnfngaaDoor

namespace Go.Proofs.YtkhmghmilnfngaaDoor
set_option maxRecDepth 100000
set_option linter.unusedVariables false
set_option linter.unusedSimpArgs false

def downs (up : Nat → Bool) (l : List Nat) : List Nat := l.dropWhile fun s => !up s
/-- One of the first ones: it, or the first other that is up. -/
def stStep (up : Nat → Bool) (st : List PrV × List Nat) (x : Nat) : List PrV × List Nat :=
  if up x = true then (st.1 ++ [⟨x, x⟩], st.2) else match downs up st.2 with
    | [] => st
    | s :: sp => (st.1 ++ [⟨s, x⟩], sp)
def stAll (up : Nat → Bool) (ws : List Nat) (n k : Nat) : List PrV × List Nat := (ws.take k).foldl (stStep up) ([], ws.drop n)
theorem stAll_succ {up : Nat → Bool} {ws : List Nat} {n k x : Nat} (h : ws.take (k + 1) = ws.take k ++ [x]) : stAll up ws n (k + 1) = stStep up (stAll up ws n k) x := by
  unfold stAll
  rw [h, List.foldl_append]
  rfl
theorem stAll_zero (up : Nat → Bool) (ws : List Nat) (n : Nat) : stAll up ws n 0 = ([], ws.drop n) := rfl
theorem step_up {up : Nat → Bool} {st : List PrV × List Nat} {x : Nat} (h : up x = true) : stStep up st x = (st.1 ++ [⟨x, x⟩], st.2) := by
  unfold stStep
  rw [if_pos h]
theorem step_none {up : Nat → Bool} {st : List PrV × List Nat} {x : Nat} (h : up x = false) (hd : downs up st.2 = []) : stStep up st x = st := by
  unfold stStep
  rw [if_neg (by rw [h]; decide), hd]
theorem step_some {up : Nat → Bool} {st : List PrV × List Nat} {x s : Nat} {sp : List Nat} (h : up x = false) (hd : downs up st.2 = s :: sp) : stStep up st x = (st.1 ++ [⟨s, x⟩], sp) := by
  unfold stStep
  rw [if_neg (by rw [h]; decide), hd]
theorem downs_cons_up {up : Nat → Bool} {s : Nat} {l : List Nat} (h : up s = true) : downs up (s :: l) = s :: l := by
  unfold downs
  rw [List.dropWhile_cons, if_neg (by simp [h])]
theorem downs_cons_down {up : Nat → Bool} {s : Nat} {l : List Nat} (h : up s = false) : downs up (s :: l) = downs up l := by
  unfold downs
  rw [List.dropWhile_cons, if_pos (by simp [h])]
theorem drop_getD {l : List Nat} {k : Nat} (h : k < l.length) : l.drop k = l.getD k 0 :: l.drop (k + 1) := by
  rw [List.drop_eq_getElem_cons h, List.getD_eq_getElem?_getD, List.getElem?_eq_getElem h]
  rfl
/-- The first that is up stands at i. -/
theorem downs_at {up : Nat → Bool} : ∀ {l : List Nat} {i : Nat}, i < l.length → (∀ j, j < i → up (l.getD j 0) = false) → up (l.getD i 0) = true → downs up l = l.getD i 0 :: l.drop (i + 1)
  | [], _, h, _, _ => absurd h (by simp)
  | a :: l, 0, _, _, h => downs_cons_up h
  | a :: l, i + 1, h, h1, h2 => by
    rw [downs_cons_down (show up a = false from h1 0 (by omega))]
    exact downs_at (l := l) (i := i) (by simpa using h) (fun j hj => h1 (j + 1) (by omega)) h2
theorem downs_none {up : Nat → Bool} : ∀ {l : List Nat}, (∀ j, j < l.length → up (l.getD j 0) = false) → downs up l = []
  | [], _ => rfl
  | a :: l, h => by
    rw [downs_cons_down (show up a = false from h 0 (by simp))]
    exact downs_none fun j hj => h (j + 1) (by simpa using hj)
theorem downs_suffix (up : Nat → Bool) (l : List Nat) : downs up l <:+ l := List.dropWhile_suffix _
theorem downs_up {up : Nat → Bool} : ∀ {l : List Nat} {s : Nat} {sp : List Nat}, downs up l = s :: sp → up s = true
  | a :: l, s, sp, h => by
    cases ha : up a with
    | true =>
      rw [downs_cons_up ha] at h
      injection h with h1 h2
      rw [← h1]
      exact ha
    | false =>
      rw [downs_cons_down ha] at h
      exact downs_up h
/-- Nobody stands in twice, all who do are up. -/
theorem stAll_good {up : Nat → Bool} {ws : List Nat} (hn : ws.Nodup) (n : Nat) : ∀ (k : Nat), k ≤ n → n ≤ ws.length →
    (((stAll up ws n k).1.map (·.p)) ++ ((ws.take n).drop k ++ (stAll up ws n k).2)).Nodup ∧ (∀ q ∈ (stAll up ws n k).1, up q.p = true) ∧ (∀ q ∈ (stAll up ws n k).1, q.p ∈ ws) ∧ (∀ q ∈ (stAll up ws n k).2, q ∈ ws) ∧ (stAll up ws n k).1.length ≤ k
  | 0, _, _ => by
    rw [stAll_zero]
    refine ⟨?_, fun q h => by simp at h, fun q h => by simp at h, fun q h => List.mem_of_mem_drop h, Nat.le_refl _⟩
    simpa using hn
  | k + 1, hk, hw => by
    obtain ⟨h1, h2, h4, h5, h6⟩ := stAll_good hn n k (by omega) hw
    have hlt : k < ws.length := by omega
    have ht : ws.take (k + 1) = ws.take k ++ [ws.getD k 0] := by
      rw [List.take_succ_eq_append_getElem hlt, List.getD_eq_getElem?_getD, List.getElem?_eq_getElem hlt]
      rfl
    have hd : (ws.take n).drop k = ws.getD k 0 :: (ws.take n).drop (k + 1) := by
      have h3 := drop_getD (l := ws.take n) (k := k) (by rw [List.length_take]; omega)
      rw [h3]
      congr 1
      rw [List.getD_eq_getElem?_getD, List.getElem?_take, if_pos (by omega), ← List.getD_eq_getElem?_getD]
    have hxw : ws.getD k 0 ∈ ws := by
      rw [List.getD_eq_getElem?_getD, List.getElem?_eq_getElem hlt]
      exact List.getElem_mem _
    rw [stAll_succ ht]
    rw [hd] at h1
    generalize ws.getD k 0 = x at *
    generalize (ws.take n).drop (k + 1) = R at *
    generalize stAll up ws n k = st at *
    obtain ⟨o, sp⟩ := st
    cases hu : up x with
    | true =>
      rw [step_up hu]
      refine ⟨?_, ?_, ?_, h5, by simp; omega⟩
      · simpa using h1
      · intro q hq
        rcases List.mem_append.1 hq with h | h
        · exact h2 q h
        · obtain rfl := List.mem_singleton.1 h
          exact hu
      · intro q hq
        rcases List.mem_append.1 hq with h | h
        · exact h4 q h
        · obtain rfl := List.mem_singleton.1 h
          exact hxw
    | false =>
      cases hdn : downs up sp with
      | nil =>
        rw [step_none hu hdn]
        refine ⟨?_, h2, h4, h5, by simp at h6 ⊢; omega⟩
        refine h1.sublist (List.Sublist.append_left ?_ _)
        exact List.sublist_cons_self _ _
      | cons s sp' =>
        rw [step_some hu hdn]
        have hsuf := downs_suffix up sp
        rw [hdn] at hsuf
        have hsw : s ∈ ws := h5 s (hsuf.subset (by simp))
        refine ⟨?_, ?_, ?_, fun q hq => h5 q (hsuf.subset (by simp [hq])), by simp at h6 ⊢; omega⟩
        · have h3 : (o.map (·.p) ++ (x :: R ++ (s :: sp'))).Nodup := h1.sublist (List.Sublist.append_left (List.Sublist.append_left hsuf.sublist _) _)
          have h7 : (o.map (·.p) ++ (R ++ (s :: sp'))).Nodup := h3.sublist (List.Sublist.append_left (List.sublist_cons_self _ _) _)
          have hp : List.Perm (o.map PrV.p ++ (R ++ (s :: sp'))) ((o ++ [(⟨s, x⟩ : PrV)]).map PrV.p ++ (R ++ sp')) := by
            rw [List.map_append, List.append_assoc]
            exact List.Perm.append_left _ List.perm_middle
          exact hp.nodup_iff.1 h7
        · intro q hq
          rcases List.mem_append.1 hq with h | h
          · exact h2 q h
          · obtain rfl := List.mem_singleton.1 h
            exact downs_up hdn
        · intro q hq
          rcases List.mem_append.1 hq with h | h
          · exact h4 q h
          · obtain rfl := List.mem_singleton.1 h
            exact hsw
end Go.Proofs.YtkhmghmilnfngaaDoor

namespace Go.Proofs.YtkhmghmilnfngaaDoor
set_option maxRecDepth 100000
open Go.ChangeShapes Go.WideShapes Go.ChangeAt Go.RowKit
set_option linter.unusedVariables false
set_option linter.unusedSimpArgs false

/-- What lies in the box of up. -/
def UpIs (w : World) (g : Nat) (ul : List Bool) : Prop := ∃ A c, Bk w g 42 #[.slice A ul.length c] ∧ RdW w w.heap.size A ul
theorem UpIs.below {w w' : World} {g : Nat} {L : List Bool} (h : UpIs w g L) (hb : Below w.heap.size w w') : UpIs w' g L := by
  obtain ⟨A, c, k, r⟩ := h
  exact ⟨A, c, k.below hb k.lt, (r.below hb).more hb.size⟩
def BolP (w : World) (b : Bool) (e : Ending) (w' : World) : Prop := e = .returned (.bool b) ∧ w = w'
set_option maxRecDepth 100000 in
set_option maxHeartbeats 1000000 in
theorem stand1_any (w : World) (g : Nat) (ul : List Bool) (h : UpIs w g ul) (s : Nat) (hs : s < ul.length) (h6 : ul.length ≤ 1000) :
    Calls Tryd.prog 17 #[.int .i64 (s : Int), .pointer (some ⟨g, 0, none⟩)] w (BolP w (ul.getD s false)) := by
  obtain ⟨A, c, hk, hr⟩ := h
  have k0 := (show w.cell? ⟨g, 0, none⟩ = some (.slice A ul.length c) from hk.cell 0)
  obtain ⟨b, off, rfl, hbl, hc⟩ := hr.at_ hs
  obtain ⟨n, hn⟩ : ∃ n, ul.length = n := ⟨_, rfl⟩
  rw [hn] at k0 hs h6
  have t0 : (s : Int) < (n : Int) := by omega
  generalize ul.getD s false = v at *
  clear hk hr hn
  go_enter Tryd.func17, Tryd.ntmps17
  go_wp2
  go_ret
  exact ⟨rfl, rfl⟩
def IfP (w : World) (up : Nat → Bool) (l : List Nat) (e : Ending) (w' : World) : Prop := ∃ z : Int, e = .returned (.int .i64 z) ∧ Below w.heap.size w w' ∧ ((z = -1 ∧ downs up l = []) ∨ (∃ i : Nat, z = (i : Int) ∧ i < l.length ∧ downs up l = l.getD i 0 :: l.drop (i + 1)))
def upF (ul : List Bool) (s : Nat) : Bool := ul.getD s false
set_option maxRecDepth 100000 in
set_option maxHeartbeats 2000000 in
theorem indexF_any (w : World) (g : Nat) (ul : List Bool) (h : UpIs w g ul) (h6 : ul.length ≤ 1000) (A : Option Addr) (n c : Nat) (l : List Nat) (hn : l.length = n) (hr : RdZ w w.heap.size A l) (hm : n ≤ 1000000) (hx : ∀ x ∈ l, x < ul.length) :
    Calls Tryd.prog 16 #[.slice A n c, .func (.func 17) #[] #[.pointer (some ⟨g, 0, none⟩)]] w (IfP w (upF ul) l) := by
  have HN := hidrg_ hn
  have HR := hidrg_ hr
  have HU := hidrg_ h
  have HX := hidrg_ hx
  clear hn hr h hx
  go_enter Tryd.func16, Tryd.ntmps16
  go_wp2
  go_loopw [8] (fun i wr => ∃ (k : Nat), i = .int .i64 k ∧ k ≤ n ∧ Hid (Below w.heap.size w wr) ∧ Hid (∀ j, j < k → upF ul (l.getD j 0) = false)) (fun i _ => n - (intOf i).toNat)
  case atStart => exact ⟨0, rfl, Nat.zero_le _, hidrg_ (Below.refl _ _), hidrg_ (fun j h => absurd h (by omega))⟩
  case round =>
    obtain ⟨k, rfl, hk, HB, H1⟩ := hrel
    by_cases hlt : k < n
    · have tl : (k : Int) < (n : Int) := by omega
      obtain ⟨b, off, rfl, hbl, hc⟩ := (HR.out.below HB.out).at_ (k := k) (by rw [HN.out]; exact hlt)
      obtain ⟨z, hz, hzm, hzt⟩ := getD_of (l := l) (k := k) (by rw [HN.out]; exact hlt)
      rw [hz] at hc
      have cs := stand1_any wr g ul (HU.out.below HB.out) z (HX.out z hzm) h6
      have HZ := hidrg_ hz
      obtain ⟨v, hv⟩ : ∃ v, ul.getD z false = v := ⟨_, rfl⟩
      rw [hv] at cs
      have HV := hidrg_ (show upF ul (l.getD k 0) = v by rw [HZ.out]; exact hv)
      clear hz hzm hzt hv
      cases v with
      | true =>
        go_wp2_with (go_at_call 17; ((with_reducible refine cs.mono ?_); clear cs; rintro e w2 ⟨rfl, rfl⟩))
        go_ret
        exact ⟨(k : Int), rfl, HB.out, .inr ⟨k, rfl, by rw [HN.out]; exact hlt, downs_at (by rw [HN.out]; exact hlt) H1.out HV.out⟩⟩
      | false =>
        go_wp2_with (go_at_call 17; ((with_reducible refine cs.mono ?_); clear cs; rintro e w2 ⟨rfl, rfl⟩))
        go_roundw
        case rel => exact ⟨k + 1, by go_num, by omega, HB, hidrg_ (fun j hj => by
          rcases Nat.lt_or_ge j k with h | h
          · exact H1.out j h
          · obtain rfl : j = k := by omega
            exact HV.out)⟩
        case measure => simp [intOf]; omega
    · have tl : ¬ (k : Int) < (n : Int) := by omega
      have HE := hidrg_ (show k = n by omega)
      go_wp2
      go_ret
      exact ⟨-1, rfl, HB.out, .inl ⟨rfl, downs_none (fun j hj => H1.out j (by rw [HE.out, ← HN.out]; exact hj))⟩⟩
end Go.Proofs.YtkhmghmilnfngaaDoor

namespace Go.Proofs.YtkhmghmilnfngaaDoor
set_option maxRecDepth 100000
open Go.ChangeShapes Go.WideShapes Go.ChangeAt Go.RowKit
set_option linter.unusedVariables false
set_option linter.unusedSimpArgs false

theorem sliceZ_from (A : Option Addr) (n c : Nat) (z : Int) (k : Nat) (hz : z = (k : Int)) (hk : k ≤ n) (W : World) :
    (Instr.slice 24 (.slice A n c) (some (.int .i64 z)) none none).run Tryd.prog W = .ok (.slice (if c = k then A else A.map (·.add k)) (n - k) (c - k)) W := by
  subst hz
  have he : Tryd.prog.elem 24 = 3 := by kernel_rfl
  rw [run_slice_l W 24 A n c (by rw [he]; exact Tryd.underlying24) .i64 k (by omega) (by omega)]
  have hs : (sizeOf (Tryd.prog.elem 24)).run Tryd.prog W = .ok 1 W := by
    rw [he]
    obtain ⟨i, hi, hz, hsize, hby⟩ := info_parts infoZ
    simp [sizeOf, typeInfo, hi, hsize]
  rw [hs]
  simp only [Result.andThen, sliced, Int.toNat_natCast, Nat.mul_one]
theorem rdz_from {w : World} {B : Nat} {A : Option Addr} {l : List Nat} (h : RdZ w B A l) (c k : Nat) (hk : k ≤ l.length) (hc : l.length ≤ c) : RdZ w B (if c = k then A else A.map (·.add k)) (l.drop k) := by
  by_cases hck : c = k
  · rw [if_pos hck]
    have : l.drop k = [] := List.drop_eq_nil_of_le (by omega)
    rw [this]
    exact RdZ.nil
  · rw [if_neg hck]
    intro hn
    have hl : 0 < l.length := by simp at hn; omega
    obtain ⟨b, off, e, _⟩ := h hl
    subst e
    have h2 := h.drop k hn
    simp only [Option.map_some]
    have hp : (⟨b, off, none⟩ : Addr).add k = ⟨b, off + k, none⟩ := by unfold Addr.add; split <;> simp_all
    rw [hp]
    exact h2
theorem rde_one (w : World) (x y : Nat) : RdE (w.alloc (.cells #[.int .i64 (x : Int), .int .i64 (y : Int)] 41)) (w.alloc (.cells #[.int .i64 (x : Int), .int .i64 (y : Int)] 41)).heap.size (some ⟨w.heap.size, 0, none⟩) [⟨x, y⟩] := fun _ =>
  ⟨_, 0, rfl, by simp, fun j hj => by
    have : j = 0 := by simpa using hj
    subst this
    exact ⟨World.cell?_alloc_mark w #[.int .i64 (x : Int), .int .i64 (y : Int)] 41 _ 0, World.cell?_alloc_mark w #[.int .i64 (x : Int), .int .i64 (y : Int)] 41 _ 1⟩⟩
def StP (w : World) (l : List PrV) (e : Ending) (w' : World) : Prop := ∃ A c, e = .returned (.tuple #[.slice A l.length c, .int .i64 0]) ∧ RdE w' w'.heap.size A l ∧ Below w.heap.size w w'
theorem stAll_len {up : Nat → Bool} {ws : List Nat} (n : Nat) : ∀ (k : Nat), k ≤ ws.length → (stAll up ws n k).1.length ≤ k
  | 0, _ => Nat.le_refl _
  | k + 1, hk => by
    have h := stAll_len (up := up) (ws := ws) n k (by omega)
    obtain ⟨x, _, _, ht⟩ := getD_of (l := ws) (k := k) (by omega)
    rw [stAll_succ ht]
    cases hu : up x with
    | true => rw [step_up hu]; simp; omega
    | false =>
      cases hd : downs up (stAll up ws n k).2 with
      | nil => rw [step_none hu hd]; omega
      | cons s sp => rw [step_some hu hd]; simp; omega
set_option maxRecDepth 100000 in
set_option maxHeartbeats 8000000 in
theorem stand_any (w : World) (g : Nat) (L : List PtV) (hr : RingIs w g L) (hs : Srt ltP L) (hm : L.length ≤ 1000000) (K : List UInt8) (hK : K.length = 32) (ws : List Nat) (hws : walkV (plB K) L = ws) (n : Nat) (h1 : 1 ≤ n) (hn : n ≤ ws.length) (h8 : ws.length ≤ 8)
    (Au : Option Addr) (q cu : Nat) (ul : List Bool) (hul : ul.length = q) (hq : q = ws.length) (hru : RdW w w.heap.size Au ul) (hx : ∀ x ∈ ws, x < ws.length) :
    Calls Tryd.prog 9 #[.pointer (some ⟨g, 0, none⟩), .agg (rowOf K), .int .i64 (n : Int), .slice Au q cu] w (StP w (stAll (upF ul) ws n n).1) := by
  obtain ⟨gk, hgk⟩ : ∃ g, w.heap.size = g := ⟨_, rfl⟩
  obtain ⟨w0, hw0⟩ : ∃ W, w.alloc (.cells (rowOf K) 23) = W := ⟨_, rfl⟩
  have b0 : Below w.heap.size w w0 := by rw [← hw0]; exact (Below.refl _ _).alloc (Nat.le_refl _) _
  have k0 : Bk w0 gk 23 (rowOf K) := by rw [← hw0, ← hgk]; exact Bk.new w _ _
  obtain ⟨gu, hgu⟩ : ∃ g, w0.heap.size = g := ⟨_, rfl⟩
  obtain ⟨w1, hw1⟩ : ∃ W, w0.alloc (.cells #[.slice Au q cu] 42) = W := ⟨_, rfl⟩
  have B1 := hidrg_ (show Below w.heap.size w w1 by rw [← hw1]; exact b0.alloc b0.size _)
  have K1 := hidrg_ (show Bk w1 gk 23 (rowOf K) by rw [← hw1]; exact k0.alloc _)
  have U1 := hidrg_ (show Bk w1 gu 42 #[.slice Au q cu] by rw [← hw1, ← hgu]; exact Bk.new w0 _ _)
  have R1 := hidrg_ ((hru.below B1.out).more B1.out.size)
  have KL := hidrg_ (iBlind K hK)
  have cw := walk_any w1 g L (hr.below B1.out) hs hm K hK
  rw [hws] at cw
  obtain ⟨m, hwm⟩ : ∃ m, ws.length = m := ⟨_, rfl⟩
  unfold NewZ at cw
  rw [hwm] at cw hn h8 hq
  subst hq
  have HM := hidrg_ hwm
  have HU := hidrg_ hul
  have HX := hidrg_ (show ∀ x ∈ ws, x < q from fun x h => by rw [← hwm]; exact hx x h)
  have t1 : ¬ (n : Int) < 1 := by omega
  have t2 : ¬ (q : Int) < (n : Int) := by omega
  have td1 : decide ((n : Int) < 1) = false := decide_eq_false t1
  have td2 : decide ((q : Int) < (n : Int)) = false := decide_eq_false t2
  have td3 : decide (q < n) = false := decide_eq_false (by omega)
  have td4 : decide (n < 1) = false := decide_eq_false (by omega)
  clear b0 k0 hr hs hm hK hws hru hx hwm hul
  go_enter Tryd.func9, Tryd.ntmps9
  go_upto_region 2 with (first
    | (refine wpList_load_row rfl 23 (.tmp 5) rfl gk rfl 23 (rowOf K) (0, 0) _ K1.out Tryd.underlying23 rfl KL.out ?_)
    | (go_at_call 12; ((with_reducible refine cw.mono ?_); clear cw; rintro e w3 ⟨A, c, rfl, ho, hb⟩; have CAP := OwnZ.cap ho; have B3 := hidrg_ (B1.out.trans (hb.mono B1.out.size)); have U3 := hidrg_ (U1.out.below hb U1.out.lt); have R3 := hidrg_ ((R1.out.below hb).more hb.size); have Z3 := hidrg_ ho.rd.1; clear ho hb)))
  clear B1 K1 U1 R1 KL hgk hgu
  have ku := (show w3.cell? ⟨gu, 0, none⟩ = some (.slice Au q cu) from U3.out.cell 0)
  have sf := sliceZ_from A q c (n : Int) n rfl hn
  have st0 := sliceZ_to A q c (n : Int) n rfl (by omega)
  obtain ⟨S0, hS0⟩ : ∃ S, (if c = n then A else A.map (·.add n)) = S := ⟨_, rfl⟩
  have ZS := hidrg_ (show RdZ w3 w3.heap.size S0 (ws.drop n) by rw [← hS0]; exact rdz_from Z3.out c n (by rw [HM.out]; exact hn) (by rw [HM.out]; exact CAP.1))
  rw [hS0] at sf
  obtain ⟨m0, hm0⟩ : ∃ m, q - n = m := ⟨_, rfl⟩
  obtain ⟨c0, hc0⟩ : ∃ m, c - n = m := ⟨_, rfl⟩
  rw [hm0, hc0] at sf
  have HM0 := hidrg_ (show (ws.drop n).length = m0 by rw [List.length_drop, HM.out]; exact hm0)
  have HC0 := hidrg_ (show m0 ≤ c0 ∧ c0 ≤ 9223372036854775807 by omega)
  clear hS0 hm0 hc0
  go_wp2
  clear t1 t2 td1 td2 td3 td4 ku sf st0
  go_loopw [41, 11, 12] (fun i o f wr => ∃ (k : Nat) (A1 : Option Addr) (p c1 : Nat) (S : Option Addr) (m cs : Nat), i = .int .i64 k ∧ k ≤ n ∧ o = .slice A1 p c1 ∧ f = .slice S m cs ∧ Hid ((stAll (upF ul) ws n k).1.length = p) ∧ Hid ((stAll (upF ul) ws n k).2.length = m) ∧ Hid (m ≤ 8 ∧ m ≤ cs ∧ cs ≤ 9223372036854775807) ∧ Hid (OwnE wr w3.heap.size (.slice A1 p c1) (stAll (upF ul) ws n k).1) ∧ Hid (RdZ w3 w3.heap.size S (stAll (upF ul) ws n k).2) ∧ Hid (∀ s ∈ (stAll (upF ul) ws n k).2, s < q) ∧ Hid (Below w3.heap.size w3 wr)) (fun i _ _ _ => n - (intOf i).toNat)
  case atStart => exact ⟨0, none, 0, 0, S0, m0, c0, rfl, Nat.zero_le _, rfl, rfl, hidrg_ rfl, HM0, hidrg_ ⟨by have := HM0.out; rw [List.length_drop, HM.out] at this; omega, HC0.out⟩, hidrg_ (OwnE.nil_ _ _), ZS, hidrg_ (fun s h => HX.out s (List.mem_of_mem_drop h)), hidrg_ (Below.refl _ _)⟩
  case round =>
    clear ZS HM0 HC0
    obtain ⟨k, A1, p, c1, S, m, cs, rfl, hk, rfl, rfl, HP, HS2, HCS, HO, HSP, HSQ, HB⟩ := hrel
    by_cases hlt : k < n
    · have tl : (k : Int) < (n : Int) := by omega
      have hp9 : p ≤ 8 := by
        have := stAll_len (up := upF ul) (ws := ws) n k (by rw [HM.out]; omega)
        rw [HP.out] at this
        omega
      obtain ⟨x, hx0, hxm, hxt⟩ := getD_of (l := ws) (k := k) (by rw [HM.out]; omega)
      have hxq := HX.out x hxm
      have txq : (x : Int) < (q : Int) := by omega
      have HST := hidrg_ (stAll_succ (up := upF ul) (n := n) hxt)
      obtain ⟨b, off, rfl, hbl, hc⟩ := (Z3.out.below HB.out).at_ (k := k) (by rw [HM.out]; omega)
      rw [hx0] at hc
      have ku := (HB.out.cell (p := ⟨gu, 0, none⟩) U3.out.lt).trans (show w3.cell? ⟨gu, 0, none⟩ = some (.slice Au q cu) from U3.out.cell 0)
      obtain ⟨bu, ou, rfl, hbu, hcu⟩ := (R3.out.below HB.out).at_ (k := x) (by rw [HU.out]; exact hxq)
      obtain ⟨st, hst⟩ : ∃ st, stAll (upF ul) ws n k = st := ⟨_, rfl⟩
      rw [hst] at HP HS2 HO HSP HSQ HST
      obtain ⟨v, hv⟩ : ∃ v, ul.getD x false = v := ⟨_, rfl⟩
      have HV := hidrg_ (show upF ul x = v from hv)
      rw [hv] at hcu
      clear hx0 hxm hxt hst hv
      cases v with
      | true =>
        have HN := hidrg_ (show stAll (upF ul) ws n (k + 1) = (st.1 ++ [⟨x, x⟩], st.2) by rw [HST.out, step_up HV.out])
        have O5 := hidrg_ (HO.out.alloc (.cells #[.int .i64 (x : Int), .int .i64 (x : Int)] 41))
        have RY := hidrg_ (rde_one wr x x)
        have hl1 : st.1.length + 1 ≤ 1000000 := by rw [HP.out]; omega
        have hb1 : w3.heap.size ≤ (wr.alloc (.cells #[.int .i64 (x : Int), .int .i64 (x : Int)] 41)).heap.size := by simp; have := HB.out.size; omega
        go_wp2_with (at_builtin; refine wpList_appEE rfl (.tmp 49) (.tmp 53) rfl O5.out rfl 1 1 rfl RY.out rfl hl1 hb1 ?_; intro A6 c6 w6 q1 q2 q3; rw [HP.out] at q1 q3 ⊢; have O6 := hidrg_ q1; have BA := HB.out.alloc HB.out.size (.cells #[.int .i64 (x : Int), .int .i64 (x : Int)] 41); have B6 := hidrg_ (BA.grown q2 BA.size (fun k hk => (World.ownsRow.lt O5.out k hk).1)); clear q1 q2 q3 BA)
        go_roundw
        case rel => exact ⟨k + 1, A6, p + 1, c6, S, m, cs, by go_num, by omega, rfl, rfl, hidrg_ (by rw [HN.out, List.length_append, HP.out]; rfl), hidrg_ (by rw [HN.out]; exact HS2.out), HCS, hidrg_ (by rw [HN.out]; exact O6.out), hidrg_ (by rw [HN.out]; exact HSP.out), hidrg_ (by rw [HN.out]; exact HSQ.out), B6⟩
        case measure => simp [intOf]; omega
      | false =>
        have hm8 := HCS.out
        have cf := indexF_any wr gu ul ⟨_, cu, by rw [HU.out]; exact U3.out.below HB.out U3.out.lt, ((R3.out.below HB.out).more HB.out.size)⟩ (by rw [HU.out]; omega) S m cs st.2 HS2.out ((HSP.out.below HB.out).more HB.out.size) (by omega) (fun s h => by rw [HU.out]; exact HSQ.out s h)
        go_upto_region 12 with (go_at_call 16; ((with_reducible refine cf.mono ?_); clear cf; rintro e w5 ⟨z, rfl, hb, hor⟩; have B5 := hidrg_ (HB.out.trans (hb.mono HB.out.size)); have O5 := hidrg_ (HO.out.below hb (Nat.le_refl _)); have HOR := hidrg_ hor; clear hb hor))
        clear ku hcu
        rcases HOR.out with ⟨rfl, hd⟩ | ⟨i, rfl, hi, hd⟩
        · clear HOR
          have HN := hidrg_ (show stAll (upF ul) ws n (k + 1) = st by rw [HST.out, step_none HV.out hd])
          clear hd
          go_wp2
          go_roundw
          case rel => exact ⟨k + 1, A1, p, c1, S, m, cs, by go_num, by omega, rfl, rfl, hidrg_ (by rw [HN.out]; exact HP.out), hidrg_ (by rw [HN.out]; exact HS2.out), HCS, hidrg_ (by rw [HN.out]; exact O5.out), hidrg_ (by rw [HN.out]; exact HSP.out), hidrg_ (by rw [HN.out]; exact HSQ.out), B5⟩
          case measure => simp [intOf]; omega
        · clear HOR
          have HN := hidrg_ (show stAll (upF ul) ws n (k + 1) = (st.1 ++ [⟨st.2.getD i 0, x⟩], st.2.drop (i + 1)) by rw [HST.out, step_some HV.out hd])
          have him : i < m := by have := HS2.out; omega
          have ti : 0 ≤ (i : Int) := by omega
          have tm : (i : Int) < (m : Int) := by omega
          have wi : IntKind.i64.wrap ((i : Int) + 1) = (i : Int) + 1 := IntWalk.i64_in _ (by omega)
          have sf := fun W => sliceZ_from S m cs ((i : Int) + 1) (i + 1) rfl (by omega) W
          obtain ⟨S2, hS2⟩ : ∃ S', (if cs = i + 1 then S else S.map (·.add (i + 1))) = S' := ⟨_, rfl⟩
          have SP2 := hidrg_ (show RdZ w3 w3.heap.size S2 (st.2.drop (i + 1)) by rw [← hS2]; exact rdz_from HSP.out cs (i + 1) (by rw [HS2.out]; omega) (by rw [HS2.out]; omega))
          rw [hS2] at sf
          obtain ⟨m2, hm2⟩ : ∃ m', m - (i + 1) = m' := ⟨_, rfl⟩
          obtain ⟨c2, hc2⟩ : ∃ m', cs - (i + 1) = m' := ⟨_, rfl⟩
          rw [hm2, hc2] at sf
          have HM2 := hidrg_ (show (st.2.drop (i + 1)).length = m2 by rw [List.length_drop, HS2.out]; exact hm2)
          have HC2 := hidrg_ (show m2 ≤ 8 ∧ m2 ≤ c2 ∧ c2 ≤ 9223372036854775807 by omega)
          obtain ⟨b2, o2, rfl, hb2, hc3⟩ := (HSP.out.below B5.out).at_ (k := i) hi
          obtain ⟨s, hs⟩ : ∃ s, st.2.getD i 0 = s := ⟨_, rfl⟩
          rw [hs] at hc3 HN
          have O6 := hidrg_ (O5.out.alloc (.cells #[.int .i64 (s : Int), .int .i64 (x : Int)] 41))
          have RY := hidrg_ (rde_one w5 s x)
          have hl1 : st.1.length + 1 ≤ 1000000 := by rw [HP.out]; omega
          have hb1 : w3.heap.size ≤ (w5.alloc (.cells #[.int .i64 (s : Int), .int .i64 (x : Int)] 41)).heap.size := by simp; have := B5.out.size; omega
          clear hd hS2 hm2 hc2 hs
          go_wp2_with (at_builtin; refine wpList_appEE rfl (.tmp 60) (.tmp 67) rfl O6.out rfl 1 1 rfl RY.out rfl hl1 hb1 ?_; intro A6 c6 w6 q1 q2 q3; rw [HP.out] at q1 q3 ⊢; have O7 := hidrg_ q1; have BA := B5.out.alloc B5.out.size (.cells #[.int .i64 (s : Int), .int .i64 (x : Int)] 41); have B6 := hidrg_ (BA.grown q2 BA.size (fun k hk => (World.ownsRow.lt O6.out k hk).1)); clear q1 q2 q3 BA)
          go_roundw
          case rel => exact ⟨k + 1, A6, p + 1, c6, S2, m2, c2, by go_num, by omega, rfl, rfl, hidrg_ (by rw [HN.out, List.length_append, HP.out]; rfl), hidrg_ (by rw [HN.out]; exact HM2.out), HC2, hidrg_ (by rw [HN.out]; exact O7.out), hidrg_ (by rw [HN.out]; exact SP2.out), hidrg_ (by rw [HN.out]; exact fun s h => HSQ.out s (List.mem_of_mem_drop h)), B6⟩
          case measure => simp [intOf]; omega
    · have tl : ¬ (k : Int) < (n : Int) := by omega
      obtain rfl : k = n := by omega
      go_wp2
      go_ret2
      refine ⟨A1, c1, ?_, ?_, B3.out.trans (HB.out.mono B3.out.size)⟩
      · rw [HP.out]
        rfl
      · exact HO.out.rd.1
end Go.Proofs.YtkhmghmilnfngaaDoor

namespace Go.Proofs.YtkhmghmilnfngaaDoor
set_option maxRecDepth 100000
open Go.ChangeShapes Go.WideShapes Go.ChangeAt Go.RowKit
set_option linter.unusedVariables false
set_option linter.unusedSimpArgs false

/-- A pair laid, then appended: nothing made; laid; both. -/
def LaJ (wA wB wC : World) (D : Nat → Bool) (W : World) : Prop :=
  (D 10 = false ∧ D 11 = false ∧ wA = W) ∨ (D 10 = true ∧ D 11 = false ∧ wB = W) ∨ (D 10 = true ∧ D 11 = true ∧ wC = W)
section
variable {wA wB wC W : World} {D : Nat → Bool}
theorem LaJ.same (h : LaJ wA wB wC D W) (i : Nat) (h1 : i ≠ 10) (h2 : i ≠ 11) : LaJ wA wB wC (fun j => decide (j = i) || D j) W := by
  rcases h with ⟨a, b, c⟩ | ⟨a, b, c⟩ | ⟨a, b, c⟩
  · exact .inl ⟨by simp [a, Ne.symm h1], by simp [b, Ne.symm h2], c⟩
  · exact .inr (.inl ⟨by simp [a], by simp [b, Ne.symm h2], c⟩)
  · exact .inr (.inr ⟨by simp [a], by simp [b], c⟩)
theorem LaJ.at1 (h : LaJ wA wB wC D W) (hL : D 10 = false) : W = wA := by
  rcases h with ⟨a, b, c⟩ | ⟨a, b, c⟩ | ⟨a, b, c⟩
  · exact c.symm
  · rw [a] at hL; cases hL
  · rw [a] at hL; cases hL
theorem LaJ.one (hL : D 10 = false) (h1 : D 11 = false) : LaJ wA wB wC (fun j => decide (j = 10) || D j) wB := .inr (.inl ⟨by simp, by simp [h1], rfl⟩)
theorem LaJ.at2 (h : LaJ wA wB wC D W) (hL : D 11 = false) (h1 : D 10 = true) : W = wB := by
  rcases h with ⟨a, b, c⟩ | ⟨a, b, c⟩ | ⟨a, b, c⟩
  · rw [a] at h1; cases h1
  · exact c.symm
  · rw [b] at hL; cases hL
theorem LaJ.no2 (h : LaJ wA wB wC D W) (hL : D 10 = false) : D 11 = false := by
  rcases h with ⟨a, b, c⟩ | ⟨a, b, c⟩ | ⟨a, b, c⟩
  · exact b
  · rw [a] at hL; cases hL
  · rw [a] at hL; cases hL
theorem LaJ.two (h1 : D 10 = true) : LaJ wA wB wC (fun j => decide (j = 11) || D j) wC := .inr (.inr ⟨by simp [h1], by simp, rfl⟩)
theorem LaJ.end_ (h : LaJ wA wB wC D W) (h2 : D 11 = true) : W = wC := by
  rcases h with ⟨a, b, c⟩ | ⟨a, b, c⟩ | ⟨a, b, c⟩
  · rw [b] at h2; cases h2
  · rw [b] at h2; cases h2
  · exact c.symm
end
def StR (w : World) (l : List PrV) (e : Ending) (w' : World) : Prop := ∃ A c, e = .returned (.slice A l.length c) ∧ RdE w' w'.heap.size A l ∧ Below w.heap.size w w'
set_option maxRecDepth 100000 in
set_option maxHeartbeats 8000000 in
theorem refstand_any (w : World) (Aw : Option Addr) (q c n : Nat) (ws : List Nat) (hw : ws.length = q) (hn : n ≤ q) (h8 : q ≤ 8) (hrw : RdZ w w.heap.size Aw ws)
    (Au : Option Addr) (cu : Nat) (ul : List Bool) (hul : ul.length = q) (hru : RdW w w.heap.size Au ul) (hx : ∀ x ∈ ws, x < q) :
    Calls Tryd.prog 15 #[.slice Aw q c, .int .i64 (n : Int), .slice Au q cu] w (StR w (stAll (upF ul) ws n n).1) := by
  have HM := hidrg_ hw
  have HU := hidrg_ hul
  have HX := hidrg_ hx
  have RW := hidrg_ hrw
  have RU := hidrg_ hru
  clear hw hul hx hrw hru
  go_enter Tryd.func15, Tryd.ntmps15
  go_wp2
  go_loopw [9, 7, 8] (fun i o f wr => ∃ (k : Nat) (A1 : Option Addr) (p c1 nx : Nat), i = .int .i64 k ∧ k ≤ n ∧ o = .slice A1 p c1 ∧ f = .int .i64 nx ∧ nx ≤ q ∧ Hid ((stAll (upF ul) ws n k).1.length = p) ∧ Hid (downs (upF ul) (ws.drop nx) = downs (upF ul) (stAll (upF ul) ws n k).2) ∧ Hid (OwnE wr w.heap.size (.slice A1 p c1) (stAll (upF ul) ws n k).1) ∧ Hid (Below w.heap.size w wr)) (fun i _ _ _ => n - (intOf i).toNat)
  case atStart => exact ⟨0, none, 0, 0, n, rfl, Nat.zero_le _, rfl, rfl, hn, hidrg_ rfl, hidrg_ rfl, hidrg_ (OwnE.nil_ _ _), hidrg_ (Below.refl _ _)⟩
  case round =>
    obtain ⟨k, A1, p, c1, nx, rfl, hk, rfl, rfl, hnx, HP, HD, HO, HB⟩ := hrel
    by_cases hlt : k < n
    · have tl : (k : Int) < (n : Int) := by omega
      have hp9 : p ≤ 8 := by
        have := stAll_len (up := upF ul) (ws := ws) n k (by rw [HM.out]; omega)
        rw [HP.out] at this
        omega
      obtain ⟨x, hx0, hxm, hxt⟩ := getD_of (l := ws) (k := k) (by rw [HM.out]; omega)
      have hxq := HX.out x hxm
      have txq : (x : Int) < (q : Int) := by omega
      have tkq : (k : Int) < (q : Int) := by omega
      have HST := hidrg_ (stAll_succ (up := upF ul) (n := n) hxt)
      obtain ⟨bw, ow, rfl, hbw, hcw⟩ := RW.out (by rw [HM.out]; omega)
      have RWC := hidrg_ (show ∀ j, j < q → wr.cell? ⟨bw, ow + j, none⟩ = some (.int .i64 ((ws.getD j 0 : Nat) : Int)) from fun j hj => (HB.out.cell (p := ⟨bw, ow + j, none⟩) hbw).trans (hcw j (by rw [HM.out]; exact hj)))
      have hc := RWC.out k (by omega)
      rw [hx0] at hc
      obtain ⟨bu, ou, rfl, hbu, hcu⟩ := RU.out (by rw [HU.out]; omega)
      have RUC := hidrg_ (show ∀ j, j < q → wr.cell? ⟨bu, ou + j, none⟩ = some (.bool (ul.getD j false)) from fun j hj => (HB.out.cell (p := ⟨bu, ou + j, none⟩) hbu).trans (hcu j (by rw [HU.out]; exact hj)))
      have hcv := RUC.out x hxq
      obtain ⟨st, hst⟩ : ∃ st, stAll (upF ul) ws n k = st := ⟨_, rfl⟩
      rw [hst] at HP HD HO HST
      obtain ⟨v, hv⟩ : ∃ v, ul.getD x false = v := ⟨_, rfl⟩
      have HV := hidrg_ (show upF ul x = v from hv)
      rw [hv] at hcv
      clear hx0 hxm hxt hst hv hcw hcu
      cases v with
      | true =>
        have HN := hidrg_ (show stAll (upF ul) ws n (k + 1) = (st.1 ++ [⟨x, x⟩], st.2) by rw [HST.out, step_up HV.out])
        have HD2 := hidrg_ (show downs (upF ul) (ws.drop nx) = downs (upF ul) (stAll (upF ul) ws n (k + 1)).2 by rw [HN.out]; exact HD.out)
        go_upto_region 7 with fail
        rename_i K9 hK9
        obtain ⟨wd, hwd⟩ : ∃ W, wr.drew = W := ⟨_, rfl⟩
        have BD := hidrg_ (show Below w.heap.size w wd by rw [← hwd]; exact below_drewN HB.out 1)
        have OD := hidrg_ (show OwnE wd w.heap.size (.slice A1 p c1) st.1 by rw [← hwd]; exact HO.out)
        have O5 := hidrg_ (OD.out.alloc (.cells #[.int .i64 (x : Int), .int .i64 (x : Int)] 41))
        have RY := hidrg_ (rde_one wd x x)
        have hl1 : st.1.length + 1 ≤ 1000000 := by rw [HP.out]; omega
        have hb1 : w.heap.size ≤ (wd.alloc (.cells #[.int .i64 (x : Int), .int .i64 (x : Int)] 41)).heap.size := by simp; have := BD.out.size; omega
        obtain ⟨v6, w6, hrun, g1, g2, g3⟩ := run_appEE O5.out RY.out 1 1 rfl 30 hl1 hb1
        have BA := BD.out.alloc BD.out.size (.cells #[.int .i64 (x : Int), .int .i64 (x : Int)] 41)
        have B6 := hidrg_ (BA.grown g2 BA.size (fun k hk => (World.ownsRow.lt O5.out k hk).1))
        obtain ⟨A6, c6, hv6, _⟩ := g1.form
        rw [List.length_append, HP.out] at hv6
        have HV6 := hidrg_ (show v6 = .slice A6 (p + 1) c6 from hv6)
        have O6 := hidrg_ (show OwnE w6 w.heap.size (.slice A6 (p + 1) c6) (st.1 ++ [⟨x, x⟩]) by rw [← HV6.out]; exact g1)
        obtain ⟨wB, hwB⟩ : ∃ W, wd.alloc (.cells #[.int .i64 (x : Int), .int .i64 (x : Int)] 41) = W := ⟨_, rfl⟩
        rw [hwB] at hrun
        have BB := hidrg_ (show Below w.heap.size w wB by rw [← hwB]; exact BA)
        have BL := hidrg_ (show ∀ (D : Nat → Bool) (W : World), LaJ wd wB w6 D W → Below w.heap.size w W from fun D W h => by
          rcases h with ⟨_, _, e9⟩ | ⟨_, _, e9⟩ | ⟨_, _, e9⟩
          · rw [← e9]; exact BD.out
          · rw [← e9]; exact BB.out
          · rw [← e9]; exact B6.out)
        have C1 := hidrg_ (show ∀ (D : Nat → Bool) (W : World), LaJ wd wB w6 D W → W.cell? ⟨bw, ow + k, none⟩ = some (.int .i64 (x : Int)) from fun D W h => ((BL.out D W h).cell (p := ⟨bw, ow + k, none⟩) hbw).trans ((HB.out.cell (p := ⟨bw, ow + k, none⟩) hbw).symm.trans hc))
        have C2 := hidrg_ (show ∀ (D : Nat → Bool) (W : World), LaJ wd wB w6 D W → W.cell? ⟨bw, ow + k, none⟩ = some (.int .i64 (x : Int)) from fun D W h => ((BL.out D W h).cell (p := ⟨bw, ow + k, none⟩) hbw).trans ((HB.out.cell (p := ⟨bw, ow + k, none⟩) hbw).symm.trans hc))
        have HRUN := hidrg_ hrun
        have HWB := hidrg_ hwB
        clear HB HO hc hrun hwB BA BB g1 g2 g3 hv6 hl1 hb1 O5 RY OD BD hcv RWC RUC
        refine region_byJF [23, 24, 25, 26, 27, 28, 29, 30, 31, 32, 33, 34, 7] (fun _ => True) (fun _ _ => True) (fun jR_ vR_ (_ : World) => (match jR_ with | 0 => vR_ = .slice A1 p c1 | 1 => vR_ = .slice (some ⟨bw, ow, none⟩) q c | 2 => vR_ = .int .i64 (k : Int) | 3 => vR_ = .pointer (some ⟨bw, ow + k, none⟩) | 4 => vR_ = .int .i64 (x : Int) | 5 => vR_ = .slice (some ⟨bw, ow, none⟩) q c | 6 => vR_ = .int .i64 (k : Int) | 7 => vR_ = .pointer (some ⟨bw, ow + k, none⟩) | 8 => vR_ = .int .i64 (x : Int) | 9 => vR_ = .agg #[.int .i64 (x : Int), .int .i64 (x : Int)] | 10 => vR_ = .slice (some ⟨wd.heap.size, 0, none⟩) 1 1 | 11 => vR_ = v6 | 12 => vR_ = v6 | _ => True)) (fun D _ W => LaJ wd wB w6 D W) (by kernel_rfl) (by kernel_rfl) (by kernel_rfl) (by kernel_rfl) (fun j v w w' hT hr => hr) (fun j v w hlt hj _ => ?_) trivial ?_ ?_ ?_
        · rcases j with _ | _ | _ | _ | _ | _ | _ | _ | _ | _ | _ | _ | _ | j
          all_goals first
            | (exfalso; simp [dstOf] at hj; done)
            | trivial
        · refine ⟨fun D a9 W hC hd hsz hf hv hJ hL hW K8 hK => ?_, fun D a9 W hC hd hsz hf hv hJ hL hW K8 hK => ?_, fun D a9 W hC hd hsz hf hv hJ hL hW K8 hK => ?_, fun D a9 W hC hd hsz hf hv hJ hL hW K8 hK => ?_, fun D a9 W hC hd hsz hf hv hJ hL hW K8 hK => ?_, fun D a9 W hC hd hsz hf hv hJ hL hW K8 hK => ?_, fun D a9 W hC hd hsz hf hv hJ hL hW K8 hK => ?_, fun D a9 W hC hd hsz hf hv hJ hL hW K8 hK => ?_, fun D a9 W hC hd hsz hf hv hJ hL hW K8 hK => ?_, fun D a9 W hC hd hsz hf hv hJ hL hW K8 hK => ?_, fun D a9 W hC hd hsz hf hv hJ hL hW K8 hK => ?_, fun D a9 W hC hd hsz hf hv hJ hL hW K8 hK => ?_, fun D a9 W hC hd hsz hf hv hJ hL hW K8 hK => ?_, trivial⟩
          · clear hsz
            have e1 := slot_of (a := a9) (s := 7) (v := .slice A1 p c1) (hf 7 (by kernel_rfl))
            refine step_run (wanted_none rfl) (v := .slice A1 p c1) (w' := W) ?_ (hK _ _ trivial trivial rfl (hJ.same 0 (by decide) (by decide)))
            go_simp
          · clear hsz
            have e1 := slot_of (a := a9) (s := 0) (v := .slice (some ⟨bw, ow, none⟩) q c) (hf 0 (by kernel_rfl))
            refine step_run (wanted_none rfl) (v := .slice (some ⟨bw, ow, none⟩) q c) (w' := W) ?_ (hK _ _ trivial trivial rfl (hJ.same 1 (by decide) (by decide)))
            go_simp
          · clear hsz
            have e1 := slot_of (a := a9) (s := 9) (v := .int .i64 (k : Int)) (hf 9 (by kernel_rfl))
            refine step_run (wanted_none rfl) (v := .int .i64 (k : Int)) (w' := W) ?_ (hK _ _ trivial trivial rfl (hJ.same 2 (by decide) (by decide)))
            go_simp
          · clear hsz
            have e1 := slot_of (a := a9) (s := 24) (v := .slice (some ⟨bw, ow, none⟩) q c) (hv 1 (by kernel_rfl))
            have e2 := slot_of (a := a9) (s := 25) (v := .int .i64 (k : Int)) (hv 2 (by kernel_rfl))
            refine step_run (wanted_none rfl) (v := .pointer (some ⟨bw, ow + k, none⟩)) (w' := W) ?_ (hK _ _ trivial trivial rfl (hJ.same 3 (by decide) (by decide)))
            go_simp
          · clear hsz
            have e1 := slot_of (a := a9) (s := 26) (v := .pointer (some ⟨bw, ow + k, none⟩)) (hv 3 (by kernel_rfl))
            have hc := C1.out _ _ hJ
            refine step_run (wanted_none rfl) (v := .int .i64 (x : Int)) (w' := W) ?_ (hK _ _ trivial trivial rfl (hJ.same 4 (by decide) (by decide)))
            go_simp
          · clear hsz
            have e1 := slot_of (a := a9) (s := 0) (v := .slice (some ⟨bw, ow, none⟩) q c) (hf 0 (by kernel_rfl))
            refine step_run (wanted_none rfl) (v := .slice (some ⟨bw, ow, none⟩) q c) (w' := W) ?_ (hK _ _ trivial trivial rfl (hJ.same 5 (by decide) (by decide)))
            go_simp
          · clear hsz
            have e1 := slot_of (a := a9) (s := 9) (v := .int .i64 (k : Int)) (hf 9 (by kernel_rfl))
            refine step_run (wanted_none rfl) (v := .int .i64 (k : Int)) (w' := W) ?_ (hK _ _ trivial trivial rfl (hJ.same 6 (by decide) (by decide)))
            go_simp
          · clear hsz
            have e1 := slot_of (a := a9) (s := 28) (v := .slice (some ⟨bw, ow, none⟩) q c) (hv 5 (by kernel_rfl))
            have e2 := slot_of (a := a9) (s := 29) (v := .int .i64 (k : Int)) (hv 6 (by kernel_rfl))
            refine step_run (wanted_none rfl) (v := .pointer (some ⟨bw, ow + k, none⟩)) (w' := W) ?_ (hK _ _ trivial trivial rfl (hJ.same 7 (by decide) (by decide)))
            go_simp
          · clear hsz
            have e1 := slot_of (a := a9) (s := 30) (v := .pointer (some ⟨bw, ow + k, none⟩)) (hv 7 (by kernel_rfl))
            have hc := C2.out _ _ hJ
            refine step_run (wanted_none rfl) (v := .int .i64 (x : Int)) (w' := W) ?_ (hK _ _ trivial trivial rfl (hJ.same 8 (by decide) (by decide)))
            go_simp
          · clear hsz
            have e1 := slot_of (a := a9) (s := 27) (v := .int .i64 (x : Int)) (hv 4 (by kernel_rfl))
            have e2 := slot_of (a := a9) (s := 31) (v := .int .i64 (x : Int)) (hv 8 (by kernel_rfl))
            refine step_run (wanted_none rfl) (v := .agg #[.int .i64 (x : Int), .int .i64 (x : Int)]) (w' := W) ?_ (hK _ _ trivial trivial rfl (hJ.same 9 (by decide) (by decide)))
            go_simp
          · clear hsz
            have e1 := slot_of (a := a9) (s := 32) (v := .agg #[.int .i64 (x : Int), .int .i64 (x : Int)]) (hv 9 (by kernel_rfl))
            have hE := hJ.at1 hL
            have hwB := HWB.out
            refine step_run (wanted_none rfl) (v := .slice (some ⟨wd.heap.size, 0, none⟩) 1 1) (w' := wB) ?_ (hK _ _ trivial trivial rfl (LaJ.one hL (hJ.no2 hL)))
            go_simp
          · clear hsz
            have e1 := slot_of (a := a9) (s := 23) (v := .slice A1 p c1) (hv 0 (by kernel_rfl))
            have e2 := slot_of (a := a9) (s := 33) (v := .slice (some ⟨wd.heap.size, 0, none⟩) 1 1) (hv 10 (by kernel_rfl))
            have hE := hJ.at2 hL (hW 10 (by kernel_rfl))
            have hrun := HRUN.out
            refine step_run (wanted_none rfl) (v := v6) (w' := w6) ?_ (hK _ _ trivial trivial rfl (LaJ.two (hW 10 (by kernel_rfl))))
            rw [hE]
            unfold execOp
            simp only [resolve, invoke, builtin, Sem.run_bind, Sem.run_pure, Result.andThen_ok, List.map_toArray, List.map_cons, List.map_nil, eval_of (hv 0 (by kernel_rfl)), eval_of (hv 10 (by kernel_rfl)), hrun]
          · clear hsz
            have e1 := slot_of (a := a9) (s := 34) (v := v6) (hv 11 (by kernel_rfl))
            refine step_run (wanted_none rfl) (v := v6) (w' := W) ?_ (hK _ _ trivial trivial rfl (hJ.same 12 (by decide) (by decide)))
            go_simp
        · exact .inl ⟨rfl, rfl, hwd.symm⟩
        · intro f wa hCa hva Da hDa hJa
          obtain ⟨aa, hJe, _⟩ := hJa
          have hE := hJe.end_ (hDa 11 (by decide))
          have k7 := hva 12 (by decide)
          rw [hE]
          have m0 := hva 0 (by decide)
          have m1 := hva 1 (by decide)
          have m2 := hva 2 (by decide)
          have m3 := hva 3 (by decide)
          have m4 := hva 4 (by decide)
          have m5 := hva 5 (by decide)
          have m6 := hva 6 (by decide)
          have m7 := hva 7 (by decide)
          have m8 := hva 8 (by decide)
          have m9 := hva 9 (by decide)
          have m10 := hva 10 (by decide)
          have m11 := hva 11 (by decide)
          simp only [framed, List.foldl_cons, List.foldl_nil, List.setIfInBounds_toArray, List.set_cons_succ, List.set_cons_zero]
          try dsimp only [dstOf] at k7
          have hf7 : f 7 = .slice A6 (p + 1) c6 := by rw [← HV6.out]; exact k7
          rw [hf7]
          clear hva hDa hJe hCa hE k7 m0 m1 m2 m3 m4 m5 m6 m7 m8 m9 m10 m11
          refine hK9 _ _ ?_
          go_wp2
          go_roundw
          case rel => exact ⟨k + 1, A6, p + 1, c6, nx, by go_num, by omega, rfl, by go_num, by omega, hidrg_ (by rw [HN.out, List.length_append, HP.out]; rfl), HD2, hidrg_ (by rw [HN.out]; exact O6.out), B6⟩
          case measure => simp [intOf]; omega
      | false =>
        go_upto_region 8 with fail
        clear hcv
        go_loop [8] (fun f => ∃ nx : Nat, f = .int .i64 nx ∧ nx ≤ q ∧ Hid (downs (upF ul) (ws.drop nx) = downs (upF ul) st.2)) (fun f => q - (intOf f).toNat)
        case atStart => exact ⟨nx, rfl, hnx, HD⟩
        case round =>
          clear HD hnx
          obtain ⟨nx, rfl, hnx, HD⟩ := hrel
          by_cases hlq : nx < q
          · have tq : (nx : Int) < (q : Int) := by omega
            obtain ⟨y, hy0, hym, hyt⟩ := getD_of (l := ws) (k := nx) (by rw [HM.out]; exact hlq)
            have hyq := HX.out y hym
            have tyq : (y : Int) < (q : Int) := by omega
            have hcy := RWC.out nx hlq
            rw [hy0] at hcy
            have hcz := RUC.out y hyq
            have hdr := drop_getD (l := ws) (k := nx) (by rw [HM.out]; exact hlq)
            rw [hy0] at hdr
            have HDR := hidrg_ hdr
            obtain ⟨v, hv⟩ : ∃ v, ul.getD y false = v := ⟨_, rfl⟩
            have HY := hidrg_ (show upF ul y = v from hv)
            rw [hv] at hcz
            clear hy0 hym hyt hdr hv
            cases v with
            | false =>
              have HD3 := hidrg_ (show downs (upF ul) (ws.drop (nx + 1)) = downs (upF ul) st.2 by rw [← HD.out, HDR.out, downs_cons_down HY.out])
              go_wp2
              go_round
              case rel => exact ⟨nx + 1, by go_num, by omega, HD3⟩
              case measure => simp [intOf]; omega
            | true =>
              have hd := HD.out
              rw [HDR.out, downs_cons_up HY.out] at hd
              have HN := hidrg_ (show stAll (upF ul) ws n (k + 1) = (st.1 ++ [⟨y, x⟩], ws.drop (nx + 1)) by rw [HST.out, step_some HV.out hd.symm])
              have HD2 := hidrg_ (show downs (upF ul) (ws.drop (nx + 1)) = downs (upF ul) (stAll (upF ul) ws n (k + 1)).2 by rw [HN.out])
              clear hd
              go_upto_region 11 with fail
              rename_i K9 hK9
              obtain ⟨wd, hwd⟩ : ∃ W, wr.drew = W := ⟨_, rfl⟩
              have BD := hidrg_ (show Below w.heap.size w wd by rw [← hwd]; exact below_drewN HB.out 1)
              have OD := hidrg_ (show OwnE wd w.heap.size (.slice A1 p c1) st.1 by rw [← hwd]; exact HO.out)
              have O5 := hidrg_ (OD.out.alloc (.cells #[.int .i64 (y : Int), .int .i64 (x : Int)] 41))
              have RY := hidrg_ (rde_one wd y x)
              have hl1 : st.1.length + 1 ≤ 1000000 := by rw [HP.out]; omega
              have hb1 : w.heap.size ≤ (wd.alloc (.cells #[.int .i64 (y : Int), .int .i64 (x : Int)] 41)).heap.size := by simp; have := BD.out.size; omega
              obtain ⟨v6, w6, hrun, g1, g2, g3⟩ := run_appEE O5.out RY.out 1 1 rfl 30 hl1 hb1
              have BA := BD.out.alloc BD.out.size (.cells #[.int .i64 (y : Int), .int .i64 (x : Int)] 41)
              have B6 := hidrg_ (BA.grown g2 BA.size (fun k hk => (World.ownsRow.lt O5.out k hk).1))
              obtain ⟨A6, c6, hv6, _⟩ := g1.form
              rw [List.length_append, HP.out] at hv6
              have HV6 := hidrg_ (show v6 = .slice A6 (p + 1) c6 from hv6)
              have O6 := hidrg_ (show OwnE w6 w.heap.size (.slice A6 (p + 1) c6) (st.1 ++ [⟨y, x⟩]) by rw [← HV6.out]; exact g1)
              obtain ⟨wB, hwB⟩ : ∃ W, wd.alloc (.cells #[.int .i64 (y : Int), .int .i64 (x : Int)] 41) = W := ⟨_, rfl⟩
              rw [hwB] at hrun
              have BB := hidrg_ (show Below w.heap.size w wB by rw [← hwB]; exact BA)
              have BL := hidrg_ (show ∀ (D : Nat → Bool) (W : World), LaJ wd wB w6 D W → Below w.heap.size w W from fun D W h => by
                rcases h with ⟨_, _, e9⟩ | ⟨_, _, e9⟩ | ⟨_, _, e9⟩
                · rw [← e9]; exact BD.out
                · rw [← e9]; exact BB.out
                · rw [← e9]; exact B6.out)
              have C1 := hidrg_ (show ∀ (D : Nat → Bool) (W : World), LaJ wd wB w6 D W → W.cell? ⟨bw, ow + nx, none⟩ = some (.int .i64 (y : Int)) from fun D W h => ((BL.out D W h).cell (p := ⟨bw, ow + nx, none⟩) hbw).trans ((HB.out.cell (p := ⟨bw, ow + nx, none⟩) hbw).symm.trans hcy))
              have C2 := hidrg_ (show ∀ (D : Nat → Bool) (W : World), LaJ wd wB w6 D W → W.cell? ⟨bw, ow + k, none⟩ = some (.int .i64 (x : Int)) from fun D W h => ((BL.out D W h).cell (p := ⟨bw, ow + k, none⟩) hbw).trans ((HB.out.cell (p := ⟨bw, ow + k, none⟩) hbw).symm.trans hc))
              have HRUN := hidrg_ hrun
              have HWB := hidrg_ hwB
              clear HB HO hc hrun hwB BA BB g1 g2 g3 hv6 hl1 hb1 O5 RY OD BD hcy hcz RWC RUC
              refine region_byJF [55, 56, 57, 58, 59, 60, 61, 62, 63, 64, 65, 66, 7] (fun _ => True) (fun _ _ => True) (fun jR_ vR_ (_ : World) => (match jR_ with | 0 => vR_ = .slice A1 p c1 | 1 => vR_ = .slice (some ⟨bw, ow, none⟩) q c | 2 => vR_ = .int .i64 (nx : Int) | 3 => vR_ = .pointer (some ⟨bw, ow + nx, none⟩) | 4 => vR_ = .int .i64 (y : Int) | 5 => vR_ = .slice (some ⟨bw, ow, none⟩) q c | 6 => vR_ = .int .i64 (k : Int) | 7 => vR_ = .pointer (some ⟨bw, ow + k, none⟩) | 8 => vR_ = .int .i64 (x : Int) | 9 => vR_ = .agg #[.int .i64 (y : Int), .int .i64 (x : Int)] | 10 => vR_ = .slice (some ⟨wd.heap.size, 0, none⟩) 1 1 | 11 => vR_ = v6 | 12 => vR_ = v6 | _ => True)) (fun D _ W => LaJ wd wB w6 D W) (by kernel_rfl) (by kernel_rfl) (by kernel_rfl) (by kernel_rfl) (fun j v w w' hT hr => hr) (fun j v w hlt hj _ => ?_) trivial ?_ ?_ ?_
              · rcases j with _ | _ | _ | _ | _ | _ | _ | _ | _ | _ | _ | _ | _ | j
                all_goals first
                  | (exfalso; simp [dstOf] at hj; done)
                  | trivial
              · refine ⟨fun D a9 W hC hd hsz hf hv hJ hL hW K8 hK => ?_, fun D a9 W hC hd hsz hf hv hJ hL hW K8 hK => ?_, fun D a9 W hC hd hsz hf hv hJ hL hW K8 hK => ?_, fun D a9 W hC hd hsz hf hv hJ hL hW K8 hK => ?_, fun D a9 W hC hd hsz hf hv hJ hL hW K8 hK => ?_, fun D a9 W hC hd hsz hf hv hJ hL hW K8 hK => ?_, fun D a9 W hC hd hsz hf hv hJ hL hW K8 hK => ?_, fun D a9 W hC hd hsz hf hv hJ hL hW K8 hK => ?_, fun D a9 W hC hd hsz hf hv hJ hL hW K8 hK => ?_, fun D a9 W hC hd hsz hf hv hJ hL hW K8 hK => ?_, fun D a9 W hC hd hsz hf hv hJ hL hW K8 hK => ?_, fun D a9 W hC hd hsz hf hv hJ hL hW K8 hK => ?_, fun D a9 W hC hd hsz hf hv hJ hL hW K8 hK => ?_, trivial⟩
                · clear hsz
                  have e1 := slot_of (a := a9) (s := 7) (v := .slice A1 p c1) (hf 7 (by kernel_rfl))
                  refine step_run (wanted_none rfl) (v := .slice A1 p c1) (w' := W) ?_ (hK _ _ trivial trivial rfl (hJ.same 0 (by decide) (by decide)))
                  go_simp
                · clear hsz
                  have e1 := slot_of (a := a9) (s := 0) (v := .slice (some ⟨bw, ow, none⟩) q c) (hf 0 (by kernel_rfl))
                  refine step_run (wanted_none rfl) (v := .slice (some ⟨bw, ow, none⟩) q c) (w' := W) ?_ (hK _ _ trivial trivial rfl (hJ.same 1 (by decide) (by decide)))
                  go_simp
                · clear hsz
                  have e1 := slot_of (a := a9) (s := 8) (v := .int .i64 (nx : Int)) (hf 8 (by kernel_rfl))
                  refine step_run (wanted_none rfl) (v := .int .i64 (nx : Int)) (w' := W) ?_ (hK _ _ trivial trivial rfl (hJ.same 2 (by decide) (by decide)))
                  go_simp
                · clear hsz
                  have e1 := slot_of (a := a9) (s := 56) (v := .slice (some ⟨bw, ow, none⟩) q c) (hv 1 (by kernel_rfl))
                  have e2 := slot_of (a := a9) (s := 57) (v := .int .i64 (nx : Int)) (hv 2 (by kernel_rfl))
                  refine step_run (wanted_none rfl) (v := .pointer (some ⟨bw, ow + nx, none⟩)) (w' := W) ?_ (hK _ _ trivial trivial rfl (hJ.same 3 (by decide) (by decide)))
                  go_simp
                · clear hsz
                  have e1 := slot_of (a := a9) (s := 58) (v := .pointer (some ⟨bw, ow + nx, none⟩)) (hv 3 (by kernel_rfl))
                  have hc := C1.out _ _ hJ
                  refine step_run (wanted_none rfl) (v := .int .i64 (y : Int)) (w' := W) ?_ (hK _ _ trivial trivial rfl (hJ.same 4 (by decide) (by decide)))
                  go_simp
                · clear hsz
                  have e1 := slot_of (a := a9) (s := 0) (v := .slice (some ⟨bw, ow, none⟩) q c) (hf 0 (by kernel_rfl))
                  refine step_run (wanted_none rfl) (v := .slice (some ⟨bw, ow, none⟩) q c) (w' := W) ?_ (hK _ _ trivial trivial rfl (hJ.same 5 (by decide) (by decide)))
                  go_simp
                · clear hsz
                  have e1 := slot_of (a := a9) (s := 9) (v := .int .i64 (k : Int)) (hf 9 (by kernel_rfl))
                  refine step_run (wanted_none rfl) (v := .int .i64 (k : Int)) (w' := W) ?_ (hK _ _ trivial trivial rfl (hJ.same 6 (by decide) (by decide)))
                  go_simp
                · clear hsz
                  have e1 := slot_of (a := a9) (s := 60) (v := .slice (some ⟨bw, ow, none⟩) q c) (hv 5 (by kernel_rfl))
                  have e2 := slot_of (a := a9) (s := 61) (v := .int .i64 (k : Int)) (hv 6 (by kernel_rfl))
                  refine step_run (wanted_none rfl) (v := .pointer (some ⟨bw, ow + k, none⟩)) (w' := W) ?_ (hK _ _ trivial trivial rfl (hJ.same 7 (by decide) (by decide)))
                  go_simp
                · clear hsz
                  have e1 := slot_of (a := a9) (s := 62) (v := .pointer (some ⟨bw, ow + k, none⟩)) (hv 7 (by kernel_rfl))
                  have hc := C2.out _ _ hJ
                  refine step_run (wanted_none rfl) (v := .int .i64 (x : Int)) (w' := W) ?_ (hK _ _ trivial trivial rfl (hJ.same 8 (by decide) (by decide)))
                  go_simp
                · clear hsz
                  have e1 := slot_of (a := a9) (s := 59) (v := .int .i64 (y : Int)) (hv 4 (by kernel_rfl))
                  have e2 := slot_of (a := a9) (s := 63) (v := .int .i64 (x : Int)) (hv 8 (by kernel_rfl))
                  refine step_run (wanted_none rfl) (v := .agg #[.int .i64 (y : Int), .int .i64 (x : Int)]) (w' := W) ?_ (hK _ _ trivial trivial rfl (hJ.same 9 (by decide) (by decide)))
                  go_simp
                · clear hsz
                  have e1 := slot_of (a := a9) (s := 64) (v := .agg #[.int .i64 (y : Int), .int .i64 (x : Int)]) (hv 9 (by kernel_rfl))
                  have hE := hJ.at1 hL
                  have hwB := HWB.out
                  refine step_run (wanted_none rfl) (v := .slice (some ⟨wd.heap.size, 0, none⟩) 1 1) (w' := wB) ?_ (hK _ _ trivial trivial rfl (LaJ.one hL (hJ.no2 hL)))
                  go_simp
                · clear hsz
                  have e1 := slot_of (a := a9) (s := 55) (v := .slice A1 p c1) (hv 0 (by kernel_rfl))
                  have e2 := slot_of (a := a9) (s := 65) (v := .slice (some ⟨wd.heap.size, 0, none⟩) 1 1) (hv 10 (by kernel_rfl))
                  have hE := hJ.at2 hL (hW 10 (by kernel_rfl))
                  have hrun := HRUN.out
                  refine step_run (wanted_none rfl) (v := v6) (w' := w6) ?_ (hK _ _ trivial trivial rfl (LaJ.two (hW 10 (by kernel_rfl))))
                  rw [hE]
                  unfold execOp
                  simp only [resolve, invoke, builtin, Sem.run_bind, Sem.run_pure, Result.andThen_ok, List.map_toArray, List.map_cons, List.map_nil, eval_of (hv 0 (by kernel_rfl)), eval_of (hv 10 (by kernel_rfl)), hrun]
                · clear hsz
                  have e1 := slot_of (a := a9) (s := 66) (v := v6) (hv 11 (by kernel_rfl))
                  refine step_run (wanted_none rfl) (v := v6) (w' := W) ?_ (hK _ _ trivial trivial rfl (hJ.same 12 (by decide) (by decide)))
                  go_simp
              · exact .inl ⟨rfl, rfl, hwd.symm⟩
              · intro f wa hCa hva Da hDa hJa
                obtain ⟨aa, hJe, _⟩ := hJa
                have hE := hJe.end_ (hDa 11 (by decide))
                have k7 := hva 12 (by decide)
                rw [hE]
                have m0 := hva 0 (by decide)
                have m1 := hva 1 (by decide)
                have m2 := hva 2 (by decide)
                have m3 := hva 3 (by decide)
                have m4 := hva 4 (by decide)
                have m5 := hva 5 (by decide)
                have m6 := hva 6 (by decide)
                have m7 := hva 7 (by decide)
                have m8 := hva 8 (by decide)
                have m9 := hva 9 (by decide)
                have m10 := hva 10 (by decide)
                have m11 := hva 11 (by decide)
                simp only [framed, List.foldl_cons, List.foldl_nil, List.setIfInBounds_toArray, List.set_cons_succ, List.set_cons_zero]
                try dsimp only [dstOf] at k7
                have hf7 : f 7 = .slice A6 (p + 1) c6 := by rw [← HV6.out]; exact k7
                rw [hf7]
                clear hva hDa hJe hCa hE k7 m0 m1 m2 m3 m4 m5 m6 m7 m8 m9 m10 m11
                refine hK9 _ _ ?_
                go_wp2
                go_roundw
                case rel => exact ⟨k + 1, A6, p + 1, c6, nx + 1, by go_num, by omega, rfl, by go_num, by omega, hidrg_ (by rw [HN.out, List.length_append, HP.out]; rfl), HD2, hidrg_ (by rw [HN.out]; exact O6.out), B6⟩
                case measure => simp [intOf]; omega
          · have tq : ¬ (nx : Int) < (q : Int) := by omega
            have hd := HD.out
            rw [List.drop_of_length_le (by rw [HM.out]; omega)] at hd
            have HN := hidrg_ (show stAll (upF ul) ws n (k + 1) = st by rw [HST.out, step_none HV.out hd.symm])
            clear hd
            go_wp2
            go_roundw
            case rel => exact ⟨k + 1, A1, p, c1, nx, by go_num, by omega, rfl, rfl, by omega, hidrg_ (by rw [HN.out]; exact HP.out), hidrg_ (by rw [HN.out]; exact HD.out), hidrg_ (by rw [HN.out]; exact HO.out), HB⟩
            case measure => simp [intOf]; omega
    · have tl : ¬ (k : Int) < (n : Int) := by omega
      obtain rfl : k = n := by omega
      go_wp2
      go_ret
      refine ⟨A1, c1, ?_, ?_, HB.out⟩
      · rw [HP.out]
        rfl
      · exact HO.out.rd.1
end Go.Proofs.YtkhmghmilnfngaaDoor

namespace Go.Proofs.YtkhmghmilnfngaaDoor
set_option maxRecDepth 100000
open Go.ChangeShapes Go.WideShapes Go.ChangeAt Go.RowKit
set_option linter.unusedVariables false
set_option linter.unusedSimpArgs false

theorem sliceW_to (A : Option Addr) (n c : Nat) (z : Int) (k : Nat) (hz : z = (k : Int)) (hk : k ≤ c) (W : World) :
    (Instr.slice 42 (.slice A n c) none (some (.int .i64 z)) none).run Tryd.prog W = .ok (.slice A k c) W := by
  subst hz
  have he : Tryd.prog.elem 42 = 4 := by kernel_rfl
  rw [run_slice_h W 42 A n c (by rw [he]; exact Tryd.underlying42) .i64 k (by omega) (by omega)]
  have hs : (sizeOf (Tryd.prog.elem 42)).run Tryd.prog W = .ok 1 W := by
    rw [he]
    obtain ⟨i, hi, hz, hsize, hby⟩ := info_parts infoW
    simp [sizeOf, typeInfo, hi, hsize]
  rw [hs]
  simp only [Result.andThen, sliced]
  congr 2
  by_cases h : c = 0
  · rw [if_pos h]
  · rw [if_neg h]
    cases A with
    | none => rfl
    | some a => simp [Addr.add]
set_option maxRecDepth 100000 in
set_option maxHeartbeats 4000000 in
theorem stand_bad (w : World) (g : Nat) (L : List PtV) (hr : RingIs w g L) (hs : Srt ltP L) (hm : L.length ≤ 1000000) (K : List UInt8) (hK : K.length = 32) (ws : List Nat) (hws : walkV (plB K) L = ws) (n : Nat) (h1 : 1 ≤ n) (hn : n ≤ ws.length) (h8 : ws.length ≤ 8)
    (Au : Option Addr) (q cu : Nat) (hq : q ≠ ws.length) :
    Calls Tryd.prog 9 #[.pointer (some ⟨g, 0, none⟩), .agg (rowOf K), .int .i64 (n : Int), .slice Au q cu] w fun e w' => e = .returned (.tuple #[.slice none 0 0, .int .i64 1]) ∧ Below w.heap.size w w' := by
  obtain ⟨gk, hgk⟩ : ∃ g, w.heap.size = g := ⟨_, rfl⟩
  obtain ⟨w0, hw0⟩ : ∃ W, w.alloc (.cells (rowOf K) 23) = W := ⟨_, rfl⟩
  have b0 : Below w.heap.size w w0 := by rw [← hw0]; exact (Below.refl _ _).alloc (Nat.le_refl _) _
  have k0 : Bk w0 gk 23 (rowOf K) := by rw [← hw0, ← hgk]; exact Bk.new w _ _
  obtain ⟨gu, hgu⟩ : ∃ g, w0.heap.size = g := ⟨_, rfl⟩
  obtain ⟨w1, hw1⟩ : ∃ W, w0.alloc (.cells #[.slice Au q cu] 42) = W := ⟨_, rfl⟩
  have B1 := hidrg_ (show Below w.heap.size w w1 by rw [← hw1]; exact b0.alloc b0.size _)
  have K1 := hidrg_ (show Bk w1 gk 23 (rowOf K) by rw [← hw1]; exact k0.alloc _)
  have U1 := hidrg_ (show Bk w1 gu 42 #[.slice Au q cu] by rw [← hw1, ← hgu]; exact Bk.new w0 _ _)
  have KL := hidrg_ (iBlind K hK)
  have cw := walk_any w1 g L (hr.below B1.out) hs hm K hK
  rw [hws] at cw
  obtain ⟨m, hwm⟩ : ∃ m, ws.length = m := ⟨_, rfl⟩
  unfold NewZ at cw
  rw [hwm] at cw hn h8 hq
  have t1 : ¬ (n : Int) < 1 := by omega
  have t2 : ¬ (m : Int) < (n : Int) := by omega
  have t3 : ((q : Int) == (m : Int)) = false := by simp; omega
  have t4 : ((q : Int) != (m : Int)) = true := by simp; omega
  clear b0 k0 hr hs hm hK hws hwm
  go_enter Tryd.func9, Tryd.ntmps9
  go_upto_region 2 with (first
    | (refine wpList_load_row rfl 23 (.tmp 5) rfl gk rfl 23 (rowOf K) (0, 0) _ K1.out Tryd.underlying23 rfl KL.out ?_)
    | (go_at_call 12; ((with_reducible refine cw.mono ?_); clear cw; rintro e w3 ⟨A, c, rfl, ho, hb⟩; have B3 := hidrg_ (B1.out.trans (hb.mono B1.out.size)); have U3 := hidrg_ (U1.out.below hb U1.out.lt); clear ho hb)))
  have ku := (show w3.cell? ⟨gu, 0, none⟩ = some (.slice Au q cu) from U3.out.cell 0)
  go_wp2
  go_ret2
  exact ⟨rfl, by first | exact B3.out | (rw [← hgk]; exact B3.out)⟩
end Go.Proofs.YtkhmghmilnfngaaDoor

namespace Go.Proofs.YtkhmghmilnfngaaDoor
set_option maxRecDepth 100000
open Go.ChangeShapes Go.WideShapes Go.ChangeAt Go.RowKit
set_option linter.unusedVariables false
set_option linter.unusedSimpArgs false

/-- An array of two ints, taken by value. -/
theorem open_pairR {H : Type} {enc : TypeId × Value → H} {P : Program} {t e : TypeId} {w : World} {b0 base : Nat} {sp : Nat → Bool} {held : Bool} {r : Reach} {v : Value} {d : DataW H} {p : List MemPlace}
    (ht : P.underlying t = some (.array 2 e)) (he : P.underlying e = some (.int .i64)) (hc : P.cellsOf e = 1) (hct : P.cellsOf t = 2)
    (hv : Value.okWide P w r b0 t v) (h : DataW.Trod enc P w base sp held t v d p) :
    ∃ a b : Int, v = .agg #[.int .i64 a, .int .i64 b] ∧ (-9223372036854775808 ≤ a ∧ a ≤ 9223372036854775807) ∧ (-9223372036854775808 ≤ b ∧ b ≤ 9223372036854775807) := by
  obtain ⟨cs, rfl, hsz, _⟩ : ∃ cs, v = .agg cs ∧ cs.size = P.cellsOf t ∧ Row.okWide P w r b0 t cs := by simpa [Value.okWide, ht] using hv
  rw [hct] at hsz
  obtain ⟨l⟩ := cs
  match l, hsz with
  | [c0, c1], _ =>
    obtain ⟨fuel, hf⟩ := h
    obtain ⟨xs, m, _, _, _, hl, hel⟩ := DataW.trod_array ht hf
    have h0 := hel 0 (by omega)
    have h1 := hel 1 (by omega)
    rw [hc] at h0 h1
    rw [List.getElem?_eq_getElem (by omega)] at h0 h1
    obtain ⟨a, e0, _, wa⟩ := DataW.trod_int he h0
    obtain ⟨b, e1, _, wb⟩ := DataW.trod_int he h1
    simp [Value.cells] at e0 e1
    exact ⟨a, b, by rw [e0, e1], bounds_i64 wa, bounds_i64 wb⟩
theorem cells_boolsW {H : Type} {enc : TypeId × Value → H} {P : Program} {t e : TypeId} {w : World} {fuel : Nat} {sp : Nat → Bool} {held : Bool} {cs : List Value} {d : DataW H × List MemPlace}
    (ht : P.underlying t = some (.slice e)) (he : P.underlying e = some .bool) (hc : P.cellsOf e = 1)
    (hf : DataW.trod enc P w 0 sp held fuel t cs = some d) :
    ∃ A S c, cs = [.slice A (S : List Bool).length c] ∧ RdW w w.heap.size A S ∧ S.length ≤ c ∧ c ≤ maxLen := by
  rcases Go.Deep.open_slice1 ht hc hf with ⟨hcs, hx⟩ | ⟨a, len, cap, m, n, V, D, Pl, hcs, _, hl, hm, hmm, hx, hel⟩
  · exact ⟨none, [], 0, hcs, fun h => absurd h (by simp), Nat.le_refl _, Nat.zero_le _⟩
  · have hlm : len ≤ m := by rw [hmm]; split <;> omega
    obtain ⟨B, hB⟩ := Go.Deep.choose_lt (α := Bool) (n := len) (p := fun i b => w.cell? (a.add i) = some (.bool b)) (fun i hi => by
      obtain ⟨h1, h2⟩ := hel i (by omega)
      obtain ⟨b, h3, _⟩ := DataW.trod_bool he h2
      exact ⟨b, by rw [h1]; simpa using h3⟩)
    refine ⟨some a, (List.range len).map B, cap, by simpa using hcs, fun hn => ?_, by simpa using hl, hm⟩
    have hn' : 0 < len := by simpa using hn
    obtain ⟨b, off, spot⟩ := a
    have hc0 := hB 0 hn'
    have hspot : spot = none := by simpa [Addr.add] using World.cell?_spot hc0
    subst hspot
    have hplain : ∀ j, (⟨b, off, none⟩ : Addr).add j = ⟨b, off + j, none⟩ := fun j => by unfold Addr.add; split <;> simp_all
    refine ⟨b, off, rfl, World.block_lt_of_cell? w _ hc0, fun j hj => ?_⟩
    have hj' : j < len := by simpa using hj
    have := hB j hj'
    rw [hplain] at this
    rw [this]
    simp [List.getD, hj']
theorem open_boolW {H : Type} {enc : TypeId × Value → H} {P : Program} {t e : TypeId} {w : World} {b0 : Nat} {sp : Nat → Bool} {held : Bool} {r : Reach} {v : Value} {d : DataW H} {p : List MemPlace}
    (ht : P.underlying t = some (.slice e)) (he : P.underlying e = some .bool) (hc : P.cellsOf e = 1) (hv : Value.okWide P w r b0 t v) (h : DataW.Trod enc P w 0 sp held t v d p) :
    ∃ A S c, v = .slice A (S : List Bool).length c ∧ RdW w w.heap.size A S ∧ S.length ≤ c ∧ c ≤ maxLen := by
  obtain ⟨a0, len, cap, rfl⟩ := okWide_slice ht hv
  obtain ⟨fuel, hf⟩ := h
  obtain ⟨A, S, c, e1, h1, h2, h3⟩ := cells_boolsW ht he hc hf
  simp [Value.cells] at e1
  obtain ⟨rfl, rfl, rfl⟩ := e1
  exact ⟨_, S, _, rfl, h1, h2, h3⟩
end Go.Proofs.YtkhmghmilnfngaaDoor
