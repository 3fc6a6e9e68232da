/-
  Words for RingWalks: none, a nil ring, New whole.
-/
import Derived.Test.YtkhmghmilnfngaaDoorRgr
import Derived.Test.YtkhmghmilnfngaaDoorRi
namespace Go.Proofs.YtkhmghmilnfngaaDoor
set_option maxRecDepth 100000
open Go.ChangeShapes Go.WideShapes Go.ChangeAt Go.RowKit
set_option linter.unusedVariables false
set_option linter.unusedSimpArgs false

section
variable {P : Program} {C : World → Prop} {ops : Array Oper} {rest : List Oper} {o : Oper} {a : Act} {w : World} {Q : Exit → Act → World → Prop} {K0 : Act → Prop}
/-- A whole row, read in a quiet region. -/
theorem quiet_load_row (ty : TypeId) (x : Operand) (ho : o.op = .load ty x) (g : Nat) (hx : a.eval x = .pointer (some ⟨g, 0, none⟩)) (t : TypeId) (cs : Array Value) (d : TypeDesc)
    (hu : P.underlying ty = some d) (hd : (match d with | .struct _ | .array _ _ => true | _ => false) = true) (hi : (P.info? ty).map (·.size) = some cs.size)
    (hC : ∀ W, C W → Bk W g t cs) (hk : K0 (a.put o.dst (.agg cs))) : o.quiet P a C K0 :=
  quiet_run (.agg cs) (fun W hW => by
    have hrun : (loadVar ty ⟨g, 0, none⟩).run P W = .ok (.agg cs) W := run_loadVar_row _ _ _ _ _ (0, 0) _ (hC W hW) hu hd hi
    unfold execOp
    simp only [ho, hx, Instr.loadAt, Instr.sureAddr, Sem.run_bind, Sem.run_pure, Result.andThen_ok, hrun]) hk

end
theorem sizeB_ (W : World) : (sizeOf (Tryd.prog.elem 23)).run Tryd.prog W = .ok 1 W := by
  have he : Tryd.prog.elem 23 = 5 := by kernel_rfl
  rw [he]
  obtain ⟨i, hi, hz, hsize, hby⟩ := info_parts info8
  simp [sizeOf, typeInfo, hi, hsize]
theorem slice_allB (g : Nat) (W : World) :
    (Instr.sliceAt 23 (.pointer (some ⟨g, 0, none⟩)) none none none).run Tryd.prog W = .ok (.slice (some ⟨g, 0, none⟩) 32 32) W := by
  have he : Tryd.prog.elem 23 = 5 := by kernel_rfl
  have hn : Tryd.prog.arrayLen 23 = 32 := by kernel_rfl
  have hs : Tryd.prog.cellsOf (Tryd.prog.elem 23) = 1 := by kernel_rfl
  have ht : Tryd.prog.underlying 23 = some (.array (Tryd.prog.arrayLen 23) (Tryd.prog.elem 23)) := by rw [he, hn]; exact Tryd.underlying23
  rw [run_sliceAt_array_all W 23 ⟨g, 0, none⟩ ht, sizeB_, hn]
  rfl
theorem rd_bk {w : World} {g : Nat} {t : TypeId} {l : List UInt8} (h : Bk w g t (rowOf l)) : Rd w w.heap.size (some ⟨g, 0, none⟩) l := fun _ => ⟨g, 0, rfl, h.lt, fun j hj => by rw [Nat.zero_add]; exact (h.cell j).trans (rowOf_at l j hj)⟩

set_option maxHeartbeats 1000000 in
theorem none_any (w : World) : Calls Tryd.prog 7 #[] w fun e w' => e = .returned (.pointer none) ∧ w = w' := by
  go_enter Tryd.func7, Tryd.ntmps7
  go_wp2
  go_ret
  exact ⟨rfl, rfl⟩
set_option maxRecDepth 100000 in
set_option maxHeartbeats 2000000 in
theorem walk_nil (w : World) (K : List UInt8) : Calls Tryd.prog 12 #[.pointer none, .agg (rowOf K)] w fun e w' => e = .returned (.slice none 0 0) ∧ Below w.heap.size w w' := by
  have B1 := hidrg_ ((Below.refl w.heap.size w).alloc (Nat.le_refl _) (.cells (rowOf K) 23))
  go_enter Tryd.func12, Tryd.ntmps12
  go_wp2
  go_ret
  exact ⟨rfl, B1.out⟩
set_option maxRecDepth 100000 in
set_option maxHeartbeats 2000000 in
theorem prefer_nil (w : World) (K : List UInt8) (hK : K.length = 32) : Calls Tryd.prog 8 #[.pointer none, .agg (rowOf K), .int .i64 1] w fun e w' => e = .returned (.tuple #[.slice none 0 0, .int .i64 1]) ∧ Below w.heap.size w w' := by
  obtain ⟨gk, hgk⟩ : ∃ g, w.heap.size = g := ⟨_, rfl⟩
  obtain ⟨w1, hw1⟩ : ∃ W, w.alloc (.cells (rowOf K) 23) = W := ⟨_, rfl⟩
  have B1 := hidrg_ (show Below w.heap.size w w1 by rw [← hw1]; exact (Below.refl _ _).alloc (Nat.le_refl _) _)
  have K1 := hidrg_ (show Bk w1 gk 23 (rowOf K) by rw [← hw1, ← hgk]; exact Bk.new w _ _)
  have KL := hidrg_ (iBlind K hK)
  have cw := walk_nil w1 K
  go_enter Tryd.func8, Tryd.ntmps8
  go_wp2_with (first
    | (refine wpList_load_row rfl 23 (.tmp 4) rfl gk rfl 23 (rowOf K) (0, 0) _ K1.out Tryd.underlying23 rfl KL.out ?_)
    | (go_at_call 12; ((with_reducible refine cw.mono ?_); clear cw; rintro e w2 ⟨rfl, hb⟩; have B2 := hidrg_ (B1.out.trans (hb.mono B1.out.size)); clear hb)))
  go_ret2
  exact ⟨rfl, B2.out⟩
set_option maxRecDepth 100000 in
set_option maxHeartbeats 2000000 in
theorem stand_nil (w : World) (K : List UInt8) (hK : K.length = 32) : Calls Tryd.prog 9 #[.pointer none, .agg (rowOf K), .int .i64 1, .slice none 0 0] w fun e w' => e = .returned (.tuple #[.slice none 0 0, .int .i64 1]) ∧ Below w.heap.size w w' := by
  obtain ⟨gk, hgk⟩ : ∃ g, w.heap.size = g := ⟨_, rfl⟩
  obtain ⟨w0, hw0⟩ : ∃ W, w.alloc (.cells (rowOf K) 23) = W := ⟨_, rfl⟩
  have b0 : Below w.heap.size w w0 := by rw [← hw0]; exact (Below.refl _ _).alloc (Nat.le_refl _) _
  have k0 : Bk w0 gk 23 (rowOf K) := by rw [← hw0, ← hgk]; exact Bk.new w _ _
  obtain ⟨w1, hw1⟩ : ∃ W, w0.alloc (.cells #[.slice none 0 0] 42) = W := ⟨_, rfl⟩
  have B1 := hidrg_ (show Below w.heap.size w w1 by rw [← hw1]; exact b0.alloc b0.size _)
  have K1 := hidrg_ (show Bk w1 gk 23 (rowOf K) by rw [← hw1]; exact k0.alloc _)
  have KL := hidrg_ (iBlind K hK)
  have cw := walk_nil w1 K
  clear b0 k0
  go_enter Tryd.func9, Tryd.ntmps9
  go_wp2_with (first
    | (refine wpList_load_row rfl 23 (.tmp 5) rfl gk rfl 23 (rowOf K) (0, 0) _ K1.out Tryd.underlying23 rfl KL.out ?_)
    | (go_at_call 12; ((with_reducible refine cw.mono ?_); clear cw; rintro e w2 ⟨rfl, hb⟩; have B2 := hidrg_ (B1.out.trans (hb.mono B1.out.size)); clear hb)))
  go_ret2
  exact ⟨rfl, B2.out⟩
def okR (z1 z2 : Int) : Prop := 1 ≤ z1 ∧ z1 ≤ 8 ∧ 1 ≤ z2 ∧ z2 ≤ 64
/-- What New tells, whatever it is asked for. -/
def NewB (w : World) (z1 z2 : Int) (e : Ending) (w' : World) : Prop := ∃ (P : Option Addr) (er : Int), e = .returned (.tuple #[.pointer P, .int .i64 er]) ∧ Below w.heap.size w w' ∧ ((¬ okR z1 z2 ∧ P = none ∧ er = 1) ∨ (okR z1 z2 ∧ er = 0 ∧ ∃ g, P = some ⟨g, 0, none⟩ ∧ RingIs w' g (ringL plcS z1.toNat z2.toNat)))
theorem new_both (w : World) (z1 z2 : Int) (ht : Tab w) (hg1 : 0 < w.heap.size) : Calls Tryd.prog 10 #[.int .i64 z1, .int .i64 z2] w (NewB w z1 z2) := by
  by_cases h : okR z1 z2
  · obtain ⟨h1, h2, h3, h4⟩ := h
    obtain ⟨n, rfl⟩ : ∃ n : Nat, z1 = (n : Int) := ⟨z1.toNat, by omega⟩
    obtain ⟨k, rfl⟩ : ∃ k : Nat, z2 = (k : Int) := ⟨z2.toNat, by omega⟩
    refine (new_any w n k (by omega) (by omega) (by omega) (by omega) ht hg1).mono ?_
    rintro e w' ⟨g, rfl, hri, hb⟩
    exact ⟨_, _, rfl, hb, .inr ⟨⟨h1, h2, h3, h4⟩, rfl, g, rfl, by rw [Int.toNat_natCast, Int.toNat_natCast]; exact hri⟩⟩
  · refine (new_no w z1 z2 (by unfold okR at h; omega)).mono ?_
    rintro e w' ⟨rfl, rfl⟩
    exact ⟨_, _, rfl, Below.refl _ _, .inl ⟨h, rfl, rfl⟩⟩
end Go.Proofs.YtkhmghmilnfngaaDoor
