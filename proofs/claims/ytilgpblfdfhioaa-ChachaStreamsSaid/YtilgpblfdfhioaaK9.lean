/-
  Contract: casketlaw05.streams.
-/
import Derived.Test.YtilgpblfdfhioaaK7
import Derived.Test.YtilgpblfdfhioaaQi
import Derived.Stop.BytesEq
import Derived.BigCall
namespace Go.Proofs.Ytilgpblfdfhioaa
open Go.RowKit
set_option linter.unusedVariables false
set_option linter.unusedSimpArgs false

section
variable {P : Program} {ops : Array Oper} {o : Oper} {a : Act} {w w' : World} {K : Act → World → Prop} {Q : Exit → Act → World → Prop} {E : Prop} {v : Value}
theorem step_run (hw : Region.wanted o (yielded ops a.tmps) = true) (h : (execOp a.eval o).run P w = .ok (.value v) w') (hk : K (a.put o.dst v) w') : if Region.wanted o (yielded ops a.tmps) = true then Oper.wp P o a w K Q else E := by
  rw [if_pos hw]
  unfold Oper.wp
  rw [h]
  exact hk
theorem step_call (f : FuncId) (args : Array Value) (v : Value) (hw : Region.wanted o (yielded ops a.tmps) = true) (h : (execOp a.eval o).run P w = .ok (.enter f args) w') (hc : Calls P f args w' fun e w2 => e = .returned v ∧ K (a.put o.dst v) w2) : if Region.wanted o (yielded ops a.tmps) = true then Oper.wp P o a w K Q else E := by
  rw [if_pos hw]
  unfold Oper.wp
  rw [h]
  exact hc.mono fun e w2 hh => by
    obtain ⟨rfl, hk⟩ := hh
    exact hk
theorem wanted_none (hg : o.guard = none) : Region.wanted o (yielded ops a.tmps) = true := by simp [Region.wanted, hg]
end
theorem slot_of {a : Act} {s : Nat} {v : Value} (h : a.tmps.getD s undef = v) : a.tmps[s]?.getD undef = v := by simpa using h
theorem eval_of {a : Act} {s : Nat} {v : Value} (h : a.tmps.getD s undef = v) : a.eval (.tmp s) = v := h

def keyO : List UInt8 := 1 :: zbytes 31
def nonO : List UInt8 := zbytes 12
theorem blocks_unlike : (blockB keyO 0 nonO == blockB keyO 1 nonO) = false := by decide +kernel
theorem neq64 (l m : List UInt8) (hl : l.length = 64) (hm : m.length = 64) (h : (l == m) = false) (W : World) :
    (binOp .neq 30 (.agg (rowOf l)) (.agg (rowOf m))).run Try.prog W = .ok (.bool true) W := by
  have he := run_equalIn_bytes W 9998 30 5 64 Try.underlying30 Try.underlying5 size8w l m hl hm
  have e : (Op.equalIn 10000 30 (.agg (rowOf l)) (.agg (rowOf m))).run Try.prog W = .ok (l == m) W := he
  rw [run_neq_struct, e, h]
  rfl
/-- What each operation of the last line leaves. -/
def StR (ga : Nat) (b0 b1 : List UInt8) : Nat → Value → World → Prop
  | 0, v, _ => v = .slice (some ⟨ga, 0, none⟩) 64 64
  | 1, v, _ => v = .string (strOf b0)
  | 2, v, w => ∃ g, v = .slice (some ⟨g, 0, none⟩) 31 31 ∧ Blk8 w g (zbytes 31)
  | 3, v, _ => v = .string (strOf (zbytes 31))
  | 4, v, _ => v = .string (strOf keyO)
  | 5, v, w => ∃ g, v = .slice (some ⟨g, 0, none⟩) 12 12 ∧ Blk8 w g nonO
  | 6, v, _ => v = .string (strOf nonO)
  | 7, v, _ => v = .string (strOf b0)
  | 10, v, _ => v = .agg (rowOf b0)
  | 11, v, _ => v = .agg (rowOf b1)
  | _, v, _ => v = .bool true
def StC (ga gb : Nat) (b0 b1 : List UInt8) (w0 w : World) : Prop := Bk w ga 30 (rowOf b0) ∧ Bk w gb 30 (rowOf b1) ∧ Below w0.heap.size w0 w
theorem StC.below {ga gb : Nat} {b0 b1 : List UInt8} {w0 w w' : World} (h : StC ga gb b0 b1 w0 w) (hb : Below w.heap.size w w') : StC ga gb b0 b1 w0 w' :=
  ⟨h.1.below hb h.1.lt, h.2.1.below hb h.2.1.lt, h.2.2.trans (hb.mono h.2.2.size)⟩
theorem StR.below {ga : Nat} {b0 b1 : List UInt8} (j : Nat) (v : Value) (w w' : World) (hb : Below w.heap.size w w') (h : StR ga b0 b1 j v w) : StR ga b0 b1 j v w' := by
  rcases j with _ | _ | _ | _ | _ | _ | _ | _ | _ | _ | _ | _ | j
  all_goals first
    | exact h
    | (obtain ⟨g, e, hg⟩ := h; exact ⟨g, e, hg.below hb hg.lt⟩)

set_option maxRecDepth 100000 in
set_option maxHeartbeats 4000000 in
theorem streams_any (w : World) : Calls Try.prog 28 #[] w fun e w' => e = .returned (.bool true) ∧ Below w.heap.size w w' := by
  have hzb := zb64
  have c0 := fun W => block_any keyO nonO 0 W rfl rfl ok32_zero
  have c1 := fun W => block_any keyO nonO 1 W rfl rfl ⟨by decide, by decide⟩
  have cr := fun W => refBlock_any keyO nonO 0 W rfl rfl ok32_zero
  have L0 := hidq_ (blockB_len keyO 0 nonO)
  have L1 := hidq_ (blockB_len keyO 1 nonO)
  have UN := hidq_ blocks_unlike
  obtain ⟨b0, hb0⟩ : ∃ x, Hid (blockB keyO 0 nonO = x) := ⟨_, rfl⟩
  obtain ⟨b1, hb1⟩ : ∃ x, Hid (blockB keyO 1 nonO = x) := ⟨_, rfl⟩
  rw [hb0.out] at c0 cr L0 UN
  rw [hb1.out] at c1 L1 UN
  have E0 := hidq_ (ib64 b0 L0.out)
  have E1 := hidq_ (ib64 b1 L1.out)
  have S0 : Hid ((rowOf (zbytes 64)).size = (rowOf b0).size) := hidq_ (by rw [rowOf_size, rowOf_size, L0.out, zbytes_len])
  have S1 : Hid ((rowOf (zbytes 64)).size = (rowOf b1).size) := hidq_ (by rw [rowOf_size, rowOf_size, L1.out, zbytes_len])
  go_enter Try.func28, Try.ntmps28
  go_upto_region 2 with (first
    | (refine wpList_built rfl 27 _ rfl (rowOf keyO) (by kernel_rfl) ?_)
    | (refine wpList_built rfl 29 _ rfl (rowOf nonO) (by kernel_rfl) ?_)
    | (go_at_call 27; ((with_reducible refine (c0 _).mono ?_); rintro e w1 ⟨rfl, g1⟩; have HB1 := hidq_ g1; clear g1))
    | (go_at_call 27; ((with_reducible refine (c1 _).mono ?_); rintro e w2 ⟨rfl, g1⟩; have HB2 := hidq_ g1; clear g1))
    | (refine wpList_put_row rfl 30 (.tmp 1) (.tmp 5) rfl w2.heap.size (rowOf b0) rfl rfl 30 (rowOf (zbytes 64)) ((Bk.new w2 _ _).alloc _) E0.out S0.out (bytes_one _) ?_; intro w3 k3 g3 s3; have K3 := hidq_ k3; have G3 := hidq_ g3; have S3 := hidq_ s3; clear k3 g3 s3)
    | (refine wpList_put_row rfl 30 (.tmp 2) (.tmp 8) rfl (w2.heap.size + 1) (rowOf b1) rfl rfl 30 (rowOf (zbytes 64)) (by
        have h := Bk.new (w2.alloc (.cells (rowOf (zbytes 64)) 30)) 30 (rowOf (zbytes 64))
        have hz : (w2.alloc (.cells (rowOf (zbytes 64)) 30)).heap.size = w2.heap.size + 1 := by simp
        rw [hz] at h
        exact h.grown G3.out (by intro e; injection e with e; omega)) E1.out S1.out (bytes_one _) ?_; intro w4 k4 g4 s4))
  have A4 := hidq_ (K3.out.grown g4 (by intro e; injection e with e; omega))
  have B4 := hidq_ k4
  have bb : Below w.heap.size w w4 := by
    have h1 := HB1.out.trans (HB2.out.mono HB1.out.size)
    have h2 := (h1.alloc h1.size (.cells (rowOf (zbytes 64)) 30)).alloc (by have := h1.size; simp; omega) (.cells (rowOf (zbytes 64)) 30)
    have h3 := h2.grown G3.out h2.size (fun i hi => by injection hi with hi; have := h1.size; omega)
    exact h3.grown g4 h3.size (fun i hi => by injection hi with hi; have := h1.size; omega)
  have HBB := hidq_ bb
  obtain ⟨ga, hga⟩ : ∃ x, Hid (w2.heap.size = x) := ⟨_, rfl⟩
  rw [hga.out] at A4 B4 ⊢
  clear k4 g4 s4 bb K3 G3 S3 HB1 HB2 hzb c0 c1 S0 S1
  simp only [put_none]
  have q0 := fun W => sl_all64 ga W
  refine region_by (StC ga (ga + 1) b0 b1 w4) (fun w w' => Below w.heap.size w w') (StR ga b0 b1) (by kernel_rfl) (by kernel_rfl) (by kernel_rfl) (fun j v w w' hT h => h.below j v w w' hT) (fun j v w hlt hj _ => by
    exfalso
    rcases j with _ | _ | _ | _ | _ | _ | _ | _ | _ | _ | _ | _ | _ | _ | _ | j
    all_goals first
      | (simp [dstOf] at hj; done)
      | (simp at hlt; omega)) ⟨A4.out.drew, B4.out.drew, (Below.refl _ w4).drew⟩ ?_ ?_
  · have hap : (⟨#[1]⟩ : ByteArray) ++ strOf (zbytes 31) = strOf keyO := strOf_append [1] (zbytes 31)
    have hs3 : 1 + (strOf (zbytes 31)).size ≤ 9223372036854775807 := by rw [strOf_size, zbytes_len]; omega
    refine ⟨fun a w hC hd hf hv K hK => ?_, fun a w hC hd hf hv K hK => ?_, fun a w hC hd hf hv K hK => ?_, fun a w hC hd hf hv K hK => ?_, fun a w hC hd hf hv K hK => ?_, fun a w hC hd hf hv K hK => ?_, fun a w hC hd hf hv K hK => ?_, fun a w hC hd hf hv K hK => ?_, fun a w hC hd hf hv K hK => ?_, fun a w hC hd hf hv K hK => ?_, fun a w hC hd hf hv K hK => ?_, fun a w hC hd hf hv K hK => ?_, fun a w hC hd hf hv K hK => ?_, fun a w hC hd hf hv K hK => ?_, fun a w hC hd hf hv K hK => ?_, trivial⟩
    · have e1 := slot_of (a := a) (s := 1) (v := .pointer (some ⟨ga, 0, none⟩)) (hf 1 (by kernel_rfl))
      refine step_run (wanted_none rfl) (v := .slice (some ⟨ga, 0, none⟩) 64 64) (w' := w) ?_ (hK _ _ hC (Below.refl _ _) rfl)
      go_simp
    · have e1 := slot_of (a := a) (s := 9) (v := .slice (some ⟨ga, 0, none⟩) 64 64) (hv 0 (by kernel_rfl))
      have cv := conv_strn (hC.1.rd hC.1.lt) 64 64 L0.out
      refine step_run (wanted_none rfl) (v := .string (strOf b0)) (w' := w) ?_ (hK _ _ hC (Below.refl _ _) rfl)
      go_simp
    · have hm : (Instr.makeSlice 22 (.int .i64 31) (.int .i64 31)).run Try.prog w = .ok (.slice (some ⟨w.heap.size, 0, none⟩) 31 31) (w.alloc (.cells (rowOf (zbytes 31)) 5)) := mk8 31 (by omega) w
      refine step_run (wanted_none rfl) (v := .slice (some ⟨w.heap.size, 0, none⟩) 31 31) (w' := w.alloc (.cells (rowOf (zbytes 31)) 5)) ?_ (hK _ _ (hC.below ((Below.refl _ _).alloc (Nat.le_refl _) _)) ((Below.refl _ _).alloc (Nat.le_refl _) _) ⟨_, rfl, Blk8.new w _⟩)
      go_simp
    · obtain ⟨g, e0, hg⟩ : ∃ g, a.tmps.getD 11 undef = .slice (some ⟨g, 0, none⟩) 31 31 ∧ Blk8 w g (zbytes 31) := hv 2 (by kernel_rfl)
      have e1 := slot_of e0
      have cv := conv_strn (hg.rd hg.lt) 31 31 rfl
      refine step_run (wanted_none rfl) (v := .string (strOf (zbytes 31))) (w' := w) ?_ (hK _ _ hC (Below.refl _ _) rfl)
      go_simp
    · have e1 := slot_of (a := a) (s := 12) (v := .string (strOf (zbytes 31))) (hv 3 (by kernel_rfl))
      refine step_run (wanted_none rfl) (v := .string (strOf keyO)) (w' := w) ?_ (hK _ _ hC (Below.refl _ _) rfl)
      go_simp
    · have hm : (Instr.makeSlice 22 (.int .i64 12) (.int .i64 12)).run Try.prog w = .ok (.slice (some ⟨w.heap.size, 0, none⟩) 12 12) (w.alloc (.cells (rowOf (zbytes 12)) 5)) := mk8 12 (by omega) w
      refine step_run (wanted_none rfl) (v := .slice (some ⟨w.heap.size, 0, none⟩) 12 12) (w' := w.alloc (.cells (rowOf (zbytes 12)) 5)) ?_ (hK _ _ (hC.below ((Below.refl _ _).alloc (Nat.le_refl _) _)) ((Below.refl _ _).alloc (Nat.le_refl _) _) ⟨_, rfl, Blk8.new w _⟩)
      go_simp
    · obtain ⟨g, e0, hg⟩ : ∃ g, a.tmps.getD 14 undef = .slice (some ⟨g, 0, none⟩) 12 12 ∧ Blk8 w g nonO := hv 5 (by kernel_rfl)
      have e1 := slot_of e0
      have cv := conv_strn (hg.rd hg.lt) 12 12 rfl
      refine step_run (wanted_none rfl) (v := .string (strOf nonO)) (w' := w) ?_ (hK _ _ hC (Below.refl _ _) rfl)
      go_simp
    · have e1 := slot_of (a := a) (s := 13) (v := .string (strOf keyO)) (hv 4 (by kernel_rfl))
      have e2 := slot_of (a := a) (s := 15) (v := .string (strOf nonO)) (hv 6 (by kernel_rfl))
      refine step_call 29 #[.string (strOf keyO), .int .u32 0, .string (strOf nonO)] (.string (strOf b0)) (wanted_none rfl) (w' := w) ?_ ((cr w).mono fun e w2 hh => ⟨hh.1, hK _ _ (hC.below hh.2) hh.2 rfl⟩)
      go_simp
    · have e1 := slot_of (a := a) (s := 10) (v := .string (strOf b0)) (hv 1 (by kernel_rfl))
      have e2 := slot_of (a := a) (s := 16) (v := .string (strOf b0)) (hv 7 (by kernel_rfl))
      refine step_run (wanted_none rfl) (v := .bool true) (w' := w) ?_ (hK _ _ hC (Below.refl _ _) rfl)
      go_simp
    · have e1 := slot_of (a := a) (s := 17) (v := .bool true) (hv 8 (by kernel_rfl))
      refine step_run (wanted_none rfl) (v := .bool true) (w' := w) ?_ (hK _ _ hC (Below.refl _ _) rfl)
      go_simp
    · have e9 : a.tmps.getD 18 undef = .bool true := hv 9 (by kernel_rfl)
      have e1 := eval_of (a := a) (s := 1) (v := .pointer (some ⟨ga, 0, none⟩)) (hf 1 (by kernel_rfl))
      rw [if_pos (wanted_at rfl rfl e9)]
      exact wp_load_row 30 (.tmp 1) rfl ga e1 30 (rowOf b0) (0, 0) _ hC.1 Try.underlying30 rfl E0.out (hK _ _ hC (Below.refl _ _) rfl)
    · have e9 : a.tmps.getD 18 undef = .bool true := hv 9 (by kernel_rfl)
      have e1 := eval_of (a := a) (s := 2) (v := .pointer (some ⟨ga + 1, 0, none⟩)) (hf 2 (by kernel_rfl))
      rw [if_pos (wanted_at rfl rfl e9)]
      exact wp_load_row 30 (.tmp 2) rfl (ga + 1) e1 30 (rowOf b1) (0, 0) _ hC.2.1 Try.underlying30 rfl E1.out (hK _ _ hC (Below.refl _ _) rfl)
    · have e9 : a.tmps.getD 18 undef = .bool true := hv 9 (by kernel_rfl)
      have e1 := eval_of (a := a) (s := 19) (v := .agg (rowOf b0)) (hv 10 (by kernel_rfl))
      have e2 := eval_of (a := a) (s := 20) (v := .agg (rowOf b1)) (hv 11 (by kernel_rfl))
      have hn := neq64 b0 b1 L0.out L1.out UN.out w
      refine step_run (wanted_at rfl rfl e9) (v := .bool true) (w' := w) ?_ (hK _ _ hC (Below.refl _ _) rfl)
      have hgd := run_eqGuard_agg (P := Try.prog) (w := w) .neq 30 (.tmp 19) (.tmp 20) (rowOf b0) (rowOf b1) (by kernel_rfl)
      simp only [execOp, e1, e2, Sem.run_bind, hgd, hn, Result.andThen_ok, Sem.run_pure]
    · have e1 := slot_of (a := a) (s := 18) (v := .bool true) (hv 9 (by kernel_rfl))
      have e2 := slot_of (a := a) (s := 21) (v := .bool true) (hv 12 (by kernel_rfl))
      refine step_run (wanted_none rfl) (v := .bool true) (w' := w) ?_ (hK _ _ hC (Below.refl _ _) rfl)
      go_simp
    · have e1 := slot_of (a := a) (s := 22) (v := .bool true) (hv 13 (by kernel_rfl))
      refine step_run (wanted_none rfl) (v := .bool true) (w' := w) ?_ (hK _ _ hC (Below.refl _ _) rfl)
      go_simp
  · intro a W hC hd hsz hf hv
    have e0 : a.tmps.getD 0 undef = .bool true := hv 14 (by decide)
    have hbb := HBB.out.trans (hC.2.2.mono HBB.out.size)
    have HW := hidq_ hbb
    clear hbb hf hv
    rename_i K hK
    refine hK _ _ ?_
    obtain ⟨tm, df⟩ := a
    obtain rfl : df = [] := hd
    go_wp2
    go_ret
    exact ⟨by simpa using e0, HW.out⟩
end Go.Proofs.Ytilgpblfdfhioaa
