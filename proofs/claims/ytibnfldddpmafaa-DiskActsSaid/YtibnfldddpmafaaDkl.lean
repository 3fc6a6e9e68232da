/-
  The law's own: sector, none, disks.
-/
import Derived.Test.YtibnfldddpmafaaDkk
import Derived.Stop.BytesEq
namespace Go.Proofs.Ytibnfldddpmafaa
open Go.RowKit
set_option linter.unusedVariables false
set_option linter.unusedSimpArgs false

def secB (b : UInt8) : List UInt8 := List.replicate 64 b
theorem secB_len (b : UInt8) : (secB b).length = 64 := by simp [secB]
def secP (b : UInt8) (j : Nat) : List UInt8 := List.replicate j b ++ List.replicate (64 - j) 0
theorem secP_len (b : UInt8) (j : Nat) (h : j ≤ 64) : (secP b j).length = 64 := by simp [secP]; omega
theorem secP_set (b : UInt8) (j : Nat) (h : j < 64) : (secP b j).set j b = secP b (j + 1) := by
  unfold secP
  obtain ⟨m, hm⟩ : ∃ m, 64 - j = m + 1 := ⟨63 - j, by omega⟩
  rw [hm, show 64 - (j + 1) = m by omega, List.replicate_succ, List.set_append_right _ _ (by simp), List.length_replicate, Nat.sub_self, List.set_cons_zero, List.replicate_succ', List.append_assoc]
  rfl
theorem secP_all (b : UInt8) : secP b 64 = secB b := by simp only [secP, secB]; rw [show 64 - 64 = 0 from rfl, List.replicate_zero, List.append_nil]
theorem secP_none (b : UInt8) : secP b 0 = zsec := by simp only [secP, zsec]; rw [List.replicate_zero, List.nil_append]
theorem zero64K (W : World) : (zeroValue 26).run Try.prog W = .ok (.agg (rowOf zsec)) W := by kernel_rfl
theorem i64K (D : List UInt8) (h : D.length = 64) : (Try.prog.info? 26).map (·.size) = some (rowOf D).size := by
  rw [rowOf_size, h]
  kernel_rfl
set_option maxRecDepth 100000 in
set_option maxHeartbeats 4000000 in
theorem sector_any (w : World) (by_ : UInt8) (z : Int) (hz : ((by_.toNat : Nat) : Int) = z) : Calls Try.prog 13 #[.int .u8 z] w fun e w' => e = .returned (.agg (rowOf (secB by_))) ∧ Below w.heap.size w w' := by
  subst hz
  obtain ⟨g, hg⟩ : ∃ g, w.heap.size = g := ⟨_, rfl⟩
  obtain ⟨w1, hw1⟩ : ∃ W, w.alloc (.cells (rowOf zsec) 26) = W := ⟨_, rfl⟩
  obtain ⟨w2, hw2⟩ : ∃ W, w1.alloc (.cells (rowOf zsec) 26) = W := ⟨_, rfl⟩
  have s1 : w1.heap.size = g + 1 := by rw [← hw1, ← hg]; simp
  have b1 : Below g w w1 := by rw [← hw1, ← hg]; exact (Below.refl _ _).alloc (Nat.le_refl _) _
  have b2 : Below w1.heap.size w1 w2 := by rw [← hw2]; exact (Below.refl _ _).alloc (Nat.le_refl _) _
  have k1 : Bk w1 g 26 (rowOf zsec) := by rw [← hw1, ← hg]; exact Bk.new w _ _
  have K1 := hidD_ (k1.below b2 k1.lt)
  have K2 := hidD_ (show Bk w2 (g + 1) 26 (rowOf (secP by_ 0)) by rw [← hw2, ← s1, secP_none]; exact Bk.new w1 _ _)
  have B2 := hidD_ (b1.trans (b2.mono (by omega)))
  have HI := hidD_ (i64K (secB by_) (secB_len by_))
  have z1 := zero64K w
  have z2 := zero64K w1
  clear b1 b2 k1
  go_enter Try.func13, Try.ntmps13
  go_wp2
  go_loopw [4] (fun i wr => ∃ j : Nat, j ≤ 64 ∧ i = .int .i64 j ∧ Hid (Bk wr (g + 1) 26 (rowOf (secP by_ j))) ∧ Hid (Bk wr g 26 (rowOf zsec)) ∧ Hid (Below g w wr)) (fun i _ => 64 - (intOf i).toNat)
  case atStart => exact ⟨0, by omega, rfl, K2, K1, B2⟩
  case round =>
    obtain ⟨j, hj, rfl, HA, HB, HW⟩ := hrel
    by_cases hlt : j < 64
    · have hc := HA.out.cell j
      rw [rowOf_at _ _ (by rw [secP_len _ _ (by omega)]; exact hlt)] at hc
      have hf := HA.out.frozen j
      have HS := hidD_ (HA.out.set_ j (.int .u8 ((by_.toNat : Nat) : Int)))
      have HT := hidD_ (HB.out.far (p := ⟨g + 1, j, none⟩) (by show g ≠ g + 1; omega) (.int .u8 ((by_.toNat : Nat) : Int)))
      have HU := hidD_ (HW.out.setCell (p := ⟨g + 1, j, none⟩) (by show g ≤ g + 1; omega) (.int .u8 ((by_.toNat : Nat) : Int)))
      have t0 : (0 : Int) ≤ (j : Int) := by omega
      have tn : (j : Int) < 64 := by omega
      have d1 : decide ((j : Int) < 64) = true := decide_eq_true tn
      go_wp2
      go_roundw
      case rel => exact ⟨j + 1, by omega, by go_num, hidD_ (by rw [← secP_set by_ j hlt, ← rowOf_set]; exact HS.out), HT, HU⟩
      case measure => simp [intOf]; omega
    · obtain rfl : j = 64 := by omega
      rw [secP_all] at HA
      go_wp2_with (first
        | (refine wpList_load_sub rfl 26 (.tmp 3) rfl (g + 1) 0 rfl (rowOf (secB by_)) (fun i hi => by rw [Nat.zero_add]; exact HA.out.cell i) _ Try.underlying26 rfl HI.out ?_)
        | (refine wpList_put_row rfl 26 (.tmp 2) (.tmp 12) rfl g (rowOf (secB by_)) rfl rfl 26 (rowOf zsec) HB.out HI.out (by rw [rowOf_size, rowOf_size, secB_len, zsec_len]) (bytes_one _) ?_; intro w9 k9 g9 s9; have K9 := hidD_ k9; have G9 := hidD_ g9; clear k9 g9 s9))
      exact bodyPost_ret (results_cellK Try.results13 _ _ g rfl (run_loadVar_row _ _ _ _ _ (0, 0) _ K9.out Try.underlying26 rfl HI.out)) rfl ⟨rfl, by rw [hg]; exact HW.out.grown G9.out (by have := HW.out.size; omega) (fun k e => by injection e with e; omega)⟩
set_option maxHeartbeats 1000000 in
theorem none_any (w : World) : Calls Try.prog 7 #[] w fun e w' => e = .returned (.pointer none) ∧ w = w' := by
  go_enter Try.func7, Try.ntmps7
  go_wp2
  go_ret
  exact ⟨rfl, rfl⟩
theorem eqIn64 (t : TypeId) (ht : Try.prog.underlying t = some (.array 64 5)) (l m : List UInt8) (hl : l.length = 64) (hm : m.length = 64) (W : World) : (Op.equalIn 10000 t (.agg (rowOf l)) (.agg (rowOf m))).run Try.prog W = .ok (l == m) W := by
  have hs : ∀ W : World, (sizeOf 5).run Try.prog W = .ok 1 W := fun W => by
    obtain ⟨i, hi, hz, hsize, hby⟩ := info_parts info8
    simp [sizeOf, typeInfo, hi, hsize]
  exact run_equalIn_bytes W 9998 t 5 64 ht Try.underlying5 hs l m hl hm
theorem eqSec (l m : List UInt8) (hl : l.length = 64) (hm : m.length = 64) (W : World) : (Op.equalIn 10000 27 (.agg (rowOf l)) (.agg (rowOf m))).run Try.prog W = .ok (l == m) W := eqIn64 _ Try.underlying27 l m hl hm W
def DsR : Nat → Value → Prop
  | 0, v => v = .int .i64 0
  | 1, v => v = .bool true
  | 2, v => v = .bool true
  | 3, v => v = .int .i64 0
  | 4, v => v = .bool true
  | 5, v => v = .bool true
  | 6, v => v = .bool true
  | 7, v => v = .int .i64 0
  | 8, v => v = .bool true
  | 9, v => v = .bool true
  | 10, v => v = .bool true
  | 11, v => v = .int .i64 0
  | 12, v => v = .bool true
  | 13, v => v = .bool true
  | 14, v => v = .bool true
  | 15, v => v = .agg (rowOf (secB 1))
  | 16, v => v = .agg (rowOf (secB 1))
  | 17, v => v = .bool true
  | 18, v => v = .bool true
  | 19, v => v = .bool true
  | _, _ => True

set_option maxRecDepth 100000 in
set_option maxHeartbeats 8000000 in
theorem disks_any (w : World) : Calls Try.prog 11 #[] w fun e w' => e = .returned (.bool true) ∧ Below w.heap.size w w' := by
  obtain ⟨B, hB⟩ : ∃ B, w.heap.size = B := ⟨_, rfl⟩
  have HB := hidD_ hB
  have cn := dnew_yes w 2 (by omega) (by omega)
  rw [hB, show ((2 : Nat) : Int) = 2 from rfl] at cn
  have cs1 := fun W => sector_any W 1 1 rfl
  have cs2 := fun W => sector_any W 2 2 rfl
  clear hB
  go_enter Try.func11, Try.ntmps11
  go_upto_region 2 with (go_at_call 19; ((with_reducible refine cn.mono ?_); clear cn; rintro e w1 ⟨p, q, rfl, h1, h2⟩; have H1 := hidD_ h1; have X1 := hidD_ h2; clear h1 h2; have c1 := cs1 w1))
  go_upto_region 3 with (first
    | (go_at_call 13; ((with_reducible refine c1.mono ?_); clear c1; rintro e w2 ⟨rfl, hb⟩; have H2 := hidD_ (H1.out.below hb); have X2 := hidD_ (X1.out.trans (hb.mono (by have := X1.out.size; have := HB.out; omega))); clear hb; have cw : Calls Try.prog 12 #[.pointer (some ⟨p, 0, none⟩), .int .i64 1, .agg (rowOf (secB 1))] w2 (DkP B w2 p q 2 (zsecs 2) [(1, secB 1)] 0 false 0) := dwrite_yes H2.out (by have := X2.out.size; have := HB.out; omega) 1 (by omega) (secB 1) (secB_len 1) (by simp)))
    | (go_at_call 12; ((with_reducible refine cw.mono ?_); clear cw; rintro e w3 ⟨rfl, h1, h2, h3⟩; have H3 := hidD_ h1; have X3 := hidD_ (X2.out.trans h2); clear h1 h2 h3; have c2 := cs2 w3))
    | (go_at_call 13; ((with_reducible refine c2.mono ?_); clear c2; rintro e w4 ⟨rfl, hb⟩; have H4 := hidD_ (H3.out.below hb); have X4 := hidD_ (X3.out.trans (hb.mono (by have := X3.out.size; have := HB.out; omega))); clear hb; have cw2 : Calls Try.prog 12 #[.pointer (some ⟨p, 0, none⟩), .int .i64 1, .agg (rowOf (secB 2))] w4 (DkP B w4 p q 2 (zsecs 2) [(1, secB 1), (1, secB 2)] 0 false 0) := dwrite_yes H4.out (by have := X4.out.size; have := HB.out; omega) 1 (by omega) (secB 2) (secB_len 2) (by simp)))
    | (go_at_call 12; ((with_reducible refine cw2.mono ?_); clear cw2; rintro e w5 ⟨rfl, h1, h2, h3⟩; have H5 := hidD_ h1; have X5 := hidD_ (X4.out.trans h2); clear h1 h2 h3)))
  obtain ⟨wb, hwb⟩ : ∃ W, w5.alloc (.cells #[.bool true, .bool false] 4) = W := ⟨_, rfl⟩
  have bb : Below w5.heap.size w5 wb := by rw [← hwb]; exact (Below.refl _ _).alloc (Nat.le_refl _) _
  have HB5 := hidD_ (show B ≤ w5.heap.size by have := X5.out.size; have := HB.out; omega)
  have H6 := hidD_ (H5.out.below bb)
  have X6 := hidD_ (X5.out.trans (bb.mono HB5.out))
  have K6 := hidD_ (show Bk wb w5.heap.size 4 #[.bool true, .bool false] by rw [← hwb]; exact Bk.new w5 _ _)
  have cc : Calls Try.prog 9 #[.pointer (some ⟨p, 0, none⟩), .slice (some ⟨w5.heap.size, 0, none⟩) 2 2] wb fun e w' => e = .returned (.tuple #[]) ∧ DkI B w' p q 2 [zsec, secB 1] [] 0 false ∧ Below B wb w' ∧ UnT dkT wb w' :=
    dcrash_any H6.out (by have := X6.out.size; have := HB.out; omega) (by simp) _ 2 2 [true, false] rfl fun W _ hu j hj => ⟨w5.heap.size, 0, rfl, by
      rw [Nat.zero_add, (K6.out.unt hu (by decide)).cell]
      match j, hj with
      | 0, _ => rfl
      | 1, _ => rfl⟩
  clear bb
  go_upto_region 4 with (go_at_call 9; ((with_reducible refine cc.mono ?_); clear cc; rintro e w7 ⟨rfl, h1, h2, h3⟩; have H7 := hidD_ h1; have X7 := hidD_ (X6.out.trans h2); clear h1 h2 h3; have cr : Calls Try.prog 10 #[.pointer (some ⟨p, 0, none⟩), .int .i64 1] w7 (fun e w' => e = .returned (.tuple #[.agg (rowOf (secB 1)), .int .i64 0]) ∧ Below w7.heap.size w7 w') := dread_any H7.out 1))
  clear hwb
  have zs := zeroSec
  go_upto_region 5 with (first
    | (go_at_call 10; ((with_reducible refine cr.mono ?_); clear cr; rintro e w8 ⟨rfl, hb⟩; have X8 := hidD_ (X7.out.trans (hb.mono (by have := X7.out.size; have := HB.out; omega))); clear hb; (obtain ⟨w9, hw9⟩ : ∃ W, w8.alloc (.cells (rowOf zsec) 27) = W := ⟨_, rfl⟩); have X9 := hidD_ (X8.out.trans (show Below B w8 w9 by rw [← hw9]; exact (Below.refl _ _).alloc (by have := X8.out.size; have := HB.out; omega) _)); have K9 := hidD_ (show Bk w9 w8.heap.size 27 (rowOf zsec) by rw [← hw9]; exact Bk.new w8 _ _)))
    | (refine wpList_put_row rfl 27 (.tmp 5) (.tmp 23) rfl w8.heap.size (rowOf (secB 1)) rfl rfl 27 (rowOf zsec) K9.out (iSec _ (secB_len 1)) (by rw [rowOf_size, rowOf_size, secB_len, zsec_len]) (bytes_one _) ?_; intro wa ka ga sa; have KA := hidD_ ka; have XA := hidD_ (X9.out.grown ga (by have := X9.out.size; have := HB.out; omega) (fun k e => by injection e with e; have := X8.out.size; have := HB.out; omega)); clear ka ga sa))
  refine region_byF [25, 26, 27, 28, 29, 30, 31, 32, 33, 34, 35, 36, 37, 38, 39, 40, 41, 42, 43, 0] (fun W => Below wa.heap.size wa W) (fun W W' => Below W.heap.size W W') (fun jj v _ => DsR jj v) (by kernel_rfl) (by kernel_rfl) (by kernel_rfl) (by kernel_rfl) (fun j v w w' hT hr => ?_) (fun j v w hlt hj _ => ?_) ((Below.refl _ _).drew) ?_ ?_
  · exact hr
  · rcases j with _ | _ | _ | _ | _ | _ | _ | _ | _ | _ | _ | _ | _ | _ | _ | _ | _ | _ | _ | _ | j
    all_goals first
      | (exfalso; simp [dstOf] at hj; done)
      | trivial
  · refine ⟨fun a W hC hd hf hv K hK => ?_, fun a W hC hd hf hv K hK => ?_, fun a W hC hd hf hv K hK => ?_, fun a W hC hd hf hv K hK => ?_, fun a W hC hd hf hv K hK => ?_, fun a W hC hd hf hv K hK => ?_, fun a W hC hd hf hv K hK => ?_, fun a W hC hd hf hv K hK => ?_, fun a W hC hd hf hv K hK => ?_, fun a W hC hd hf hv K hK => ?_, fun a W hC hd hf hv K hK => ?_, fun a W hC hd hf hv K hK => ?_, fun a W hC hd hf hv K hK => ?_, fun a W hC hd hf hv K hK => ?_, fun a W hC hd hf hv K hK => ?_, fun a W hC hd hf hv K hK => ?_, fun a W hC hd hf hv K hK => ?_, fun a W hC hd hf hv K hK => ?_, fun a W hC hd hf hv K hK => ?_, fun a W hC hd hf hv K hK => ?_, trivial⟩
    · have e1 := slot_of (a := a) (s := 2) (v := .int .i64 0) (hf 2 (by kernel_rfl))
      refine step_run (wanted_none rfl) (v := .int .i64 0) (w' := W) ?_ (hK _ _ hC (Below.refl _ _) rfl)
      go_simp
    · have e1 := slot_of (a := a) (s := 25) (v := .int .i64 0) (hv 0 (by kernel_rfl))
      refine step_run (wanted_none rfl) (v := .bool true) (w' := W) ?_ (hK _ _ hC (Below.refl _ _) rfl)
      go_simp
    · have e1 := slot_of (a := a) (s := 26) (v := .bool true) (hv 1 (by kernel_rfl))
      refine step_run (wanted_none rfl) (v := .bool true) (w' := W) ?_ (hK _ _ hC (Below.refl _ _) rfl)
      go_simp
    · have e1 := slot_of (a := a) (s := 3) (v := .int .i64 0) (hf 3 (by kernel_rfl))
      refine step_run (wanted_at (j := 2) (s := 27) (b := true) rfl (by kernel_rfl) (hv 2 (by kernel_rfl))) (v := .int .i64 0) (w' := W) ?_ (hK _ _ hC (Below.refl _ _) rfl)
      go_simp
    · have e1 := slot_of (a := a) (s := 28) (v := .int .i64 0) (hv 3 (by kernel_rfl))
      refine step_run (wanted_at (j := 2) (s := 27) (b := true) rfl (by kernel_rfl) (hv 2 (by kernel_rfl))) (v := .bool true) (w' := W) ?_ (hK _ _ hC (Below.refl _ _) rfl)
      go_simp
    · have e1 := slot_of (a := a) (s := 27) (v := .bool true) (hv 2 (by kernel_rfl))
      have e2 := slot_of (a := a) (s := 29) (v := .bool true) (hv 4 (by kernel_rfl))
      refine step_run (wanted_none rfl) (v := .bool true) (w' := W) ?_ (hK _ _ hC (Below.refl _ _) rfl)
      go_simp
    · have e1 := slot_of (a := a) (s := 30) (v := .bool true) (hv 5 (by kernel_rfl))
      refine step_run (wanted_none rfl) (v := .bool true) (w' := W) ?_ (hK _ _ hC (Below.refl _ _) rfl)
      go_simp
    · have e1 := slot_of (a := a) (s := 4) (v := .int .i64 0) (hf 4 (by kernel_rfl))
      refine step_run (wanted_at (j := 6) (s := 31) (b := true) rfl (by kernel_rfl) (hv 6 (by kernel_rfl))) (v := .int .i64 0) (w' := W) ?_ (hK _ _ hC (Below.refl _ _) rfl)
      go_simp
    · have e1 := slot_of (a := a) (s := 32) (v := .int .i64 0) (hv 7 (by kernel_rfl))
      refine step_run (wanted_at (j := 6) (s := 31) (b := true) rfl (by kernel_rfl) (hv 6 (by kernel_rfl))) (v := .bool true) (w' := W) ?_ (hK _ _ hC (Below.refl _ _) rfl)
      go_simp
    · have e1 := slot_of (a := a) (s := 31) (v := .bool true) (hv 6 (by kernel_rfl))
      have e2 := slot_of (a := a) (s := 33) (v := .bool true) (hv 8 (by kernel_rfl))
      refine step_run (wanted_none rfl) (v := .bool true) (w' := W) ?_ (hK _ _ hC (Below.refl _ _) rfl)
      go_simp
    · have e1 := slot_of (a := a) (s := 34) (v := .bool true) (hv 9 (by kernel_rfl))
      refine step_run (wanted_none rfl) (v := .bool true) (w' := W) ?_ (hK _ _ hC (Below.refl _ _) rfl)
      go_simp
    · have e1 := slot_of (a := a) (s := 6) (v := .int .i64 0) (hf 6 (by kernel_rfl))
      refine step_run (wanted_at (j := 10) (s := 35) (b := true) rfl (by kernel_rfl) (hv 10 (by kernel_rfl))) (v := .int .i64 0) (w' := W) ?_ (hK _ _ hC (Below.refl _ _) rfl)
      go_simp
    · have e1 := slot_of (a := a) (s := 36) (v := .int .i64 0) (hv 11 (by kernel_rfl))
      refine step_run (wanted_at (j := 10) (s := 35) (b := true) rfl (by kernel_rfl) (hv 10 (by kernel_rfl))) (v := .bool true) (w' := W) ?_ (hK _ _ hC (Below.refl _ _) rfl)
      go_simp
    · have e1 := slot_of (a := a) (s := 35) (v := .bool true) (hv 10 (by kernel_rfl))
      have e2 := slot_of (a := a) (s := 37) (v := .bool true) (hv 12 (by kernel_rfl))
      refine step_run (wanted_none rfl) (v := .bool true) (w' := W) ?_ (hK _ _ hC (Below.refl _ _) rfl)
      go_simp
    · have e1 := slot_of (a := a) (s := 38) (v := .bool true) (hv 13 (by kernel_rfl))
      refine step_run (wanted_none rfl) (v := .bool true) (w' := W) ?_ (hK _ _ hC (Below.refl _ _) rfl)
      go_simp
    · exact step_load_sub (wanted_at (j := 14) (s := 39) (b := true) rfl (by kernel_rfl) (hv 14 (by kernel_rfl))) 27 (.tmp 5) rfl w8.heap.size 0 (eval_of (hf 5 (by kernel_rfl))) (rowOf (secB 1)) (fun i hi => by rw [Nat.zero_add]; exact (KA.out.below hC KA.out.lt).cell i) _ Try.underlying27 rfl (iSec _ (secB_len 1)) (hK _ _ hC (Below.refl _ _) rfl)
    · refine step_callx 13 #[.int .u8 1] (wanted_at (j := 14) (s := 39) (b := true) rfl (by kernel_rfl) (hv 14 (by kernel_rfl))) (w' := W) ?_ ((cs1 W).mono fun e W2 hh => ?_)
      · go_simp
      · obtain ⟨rfl, hb⟩ := hh
        exact ⟨_, rfl, hK _ _ (hC.trans (hb.mono hC.size)) hb rfl⟩
    · have e1 := eval_of (a := a) (s := 40) (v := .agg (rowOf (secB 1))) (hv 15 (by kernel_rfl))
      have e2 := eval_of (a := a) (s := 41) (v := .agg (rowOf (secB 1))) (hv 16 (by kernel_rfl))
      have hq := eqSec (secB 1) (secB 1) (secB_len 1) (secB_len 1) W
      rw [show (secB 1 == secB 1) = true from beq_self_eq_true _] at hq
      have e1b := slot_of (a := a) (s := 40) (v := .agg (rowOf (secB 1))) (hv 15 (by kernel_rfl))
      have e2b := slot_of (a := a) (s := 41) (v := .agg (rowOf (secB 1))) (hv 16 (by kernel_rfl))
      refine step_run (wanted_at (j := 14) (s := 39) (b := true) rfl (by kernel_rfl) (hv 14 (by kernel_rfl))) (v := .bool true) (w' := W) ?_ (hK _ _ hC (Below.refl _ _) rfl)
      go_simp
    · have e1 := slot_of (a := a) (s := 39) (v := .bool true) (hv 14 (by kernel_rfl))
      have e2 := slot_of (a := a) (s := 42) (v := .bool true) (hv 17 (by kernel_rfl))
      refine step_run (wanted_none rfl) (v := .bool true) (w' := W) ?_ (hK _ _ hC (Below.refl _ _) rfl)
      go_simp
    · have e1 := slot_of (a := a) (s := 43) (v := .bool true) (hv 18 (by kernel_rfl))
      refine step_run (wanted_none rfl) (v := .bool true) (w' := W) ?_ (hK _ _ hC (Below.refl _ _) rfl)
      go_simp
  · intro f w2 hC2 hv2
    have X := hidD_ (XA.out.trans (hC2.mono (by have := XA.out.size; have := HB.out; omega)))
    have f0 : f 0 = .bool true := hv2 19 (by decide)
    simp only [framed, List.foldl_cons, List.foldl_nil, List.setIfInBounds_toArray, List.set_cons_succ, List.set_cons_zero]
    rw [f0]
    clear hv2 hC2 f0
    rename_i Kd hKd
    refine hKd _ _ ?_
    go_wp2
    go_ret
    exact ⟨rfl, by rw [HB.out]; exact X.out⟩
end Go.Proofs.Ytibnfldddpmafaa
