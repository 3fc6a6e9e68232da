/-
  Proved: for all numbers DiskNews answers true: a disk has 1 to 8192 sectors; of none nothing is told. No condition.
-/
import Derived.Test.YtibnfldddpmafaaDkl
import Derived.Test.YtibnfldddpmafaaLp
namespace Go.Proofs.Ytibnfldddpmafaa.diskNews
open Go.ChangeShapes Go.WideShapes Go.ChangeAt Go.RowKit
set_option linter.unusedVariables false
set_option linter.unusedSimpArgs false

theorem zsecs_at (m : Nat) (k : Nat) (h : k < m) : (zsecs m).getD k [] = zsec := by
  unfold zsecs
  rw [List.getD_eq_getElem?_getD, List.getElem?_replicate, if_pos h]
  rfl
def NwR (p m : Nat) (B : Nat) : Nat → Value → Prop
  | 0, v => v = .int .i64 0
  | 1, v => v = .bool true
  | 2, v => v = .bool true
  | 3, v => v = .int .i64 0
  | 4, v => v = .bool true
  | 5, v => v = .bool true
  | 6, v => v = .bool true
  | 7, v => v = .int .i64 1
  | 8, v => v = .bool true
  | 9, v => v = .bool true
  | 10, v => v = .bool true
  | 11, v => v = .agg (rowOf zsec)
  | 12, v => v = .agg (rowOf (secB 0))
  | 13, v => v = .bool true
  | 14, v => v = .bool true
  | 15, v => v = .bool true
  | 16, v => v = .pointer (some ⟨p, 0, none⟩)
  | 17, v => v = .int .i64 (m : Int)
  | 18, v => v = .int .i64 (m : Int)
  | 19, v => v = .bool true
  | 20, v => v = .bool true
  | 21, v => v = .bool true
  | 22, v => v = .pointer (some ⟨p, 0, none⟩)
  | 24, v => v = .int .i64 ((m * 64 : Nat) : Int)
  | 25, v => v = .int .i64 (m : Int)
  | 26, v => v = .int .i64 (64 * (m : Int))
  | 27, v => v = .bool true
  | 28, v => v = .bool true
  | 29, v => v = .bool true
  | 23, v => ∃ A c, v = .slice A (m * 64) c
  | _, _ => True
set_option maxRecDepth 100000 in
set_option maxHeartbeats 16000000 in
theorem walk (w : World) (n : Int) (h0 : -9223372036854775808 ≤ n) (h9 : n ≤ 9223372036854775807) : Calls Try.prog 3 #[.int .i64 n] w fun e w' => e = .returned (.bool true) ∧ Below w.heap.size w w' := by
  by_cases hA : 40 < n ∧ n ≤ 8192
  · obtain ⟨m, hm, hm1, hm2⟩ : ∃ m : Nat, 8192 - n.tmod 2 = (m : Int) ∧ 1 ≤ m ∧ m ≤ 8192 := by
      have h1 : n.tmod 2 = n % 2 := Int.tmod_eq_emod_of_nonneg (by omega)
      exact ⟨(8192 - n % 2).toNat, by rw [h1]; omega, by omega, by omega⟩
    have d1 : decide (40 < n) = true := decide_eq_true hA.1
    have d2 : decide (n ≤ 8192) = true := decide_eq_true hA.2
    have hbm : 0 ≤ n.tmod 2 ∧ n.tmod 2 < 2 := by
      have h1 : n.tmod 2 = n % 2 := Int.tmod_eq_emod_of_nonneg (by omega)
      omega
    have e1 : IntKind.i64.wrap (8192 - n.tmod 2) = (m : Int) := by rw [hm]; exact IntWalk.i64_in _ (by omega)
    have e2 : IntKind.i64.wrap (n.tmod 2) = n.tmod 2 := IntWalk.i64_in _ (by omega)
    have cno := none_any
    have cf := dfuse_nil w 1
    have cc := dcrash_nil w none 0 0
    have zs := zeroSec
    go_enter Try.func3, Try.ntmps3
    clear hA h0 h9
    go_upto_region 6 with (first
      | (go_at_call 7; ((with_reducible refine (cno _).mono ?_); rintro e w' ⟨rfl, rfl⟩))
      | (go_at_call 8; ((with_reducible refine cf.mono ?_); clear cf; rintro e w' ⟨rfl, rfl⟩; skip))
      | (go_at_call 9; ((with_reducible refine cc.mono ?_); clear cc; rintro e w1 ⟨rfl, hb⟩; have X1 := hidD_ hb; clear hb; have cr := dread_nil w1 0))
      | (go_at_call 10; ((with_reducible refine cr.mono ?_); clear cr; rintro e w2 ⟨rfl, hb⟩; have X2 := hidD_ (X1.out.trans (hb.mono (by have := X1.out.size; omega))); clear hb; (obtain ⟨w3, hw3⟩ : ∃ W, w2.alloc (.cells (rowOf zsec) 27) = W := ⟨_, rfl⟩); have X3 := hidD_ (X2.out.trans (show Below w.heap.size w2 w3 by rw [← hw3]; exact (Below.refl _ _).alloc X2.out.size _)); have K3 := hidD_ (show Bk w3 w2.heap.size 27 (rowOf zsec) by rw [← hw3]; exact Bk.new w2 _ _)))
      | (refine wpList_put_row rfl 27 (.tmp 3) (.tmp 26) rfl w2.heap.size (rowOf zsec) rfl rfl 27 (rowOf zsec) K3.out (iSec _ zsec_len) rfl (bytes_one _) ?_; intro w4 k4 g4 s4; have X4 := hidD_ (X3.out.grown g4 X3.out.size (fun k e => by injection e with e; have := X2.out.size; omega)); clear k4 g4 s4))
    clear K3 hw3
    have cd := disks_any w4
    go_upto_region 8 with (first
      | (go_at_call 7; ((with_reducible refine (cno _).mono ?_); rintro e w' ⟨rfl, rfl⟩))
      | (go_at_call 11; ((with_reducible refine cd.mono ?_); clear cd; rintro e w5 ⟨rfl, hb⟩; have X5 := hidD_ (X4.out.trans (hb.mono (by have := X4.out.size; omega))); clear hb; have cs := sector_any w5 1 1 rfl))
      | (go_at_call 13; ((with_reducible refine cs.mono ?_); clear cs; rintro e w6 ⟨rfl, hb⟩; have X6 := hidD_ (X5.out.trans (hb.mono (by have := X5.out.size; omega))); clear hb; have cw := dwrite_nil w6 0 (secB 1)))
      | (go_at_call 12; ((with_reducible refine cw.mono ?_); clear cw; rintro e w7 ⟨rfl, hb⟩; have X7 := hidD_ (X6.out.trans (hb.mono (by have := X6.out.size; omega))); clear hb; have cy := dsync_nil w7; have cz := dsize_nil w7; have cl := dloose_nil w7; have co := doff_nil w7; have cm := dimage_nil w7))
      | (go_at_call 14; ((with_reducible refine cy.mono ?_); clear cy; rintro e w' ⟨rfl, rfl⟩; skip))
      | (go_at_call 15; ((with_reducible refine cz.mono ?_); clear cz; rintro e w' ⟨rfl, rfl⟩; skip))
      | (go_at_call 16; ((with_reducible refine cl.mono ?_); clear cl; rintro e w' ⟨rfl, rfl⟩; skip))
      | (go_at_call 17; ((with_reducible refine co.mono ?_); clear co; rintro e w' ⟨rfl, rfl⟩; skip))
      | (go_at_call 18; ((with_reducible refine cm.mono ?_); clear cm; rintro e w' ⟨rfl, rfl⟩; skip)))
    clear e1 e2 d1 d2 hm hbm
    have cn := dnew_yes w7 m (by omega) (by omega)
    have dm1 : decide ((m : Int) < 1) = false := decide_eq_false (by omega)
    have dm2 : decide (8192 < (m : Int)) = false := decide_eq_false (by omega)
    go_upto_region 11 with (go_at_call 19; ((with_reducible refine cn.mono ?_); clear cn; rintro e w8 ⟨p, q, rfl, h1, hb⟩; have HD8 := hidD_ h1; clear h1; have X8 := hidD_ (X7.out.trans (hb.mono X7.out.size)); clear hb))
    have cr2 : Calls Try.prog 10 #[.pointer (some ⟨p, 0, none⟩), .int .i64 ((m : Int) - 1)] w8 (fun e w' => e = .returned (.tuple #[.agg (rowOf zsec), .int .i64 0]) ∧ Below w8.heap.size w8 w') := by
      have h := dread_any HD8.out ((m : Int) - 1)
      rw [show hasE m false ((m : Int) - 1) = 0 by unfold hasE; rw [if_neg (by decide), if_neg (by omega)], show readD m (zsecs m) [] false ((m : Int) - 1) = zsec by unfold readD; rw [if_pos (by unfold hasE; rw [if_neg (by decide), if_neg (by omega)])]; exact zsecs_at m _ (by omega)] at h
      exact h
    clear dm1 dm2
    go_upto_region 12 with (first
      | (go_at_call 10; ((with_reducible refine cr2.mono ?_); clear cr2; rintro e w9 ⟨rfl, hb⟩; have HD9 := hidD_ (HD8.out.below hb); have X9 := hidD_ (X8.out.trans (hb.mono X8.out.size)); clear hb; (obtain ⟨wa, hwa⟩ : ∃ W, w9.alloc (.cells (rowOf zsec) 27) = W := ⟨_, rfl⟩); have BA := hidD_ (show Below w9.heap.size w9 wa by rw [← hwa]; exact (Below.refl _ _).alloc (Nat.le_refl _) _); have KA := hidD_ (show Bk wa w9.heap.size 27 (rowOf zsec) by rw [← hwa]; exact Bk.new w9 _ _)))
      | (refine wpList_put_row rfl 27 (.tmp 6) (.tmp 88) rfl w9.heap.size (rowOf zsec) rfl rfl 27 (rowOf zsec) KA.out (iSec _ zsec_len) rfl (bytes_one _) ?_; intro wb kb gb sb; have KB0 := hidD_ kb; have BB := hidD_ (BA.out.grown gb BA.out.size (fun k e => by injection e with e; omega)); clear kb gb sb))
    have HDb := hidD_ (HD9.out.below BB.out)
    have XB0 := hidD_ (X9.out.trans (BB.out.mono X9.out.size))
    have cr3 : Calls Try.prog 10 #[.pointer (some ⟨p, 0, none⟩), .int .i64 (m : Int)] wb (fun e w' => e = .returned (.tuple #[.agg (rowOf zsec), .int .i64 1]) ∧ Below wb.heap.size wb w') := by
      have h := dread_any HDb.out (m : Int)
      rw [show hasE m false (m : Int) = 1 by unfold hasE; rw [if_neg (by decide), if_pos (.inr (Int.le_refl _))], show readD m (zsecs m) [] false (m : Int) = zsec by unfold readD; rw [if_neg (by unfold hasE; rw [if_neg (by decide), if_pos (.inr (Int.le_refl _))]; decide)]] at h
      exact h
    clear hwa
    go_upto_region 13 with (first
      | (go_at_call 10; ((with_reducible refine cr3.mono ?_); clear cr3; rintro e wc ⟨rfl, hb⟩; have HDc := hidD_ (HDb.out.below hb); have Xc := hidD_ (XB0.out.trans (hb.mono XB0.out.size)); have KBc := hidD_ (KB0.out.below hb KB0.out.lt); clear hb; (obtain ⟨we, hwe⟩ : ∃ W, wc.alloc (.cells (rowOf zsec) 27) = W := ⟨_, rfl⟩); have BE := hidD_ (show Below wc.heap.size wc we by rw [← hwe]; exact (Below.refl _ _).alloc (Nat.le_refl _) _); have KE := hidD_ (show Bk we wc.heap.size 27 (rowOf zsec) by rw [← hwe]; exact Bk.new wc _ _)))
      | (refine wpList_put_row rfl 27 (.tmp 8) (.tmp 94) rfl wc.heap.size (rowOf zsec) rfl rfl 27 (rowOf zsec) KE.out (iSec _ zsec_len) rfl (bytes_one _) ?_; intro wd kd gd sd; have BD := hidD_ (BE.out.grown gd BE.out.size (fun k e => by injection e with e; omega)); clear kd gd sd))
    have HD := hidD_ (HDc.out.below BD.out)
    have XB := hidD_ (Xc.out.trans (BD.out.mono Xc.out.size))
    have KB := hidD_ (KBc.out.below BD.out KBc.out.lt)
    obtain ⟨gB, hgB⟩ : ∃ g, w9.heap.size = g := ⟨_, rfl⟩
    rw [hgB] at KB ⊢
    clear hwe
    refine region_byF [96, 97, 98, 99, 100, 101, 102, 103, 104, 105, 106, 107, 108, 109, 110, 111, 112, 113, 114, 115, 116, 117, 118, 119, 120, 121, 122, 123, 124, 2] (fun W => Below wd.heap.size wd W) (fun W W' => Below W.heap.size W W') (fun jj v _ => NwR p m gB jj v) (by kernel_rfl) (by kernel_rfl) (by kernel_rfl) (by kernel_rfl) (fun j v w w' hT hr => ?_) (fun j v w hlt hj _ => ?_) ((Below.refl _ _).drew) ?_ ?_
    · exact hr
    · rcases j with _ | _ | _ | _ | _ | _ | _ | _ | _ | _ | _ | _ | _ | _ | _ | _ | _ | _ | _ | _ | _ | _ | _ | _ | _ | _ | _ | _ | _ | _ | j
      all_goals first
        | (exfalso; simp [dstOf] at hj; done)
        | trivial
    · refine ⟨fun a W hC hd hf hv K hK => ?_, fun a W hC hd hf hv K hK => ?_, fun a W hC hd hf hv K hK => ?_, fun a W hC hd hf hv K hK => ?_, fun a W hC hd hf hv K hK => ?_, fun a W hC hd hf hv K hK => ?_, fun a W hC hd hf hv K hK => ?_, fun a W hC hd hf hv K hK => ?_, fun a W hC hd hf hv K hK => ?_, fun a W hC hd hf hv K hK => ?_, fun a W hC hd hf hv K hK => ?_, fun a W hC hd hf hv K hK => ?_, fun a W hC hd hf hv K hK => ?_, fun a W hC hd hf hv K hK => ?_, fun a W hC hd hf hv K hK => ?_, fun a W hC hd hf hv K hK => ?_, fun a W hC hd hf hv K hK => ?_, fun a W hC hd hf hv K hK => ?_, fun a W hC hd hf hv K hK => ?_, fun a W hC hd hf hv K hK => ?_, fun a W hC hd hf hv K hK => ?_, fun a W hC hd hf hv K hK => ?_, fun a W hC hd hf hv K hK => ?_, fun a W hC hd hf hv K hK => ?_, fun a W hC hd hf hv K hK => ?_, fun a W hC hd hf hv K hK => ?_, fun a W hC hd hf hv K hK => ?_, fun a W hC hd hf hv K hK => ?_, fun a W hC hd hf hv K hK => ?_, fun a W hC hd hf hv K hK => ?_, trivial⟩
      · have e1 := slot_of (a := a) (s := 4) (v := .int .i64 0) (hf 4 (by kernel_rfl))
        refine step_run (wanted_none rfl) (v := .int .i64 0) (w' := W) ?_ (hK _ _ hC (Below.refl _ _) rfl)
        go_simp
      · have e1 := slot_of (a := a) (s := 96) (v := .int .i64 0) (hv 0 (by kernel_rfl))
        refine step_run (wanted_none rfl) (v := .bool true) (w' := W) ?_ (hK _ _ hC (Below.refl _ _) rfl)
        go_simp
      · have e1 := slot_of (a := a) (s := 97) (v := .bool true) (hv 1 (by kernel_rfl))
        refine step_run (wanted_none rfl) (v := .bool true) (w' := W) ?_ (hK _ _ hC (Below.refl _ _) rfl)
        go_simp
      · have e1 := slot_of (a := a) (s := 7) (v := .int .i64 0) (hf 7 (by kernel_rfl))
        refine step_run (wanted_at (j := 2) (s := 98) (b := true) rfl (by kernel_rfl) (hv 2 (by kernel_rfl))) (v := .int .i64 0) (w' := W) ?_ (hK _ _ hC (Below.refl _ _) rfl)
        go_simp
      · have e1 := slot_of (a := a) (s := 99) (v := .int .i64 0) (hv 3 (by kernel_rfl))
        refine step_run (wanted_at (j := 2) (s := 98) (b := true) rfl (by kernel_rfl) (hv 2 (by kernel_rfl))) (v := .bool true) (w' := W) ?_ (hK _ _ hC (Below.refl _ _) rfl)
        go_simp
      · have e1 := slot_of (a := a) (s := 98) (v := .bool true) (hv 2 (by kernel_rfl))
        have e2 := slot_of (a := a) (s := 100) (v := .bool true) (hv 4 (by kernel_rfl))
        refine step_run (wanted_none rfl) (v := .bool true) (w' := W) ?_ (hK _ _ hC (Below.refl _ _) rfl)
        go_simp
      · have e1 := slot_of (a := a) (s := 101) (v := .bool true) (hv 5 (by kernel_rfl))
        refine step_run (wanted_none rfl) (v := .bool true) (w' := W) ?_ (hK _ _ hC (Below.refl _ _) rfl)
        go_simp
      · have e1 := slot_of (a := a) (s := 9) (v := .int .i64 1) (hf 9 (by kernel_rfl))
        refine step_run (wanted_at (j := 6) (s := 102) (b := true) rfl (by kernel_rfl) (hv 6 (by kernel_rfl))) (v := .int .i64 1) (w' := W) ?_ (hK _ _ hC (Below.refl _ _) rfl)
        go_simp
      · have e1 := slot_of (a := a) (s := 103) (v := .int .i64 1) (hv 7 (by kernel_rfl))
        refine step_run (wanted_at (j := 6) (s := 102) (b := true) rfl (by kernel_rfl) (hv 6 (by kernel_rfl))) (v := .bool true) (w' := W) ?_ (hK _ _ hC (Below.refl _ _) rfl)
        go_simp
      · have e1 := slot_of (a := a) (s := 102) (v := .bool true) (hv 6 (by kernel_rfl))
        have e2 := slot_of (a := a) (s := 104) (v := .bool true) (hv 8 (by kernel_rfl))
        refine step_run (wanted_none rfl) (v := .bool true) (w' := W) ?_ (hK _ _ hC (Below.refl _ _) rfl)
        go_simp
      · have e1 := slot_of (a := a) (s := 105) (v := .bool true) (hv 9 (by kernel_rfl))
        refine step_run (wanted_none rfl) (v := .bool true) (w' := W) ?_ (hK _ _ hC (Below.refl _ _) rfl)
        go_simp
      · exact step_load_sub (wanted_at (j := 10) (s := 106) (b := true) rfl (by kernel_rfl) (hv 10 (by kernel_rfl))) 27 (.tmp 6) rfl gB 0 (eval_of (hf 6 (by kernel_rfl))) (rowOf zsec) (fun i hi => by rw [Nat.zero_add]; exact (KB.out.below hC KB.out.lt).cell i) _ Try.underlying27 rfl (iSec _ zsec_len) (hK _ _ hC (Below.refl _ _) rfl)
      · refine step_callx 13 #[.int .u8 0] (wanted_at (j := 10) (s := 106) (b := true) rfl (by kernel_rfl) (hv 10 (by kernel_rfl))) (w' := W) ?_ ((sector_any W 0 0 rfl).mono fun e W2 hh => ?_)
        · go_simp
        · obtain ⟨rfl, hb⟩ := hh
          exact ⟨_, rfl, hK _ _ (hC.trans (hb.mono hC.size)) hb rfl⟩
      · have hq := eqSec zsec (secB 0) zsec_len (secB_len 0) W
        rw [show (zsec == secB 0) = true from beq_self_eq_true _] at hq
        have e1 := slot_of (a := a) (s := 107) (v := .agg (rowOf zsec)) (hv 11 (by kernel_rfl))
        have e2 := slot_of (a := a) (s := 108) (v := .agg (rowOf (secB 0))) (hv 12 (by kernel_rfl))
        refine step_run (wanted_at (j := 10) (s := 106) (b := true) rfl (by kernel_rfl) (hv 10 (by kernel_rfl))) (v := .bool true) (w' := W) ?_ (hK _ _ hC (Below.refl _ _) rfl)
        go_simp
      · have e1 := slot_of (a := a) (s := 106) (v := .bool true) (hv 10 (by kernel_rfl))
        have e2 := slot_of (a := a) (s := 109) (v := .bool true) (hv 13 (by kernel_rfl))
        refine step_run (wanted_none rfl) (v := .bool true) (w' := W) ?_ (hK _ _ hC (Below.refl _ _) rfl)
        go_simp
      · have e1 := slot_of (a := a) (s := 110) (v := .bool true) (hv 14 (by kernel_rfl))
        refine step_run (wanted_none rfl) (v := .bool true) (w' := W) ?_ (hK _ _ hC (Below.refl _ _) rfl)
        go_simp
      · have e1 := slot_of (a := a) (s := 5) (v := .pointer (some ⟨p, 0, none⟩)) (hf 5 (by kernel_rfl))
        refine step_run (wanted_at (j := 15) (s := 111) (b := true) rfl (by kernel_rfl) (hv 15 (by kernel_rfl))) (v := .pointer (some ⟨p, 0, none⟩)) (w' := W) ?_ (hK _ _ hC (Below.refl _ _) rfl)
        go_simp
      · have e1 := slot_of (a := a) (s := 112) (v := .pointer (some ⟨p, 0, none⟩)) (hv 16 (by kernel_rfl))
        refine step_callx 15 #[.pointer (some ⟨p, 0, none⟩)] (wanted_at (j := 15) (s := 111) (b := true) rfl (by kernel_rfl) (hv 15 (by kernel_rfl))) (w' := W) ?_ ((dsize_yes (HD.out.below hC)).mono fun e W2 hh => ?_)
        · go_simp
        · obtain ⟨rfl, rfl⟩ := hh
          exact ⟨_, rfl, hK _ _ hC (Below.refl _ _) rfl⟩
      · have e1 := slot_of (a := a) (s := 0) (v := .int .i64 (m : Int)) (hf 0 (by kernel_rfl))
        refine step_run (wanted_at (j := 15) (s := 111) (b := true) rfl (by kernel_rfl) (hv 15 (by kernel_rfl))) (v := .int .i64 (m : Int)) (w' := W) ?_ (hK _ _ hC (Below.refl _ _) rfl)
        go_simp
      · have e1 := slot_of (a := a) (s := 113) (v := .int .i64 (m : Int)) (hv 17 (by kernel_rfl))
        have e2 := slot_of (a := a) (s := 114) (v := .int .i64 (m : Int)) (hv 18 (by kernel_rfl))
        refine step_run (wanted_at (j := 15) (s := 111) (b := true) rfl (by kernel_rfl) (hv 15 (by kernel_rfl))) (v := .bool true) (w' := W) ?_ (hK _ _ hC (Below.refl _ _) rfl)
        go_simp
      · have e1 := slot_of (a := a) (s := 111) (v := .bool true) (hv 15 (by kernel_rfl))
        have e2 := slot_of (a := a) (s := 115) (v := .bool true) (hv 19 (by kernel_rfl))
        refine step_run (wanted_none rfl) (v := .bool true) (w' := W) ?_ (hK _ _ hC (Below.refl _ _) rfl)
        go_simp
      · have e1 := slot_of (a := a) (s := 116) (v := .bool true) (hv 20 (by kernel_rfl))
        refine step_run (wanted_none rfl) (v := .bool true) (w' := W) ?_ (hK _ _ hC (Below.refl _ _) rfl)
        go_simp
      · have e1 := slot_of (a := a) (s := 5) (v := .pointer (some ⟨p, 0, none⟩)) (hf 5 (by kernel_rfl))
        refine step_run (wanted_at (j := 21) (s := 117) (b := true) rfl (by kernel_rfl) (hv 21 (by kernel_rfl))) (v := .pointer (some ⟨p, 0, none⟩)) (w' := W) ?_ (hK _ _ hC (Below.refl _ _) rfl)
        go_simp
      · have e1 := slot_of (a := a) (s := 118) (v := .pointer (some ⟨p, 0, none⟩)) (hv 22 (by kernel_rfl))
        refine step_callx 18 #[.pointer (some ⟨p, 0, none⟩)] (wanted_at (j := 21) (s := 117) (b := true) rfl (by kernel_rfl) (hv 21 (by kernel_rfl))) (w' := W) ?_ ((dimage_any (HD.out.below hC)).mono fun e W2 hh => ?_)
        · go_simp
        · obtain ⟨A, c, rfl, ho, hb⟩ := hh
          exact ⟨_, rfl, hK _ _ (hC.trans (hb.mono hC.size)) hb ⟨A, c, rfl⟩⟩
      · obtain ⟨A, c, e0⟩ : ∃ A c, a.tmps.getD 119 undef = .slice A (m * 64) c := hv 23 (by kernel_rfl)
        have e1 := slot_of e0
        refine step_run (wanted_at (j := 21) (s := 117) (b := true) rfl (by kernel_rfl) (hv 21 (by kernel_rfl))) (v := .int .i64 ((m * 64 : Nat) : Int)) (w' := W) ?_ (hK _ _ hC (Below.refl _ _) rfl)
        go_simp
      · have e1 := slot_of (a := a) (s := 0) (v := .int .i64 (m : Int)) (hf 0 (by kernel_rfl))
        refine step_run (wanted_at (j := 21) (s := 117) (b := true) rfl (by kernel_rfl) (hv 21 (by kernel_rfl))) (v := .int .i64 (m : Int)) (w' := W) ?_ (hK _ _ hC (Below.refl _ _) rfl)
        go_simp
      · have e1 := slot_of (a := a) (s := 121) (v := .int .i64 (m : Int)) (hv 25 (by kernel_rfl))
        have hw : IntKind.i64.wrap (64 * (m : Int)) = 64 * (m : Int) := IntWalk.i64_in _ (by omega)
        refine step_run (wanted_at (j := 21) (s := 117) (b := true) rfl (by kernel_rfl) (hv 21 (by kernel_rfl))) (v := .int .i64 (64 * (m : Int))) (w' := W) ?_ (hK _ _ hC (Below.refl _ _) rfl)
        go_simp
      · have e1 := slot_of (a := a) (s := 120) (v := .int .i64 ((m * 64 : Nat) : Int)) (hv 24 (by kernel_rfl))
        have e2 := slot_of (a := a) (s := 122) (v := .int .i64 (64 * (m : Int))) (hv 26 (by kernel_rfl))
        have hw : (m : Int) * 64 = 64 * (m : Int) := by omega
        refine step_run (wanted_at (j := 21) (s := 117) (b := true) rfl (by kernel_rfl) (hv 21 (by kernel_rfl))) (v := .bool true) (w' := W) ?_ (hK _ _ hC (Below.refl _ _) rfl)
        go_simp
      · have e1 := slot_of (a := a) (s := 117) (v := .bool true) (hv 21 (by kernel_rfl))
        have e2 := slot_of (a := a) (s := 123) (v := .bool true) (hv 27 (by kernel_rfl))
        refine step_run (wanted_none rfl) (v := .bool true) (w' := W) ?_ (hK _ _ hC (Below.refl _ _) rfl)
        go_simp
      · have e1 := slot_of (a := a) (s := 124) (v := .bool true) (hv 28 (by kernel_rfl))
        refine step_run (wanted_none rfl) (v := .bool true) (w' := W) ?_ (hK _ _ hC (Below.refl _ _) rfl)
        go_simp
    · intro f w2 hC2 hv2
      have X := hidD_ (XB.out.trans (hC2.mono XB.out.size))
      have f0 : f 2 = .bool true := hv2 29 (by decide)
      simp only [framed, List.foldl_cons, List.foldl_nil, List.setIfInBounds_toArray, List.set_cons_succ, List.set_cons_zero]
      rw [f0]
      clear hv2 hC2 f0
      rename_i Kd hKd
      refine hKd _ _ ?_
      go_wp2
      go_ret
      exact ⟨rfl, X.out⟩
  · by_cases hB : 1 ≤ n ∧ n ≤ 40
    · obtain ⟨m, rfl⟩ : ∃ m : Nat, n = (m : Int) := ⟨n.toNat, by omega⟩
      have hm1 : 1 ≤ m := by omega
      have hm2 : m ≤ 8192 := by omega
      have d1 : decide (40 < (m : Int)) = false := decide_eq_false (by omega)
      have cno := none_any
      have cf := dfuse_nil w 1
      have cc := dcrash_nil w none 0 0
      have zs := zeroSec
      go_enter Try.func3, Try.ntmps3
      clear hA h0 h9 hB
      go_upto_region 6 with (first
        | (go_at_call 7; ((with_reducible refine (cno _).mono ?_); rintro e w' ⟨rfl, rfl⟩))
        | (go_at_call 8; ((with_reducible refine cf.mono ?_); clear cf; rintro e w' ⟨rfl, rfl⟩; skip))
        | (go_at_call 9; ((with_reducible refine cc.mono ?_); clear cc; rintro e w1 ⟨rfl, hb⟩; have X1 := hidD_ hb; clear hb; have cr := dread_nil w1 0))
        | (go_at_call 10; ((with_reducible refine cr.mono ?_); clear cr; rintro e w2 ⟨rfl, hb⟩; have X2 := hidD_ (X1.out.trans (hb.mono (by have := X1.out.size; omega))); clear hb; (obtain ⟨w3, hw3⟩ : ∃ W, w2.alloc (.cells (rowOf zsec) 27) = W := ⟨_, rfl⟩); have X3 := hidD_ (X2.out.trans (show Below w.heap.size w2 w3 by rw [← hw3]; exact (Below.refl _ _).alloc X2.out.size _)); have K3 := hidD_ (show Bk w3 w2.heap.size 27 (rowOf zsec) by rw [← hw3]; exact Bk.new w2 _ _)))
        | (refine wpList_put_row rfl 27 (.tmp 3) (.tmp 26) rfl w2.heap.size (rowOf zsec) rfl rfl 27 (rowOf zsec) K3.out (iSec _ zsec_len) rfl (bytes_one _) ?_; intro w4 k4 g4 s4; have X4 := hidD_ (X3.out.grown g4 X3.out.size (fun k e => by injection e with e; have := X2.out.size; omega)); clear k4 g4 s4))
      clear K3 hw3
      have cd := disks_any w4
      go_upto_region 8 with (first
        | (go_at_call 7; ((with_reducible refine (cno _).mono ?_); rintro e w' ⟨rfl, rfl⟩))
        | (go_at_call 11; ((with_reducible refine cd.mono ?_); clear cd; rintro e w5 ⟨rfl, hb⟩; have X5 := hidD_ (X4.out.trans (hb.mono (by have := X4.out.size; omega))); clear hb; have cs := sector_any w5 1 1 rfl))
        | (go_at_call 13; ((with_reducible refine cs.mono ?_); clear cs; rintro e w6 ⟨rfl, hb⟩; have X6 := hidD_ (X5.out.trans (hb.mono (by have := X5.out.size; omega))); clear hb; have cw := dwrite_nil w6 0 (secB 1)))
        | (go_at_call 12; ((with_reducible refine cw.mono ?_); clear cw; rintro e w7 ⟨rfl, hb⟩; have X7 := hidD_ (X6.out.trans (hb.mono (by have := X6.out.size; omega))); clear hb; have cy := dsync_nil w7; have cz := dsize_nil w7; have cl := dloose_nil w7; have co := doff_nil w7; have cm := dimage_nil w7))
        | (go_at_call 14; ((with_reducible refine cy.mono ?_); clear cy; rintro e w' ⟨rfl, rfl⟩; skip))
        | (go_at_call 15; ((with_reducible refine cz.mono ?_); clear cz; rintro e w' ⟨rfl, rfl⟩; skip))
        | (go_at_call 16; ((with_reducible refine cl.mono ?_); clear cl; rintro e w' ⟨rfl, rfl⟩; skip))
        | (go_at_call 17; ((with_reducible refine co.mono ?_); clear co; rintro e w' ⟨rfl, rfl⟩; skip))
        | (go_at_call 18; ((with_reducible refine cm.mono ?_); clear cm; rintro e w' ⟨rfl, rfl⟩; skip)))
      clear d1
      have cn := dnew_yes w7 m (by omega) (by omega)
      have dm1 : decide ((m : Int) < 1) = false := decide_eq_false (by omega)
      have dm2 : decide (8192 < (m : Int)) = false := decide_eq_false (by omega)
      go_upto_region 11 with (go_at_call 19; ((with_reducible refine cn.mono ?_); clear cn; rintro e w8 ⟨p, q, rfl, h1, hb⟩; have HD8 := hidD_ h1; clear h1; have X8 := hidD_ (X7.out.trans (hb.mono X7.out.size)); clear hb))
      have cr2 : Calls Try.prog 10 #[.pointer (some ⟨p, 0, none⟩), .int .i64 ((m : Int) - 1)] w8 (fun e w' => e = .returned (.tuple #[.agg (rowOf zsec), .int .i64 0]) ∧ Below w8.heap.size w8 w') := by
        have h := dread_any HD8.out ((m : Int) - 1)
        rw [show hasE m false ((m : Int) - 1) = 0 by unfold hasE; rw [if_neg (by decide), if_neg (by omega)], show readD m (zsecs m) [] false ((m : Int) - 1) = zsec by unfold readD; rw [if_pos (by unfold hasE; rw [if_neg (by decide), if_neg (by omega)])]; exact zsecs_at m _ (by omega)] at h
        exact h
      clear dm1 dm2
      go_upto_region 12 with (first
        | (go_at_call 10; ((with_reducible refine cr2.mono ?_); clear cr2; rintro e w9 ⟨rfl, hb⟩; have HD9 := hidD_ (HD8.out.below hb); have X9 := hidD_ (X8.out.trans (hb.mono X8.out.size)); clear hb; (obtain ⟨wa, hwa⟩ : ∃ W, w9.alloc (.cells (rowOf zsec) 27) = W := ⟨_, rfl⟩); have BA := hidD_ (show Below w9.heap.size w9 wa by rw [← hwa]; exact (Below.refl _ _).alloc (Nat.le_refl _) _); have KA := hidD_ (show Bk wa w9.heap.size 27 (rowOf zsec) by rw [← hwa]; exact Bk.new w9 _ _)))
        | (refine wpList_put_row rfl 27 (.tmp 6) (.tmp 88) rfl w9.heap.size (rowOf zsec) rfl rfl 27 (rowOf zsec) KA.out (iSec _ zsec_len) rfl (bytes_one _) ?_; intro wb kb gb sb; have KB0 := hidD_ kb; have BB := hidD_ (BA.out.grown gb BA.out.size (fun k e => by injection e with e; omega)); clear kb gb sb))
      have HDb := hidD_ (HD9.out.below BB.out)
      have XB0 := hidD_ (X9.out.trans (BB.out.mono X9.out.size))
      have cr3 : Calls Try.prog 10 #[.pointer (some ⟨p, 0, none⟩), .int .i64 (m : Int)] wb (fun e w' => e = .returned (.tuple #[.agg (rowOf zsec), .int .i64 1]) ∧ Below wb.heap.size wb w') := by
        have h := dread_any HDb.out (m : Int)
        rw [show hasE m false (m : Int) = 1 by unfold hasE; rw [if_neg (by decide), if_pos (.inr (Int.le_refl _))], show readD m (zsecs m) [] false (m : Int) = zsec by unfold readD; rw [if_neg (by unfold hasE; rw [if_neg (by decide), if_pos (.inr (Int.le_refl _))]; decide)]] at h
        exact h
      clear hwa
      go_upto_region 13 with (first
        | (go_at_call 10; ((with_reducible refine cr3.mono ?_); clear cr3; rintro e wc ⟨rfl, hb⟩; have HDc := hidD_ (HDb.out.below hb); have Xc := hidD_ (XB0.out.trans (hb.mono XB0.out.size)); have KBc := hidD_ (KB0.out.below hb KB0.out.lt); clear hb; (obtain ⟨we, hwe⟩ : ∃ W, wc.alloc (.cells (rowOf zsec) 27) = W := ⟨_, rfl⟩); have BE := hidD_ (show Below wc.heap.size wc we by rw [← hwe]; exact (Below.refl _ _).alloc (Nat.le_refl _) _); have KE := hidD_ (show Bk we wc.heap.size 27 (rowOf zsec) by rw [← hwe]; exact Bk.new wc _ _)))
        | (refine wpList_put_row rfl 27 (.tmp 8) (.tmp 94) rfl wc.heap.size (rowOf zsec) rfl rfl 27 (rowOf zsec) KE.out (iSec _ zsec_len) rfl (bytes_one _) ?_; intro wd kd gd sd; have BD := hidD_ (BE.out.grown gd BE.out.size (fun k e => by injection e with e; omega)); clear kd gd sd))
      have HD := hidD_ (HDc.out.below BD.out)
      have XB := hidD_ (Xc.out.trans (BD.out.mono Xc.out.size))
      have KB := hidD_ (KBc.out.below BD.out KBc.out.lt)
      obtain ⟨gB, hgB⟩ : ∃ g, w9.heap.size = g := ⟨_, rfl⟩
      rw [hgB] at KB ⊢
      clear hwe
      refine region_byF [96, 97, 98, 99, 100, 101, 102, 103, 104, 105, 106, 107, 108, 109, 110, 111, 112, 113, 114, 115, 116, 117, 118, 119, 120, 121, 122, 123, 124, 2] (fun W => Below wd.heap.size wd W) (fun W W' => Below W.heap.size W W') (fun jj v _ => NwR p m gB jj v) (by kernel_rfl) (by kernel_rfl) (by kernel_rfl) (by kernel_rfl) (fun j v w w' hT hr => ?_) (fun j v w hlt hj _ => ?_) ((Below.refl _ _).drew) ?_ ?_
      · exact hr
      · rcases j with _ | _ | _ | _ | _ | _ | _ | _ | _ | _ | _ | _ | _ | _ | _ | _ | _ | _ | _ | _ | _ | _ | _ | _ | _ | _ | _ | _ | _ | _ | j
        all_goals first
          | (exfalso; simp [dstOf] at hj; done)
          | trivial
      · refine ⟨fun a W hC hd hf hv K hK => ?_, fun a W hC hd hf hv K hK => ?_, fun a W hC hd hf hv K hK => ?_, fun a W hC hd hf hv K hK => ?_, fun a W hC hd hf hv K hK => ?_, fun a W hC hd hf hv K hK => ?_, fun a W hC hd hf hv K hK => ?_, fun a W hC hd hf hv K hK => ?_, fun a W hC hd hf hv K hK => ?_, fun a W hC hd hf hv K hK => ?_, fun a W hC hd hf hv K hK => ?_, fun a W hC hd hf hv K hK => ?_, fun a W hC hd hf hv K hK => ?_, fun a W hC hd hf hv K hK => ?_, fun a W hC hd hf hv K hK => ?_, fun a W hC hd hf hv K hK => ?_, fun a W hC hd hf hv K hK => ?_, fun a W hC hd hf hv K hK => ?_, fun a W hC hd hf hv K hK => ?_, fun a W hC hd hf hv K hK => ?_, fun a W hC hd hf hv K hK => ?_, fun a W hC hd hf hv K hK => ?_, fun a W hC hd hf hv K hK => ?_, fun a W hC hd hf hv K hK => ?_, fun a W hC hd hf hv K hK => ?_, fun a W hC hd hf hv K hK => ?_, fun a W hC hd hf hv K hK => ?_, fun a W hC hd hf hv K hK => ?_, fun a W hC hd hf hv K hK => ?_, fun a W hC hd hf hv K hK => ?_, trivial⟩
        · have e1 := slot_of (a := a) (s := 4) (v := .int .i64 0) (hf 4 (by kernel_rfl))
          refine step_run (wanted_none rfl) (v := .int .i64 0) (w' := W) ?_ (hK _ _ hC (Below.refl _ _) rfl)
          go_simp
        · have e1 := slot_of (a := a) (s := 96) (v := .int .i64 0) (hv 0 (by kernel_rfl))
          refine step_run (wanted_none rfl) (v := .bool true) (w' := W) ?_ (hK _ _ hC (Below.refl _ _) rfl)
          go_simp
        · have e1 := slot_of (a := a) (s := 97) (v := .bool true) (hv 1 (by kernel_rfl))
          refine step_run (wanted_none rfl) (v := .bool true) (w' := W) ?_ (hK _ _ hC (Below.refl _ _) rfl)
          go_simp
        · have e1 := slot_of (a := a) (s := 7) (v := .int .i64 0) (hf 7 (by kernel_rfl))
          refine step_run (wanted_at (j := 2) (s := 98) (b := true) rfl (by kernel_rfl) (hv 2 (by kernel_rfl))) (v := .int .i64 0) (w' := W) ?_ (hK _ _ hC (Below.refl _ _) rfl)
          go_simp
        · have e1 := slot_of (a := a) (s := 99) (v := .int .i64 0) (hv 3 (by kernel_rfl))
          refine step_run (wanted_at (j := 2) (s := 98) (b := true) rfl (by kernel_rfl) (hv 2 (by kernel_rfl))) (v := .bool true) (w' := W) ?_ (hK _ _ hC (Below.refl _ _) rfl)
          go_simp
        · have e1 := slot_of (a := a) (s := 98) (v := .bool true) (hv 2 (by kernel_rfl))
          have e2 := slot_of (a := a) (s := 100) (v := .bool true) (hv 4 (by kernel_rfl))
          refine step_run (wanted_none rfl) (v := .bool true) (w' := W) ?_ (hK _ _ hC (Below.refl _ _) rfl)
          go_simp
        · have e1 := slot_of (a := a) (s := 101) (v := .bool true) (hv 5 (by kernel_rfl))
          refine step_run (wanted_none rfl) (v := .bool true) (w' := W) ?_ (hK _ _ hC (Below.refl _ _) rfl)
          go_simp
        · have e1 := slot_of (a := a) (s := 9) (v := .int .i64 1) (hf 9 (by kernel_rfl))
          refine step_run (wanted_at (j := 6) (s := 102) (b := true) rfl (by kernel_rfl) (hv 6 (by kernel_rfl))) (v := .int .i64 1) (w' := W) ?_ (hK _ _ hC (Below.refl _ _) rfl)
          go_simp
        · have e1 := slot_of (a := a) (s := 103) (v := .int .i64 1) (hv 7 (by kernel_rfl))
          refine step_run (wanted_at (j := 6) (s := 102) (b := true) rfl (by kernel_rfl) (hv 6 (by kernel_rfl))) (v := .bool true) (w' := W) ?_ (hK _ _ hC (Below.refl _ _) rfl)
          go_simp
        · have e1 := slot_of (a := a) (s := 102) (v := .bool true) (hv 6 (by kernel_rfl))
          have e2 := slot_of (a := a) (s := 104) (v := .bool true) (hv 8 (by kernel_rfl))
          refine step_run (wanted_none rfl) (v := .bool true) (w' := W) ?_ (hK _ _ hC (Below.refl _ _) rfl)
          go_simp
        · have e1 := slot_of (a := a) (s := 105) (v := .bool true) (hv 9 (by kernel_rfl))
          refine step_run (wanted_none rfl) (v := .bool true) (w' := W) ?_ (hK _ _ hC (Below.refl _ _) rfl)
          go_simp
        · exact step_load_sub (wanted_at (j := 10) (s := 106) (b := true) rfl (by kernel_rfl) (hv 10 (by kernel_rfl))) 27 (.tmp 6) rfl gB 0 (eval_of (hf 6 (by kernel_rfl))) (rowOf zsec) (fun i hi => by rw [Nat.zero_add]; exact (KB.out.below hC KB.out.lt).cell i) _ Try.underlying27 rfl (iSec _ zsec_len) (hK _ _ hC (Below.refl _ _) rfl)
        · refine step_callx 13 #[.int .u8 0] (wanted_at (j := 10) (s := 106) (b := true) rfl (by kernel_rfl) (hv 10 (by kernel_rfl))) (w' := W) ?_ ((sector_any W 0 0 rfl).mono fun e W2 hh => ?_)
          · go_simp
          · obtain ⟨rfl, hb⟩ := hh
            exact ⟨_, rfl, hK _ _ (hC.trans (hb.mono hC.size)) hb rfl⟩
        · have hq := eqSec zsec (secB 0) zsec_len (secB_len 0) W
          rw [show (zsec == secB 0) = true from beq_self_eq_true _] at hq
          have e1 := slot_of (a := a) (s := 107) (v := .agg (rowOf zsec)) (hv 11 (by kernel_rfl))
          have e2 := slot_of (a := a) (s := 108) (v := .agg (rowOf (secB 0))) (hv 12 (by kernel_rfl))
          refine step_run (wanted_at (j := 10) (s := 106) (b := true) rfl (by kernel_rfl) (hv 10 (by kernel_rfl))) (v := .bool true) (w' := W) ?_ (hK _ _ hC (Below.refl _ _) rfl)
          go_simp
        · have e1 := slot_of (a := a) (s := 106) (v := .bool true) (hv 10 (by kernel_rfl))
          have e2 := slot_of (a := a) (s := 109) (v := .bool true) (hv 13 (by kernel_rfl))
          refine step_run (wanted_none rfl) (v := .bool true) (w' := W) ?_ (hK _ _ hC (Below.refl _ _) rfl)
          go_simp
        · have e1 := slot_of (a := a) (s := 110) (v := .bool true) (hv 14 (by kernel_rfl))
          refine step_run (wanted_none rfl) (v := .bool true) (w' := W) ?_ (hK _ _ hC (Below.refl _ _) rfl)
          go_simp
        · have e1 := slot_of (a := a) (s := 5) (v := .pointer (some ⟨p, 0, none⟩)) (hf 5 (by kernel_rfl))
          refine step_run (wanted_at (j := 15) (s := 111) (b := true) rfl (by kernel_rfl) (hv 15 (by kernel_rfl))) (v := .pointer (some ⟨p, 0, none⟩)) (w' := W) ?_ (hK _ _ hC (Below.refl _ _) rfl)
          go_simp
        · have e1 := slot_of (a := a) (s := 112) (v := .pointer (some ⟨p, 0, none⟩)) (hv 16 (by kernel_rfl))
          refine step_callx 15 #[.pointer (some ⟨p, 0, none⟩)] (wanted_at (j := 15) (s := 111) (b := true) rfl (by kernel_rfl) (hv 15 (by kernel_rfl))) (w' := W) ?_ ((dsize_yes (HD.out.below hC)).mono fun e W2 hh => ?_)
          · go_simp
          · obtain ⟨rfl, rfl⟩ := hh
            exact ⟨_, rfl, hK _ _ hC (Below.refl _ _) rfl⟩
        · have e1 := slot_of (a := a) (s := 0) (v := .int .i64 (m : Int)) (hf 0 (by kernel_rfl))
          refine step_run (wanted_at (j := 15) (s := 111) (b := true) rfl (by kernel_rfl) (hv 15 (by kernel_rfl))) (v := .int .i64 (m : Int)) (w' := W) ?_ (hK _ _ hC (Below.refl _ _) rfl)
          go_simp
        · have e1 := slot_of (a := a) (s := 113) (v := .int .i64 (m : Int)) (hv 17 (by kernel_rfl))
          have e2 := slot_of (a := a) (s := 114) (v := .int .i64 (m : Int)) (hv 18 (by kernel_rfl))
          refine step_run (wanted_at (j := 15) (s := 111) (b := true) rfl (by kernel_rfl) (hv 15 (by kernel_rfl))) (v := .bool true) (w' := W) ?_ (hK _ _ hC (Below.refl _ _) rfl)
          go_simp
        · have e1 := slot_of (a := a) (s := 111) (v := .bool true) (hv 15 (by kernel_rfl))
          have e2 := slot_of (a := a) (s := 115) (v := .bool true) (hv 19 (by kernel_rfl))
          refine step_run (wanted_none rfl) (v := .bool true) (w' := W) ?_ (hK _ _ hC (Below.refl _ _) rfl)
          go_simp
        · have e1 := slot_of (a := a) (s := 116) (v := .bool true) (hv 20 (by kernel_rfl))
          refine step_run (wanted_none rfl) (v := .bool true) (w' := W) ?_ (hK _ _ hC (Below.refl _ _) rfl)
          go_simp
        · have e1 := slot_of (a := a) (s := 5) (v := .pointer (some ⟨p, 0, none⟩)) (hf 5 (by kernel_rfl))
          refine step_run (wanted_at (j := 21) (s := 117) (b := true) rfl (by kernel_rfl) (hv 21 (by kernel_rfl))) (v := .pointer (some ⟨p, 0, none⟩)) (w' := W) ?_ (hK _ _ hC (Below.refl _ _) rfl)
          go_simp
        · have e1 := slot_of (a := a) (s := 118) (v := .pointer (some ⟨p, 0, none⟩)) (hv 22 (by kernel_rfl))
          refine step_callx 18 #[.pointer (some ⟨p, 0, none⟩)] (wanted_at (j := 21) (s := 117) (b := true) rfl (by kernel_rfl) (hv 21 (by kernel_rfl))) (w' := W) ?_ ((dimage_any (HD.out.below hC)).mono fun e W2 hh => ?_)
          · go_simp
          · obtain ⟨A, c, rfl, ho, hb⟩ := hh
            exact ⟨_, rfl, hK _ _ (hC.trans (hb.mono hC.size)) hb ⟨A, c, rfl⟩⟩
        · obtain ⟨A, c, e0⟩ : ∃ A c, a.tmps.getD 119 undef = .slice A (m * 64) c := hv 23 (by kernel_rfl)
          have e1 := slot_of e0
          refine step_run (wanted_at (j := 21) (s := 117) (b := true) rfl (by kernel_rfl) (hv 21 (by kernel_rfl))) (v := .int .i64 ((m * 64 : Nat) : Int)) (w' := W) ?_ (hK _ _ hC (Below.refl _ _) rfl)
          go_simp
        · have e1 := slot_of (a := a) (s := 0) (v := .int .i64 (m : Int)) (hf 0 (by kernel_rfl))
          refine step_run (wanted_at (j := 21) (s := 117) (b := true) rfl (by kernel_rfl) (hv 21 (by kernel_rfl))) (v := .int .i64 (m : Int)) (w' := W) ?_ (hK _ _ hC (Below.refl _ _) rfl)
          go_simp
        · have e1 := slot_of (a := a) (s := 121) (v := .int .i64 (m : Int)) (hv 25 (by kernel_rfl))
          have hw : IntKind.i64.wrap (64 * (m : Int)) = 64 * (m : Int) := IntWalk.i64_in _ (by omega)
          refine step_run (wanted_at (j := 21) (s := 117) (b := true) rfl (by kernel_rfl) (hv 21 (by kernel_rfl))) (v := .int .i64 (64 * (m : Int))) (w' := W) ?_ (hK _ _ hC (Below.refl _ _) rfl)
          go_simp
        · have e1 := slot_of (a := a) (s := 120) (v := .int .i64 ((m * 64 : Nat) : Int)) (hv 24 (by kernel_rfl))
          have e2 := slot_of (a := a) (s := 122) (v := .int .i64 (64 * (m : Int))) (hv 26 (by kernel_rfl))
          have hw : (m : Int) * 64 = 64 * (m : Int) := by omega
          refine step_run (wanted_at (j := 21) (s := 117) (b := true) rfl (by kernel_rfl) (hv 21 (by kernel_rfl))) (v := .bool true) (w' := W) ?_ (hK _ _ hC (Below.refl _ _) rfl)
          go_simp
        · have e1 := slot_of (a := a) (s := 117) (v := .bool true) (hv 21 (by kernel_rfl))
          have e2 := slot_of (a := a) (s := 123) (v := .bool true) (hv 27 (by kernel_rfl))
          refine step_run (wanted_none rfl) (v := .bool true) (w' := W) ?_ (hK _ _ hC (Below.refl _ _) rfl)
          go_simp
        · have e1 := slot_of (a := a) (s := 124) (v := .bool true) (hv 28 (by kernel_rfl))
          refine step_run (wanted_none rfl) (v := .bool true) (w' := W) ?_ (hK _ _ hC (Below.refl _ _) rfl)
          go_simp
      · intro f w2 hC2 hv2
        have X := hidD_ (XB.out.trans (hC2.mono XB.out.size))
        have f0 : f 2 = .bool true := hv2 29 (by decide)
        simp only [framed, List.foldl_cons, List.foldl_nil, List.setIfInBounds_toArray, List.set_cons_succ, List.set_cons_zero]
        rw [f0]
        clear hv2 hC2 f0
        rename_i Kd hKd
        refine hKd _ _ ?_
        go_wp2
        go_ret
        exact ⟨rfl, X.out⟩
    · by_cases hC : n < 1
      · have d1 : decide (40 < n) = false := decide_eq_false (by omega)
        have d3 : decide (n < 1) = true := decide_eq_true hC
        have cno := none_any
        have cf := dfuse_nil w 1
        have cc := dcrash_nil w none 0 0
        have zs := zeroSec
        go_enter Try.func3, Try.ntmps3
        clear h0 h9
        go_upto_region 6 with (first
          | (go_at_call 7; ((with_reducible refine (cno _).mono ?_); rintro e w' ⟨rfl, rfl⟩))
          | (go_at_call 8; ((with_reducible refine cf.mono ?_); clear cf; rintro e w' ⟨rfl, rfl⟩; skip))
          | (go_at_call 9; ((with_reducible refine cc.mono ?_); clear cc; rintro e w1 ⟨rfl, hb⟩; have X1 := hidD_ hb; clear hb; have cr := dread_nil w1 0))
          | (go_at_call 10; ((with_reducible refine cr.mono ?_); clear cr; rintro e w2 ⟨rfl, hb⟩; have X2 := hidD_ (X1.out.trans (hb.mono (by have := X1.out.size; omega))); clear hb; (obtain ⟨w3, hw3⟩ : ∃ W, w2.alloc (.cells (rowOf zsec) 27) = W := ⟨_, rfl⟩); have X3 := hidD_ (X2.out.trans (show Below w.heap.size w2 w3 by rw [← hw3]; exact (Below.refl _ _).alloc X2.out.size _)); have K3 := hidD_ (show Bk w3 w2.heap.size 27 (rowOf zsec) by rw [← hw3]; exact Bk.new w2 _ _)))
          | (refine wpList_put_row rfl 27 (.tmp 3) (.tmp 26) rfl w2.heap.size (rowOf zsec) rfl rfl 27 (rowOf zsec) K3.out (iSec _ zsec_len) rfl (bytes_one _) ?_; intro w4 k4 g4 s4; have X4 := hidD_ (X3.out.grown g4 X3.out.size (fun k e => by injection e with e; have := X2.out.size; omega)); clear k4 g4 s4))
        clear K3 hw3
        have cd := disks_any w4
        go_upto_region 8 with (first
          | (go_at_call 7; ((with_reducible refine (cno _).mono ?_); rintro e w' ⟨rfl, rfl⟩))
          | (go_at_call 11; ((with_reducible refine cd.mono ?_); clear cd; rintro e w5 ⟨rfl, hb⟩; have X5 := hidD_ (X4.out.trans (hb.mono (by have := X4.out.size; omega))); clear hb; have cs := sector_any w5 1 1 rfl))
          | (go_at_call 13; ((with_reducible refine cs.mono ?_); clear cs; rintro e w6 ⟨rfl, hb⟩; have X6 := hidD_ (X5.out.trans (hb.mono (by have := X5.out.size; omega))); clear hb; have cw := dwrite_nil w6 0 (secB 1)))
          | (go_at_call 12; ((with_reducible refine cw.mono ?_); clear cw; rintro e w7 ⟨rfl, hb⟩; have X7 := hidD_ (X6.out.trans (hb.mono (by have := X6.out.size; omega))); clear hb; have cy := dsync_nil w7; have cz := dsize_nil w7; have cl := dloose_nil w7; have co := doff_nil w7; have cm := dimage_nil w7))
          | (go_at_call 14; ((with_reducible refine cy.mono ?_); clear cy; rintro e w' ⟨rfl, rfl⟩; skip))
          | (go_at_call 15; ((with_reducible refine cz.mono ?_); clear cz; rintro e w' ⟨rfl, rfl⟩; skip))
          | (go_at_call 16; ((with_reducible refine cl.mono ?_); clear cl; rintro e w' ⟨rfl, rfl⟩; skip))
          | (go_at_call 17; ((with_reducible refine co.mono ?_); clear co; rintro e w' ⟨rfl, rfl⟩; skip))
          | (go_at_call 18; ((with_reducible refine cm.mono ?_); clear cm; rintro e w' ⟨rfl, rfl⟩; skip)))
        have cn := dnew_no w7 n (by omega)
        go_wp2_with (go_at_call 19; ((with_reducible refine cn.mono ?_); clear cn; rintro e w8 ⟨rfl, rfl⟩))
        go_ret
        exact ⟨rfl, X7.out⟩
      · have d1 : decide (40 < n) = true := decide_eq_true (by omega)
        have d2 : decide (n ≤ 8192) = false := decide_eq_false (by omega)
        have d3 : decide (n < 1) = false := decide_eq_false hC
        have d4 : decide (8192 < n) = true := decide_eq_true (by omega)
        have cno := none_any
        have cf := dfuse_nil w 1
        have cc := dcrash_nil w none 0 0
        have zs := zeroSec
        go_enter Try.func3, Try.ntmps3
        clear h0 h9
        go_upto_region 6 with (first
          | (go_at_call 7; ((with_reducible refine (cno _).mono ?_); rintro e w' ⟨rfl, rfl⟩))
          | (go_at_call 8; ((with_reducible refine cf.mono ?_); clear cf; rintro e w' ⟨rfl, rfl⟩; skip))
          | (go_at_call 9; ((with_reducible refine cc.mono ?_); clear cc; rintro e w1 ⟨rfl, hb⟩; have X1 := hidD_ hb; clear hb; have cr := dread_nil w1 0))
          | (go_at_call 10; ((with_reducible refine cr.mono ?_); clear cr; rintro e w2 ⟨rfl, hb⟩; have X2 := hidD_ (X1.out.trans (hb.mono (by have := X1.out.size; omega))); clear hb; (obtain ⟨w3, hw3⟩ : ∃ W, w2.alloc (.cells (rowOf zsec) 27) = W := ⟨_, rfl⟩); have X3 := hidD_ (X2.out.trans (show Below w.heap.size w2 w3 by rw [← hw3]; exact (Below.refl _ _).alloc X2.out.size _)); have K3 := hidD_ (show Bk w3 w2.heap.size 27 (rowOf zsec) by rw [← hw3]; exact Bk.new w2 _ _)))
          | (refine wpList_put_row rfl 27 (.tmp 3) (.tmp 26) rfl w2.heap.size (rowOf zsec) rfl rfl 27 (rowOf zsec) K3.out (iSec _ zsec_len) rfl (bytes_one _) ?_; intro w4 k4 g4 s4; have X4 := hidD_ (X3.out.grown g4 X3.out.size (fun k e => by injection e with e; have := X2.out.size; omega)); clear k4 g4 s4))
        clear K3 hw3
        have cd := disks_any w4
        go_upto_region 8 with (first
          | (go_at_call 7; ((with_reducible refine (cno _).mono ?_); rintro e w' ⟨rfl, rfl⟩))
          | (go_at_call 11; ((with_reducible refine cd.mono ?_); clear cd; rintro e w5 ⟨rfl, hb⟩; have X5 := hidD_ (X4.out.trans (hb.mono (by have := X4.out.size; omega))); clear hb; have cs := sector_any w5 1 1 rfl))
          | (go_at_call 13; ((with_reducible refine cs.mono ?_); clear cs; rintro e w6 ⟨rfl, hb⟩; have X6 := hidD_ (X5.out.trans (hb.mono (by have := X5.out.size; omega))); clear hb; have cw := dwrite_nil w6 0 (secB 1)))
          | (go_at_call 12; ((with_reducible refine cw.mono ?_); clear cw; rintro e w7 ⟨rfl, hb⟩; have X7 := hidD_ (X6.out.trans (hb.mono (by have := X6.out.size; omega))); clear hb; have cy := dsync_nil w7; have cz := dsize_nil w7; have cl := dloose_nil w7; have co := doff_nil w7; have cm := dimage_nil w7))
          | (go_at_call 14; ((with_reducible refine cy.mono ?_); clear cy; rintro e w' ⟨rfl, rfl⟩; skip))
          | (go_at_call 15; ((with_reducible refine cz.mono ?_); clear cz; rintro e w' ⟨rfl, rfl⟩; skip))
          | (go_at_call 16; ((with_reducible refine cl.mono ?_); clear cl; rintro e w' ⟨rfl, rfl⟩; skip))
          | (go_at_call 17; ((with_reducible refine co.mono ?_); clear co; rintro e w' ⟨rfl, rfl⟩; skip))
          | (go_at_call 18; ((with_reducible refine cm.mono ?_); clear cm; rintro e w' ⟨rfl, rfl⟩; skip)))
        have cn := dnew_no w7 n (by omega)
        go_wp2_with (go_at_call 19; ((with_reducible refine cn.mono ?_); clear cn; rintro e w8 ⟨rfl, rfl⟩))
        go_ret
        exact ⟨rfl, X7.out⟩

set_option maxRecDepth 100000 in
theorem lifted (os : Os) (started : os.Started) (H : Type) (enc : TypeId × Value → H) :
    ReturnsInHanded {} Try.checked os 3 .any (Rows.diskNewsSpec.pre6 enc Try.prog Try.f3 Rows.diskNewsRow.domain false) (Rows.diskNewsSpec.post enc Try.prog Try.f3 false true false false) := by
  refine returnsInHanded_of_change (C := Try.checked) own_ started (by kernel_rfl) Try.func3
    (ChangeSpec.witness6 (enc := enc) (C := Try.checked) false ⟨#[], #[.int .i64 0], []⟩ 8 (by kernel_rfl) (by kernel_rfl) (by kernel_rfl) (by kernel_rfl)) ?_
  intro W base args ds gs before hval0 hW hcnd _
  have hval : ∀ (j : Nat) t v, Try.f3.params[j]? = some t → args[j]? = some v → Value.okWide Try.prog W .any base t v := hval0
  have hW' := hW
  obtain ⟨p, q, hA0, hV, rfl, hfz, hnd⟩ := hW
  have hA : DataW.TrodAll enc Try.prog W 0 (fun _ => true) true Try.f3.params.toList args.toList ds p := hA0
  rw [Try.params3] at hA hval
  obtain ⟨v0, vs0, d0, ds0, p0, q0, hargs, rfl, rfl, h0, r0⟩ := trodAll_cons hA
  obtain ⟨rfl, rfl, rfl⟩ := trodAll_nil r0
  obtain rfl : args = #[v0] := by cases args; simp_all
  obtain ⟨rfl, rfl⟩ := trodVars_none hV
  obtain ⟨a0, rfl, rfl, rfl, w0⟩ := open_int Try.underlying3 (hval 0 3 v0 rfl rfl) h0
  have b0 := bounds_i64 w0
  refine (walk W a0 b0.1 b0.2).mono fun e W' ⟨he, hg⟩ => ⟨_, he, ?_⟩
  exact law_post laidOut_ (of_decide_eq_true (by kernel_rfl)) rfl rfl Try.underlying4 rfl hW' hg

theorem over : Rows.diskNewsRow.holds Try.pinned (OpenSpec.ofChange Rows.diskNewsSpec) :=
  OpenClaim.holds_of_wide 3 Try.f3 rfl rfl rfl rfl rfl rfl rfl ⟨rfl, rfl, rfl, rfl, rfl⟩ rfl rfl rfl rfl rfl (by kernel_rfl) Try.func3 (by kernel_rfl)
    (of_decide_eq_true (by kernel_rfl)) (by unfold Func.isWrapper; first | (rw [if_pos (by decide +kernel)]; kernel_rfl) | (rw [if_neg (by decide +kernel)]; exact ⟨rfl, rfl⟩))
    (fun os started H enc _ => lifted os started H enc)

theorem proved : Rows.DiskNewsSaid := over
#print axioms proved
end Go.Proofs.Ytibnfldddpmafaa.diskNews
