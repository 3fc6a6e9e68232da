/-
  Proved: for all bytes MsgReads answers true: the message is told, or that they are none's; what is taken has just its bytes. No condition.
-/
import Derived.Test.YtnlipmcnpekifaaMR
namespace Go.Proofs.Ytnlipmcnpekifaa.msgReads
set_option maxRecDepth 100000
open Go.ChangeShapes Go.WideShapes Go.ChangeAt Go.RowKit
set_option linter.unusedVariables false
set_option linter.unusedSimpArgs false

theorem eval_slot {a : Act} {s : Nat} {v : Value} (h : a.tmps[s]?.getD undef = v) : a.eval (.tmp s) = v := by
  show a.tmps.getD s undef = v
  simpa using h
set_option maxRecDepth 100000 in
set_option maxHeartbeats 16000000 in
theorem walk (w : World) (A0 : Option Addr) (l0 : List UInt8) (c0 : Nat) (hr : Rd w w.heap.size A0 l0) (hlc : l0.length ≤ c0) (hcm : c0 ≤ 9223372036854775807) :
    Calls Try.prog 4 #[.slice A0 l0.length c0] w fun e w' => e = .returned (.bool true) ∧ Below w.heap.size w w' := by
  obtain ⟨m, hm⟩ : ∃ m, m = min l0.length 900 := ⟨_, rfl⟩
  have hm1 := fun W => run_min2 l0.length 900 m hm W
  rw [show ((900 : Nat) : Int) = 900 from rfl] at hm1
  have hs1 := fun W => slice_to A0 l0.length c0 (m : Int) m rfl (by omega) W
  have HM0 : (l0.take 900).length = m := by rw [List.length_take, hm, Nat.min_comm]
  have HRT := hidm_ (hr.take 900)
  have m900 : m ≤ 900 := by omega
  generalize l0.take 900 = t at *
  have HM := hidm_ HM0
  have cr := read_any w A0 m c0 t HM0 HRT.out (by omega)
  have hz := zMsg
  have hzR := zRm
  clear hr hm HM0
  go_enter Try.func4, Try.ntmps4
  go_upto_region 3 with (first
    | (go_at_call 11; ((with_reducible refine cr.mono ?_); clear cr; rintro e w2 ⟨q, er, rfl, hB, hq, hy, hn⟩; have X2 := hidm_ hB; have QO2 := hidm_ hq; have HY := hidm_ hy; have HN := hidm_ hn; have hi42 := i42 q hq.row.key; have hs42 : (mgC mgZ).toArray.size = (mgC q).toArray.size := (List.size_toArray ..).trans ((mgC_len mgZ rfl).trans ((mgC_len q hq.row.key).symm.trans (List.size_toArray ..).symm)); clear hB hq hy hn))
    | (refine wpList_put_row rfl 41 (.tmp 3) (.tmp 17) rfl w2.heap.size (mgC q).toArray rfl rfl 41 (mgC mgZ).toArray (Bk.new w2 _ _) hi42 hs42 (mgC_one _) ?_; intro w3 k3 g3 s3; have B3 := hidm_ (mark_putM w2 w3 w2.heap.size _ rfl g3); have X3 := hidm_ (X2.out.trans (B3.out.mono X2.out.size)); have M3 := hidm_ k3; have QO3 := hidm_ ((QO2.out.below B3.out).more B3.out.size); have cv := conv_strn (HRT.out.below X3.out) m c0 HM.out; have crr := readr_any w3 t (by rw [HM.out]; omega); clear k3 g3 s3))
  clear hi42 hs42
  go_upto_region 4 with (first
    | (go_at_call 12; ((with_reducible refine crr.mono ?_); clear crr cv; rintro e w4 ⟨q2, ok, rfl, hB, hq, la, ld, lr, lk, hy, hn⟩; have X4 := hidm_ (X3.out.trans (hB.mono X3.out.size)); have M4 := hidm_ (M3.out.below hB M3.out.lt); have QO4 := hidm_ ((QO3.out.below hB).more hB.size); have Q24 := hidm_ hq; have HY2 := hidm_ hy; have HN2 := hidm_ hn; have LA := hidm_ la; have LD := hidm_ ld; have LR := hidm_ lr; have LK := hidm_ lk; clear hB hq hy hn la ld lr lk))
    | (refine wpList_put_row rfl 28 (.tmp 5) (.tmp 23) rfl w4.heap.size (rmC q2) rfl rfl 28 (rmC rmZ) (Bk.new w4 _ _) (iRm _) rfl (rmC_one _) ?_; intro w5 k5 g5 s5; have B5 := hidm_ (mark_putM w4 w5 w4.heap.size _ rfl g5); have X5 := hidm_ (X4.out.trans (B5.out.mono X4.out.size)); have MX0 := hidm_ (M4.out.below B5.out M4.out.lt); have MW0 := hidm_ k5; have QK := hidm_ ((QO4.out.below B5.out).more B5.out.size); have Q2 := hidm_ ((Q24.out.below B5.out).more B5.out.size); clear k5 g5 s5))
  rename_i K9 hK9
  clear X2 X3 X4 M3 M4 QO2 QO3 QO4 Q24 B3 B5 hz hzR hm1 hs1
  obtain ⟨gx, hgx⟩ : ∃ x, w2.heap.size = x := ⟨_, rfl⟩
  obtain ⟨gw, hgw⟩ : ∃ x, w4.heap.size = x := ⟨_, rfl⟩
  have MX := hidm_ (show Bk w5 gx 41 (mgC q).toArray by rw [← hgx]; exact MX0.out)
  have MW := hidm_ (show Bk w5 gw 28 (rmC q2) by rw [← hgw]; exact MW0.out)
  rw [hgx, hgw]
  clear hgx hgw MX0 MW0
  have KL2 := hidm_ (show q2.key.length ≤ 140737488355328 by have := LK.out; omega)
  by_cases hE : endS (rdMg t).2.1 (rdMg t).2.2 = 0
  case pos =>
    obtain ⟨rfl, hqv⟩ := HY.out hE
    obtain ⟨rfl, hq2⟩ := HY2.out hE
    obtain ⟨tb, mok, k32, stp⟩ := rdMg_ok (l := t) (m := (rdMg t).1) rfl hE
    rw [← hqv] at tb mok k32 stp
    have NRM := hidm_ (show nrm q.v = nrm q2.v by rw [hq2, ← hqv]; exact nrm_id k32.1)
    obtain ⟨f1, f2, f3, f4, f5⟩ := few_of mok k32 stp (n := 900) (by rw [← tb, HM.out]; exact m900)
    have hrl : q.v.rows.length = q.rows.length := List.length_map ..
    have FEW := hidm_ (show q.Few from ⟨f1, Nat.le_trans f2 (by omega), Nat.le_trans f3 (by omega), by rw [hrl] at f4; omega, fun r hr => f5 r.r (List.mem_map_of_mem hr)⟩)
    have AL := hidm_ (show q.v.ats.length ≤ 1000 by omega)
    have DL := hidm_ (show q.digs.length ≤ 1000 from Nat.le_trans f3 (by omega))
    have RL2 := hidm_ (show q.v.rows.length ≤ 1000 by omega)
    have RL := hidm_ (show q.rows.length ≤ 1000 by rw [← hrl]; omega)
    have KL := hidm_ (show q.v.row.key.length ≤ 140737488355328 by rw [k32.1]; omega)
    have TB := hidm_ tb
    have MOK := hidm_ mok
    clear hE hqv hq2 tb mok k32 stp f1 f2 f3 f4 f5 hrl HY HN HY2 HN2 LA LD LR LK
    refine region_byJF [25, 26, 27, 28, 29, 30, 31, 32, 33, 34, 35, 36, 37, 38, 39] (fun _ => True) (fun w w' => Below w.heap.size w w') (fun jR_ vR_ (wR_ : World) => (match jR_ with | 0 => vR_ = .bool true | 1 => vR_ = .bool false | 2 => vR_ = .bool false | 3 => vR_ = .int .i64 0 | 4 => vR_ = .bool true | 5 => vR_ = .bool true | 6 => vR_ = .bool false | 7 => vR_ = .bool false | 8 => vR_ = .bool false | 9 => vR_ = .agg (mgC q).toArray | 10 => ∃ q9 : RmV, vR_ = .agg (rmC q9) ∧ q9.v = q.v ∧ q9.Ok wR_ wR_.heap.size | 11 => vR_ = .agg (rmC q2) | 12 => vR_ = .bool true | 13 => vR_ = .bool false | 14 => vR_ = .bool false | _ => True)) (fun D _ W => Below w5.heap.size w5 W) (by kernel_rfl) (by kernel_rfl) (by kernel_rfl) (by kernel_rfl) (fun j v w w' hT hr => (by rcases j with _ | _ | _ | _ | _ | _ | _ | _ | _ | _ | _ | _ | _ | _ | _ | j <;> first | exact hr | (obtain ⟨q9, x1, x2, x3⟩ := hr; exact ⟨q9, x1, x2, (x3.below hT).more hT.size⟩))) (fun j v w hlt hj _ => ?_) trivial ?_ (below_drewN (Below.refl _ _) 1) ?_
    · rcases j with _ | _ | _ | _ | _ | _ | _ | _ | _ | _ | _ | _ | _ | _ | _ | j
      all_goals first
        | (exfalso; simp [dstOf] at hj; done)
        | trivial
    · refine ⟨fun D a9 W hC hd hsz hf hv hJ hL hW K8 hK => ?_, fun D a9 W hC hd hsz hf hv hJ hL hW K8 hK => ?_, fun D a9 W hC hd hsz hf hv hJ hL hW K8 hK => ?_, fun D a9 W hC hd hsz hf hv hJ hL hW K8 hK => ?_, fun D a9 W hC hd hsz hf hv hJ hL hW K8 hK => ?_, fun D a9 W hC hd hsz hf hv hJ hL hW K8 hK => ?_, fun D a9 W hC hd hsz hf hv hJ hL hW K8 hK => ?_, fun D a9 W hC hd hsz hf hv hJ hL hW K8 hK => ?_, fun D a9 W hC hd hsz hf hv hJ hL hW K8 hK => ?_, fun D a9 W hC hd hsz hf hv hJ hL hW K8 hK => ?_, fun D a9 W hC hd hsz hf hv hJ hL hW K8 hK => ?_, fun D a9 W hC hd hsz hf hv hJ hL hW K8 hK => ?_, fun D a9 W hC hd hsz hf hv hJ hL hW K8 hK => ?_, fun D a9 W hC hd hsz hf hv hJ hL hW K8 hK => ?_, fun D a9 W hC hd hsz hf hv hJ hL hW K8 hK => ?_, trivial⟩
      · clear hsz
        refine step_callx 10 #[] (wanted_none rfl) (w' := W) ?_ ((says_any W).mono fun e W2 hh => ?_)
        · go_simp
        · obtain ⟨rfl, hB⟩ := hh
          exact ⟨_, rfl, hK _ _ trivial hB rfl (hJ.trans (hB.mono hJ.size))⟩
      · clear hsz
        have eS1_ := slot_of (a := a9) (s := 25) (v := .bool true) (hv 0 (by kernel_rfl))
        refine step_run (wanted_none rfl) (v := .bool false) (w' := W) ?_ (hK _ _ trivial (Below.refl _ _) rfl (hJ))
        go_simp
      · clear hsz
        have eS1_ := slot_of (a := a9) (s := 26) (v := .bool false) (hv 1 (by kernel_rfl))
        refine step_run (wanted_none rfl) (v := .bool false) (w' := W) ?_ (hK _ _ trivial (Below.refl _ _) rfl (hJ))
        go_simp
      · clear hsz
        have eS1_ := slot_of (a := a9) (s := 4) (v := .int .i64 0) (hf 4 (by kernel_rfl))
        refine step_run (wanted_at (j := 2) (s := 27) (b := false) rfl (by kernel_rfl) (hv 2 (by kernel_rfl))) (v := .int .i64 0) (w' := W) ?_ (hK _ _ trivial (Below.refl _ _) rfl (hJ))
        go_simp
      · clear hsz
        have eS1_ := slot_of (a := a9) (s := 28) (v := .int .i64 0) (hv 3 (by kernel_rfl))
        refine step_run (wanted_at (j := 2) (s := 27) (b := false) rfl (by kernel_rfl) (hv 2 (by kernel_rfl))) (v := .bool true) (w' := W) ?_ (hK _ _ trivial (Below.refl _ _) rfl (hJ))
        go_simp
      · clear hsz
        have eS1_ := slot_of (a := a9) (s := 6) (v := .bool true) (hf 6 (by kernel_rfl))
        refine step_run (wanted_at (j := 2) (s := 27) (b := false) rfl (by kernel_rfl) (hv 2 (by kernel_rfl))) (v := .bool true) (w' := W) ?_ (hK _ _ trivial (Below.refl _ _) rfl (hJ))
        go_simp
      · clear hsz
        have eS1_ := slot_of (a := a9) (s := 29) (v := .bool true) (hv 4 (by kernel_rfl))
        have eS2_ := slot_of (a := a9) (s := 30) (v := .bool true) (hv 5 (by kernel_rfl))
        refine step_run (wanted_at (j := 2) (s := 27) (b := false) rfl (by kernel_rfl) (hv 2 (by kernel_rfl))) (v := .bool false) (w' := W) ?_ (hK _ _ trivial (Below.refl _ _) rfl (hJ))
        go_simp
      · clear hsz
        have eS1_ := slot_of (a := a9) (s := 27) (v := .bool false) (hv 2 (by kernel_rfl))
        have eS2_ := slot_of (a := a9) (s := 31) (v := .bool false) (hv 6 (by kernel_rfl))
        refine step_run (wanted_none rfl) (v := .bool false) (w' := W) ?_ (hK _ _ trivial (Below.refl _ _) rfl (hJ))
        go_simp
      · clear hsz
        have eS1_ := slot_of (a := a9) (s := 32) (v := .bool false) (hv 7 (by kernel_rfl))
        refine step_run (wanted_none rfl) (v := .bool false) (w' := W) ?_ (hK _ _ trivial (Below.refl _ _) rfl (hJ))
        go_simp
      · clear hsz
        have eS1_ := slot_of (a := a9) (s := 3) (v := .pointer (some ⟨gx, 0, none⟩)) (hf 3 (by kernel_rfl))
        have hrun := run_load_subm 41 gx 0 (mgC q).toArray (fun j _ => by rw [Nat.zero_add]; exact (MX.out.below hJ MX.out.lt).cell j) _ Try.underlying41 rfl (i42 q QK.out.row.key)
        refine step_run (wanted_at (j := 8) (s := 33) (b := false) rfl (by kernel_rfl) (hv 8 (by kernel_rfl))) (v := .agg (mgC q).toArray) (w' := W) ?_ (hK _ _ trivial (Below.refl _ _) rfl hJ)
        unfold execOp
        simp only [Instr.loadAt, Instr.sureAddr, Sem.run_bind, Sem.run_pure, Result.andThen_ok, eval_slot (a := a9) (s := 3) eS1_, hrun]
      · clear hsz
        have eS1_ := slot_of (a := a9) (s := 34) (v := .agg (mgC q).toArray) (hv 9 (by kernel_rfl))
        refine step_callx 14 #[.agg (mgC q).toArray] (wanted_at (j := 8) (s := 33) (b := false) rfl (by kernel_rfl) (hv 8 (by kernel_rfl))) (w' := W) ?_ ((from_any W q ((QK.out.below hJ).more hJ.size) DL.out RL.out).mono fun e W2 hh => ?_)
        · go_simp
        · obtain ⟨q9, rfl, h1, h2, hB⟩ := hh
          exact ⟨_, rfl, hK _ _ trivial hB ⟨q9, rfl, h1, h2⟩ (hJ.trans (hB.mono hJ.size))⟩
      · clear hsz
        have eS1_ := slot_of (a := a9) (s := 5) (v := .pointer (some ⟨gw, 0, none⟩)) (hf 5 (by kernel_rfl))
        have hrun := run_load_subm 28 gw 0 (rmC q2) (fun j _ => by rw [Nat.zero_add]; exact (MW.out.below hJ MW.out.lt).cell j) _ Try.underlying28 rfl (iRm q2)
        refine step_run (wanted_at (j := 8) (s := 33) (b := false) rfl (by kernel_rfl) (hv 8 (by kernel_rfl))) (v := .agg (rmC q2)) (w' := W) ?_ (hK _ _ trivial (Below.refl _ _) rfl hJ)
        unfold execOp
        simp only [Instr.loadAt, Instr.sureAddr, Sem.run_bind, Sem.run_pure, Result.andThen_ok, eval_slot (a := a9) (s := 5) eS1_, hrun]
      · clear hsz
        have eS1_ := slot_of (a := a9) (s := 36) (v := .agg (rmC q2)) (hv 11 (by kernel_rfl))
        obtain ⟨q9, h35, hq9, ok9⟩ := hv 10 (by kernel_rfl)
        have e35 := slot_of (a := a9) (s := 35) (v := .agg (rmC q9)) h35
        refine step_callx 13 #[.agg (rmC q9), .agg (rmC q2)] (wanted_at (j := 8) (s := 33) (b := false) rfl (by kernel_rfl) (hv 8 (by kernel_rfl))) (w' := W) ?_ ((same_r W q9 q2 ok9 ((Q2.out.below hJ).more hJ.size) (by rw [hq9]; exact NRM.out) (by rw [show q9.key = q9.v.row.key from rfl, hq9]; exact KL.out) KL2.out (by rw [show q9.ats = q9.v.ats from rfl, hq9]; exact AL.out) (by rw [show q9.digs = q9.v.digs from rfl, hq9]; exact DL.out) (by rw [show q9.rows = q9.v.rows from rfl, hq9]; exact RL2.out)).mono fun e W2 hh => ?_)
        · go_simp
        · obtain ⟨rfl, hB⟩ := hh
          exact ⟨_, rfl, hK _ _ trivial hB rfl (hJ.trans (hB.mono hJ.size))⟩
      · clear hsz
        have eS1_ := slot_of (a := a9) (s := 37) (v := .bool true) (hv 12 (by kernel_rfl))
        refine step_run (wanted_at (j := 8) (s := 33) (b := false) rfl (by kernel_rfl) (hv 8 (by kernel_rfl))) (v := .bool false) (w' := W) ?_ (hK _ _ trivial (Below.refl _ _) rfl (hJ))
        go_simp
      · clear hsz
        have eS1_ := slot_of (a := a9) (s := 33) (v := .bool false) (hv 8 (by kernel_rfl))
        have eS2_ := slot_of (a := a9) (s := 38) (v := .bool false) (hv 13 (by kernel_rfl))
        refine step_run (wanted_none rfl) (v := .bool false) (w' := W) ?_ (hK _ _ trivial (Below.refl _ _) rfl (hJ))
        go_simp
    · intro f9 w6 hC6 hv6 D6 hD6 hJ6
      obtain ⟨a6, hJ, _⟩ := hJ6
      have X6 := hidm_ hJ
      have e39 : f9 39 = .bool false := hv6 14 (by decide)
      clear hv6 hD6 hC6 hJ
      simp only [framed, List.foldl_cons, List.foldl_nil, List.setIfInBounds_toArray, List.set_cons_succ, List.set_cons_zero]
      rw [e39]
      clear e39
      refine hK9 _ _ ?_
      clear hK9
      have cw := write_any w6 q ((QK.out.below X6.out).more X6.out.size) FEW.out
      have M6 := hidm_ (MX.out.below X6.out MX.out.lt)
      have hi42 := i42 q QK.out.row.key
      go_upto_region 9 with (first
        | (refine wpList_load_row rfl 41 (.tmp 3) rfl gx rfl 41 (mgC q).toArray (0, 0) _ M6.out Try.underlying41 rfl hi42 ?_)
        | (go_at_call 7; ((with_reducible refine cw.mono ?_); clear cw; rintro e w7 ⟨A7, n7, c7, er7, rfl, hd, hB⟩; obtain ⟨rfl, rfl, hO⟩ := hd.1 MOK.out; have X7 := hidm_ (X6.out.trans (hB.mono X6.out.size)); have O7 := hidm_ hO.rd.1; clear hB hO hd)))
      have hcv7 := conv_strn O7.out _ c7 rfl
      have hcv0 := conv_strn (HRT.out.below (X5.out.trans (X7.out.mono X5.out.size))) m c0 HM.out
      rw [← TB.out] at hcv7
      rw [show (mgB q.v).length = t.length by rw [← TB.out]]
      go_wp2
      go_ret
      exact ⟨rfl, X5.out.trans (X7.out.mono X5.out.size)⟩
  case neg =>
    obtain ⟨rfl, rfl⟩ := HN.out hE
    obtain ⟨rfl, rfl⟩ := HN2.out hE
    obtain ⟨q, hq⟩ : ∃ x, mgZ = x := ⟨_, rfl⟩
    obtain ⟨q2, hq2⟩ : ∃ x, rmZ = x := ⟨_, rfl⟩
    have NRM := hidm_ (show nrm q.v = nrm q2.v by rw [← hq, ← hq2]; exact nrm_id (zbytes_len 32))
    have AL := hidm_ (show q.v.ats.length ≤ 1000 by rw [← hq]; exact Nat.zero_le _)
    have DL := hidm_ (show q.digs.length ≤ 1000 by rw [← hq]; exact Nat.zero_le _)
    have RL := hidm_ (show q.rows.length ≤ 1000 by rw [← hq]; exact Nat.zero_le _)
    have RL2 := hidm_ (show q.v.rows.length ≤ 1000 by rw [← hq]; exact Nat.zero_le _)
    have KL := hidm_ (show q.v.row.key.length ≤ 140737488355328 by rw [← hq]; show (zbytes 32).length ≤ _; rw [zbytes_len]; omega)
    rw [hq] at QK MX
    rw [hq2] at Q2 MW KL2
    clear hE hq hq2 HY HN HY2 HN2 LA LD LR LK
    refine region_byJF [25, 26, 27, 28, 29, 30, 31, 32, 33, 34, 35, 36, 37, 38, 39] (fun _ => True) (fun w w' => Below w.heap.size w w') (fun jR_ vR_ (wR_ : World) => (match jR_ with | 0 => vR_ = .bool true | 1 => vR_ = .bool false | 2 => vR_ = .bool false | 3 => vR_ = .int .i64 2 | 4 => vR_ = .bool false | 5 => vR_ = .bool false | 6 => vR_ = .bool false | 7 => vR_ = .bool false | 8 => vR_ = .bool false | 9 => vR_ = .agg (mgC q).toArray | 10 => ∃ q9 : RmV, vR_ = .agg (rmC q9) ∧ q9.v = q.v ∧ q9.Ok wR_ wR_.heap.size | 11 => vR_ = .agg (rmC q2) | 12 => vR_ = .bool true | 13 => vR_ = .bool false | 14 => vR_ = .bool false | _ => True)) (fun D _ W => Below w5.heap.size w5 W) (by kernel_rfl) (by kernel_rfl) (by kernel_rfl) (by kernel_rfl) (fun j v w w' hT hr => (by rcases j with _ | _ | _ | _ | _ | _ | _ | _ | _ | _ | _ | _ | _ | _ | _ | j <;> first | exact hr | (obtain ⟨q9, x1, x2, x3⟩ := hr; exact ⟨q9, x1, x2, (x3.below hT).more hT.size⟩))) (fun j v w hlt hj _ => ?_) trivial ?_ (below_drewN (Below.refl _ _) 1) ?_
    · rcases j with _ | _ | _ | _ | _ | _ | _ | _ | _ | _ | _ | _ | _ | _ | _ | j
      all_goals first
        | (exfalso; simp [dstOf] at hj; done)
        | trivial
    · refine ⟨fun D a9 W hC hd hsz hf hv hJ hL hW K8 hK => ?_, fun D a9 W hC hd hsz hf hv hJ hL hW K8 hK => ?_, fun D a9 W hC hd hsz hf hv hJ hL hW K8 hK => ?_, fun D a9 W hC hd hsz hf hv hJ hL hW K8 hK => ?_, fun D a9 W hC hd hsz hf hv hJ hL hW K8 hK => ?_, fun D a9 W hC hd hsz hf hv hJ hL hW K8 hK => ?_, fun D a9 W hC hd hsz hf hv hJ hL hW K8 hK => ?_, fun D a9 W hC hd hsz hf hv hJ hL hW K8 hK => ?_, fun D a9 W hC hd hsz hf hv hJ hL hW K8 hK => ?_, fun D a9 W hC hd hsz hf hv hJ hL hW K8 hK => ?_, fun D a9 W hC hd hsz hf hv hJ hL hW K8 hK => ?_, fun D a9 W hC hd hsz hf hv hJ hL hW K8 hK => ?_, fun D a9 W hC hd hsz hf hv hJ hL hW K8 hK => ?_, fun D a9 W hC hd hsz hf hv hJ hL hW K8 hK => ?_, fun D a9 W hC hd hsz hf hv hJ hL hW K8 hK => ?_, trivial⟩
      · clear hsz
        refine step_callx 10 #[] (wanted_none rfl) (w' := W) ?_ ((says_any W).mono fun e W2 hh => ?_)
        · go_simp
        · obtain ⟨rfl, hB⟩ := hh
          exact ⟨_, rfl, hK _ _ trivial hB rfl (hJ.trans (hB.mono hJ.size))⟩
      · clear hsz
        have eS1_ := slot_of (a := a9) (s := 25) (v := .bool true) (hv 0 (by kernel_rfl))
        refine step_run (wanted_none rfl) (v := .bool false) (w' := W) ?_ (hK _ _ trivial (Below.refl _ _) rfl (hJ))
        go_simp
      · clear hsz
        have eS1_ := slot_of (a := a9) (s := 26) (v := .bool false) (hv 1 (by kernel_rfl))
        refine step_run (wanted_none rfl) (v := .bool false) (w' := W) ?_ (hK _ _ trivial (Below.refl _ _) rfl (hJ))
        go_simp
      · clear hsz
        have eS1_ := slot_of (a := a9) (s := 4) (v := .int .i64 2) (hf 4 (by kernel_rfl))
        refine step_run (wanted_at (j := 2) (s := 27) (b := false) rfl (by kernel_rfl) (hv 2 (by kernel_rfl))) (v := .int .i64 2) (w' := W) ?_ (hK _ _ trivial (Below.refl _ _) rfl (hJ))
        go_simp
      · clear hsz
        have eS1_ := slot_of (a := a9) (s := 28) (v := .int .i64 2) (hv 3 (by kernel_rfl))
        refine step_run (wanted_at (j := 2) (s := 27) (b := false) rfl (by kernel_rfl) (hv 2 (by kernel_rfl))) (v := .bool false) (w' := W) ?_ (hK _ _ trivial (Below.refl _ _) rfl (hJ))
        go_simp
      · clear hsz
        have eS1_ := slot_of (a := a9) (s := 6) (v := .bool false) (hf 6 (by kernel_rfl))
        refine step_run (wanted_at (j := 2) (s := 27) (b := false) rfl (by kernel_rfl) (hv 2 (by kernel_rfl))) (v := .bool false) (w' := W) ?_ (hK _ _ trivial (Below.refl _ _) rfl (hJ))
        go_simp
      · clear hsz
        have eS1_ := slot_of (a := a9) (s := 29) (v := .bool false) (hv 4 (by kernel_rfl))
        have eS2_ := slot_of (a := a9) (s := 30) (v := .bool false) (hv 5 (by kernel_rfl))
        refine step_run (wanted_at (j := 2) (s := 27) (b := false) rfl (by kernel_rfl) (hv 2 (by kernel_rfl))) (v := .bool false) (w' := W) ?_ (hK _ _ trivial (Below.refl _ _) rfl (hJ))
        go_simp
      · clear hsz
        have eS1_ := slot_of (a := a9) (s := 27) (v := .bool false) (hv 2 (by kernel_rfl))
        have eS2_ := slot_of (a := a9) (s := 31) (v := .bool false) (hv 6 (by kernel_rfl))
        refine step_run (wanted_none rfl) (v := .bool false) (w' := W) ?_ (hK _ _ trivial (Below.refl _ _) rfl (hJ))
        go_simp
      · clear hsz
        have eS1_ := slot_of (a := a9) (s := 32) (v := .bool false) (hv 7 (by kernel_rfl))
        refine step_run (wanted_none rfl) (v := .bool false) (w' := W) ?_ (hK _ _ trivial (Below.refl _ _) rfl (hJ))
        go_simp
      · clear hsz
        have eS1_ := slot_of (a := a9) (s := 3) (v := .pointer (some ⟨gx, 0, none⟩)) (hf 3 (by kernel_rfl))
        have hrun := run_load_subm 41 gx 0 (mgC q).toArray (fun j _ => by rw [Nat.zero_add]; exact (MX.out.below hJ MX.out.lt).cell j) _ Try.underlying41 rfl (i42 q QK.out.row.key)
        refine step_run (wanted_at (j := 8) (s := 33) (b := false) rfl (by kernel_rfl) (hv 8 (by kernel_rfl))) (v := .agg (mgC q).toArray) (w' := W) ?_ (hK _ _ trivial (Below.refl _ _) rfl hJ)
        unfold execOp
        simp only [Instr.loadAt, Instr.sureAddr, Sem.run_bind, Sem.run_pure, Result.andThen_ok, eval_slot (a := a9) (s := 3) eS1_, hrun]
      · clear hsz
        have eS1_ := slot_of (a := a9) (s := 34) (v := .agg (mgC q).toArray) (hv 9 (by kernel_rfl))
        refine step_callx 14 #[.agg (mgC q).toArray] (wanted_at (j := 8) (s := 33) (b := false) rfl (by kernel_rfl) (hv 8 (by kernel_rfl))) (w' := W) ?_ ((from_any W q ((QK.out.below hJ).more hJ.size) DL.out RL.out).mono fun e W2 hh => ?_)
        · go_simp
        · obtain ⟨q9, rfl, h1, h2, hB⟩ := hh
          exact ⟨_, rfl, hK _ _ trivial hB ⟨q9, rfl, h1, h2⟩ (hJ.trans (hB.mono hJ.size))⟩
      · clear hsz
        have eS1_ := slot_of (a := a9) (s := 5) (v := .pointer (some ⟨gw, 0, none⟩)) (hf 5 (by kernel_rfl))
        have hrun := run_load_subm 28 gw 0 (rmC q2) (fun j _ => by rw [Nat.zero_add]; exact (MW.out.below hJ MW.out.lt).cell j) _ Try.underlying28 rfl (iRm q2)
        refine step_run (wanted_at (j := 8) (s := 33) (b := false) rfl (by kernel_rfl) (hv 8 (by kernel_rfl))) (v := .agg (rmC q2)) (w' := W) ?_ (hK _ _ trivial (Below.refl _ _) rfl hJ)
        unfold execOp
        simp only [Instr.loadAt, Instr.sureAddr, Sem.run_bind, Sem.run_pure, Result.andThen_ok, eval_slot (a := a9) (s := 5) eS1_, hrun]
      · clear hsz
        have eS1_ := slot_of (a := a9) (s := 36) (v := .agg (rmC q2)) (hv 11 (by kernel_rfl))
        obtain ⟨q9, h35, hq9, ok9⟩ := hv 10 (by kernel_rfl)
        have e35 := slot_of (a := a9) (s := 35) (v := .agg (rmC q9)) h35
        refine step_callx 13 #[.agg (rmC q9), .agg (rmC q2)] (wanted_at (j := 8) (s := 33) (b := false) rfl (by kernel_rfl) (hv 8 (by kernel_rfl))) (w' := W) ?_ ((same_r W q9 q2 ok9 ((Q2.out.below hJ).more hJ.size) (by rw [hq9]; exact NRM.out) (by rw [show q9.key = q9.v.row.key from rfl, hq9]; exact KL.out) KL2.out (by rw [show q9.ats = q9.v.ats from rfl, hq9]; exact AL.out) (by rw [show q9.digs = q9.v.digs from rfl, hq9]; exact DL.out) (by rw [show q9.rows = q9.v.rows from rfl, hq9]; exact RL2.out)).mono fun e W2 hh => ?_)
        · go_simp
        · obtain ⟨rfl, hB⟩ := hh
          exact ⟨_, rfl, hK _ _ trivial hB rfl (hJ.trans (hB.mono hJ.size))⟩
      · clear hsz
        have eS1_ := slot_of (a := a9) (s := 37) (v := .bool true) (hv 12 (by kernel_rfl))
        refine step_run (wanted_at (j := 8) (s := 33) (b := false) rfl (by kernel_rfl) (hv 8 (by kernel_rfl))) (v := .bool false) (w' := W) ?_ (hK _ _ trivial (Below.refl _ _) rfl (hJ))
        go_simp
      · clear hsz
        have eS1_ := slot_of (a := a9) (s := 33) (v := .bool false) (hv 8 (by kernel_rfl))
        have eS2_ := slot_of (a := a9) (s := 38) (v := .bool false) (hv 13 (by kernel_rfl))
        refine step_run (wanted_none rfl) (v := .bool false) (w' := W) ?_ (hK _ _ trivial (Below.refl _ _) rfl (hJ))
        go_simp
    · intro f9 w6 hC6 hv6 D6 hD6 hJ6
      obtain ⟨a6, hJ, _⟩ := hJ6
      have X6 := hidm_ hJ
      have e39 : f9 39 = .bool false := hv6 14 (by decide)
      clear hv6 hD6 hC6 hJ
      simp only [framed, List.foldl_cons, List.foldl_nil, List.setIfInBounds_toArray, List.set_cons_succ, List.set_cons_zero]
      rw [e39]
      clear e39
      refine hK9 _ _ ?_
      clear hK9
      go_wp2
      go_ret
      exact ⟨rfl, X5.out.trans (X6.out.mono X5.out.size)⟩

set_option maxRecDepth 100000 in
theorem lifted (os : Os) (started : os.Started) (H : Type) (enc : TypeId × Value → H) :
    ReturnsInHanded {} Try.checked os 4 .any (Rows.msgReadsSpec.pre6 enc Try.prog Try.f4 Rows.msgReadsRow.domain false) (Rows.msgReadsSpec.post enc Try.prog Try.f4 false true false false) := by
  refine returnsInHanded_of_change (C := Try.checked) own_ started (by kernel_rfl) Try.func4
    (ChangeSpec.witness6 (enc := enc) (C := Try.checked) false ⟨#[], #[.slice none 0 0], []⟩ 8 (by kernel_rfl) (by kernel_rfl) (by kernel_rfl) (by kernel_rfl)) ?_
  intro W base args ds gs before hval0 hW hcnd _
  have hval : ∀ (j : Nat) t v, Try.f4.params[j]? = some t → args[j]? = some v → Value.okWide Try.prog W .any base t v := hval0
  have hW' := hW
  obtain ⟨p, q, hA0, hV, rfl, hfz, hnd⟩ := hW
  have hA : DataW.TrodAll enc Try.prog W 0 (fun _ => true) true Try.f4.params.toList args.toList ds p := hA0
  rw [Try.params4] at hA hval
  obtain ⟨v0, vs0, d0, ds0, p0, q0, hargs, rfl, rfl, h0, r0⟩ := trodAll_cons hA
  obtain ⟨rfl, rfl, rfl⟩ := trodAll_nil r0
  obtain rfl : args = #[v0] := by cases args; simp_all
  obtain ⟨rfl, rfl⟩ := trodVars_none hV
  obtain ⟨A0, l0, c0, rfl, hr0, hlc0, hcm0⟩ := open_bytes Try.underlying30 Try.underlying5 (by kernel_rfl) (hval 0 30 v0 rfl rfl) h0
  refine (walk W A0 l0 c0 hr0 hlc0 (by unfold maxLen at hcm0; omega)).mono fun e W' ⟨he, hg⟩ => ⟨_, he, ?_⟩
  exact law_post laidOut_ (of_decide_eq_true (by kernel_rfl)) rfl rfl Try.underlying4 rfl hW' hg

theorem over : Rows.msgReadsRow.holds Try.pinned (OpenSpec.ofChange Rows.msgReadsSpec) :=
  OpenClaim.holds_of_wide 4 Try.f4 rfl rfl rfl rfl rfl rfl rfl ⟨rfl, rfl, rfl, rfl, rfl⟩ rfl rfl rfl rfl rfl (by kernel_rfl) Try.func4 (by kernel_rfl)
    (of_decide_eq_true (by kernel_rfl)) (by unfold Func.isWrapper; first | (rw [if_pos (by decide +kernel)]; kernel_rfl) | (rw [if_neg (by decide +kernel)]; exact ⟨rfl, rfl⟩))
    (fun os started H enc _ => lifted os started H enc)

theorem proved : Rows.MsgReadsSaid := over
#print axioms proved
end Go.Proofs.Ytnlipmcnpekifaa.msgReads
