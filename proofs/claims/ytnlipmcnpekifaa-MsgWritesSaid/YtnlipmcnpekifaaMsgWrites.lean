/-
  Proved: for all messages MsgWrites answers true: the bytes are told, or that there are none; they come back, with what the kind has alone. No condition.
-/
import Derived.Test.YtnlipmcnpekifaaMtr
import Derived.Test.YtnlipmcnpekifaaMT
import Derived.Test.YtnlipmcnpekifaaMpb
import Derived.Test.YtnlipmcnpekifaaLp
namespace Go.Proofs.Ytnlipmcnpekifaa.msgWrites
set_option maxRecDepth 100000
open Go.ChangeShapes Go.WideShapes Go.ChangeAt Go.RowKit
set_option linter.unusedVariables false
set_option linter.unusedSimpArgs false

theorem eval_slot {a : Act} {s : Nat} {v : Value} (h : a.tmps[s]?.getD undef = v) : a.eval (.tmp s) = v := by
  show a.tmps.getD s undef = v
  simpa using h
set_option maxRecDepth 100000 in
set_option maxHeartbeats 16000000 in
theorem walk (w : World) (q0 : RmV) (hq : q0.Ok w w.heap.size) (hA : q0.ats.length ≤ q0.ac) (hD : q0.digs.length ≤ 9223372036854775807) (hR : q0.rows.length ≤ 9223372036854775807) (hbd : MgBd q0.v) :
    Calls Try.prog 3 #[.agg (rmC q0)] w fun e w' => e = .returned (.bool true) ∧ Below w.heap.size w w' := by
  obtain ⟨g, hg⟩ : ∃ g, w.heap.size = g := ⟨_, rfl⟩
  obtain ⟨w1, hw1⟩ : ∃ x, w.alloc (.cells (rmC q0) 28) = x := ⟨_, rfl⟩
  have B1 := hidm_ (show Below w.heap.size w w1 by rw [← hw1]; exact (Below.refl _ _).alloc (Nat.le_refl _) _)
  have S1 := hidm_ (show w1.heap.size = g + 1 by rw [← hw1, ← hg]; simp)
  have M1 := hidm_ (show Bk w1 g 28 (rmC q0) by rw [← hw1, ← hg]; exact Bk.new w _ _)
  have ct := tame_any w1 q0 ((hq.below B1.out).more B1.out.size) hA hD hR
  have HG := hidm_ hg
  have HBD := hidm_ hbd
  clear hq hA hD hR hbd
  go_enter Try.func3, Try.ntmps3
  go_upto_region 1 with fail
  clear hw1 hg
  go_upto_region 2 with (first
    | (refine wpList_load_row rfl 28 (.tmp 1) rfl g rfl 28 (rmC q0) (0, 0) _ M1.out Try.underlying28 rfl (iRm _) ?_)
    | (go_at_call 6; ((with_reducible refine ct.mono ?_); clear ct; rintro e w2 ⟨q1, rfl, hv1, ho1, hB⟩; have TM := hidm_ (show Tame q1.v by rw [hv1]; exact tm_tame _); have TB := hidm_ (show MgBd q1.v by rw [hv1]; exact tm_bd HBD.out); have O2 := hidm_ ho1; have B2 := hidm_ hB; have M2 := hidm_ (M1.out.below hB M1.out.lt); clear hv1 ho1 hB))
    | (refine wpList_put_row rfl 28 (.tmp 1) (.tmp 12) rfl g (rmC q1) rfl rfl 28 (rmC q0) M2.out (iRm _) rfl (rmC_one _) ?_; intro w3 k3 g3 s3; have M3 := hidm_ k3; have U3 := hidm_ (unt_put g3); clear k3 g3 s3))
  have O3 := hidm_ (O2.out.keep U3.out (fun k hk => by rw [List.mem_singleton.1 hk, S1.out]; omega)).ok
  have X3 := hidm_ (show Below g w w3 by
    have h1 := B1.out
    rw [HG.out] at h1
    exact (h1.trans (B2.out.mono (by rw [S1.out]; omega))).trans (U3.out.below (fun k hk => by rw [List.mem_singleton.1 hk]; exact Nat.le_refl _) (Nat.le_of_lt M2.out.lt)))
  have co := to_any w3 q1 O3.out TM.out.k32 (by have := TM.out.ats; show q1.v.ats.length ≤ 1000; omega) (by have := TM.out.digs; show q1.v.digs.length ≤ 1000; omega) (by have := TM.out.rows; show q1.v.rows.length ≤ 1000; omega) (by have := TM.out.set; show q1.v.row.set.length ≤ 1000000; omega) (fun r hr => by have := TM.out.sets r hr; omega)
  clear O2 B1 B2 M1 M2 U3 HBD
  go_upto_region 3 with (first
    | (refine wpList_load_row rfl 28 (.tmp 1) rfl g rfl 28 (rmC q1) (0, 0) _ M3.out Try.underlying28 rfl (iRm _) ?_)
    | (go_at_call 8; ((with_reducible refine co.mono ?_); clear co; rintro e w4 ⟨q2, rfl, hv2, hok2, hB⟩; have HV2 := hidm_ hv2; have X4 := hidm_ (X3.out.trans (hB.mono (Nat.le_of_lt M3.out.lt))); have M4 := hidm_ (M3.out.below hB M3.out.lt); have O4 := hidm_ ((O3.out.below hB).more hB.size); have cw := write_any w4 q2 hok2 (show q2.Few from Tame.few (by rw [hv2]; exact TM.out)); clear hv2 hok2 hB))
    | (go_at_call 7; ((with_reducible refine cw.mono ?_); clear cw; rintro e w5 ⟨A, n, c, er, rfl, hd, hB⟩; rw [HV2.out] at hd; have D5 := hidm_ hd; have X5 := hidm_ (X4.out.trans (hB.mono (Nat.le_of_lt M4.out.lt))); have M5 := hidm_ (M4.out.below hB M4.out.lt); have O5 := hidm_ ((O4.out.below hB).more hB.size); have crw := refwrite_any w5 q1 O5.out TM.out TB.out; clear hB hd)))
  clear X3 X4 M3 M4 O3 O4 HV2 S1
  by_cases hOk : MgOk q1.v
  case neg =>
    obtain ⟨rfl, rfl, rfl, rfl⟩ := D5.out.2 hOk
    have HOK := hidm_ hOk
    clear D5 hOk
    go_wp2_with (first
      | (refine wpList_load_row rfl 28 (.tmp 1) rfl g rfl 28 (rmC q1) (0, 0) _ M5.out Try.underlying28 rfl (iRm _) ?_)
      | (go_at_call 9; ((with_reducible refine crw.mono ?_); clear crw; rintro e w6 ⟨_, hN, hB⟩; obtain rfl := hN HOK.out; have X6 := hidm_ (X5.out.trans (hB.mono (Nat.le_of_lt M5.out.lt))); have M6 := hidm_ (M5.out.below hB M5.out.lt); have cs := says_any w6; clear hB hN))
      | (go_at_call 10; ((with_reducible refine cs.mono ?_); clear cs; rintro e w7 ⟨rfl, hB⟩; have X7 := hidm_ (X6.out.trans (hB.mono (Nat.le_of_lt M6.out.lt))); clear hB)))
    go_ret
    exact ⟨rfl, by rw [HG.out]; exact X7.out⟩
  case pos =>
    obtain ⟨rfl, hn, hO⟩ := D5.out.1 hOk
    have R5 := hidm_ hO.rd.1
    obtain ⟨L, hL⟩ : ∃ L, mgB q1.v = L := ⟨_, rfl⟩
    have HOK := hidm_ hOk
    have HL := hidm_ hL
    have nL : L.length ≤ 100000 := by rw [← hL]; exact mgB_le TM.out
    have RL := hidm_ (show rdMg L = (strip q1.v, [], 0) by have h := rdMg_rest hOk TM.out.k32 []; rw [List.append_nil, hL] at h; exact h)
    have HE := hidm_ (show endS (rdMg L).2.1 (rdMg L).2.2 = 0 by rw [RL.out]; rfl)
    have TS := hidm_ (strip_tame TM.out)
    rw [hL] at hn R5
    have HN := hidm_ hn.symm
    rw [← hn] at nL
    have hi42 := i42 mgZ (zbytes_len 32)
    have hz := zMsg
    have hzR := zRm
    clear hO hL hOk hn D5 TB
    go_upto_region 8 with (first
      | (refine wpList_load_row rfl 28 (.tmp 1) rfl g rfl 28 (rmC q1) (0, 0) _ M5.out Try.underlying28 rfl (iRm _) ?_)
      | (go_at_call 9; ((with_reducible refine crw.mono ?_); clear crw; rintro e w6 ⟨hY, _, hB⟩; obtain rfl := hY HOK.out; rw [HL.out]; have X6 := hidm_ (X5.out.trans (hB.mono (Nat.le_of_lt M5.out.lt))); have M6 := hidm_ (M5.out.below hB M5.out.lt); have R6 := hidm_ ((R5.out.below hB).more hB.size); have cs := says_any w6; clear hB hY))
      | (go_at_call 10; ((with_reducible refine cs.mono ?_); clear cs; rintro e w7 ⟨rfl, hB⟩; have X7 := hidm_ (X6.out.trans (hB.mono (Nat.le_of_lt M6.out.lt))); have G7 := hidm_ (Nat.le_trans (Nat.le_of_lt M6.out.lt) hB.size); have R7 := hidm_ ((R6.out.below hB).more hB.size); have cr := read_any w7 A n c L HN.out R7.out (by omega); clear hB)))
    clear X5 M5 O5 R5 X6 M6 R6
    go_upto_region 9 with (first
      | (go_at_call 11; ((with_reducible refine cr.mono ?_); clear cr; rintro e w8 ⟨q, er, rfl, hB, hq, hy, _⟩; obtain ⟨rfl, hqv⟩ := hy HE.out; have HQV := hidm_ (show q.v = strip q1.v by rw [hqv, RL.out]); have X8 := hidm_ (X7.out.trans (hB.mono G7.out)); have G8 := hidm_ (Nat.le_trans G7.out hB.size); have QO8 := hidm_ hq; have R8 := hidm_ ((R7.out.below hB).more hB.size); have hi42q := i42 q hq.row.key; have hs42 : (mgC mgZ).toArray.size = (mgC q).toArray.size := (List.size_toArray ..).trans ((mgC_len mgZ rfl).trans ((mgC_len q hq.row.key).symm.trans (List.size_toArray ..).symm)); clear hB hq hy hqv))
      | (refine wpList_put_row rfl 41 (.tmp 7) (.tmp 50) rfl w8.heap.size (mgC q).toArray rfl rfl 41 (mgC mgZ).toArray (Bk.new w8 _ _) hi42q hs42 (mgC_one _) ?_; intro w9 k9 g9 s9; have B9 := hidm_ (mark_putM w8 w9 w8.heap.size _ rfl g9); have X9 := hidm_ (X8.out.trans (B9.out.mono G8.out)); have G9 := hidm_ (Nat.le_trans G8.out B9.out.size); have M9 := hidm_ k9; have QO9 := hidm_ ((QO8.out.below B9.out).more B9.out.size); have R9 := hidm_ ((R8.out.below B9.out).more B9.out.size); have crr := readr_any w9 L (by rw [HN.out]; omega); clear k9 g9 s9))
    clear hi42 hi42q hs42 X7 G7 R7 X8 QO8 R8 B9
    go_upto_region 10 with (first
      | (go_at_call 12; ((with_reducible refine crr.mono ?_); clear crr; rintro e w4 ⟨q2', ok, rfl, hB, hq, la, ld, lr, lk, hy, _⟩; obtain ⟨rfl, hq2⟩ := hy HE.out; have NV := hidm_ (show nrm q2'.v = strip q1.v by rw [hq2, RL.out]); have XA := hidm_ (X9.out.trans (hB.mono G9.out)); have GA := hidm_ (Nat.le_trans G9.out hB.size); have MA := hidm_ (M9.out.below hB M9.out.lt); have QOA := hidm_ ((QO9.out.below hB).more hB.size); have RA := hidm_ ((R9.out.below hB).more hB.size); have Q2A := hidm_ hq; have LK := hidm_ lk; clear hB hq hy la ld lr lk hq2))
      | (refine wpList_put_row rfl 28 (.tmp 9) (.tmp 55) rfl w4.heap.size (rmC q2') rfl rfl 28 (rmC rmZ) (Bk.new w4 _ _) (iRm _) rfl (rmC_one _) ?_; intro w5' k5 g5 s5; have BB := hidm_ (mark_putM w4 w5' w4.heap.size _ rfl g5); have X5 := hidm_ (XA.out.trans (BB.out.mono GA.out)); have GX := hidm_ (Nat.le_trans GA.out BB.out.size); have MX0 := hidm_ (MA.out.below BB.out MA.out.lt); have MW0 := hidm_ k5; have QK := hidm_ ((QOA.out.below BB.out).more BB.out.size); have Q2 := hidm_ ((Q2A.out.below BB.out).more BB.out.size); have RX := hidm_ ((RA.out.below BB.out).more BB.out.size); clear k5 g5 s5))
    rename_i K9 hK9
    clear X9 XA GA G9 M9 MA QO9 QOA R9 RA Q2A BB hz hzR
    obtain ⟨gx, hgx⟩ : ∃ x, w8.heap.size = x := ⟨_, rfl⟩
    obtain ⟨gw, hgw⟩ : ∃ x, w4.heap.size = x := ⟨_, rfl⟩
    have MX := hidm_ (show Bk w5' gx 41 (mgC q).toArray by rw [← hgx]; exact MX0.out)
    have MW := hidm_ (show Bk w5' gw 28 (rmC q2') by rw [← hgw]; exact MW0.out)
    rw [hgx, hgw]
    clear hgx hgw MX0 MW0 G8
    have KL2 := hidm_ (show q2'.key.length ≤ 140737488355328 by have := LK.out; omega)
    have NRM := hidm_ (show nrm q.v = nrm q2'.v by rw [NV.out, HQV.out]; exact nrm_id TS.out.k32.1)
    have AL := hidm_ (show q.v.ats.length ≤ 1000 by rw [HQV.out]; have := TS.out.ats; omega)
    have DL := hidm_ (show q.v.digs.length ≤ 1000 by rw [HQV.out]; have := TS.out.digs; omega)
    have RL2 := hidm_ (show q.v.rows.length ≤ 1000 by rw [HQV.out]; have := TS.out.rows; omega)
    have RL3 := hidm_ (show q.rows.length ≤ 1000 by have h : q.v.rows.length = q.rows.length := List.length_map ..; rw [← h]; exact RL2.out)
    have KL := hidm_ (show q.v.row.key.length ≤ 140737488355328 by rw [HQV.out, TS.out.k32.1]; omega)
    clear LK NV RL HL HE
    refine region_byJF [57, 58, 59, 60, 61, 62, 63, 64, 65, 66, 67, 68, 69, 70, 71, 72, 73, 2] (fun _ => True) (fun w w' => Below w.heap.size w w') (fun jR_ vR_ (wR_ : World) => (match jR_ with | 0 => vR_ = .slice A n c | 1 => vR_ = .string (strOf L) | 2 => vR_ = .string (strOf L) | 3 => vR_ = .bool true | 4 => vR_ = .bool true | 5 => vR_ = .int .i64 0 | 6 => vR_ = .bool true | 7 => vR_ = .bool true | 8 => vR_ = .bool true | 9 => vR_ = .bool true | 10 => vR_ = .bool true | 11 => vR_ = .bool true | 12 => vR_ = .agg (mgC q).toArray | 13 => ∃ q9 : RmV, vR_ = .agg (rmC q9) ∧ q9.v = q.v ∧ q9.Ok wR_ wR_.heap.size | 14 => vR_ = (.agg (rmC q2')) | 15 => vR_ = .bool true | 16 => vR_ = .bool true | 17 => vR_ = .bool true | _ => True)) (fun D _ W => Below w5'.heap.size w5' W) (by kernel_rfl) (by kernel_rfl) (by kernel_rfl) (by kernel_rfl) (fun j v w w' hT hr => (by rcases j with _ | _ | _ | _ | _ | _ | _ | _ | _ | _ | _ | _ | _ | _ | _ | _ | _ | _ | j <;> first | exact hr | (obtain ⟨q9, x1, x2, x3⟩ := hr; exact ⟨q9, x1, x2, (x3.below hT).more hT.size⟩))) (fun j v w hlt hj _ => ?_) trivial ?_ (below_drewN (Below.refl _ _) 1) ?_
    · rcases j with _ | _ | _ | _ | _ | _ | _ | _ | _ | _ | _ | _ | _ | _ | _ | _ | _ | _ | j
      all_goals first
        | (exfalso; simp [dstOf] at hj; done)
        | trivial
    · refine ⟨fun D a9 W hC hd hsz hf hv hJ hL hW K8 hK => ?_, fun D a9 W hC hd hsz hf hv hJ hL hW K8 hK => ?_, fun D a9 W hC hd hsz hf hv hJ hL hW K8 hK => ?_, fun D a9 W hC hd hsz hf hv hJ hL hW K8 hK => ?_, fun D a9 W hC hd hsz hf hv hJ hL hW K8 hK => ?_, fun D a9 W hC hd hsz hf hv hJ hL hW K8 hK => ?_, fun D a9 W hC hd hsz hf hv hJ hL hW K8 hK => ?_, fun D a9 W hC hd hsz hf hv hJ hL hW K8 hK => ?_, fun D a9 W hC hd hsz hf hv hJ hL hW K8 hK => ?_, fun D a9 W hC hd hsz hf hv hJ hL hW K8 hK => ?_, fun D a9 W hC hd hsz hf hv hJ hL hW K8 hK => ?_, fun D a9 W hC hd hsz hf hv hJ hL hW K8 hK => ?_, fun D a9 W hC hd hsz hf hv hJ hL hW K8 hK => ?_, fun D a9 W hC hd hsz hf hv hJ hL hW K8 hK => ?_, fun D a9 W hC hd hsz hf hv hJ hL hW K8 hK => ?_, fun D a9 W hC hd hsz hf hv hJ hL hW K8 hK => ?_, fun D a9 W hC hd hsz hf hv hJ hL hW K8 hK => ?_, fun D a9 W hC hd hsz hf hv hJ hL hW K8 hK => ?_, trivial⟩
      · clear hsz
        have eS1_ := slot_of (a := a9) (s := 3) (v := .slice A n c) (hf 3 (by kernel_rfl))
        refine step_run (wanted_none rfl) (v := .slice A n c) (w' := W) ?_ (hK _ _ trivial (Below.refl _ _) rfl (hJ))
        go_simp
      · clear hsz
        have eS1_ := slot_of (a := a9) (s := 57) (v := .slice A n c) (hv 0 (by kernel_rfl))
        have hcv := conv_strn (RX.out.below hJ) n c HN.out
        refine step_run (wanted_none rfl) (v := .string (strOf L)) (w' := W) ?_ (hK _ _ trivial (Below.refl _ _) rfl (hJ))
        go_simp
      · clear hsz
        have eS1_ := slot_of (a := a9) (s := 5) (v := .string (strOf L)) (hf 5 (by kernel_rfl))
        refine step_run (wanted_none rfl) (v := .string (strOf L)) (w' := W) ?_ (hK _ _ trivial (Below.refl _ _) rfl (hJ))
        go_simp
      · clear hsz
        have eS1_ := slot_of (a := a9) (s := 58) (v := .string (strOf L)) (hv 1 (by kernel_rfl))
        have eS2_ := slot_of (a := a9) (s := 59) (v := .string (strOf L)) (hv 2 (by kernel_rfl))
        refine step_run (wanted_none rfl) (v := .bool true) (w' := W) ?_ (hK _ _ trivial (Below.refl _ _) rfl (hJ))
        go_simp
      · clear hsz
        have eS1_ := slot_of (a := a9) (s := 60) (v := .bool true) (hv 3 (by kernel_rfl))
        refine step_run (wanted_none rfl) (v := .bool true) (w' := W) ?_ (hK _ _ trivial (Below.refl _ _) rfl (hJ))
        go_simp
      · clear hsz
        have eS1_ := slot_of (a := a9) (s := 8) (v := .int .i64 0) (hf 8 (by kernel_rfl))
        refine step_run (wanted_at (j := 4) (s := 61) (b := true) rfl (by kernel_rfl) (hv 4 (by kernel_rfl))) (v := .int .i64 0) (w' := W) ?_ (hK _ _ trivial (Below.refl _ _) rfl (hJ))
        go_simp
      · clear hsz
        have eS1_ := slot_of (a := a9) (s := 62) (v := .int .i64 0) (hv 5 (by kernel_rfl))
        refine step_run (wanted_at (j := 4) (s := 61) (b := true) rfl (by kernel_rfl) (hv 4 (by kernel_rfl))) (v := .bool true) (w' := W) ?_ (hK _ _ trivial (Below.refl _ _) rfl (hJ))
        go_simp
      · clear hsz
        have eS1_ := slot_of (a := a9) (s := 61) (v := .bool true) (hv 4 (by kernel_rfl))
        have eS2_ := slot_of (a := a9) (s := 63) (v := .bool true) (hv 6 (by kernel_rfl))
        refine step_run (wanted_none rfl) (v := .bool true) (w' := W) ?_ (hK _ _ trivial (Below.refl _ _) rfl (hJ))
        go_simp
      · clear hsz
        have eS1_ := slot_of (a := a9) (s := 64) (v := .bool true) (hv 7 (by kernel_rfl))
        refine step_run (wanted_none rfl) (v := .bool true) (w' := W) ?_ (hK _ _ trivial (Below.refl _ _) rfl (hJ))
        go_simp
      · clear hsz
        have eS1_ := slot_of (a := a9) (s := 10) (v := .bool true) (hf 10 (by kernel_rfl))
        refine step_run (wanted_at (j := 8) (s := 65) (b := true) rfl (by kernel_rfl) (hv 8 (by kernel_rfl))) (v := .bool true) (w' := W) ?_ (hK _ _ trivial (Below.refl _ _) rfl (hJ))
        go_simp
      · clear hsz
        have eS1_ := slot_of (a := a9) (s := 65) (v := .bool true) (hv 8 (by kernel_rfl))
        have eS2_ := slot_of (a := a9) (s := 66) (v := .bool true) (hv 9 (by kernel_rfl))
        refine step_run (wanted_none rfl) (v := .bool true) (w' := W) ?_ (hK _ _ trivial (Below.refl _ _) rfl (hJ))
        go_simp
      · clear hsz
        have eS1_ := slot_of (a := a9) (s := 67) (v := .bool true) (hv 10 (by kernel_rfl))
        refine step_run (wanted_none rfl) (v := .bool true) (w' := W) ?_ (hK _ _ trivial (Below.refl _ _) rfl (hJ))
        go_simp
      · clear hsz
        have eS1_ := slot_of (a := a9) (s := 7) (v := .pointer (some ⟨gx, 0, none⟩)) (hf 7 (by kernel_rfl))
        have hrun := run_load_subm 41 gx 0 (mgC q).toArray (fun j _ => by rw [Nat.zero_add]; exact (MX.out.below hJ MX.out.lt).cell j) _ Try.underlying41 rfl (i42 q QK.out.row.key)
        refine step_run (wanted_at (j := 11) (s := 68) (b := true) rfl (by kernel_rfl) (hv 11 (by kernel_rfl))) (v := .agg (mgC q).toArray) (w' := W) ?_ (hK _ _ trivial (Below.refl _ _) rfl hJ)
        unfold execOp
        simp only [Instr.loadAt, Instr.sureAddr, Sem.run_bind, Sem.run_pure, Result.andThen_ok, eval_slot (a := a9) (s := 7) eS1_, hrun]
      · clear hsz
        have eS1_ := slot_of (a := a9) (s := 69) (v := .agg (mgC q).toArray) (hv 12 (by kernel_rfl))
        refine step_callx 14 #[.agg (mgC q).toArray] (wanted_at (j := 11) (s := 68) (b := true) rfl (by kernel_rfl) (hv 11 (by kernel_rfl))) (w' := W) ?_ ((from_any W q ((QK.out.below hJ).more hJ.size) DL.out RL3.out).mono fun e W2 hh => ?_)
        · go_simp
        · obtain ⟨q9, rfl, h1, h2, hB⟩ := hh
          exact ⟨_, rfl, hK _ _ trivial hB ⟨q9, rfl, h1, h2⟩ (hJ.trans (hB.mono hJ.size))⟩
      · clear hsz
        have eS1_ := slot_of (a := a9) (s := 9) (v := .pointer (some ⟨gw, 0, none⟩)) (hf 9 (by kernel_rfl))
        have hrun := run_load_subm 28 gw 0 (rmC q2') (fun j _ => by rw [Nat.zero_add]; exact (MW.out.below hJ MW.out.lt).cell j) _ Try.underlying28 rfl (iRm q2')
        refine step_run (wanted_at (j := 11) (s := 68) (b := true) rfl (by kernel_rfl) (hv 11 (by kernel_rfl))) (v := .agg (rmC q2')) (w' := W) ?_ (hK _ _ trivial (Below.refl _ _) rfl hJ)
        unfold execOp
        simp only [Instr.loadAt, Instr.sureAddr, Sem.run_bind, Sem.run_pure, Result.andThen_ok, eval_slot (a := a9) (s := 9) eS1_, hrun]
      · clear hsz
        have eS1_ := slot_of (a := a9) (s := 71) (v := (.agg (rmC q2'))) (hv 14 (by kernel_rfl))
        obtain ⟨q9, h35, hq9, ok9⟩ := hv 13 (by kernel_rfl)
        have e35 := slot_of (a := a9) (s := 70) (v := .agg (rmC q9)) h35
        refine step_callx 13 #[.agg (rmC q9), .agg (rmC q2')] (wanted_at (j := 11) (s := 68) (b := true) rfl (by kernel_rfl) (hv 11 (by kernel_rfl))) (w' := W) ?_ ((same_r W q9 q2' ok9 ((Q2.out.below hJ).more hJ.size) (by rw [hq9]; exact NRM.out) (by rw [show q9.key = q9.v.row.key from rfl, hq9]; exact KL.out) KL2.out (by rw [show q9.ats = q9.v.ats from rfl, hq9]; exact AL.out) (by rw [show q9.digs = q9.v.digs from rfl, hq9]; exact DL.out) (by rw [show q9.rows = q9.v.rows from rfl, hq9]; exact RL2.out)).mono fun e W2 hh => ?_)
        · go_simp
        · obtain ⟨rfl, hB⟩ := hh
          exact ⟨_, rfl, hK _ _ trivial hB rfl (hJ.trans (hB.mono hJ.size))⟩
      · clear hsz
        have eS1_ := slot_of (a := a9) (s := 68) (v := .bool true) (hv 11 (by kernel_rfl))
        have eS2_ := slot_of (a := a9) (s := 72) (v := .bool true) (hv 15 (by kernel_rfl))
        refine step_run (wanted_none rfl) (v := .bool true) (w' := W) ?_ (hK _ _ trivial (Below.refl _ _) rfl (hJ))
        go_simp
      · clear hsz
        have eS1_ := slot_of (a := a9) (s := 73) (v := .bool true) (hv 16 (by kernel_rfl))
        refine step_run (wanted_none rfl) (v := .bool true) (w' := W) ?_ (hK _ _ trivial (Below.refl _ _) rfl (hJ))
        go_simp
    · intro f9 w6 hC6 hv6 D6 hD6 hJ6
      obtain ⟨a6, hJ, _⟩ := hJ6
      have X6 := hidm_ hJ
      have e2 : f9 2 = .bool true := hv6 17 (by decide)
      clear hv6 hD6 hC6 hJ
      simp only [framed, List.foldl_cons, List.foldl_nil, List.setIfInBounds_toArray, List.set_cons_succ, List.set_cons_zero]
      rw [e2]
      clear e2
      refine hK9 _ _ ?_
      clear hK9
      go_wp2
      go_ret
      exact ⟨rfl, by rw [HG.out]; exact X5.out.trans (X6.out.mono GX.out)⟩

set_option maxRecDepth 100000 in
theorem lifted (os : Os) (started : os.Started) (H : Type) (enc : TypeId × Value → H) :
    ReturnsInHanded {} Try.checked os 3 .any (Rows.msgWritesSpec.pre6 enc Try.prog Try.f3 Rows.msgWritesRow.domain false) (Rows.msgWritesSpec.post enc Try.prog Try.f3 false true false false) := by
  refine returnsInHanded_of_change (C := Try.checked) own_ started (by kernel_rfl) Try.func3
    (ChangeSpec.witness6 (enc := enc) (C := Try.checked) false ⟨#[], #[.agg (rmC rmZ)], []⟩ 8 (by kernel_rfl) (by kernel_rfl) (by kernel_rfl) (by kernel_rfl)) ?_
  intro W base args ds gs before hval0 hW hcnd _
  have hval : ∀ (j : Nat) t v, Try.f3.params[j]? = some t → args[j]? = some v → Value.okWide Try.prog W .any base t v := hval0
  have hW' := hW
  obtain ⟨p, q, hA0, hV, rfl, hfz, hnd⟩ := hW
  have hA : DataW.TrodAll enc Try.prog W 0 (fun _ => true) true Try.f3.params.toList args.toList ds p := hA0
  rw [Try.params3] at hA hval
  obtain ⟨v0, vs0, d0, ds0, p0, q0, hargs, rfl, rfl, h0, r0⟩ := trodAll_cons hA
  obtain ⟨rfl, rfl, rfl⟩ := trodAll_nil r0
  obtain rfl : args = #[v0] := by cases args; simp_all
  obtain ⟨rfl, rfl⟩ := trodVars_none hV
  obtain ⟨q0, rfl, hq0, ha0, hd0, hr0, hb0⟩ := open_rmB (hval 0 28 v0 rfl rfl) h0
  refine (walk W q0 hq0 ha0 (by unfold maxLen at hd0; omega) (by unfold maxLen at hr0; omega) hb0).mono fun e W' ⟨he, hg⟩ => ⟨_, he, ?_⟩
  exact law_post laidOut_ (of_decide_eq_true (by kernel_rfl)) rfl rfl Try.underlying4 rfl hW' hg

theorem over : Rows.msgWritesRow.holds Try.pinned (OpenSpec.ofChange Rows.msgWritesSpec) :=
  OpenClaim.holds_of_wide 3 Try.f3 rfl rfl rfl rfl rfl rfl rfl ⟨rfl, rfl, rfl, rfl, rfl⟩ rfl rfl rfl rfl rfl (by kernel_rfl) Try.func3 (by kernel_rfl)
    (of_decide_eq_true (by kernel_rfl)) (by unfold Func.isWrapper; first | (rw [if_pos (by decide +kernel)]; kernel_rfl) | (rw [if_neg (by decide +kernel)]; exact ⟨rfl, rfl⟩))
    (fun os started H enc _ => lifted os started H enc)

theorem proved : Rows.MsgWritesSaid := over
#print axioms proved
end Go.Proofs.Ytnlipmcnpekifaa.msgWrites
