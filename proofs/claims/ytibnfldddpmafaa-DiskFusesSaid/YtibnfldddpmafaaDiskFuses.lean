/-
  Proved: for all numbers and all rows of calls DiskFuses answers true: with a fuse of n the n-th write or Sync tells ErrDown, and all behind it; those ahead of it are done. No condition.
-/
import Derived.Test.YtibnfldddpmafaaDkn
namespace Go.Proofs.Ytibnfldddpmafaa.diskFuses
open Go.ChangeShapes Go.WideShapes Go.ChangeAt Go.RowKit
set_option linter.unusedVariables false
set_option linter.unusedSimpArgs false

theorem off_fz {B : Nat} {w : World} {p q N j : Nat} (h : FzI B w p q N j) : Calls Try.prog 17 #[.pointer (some ⟨p, 0, none⟩)] w fun e w' => e = .returned (.bool (decide (N ≤ j))) ∧ w = w' := by
  obtain ⟨F, R, _, h⟩ := h
  exact doff_yes h
def FzR (p b o r c0 j U m4 : Nat) (x : ActK) (zf : Int) : Nat → Value → Prop
  | 0, v => v = .pointer (some ⟨p, 0, none⟩)
  | 1, v => v = .slice (some ⟨b, o, none⟩) r c0
  | 2, v => v = .int .i64 (j : Int)
  | 3, v => v = .pointer (some ⟨b, o + j * 5, none⟩)
  | 4, v => v = .pointer (some ⟨b, o + j * 5 + 1, none⟩)
  | 5, v => v = .int .i64 x.at1
  | 6, v => v = .int .u64 (U : Int)
  | 7, v => v = .int .u64 (m4 : Int)
  | 8, v => v = .int .i64 (m4 : Int)
  | 9, v => v = .slice (some ⟨b, o, none⟩) r c0
  | 10, v => v = .int .i64 (j : Int)
  | 11, v => v = .pointer (some ⟨b, o + j * 5, none⟩)
  | 12, v => v = .pointer (some ⟨b, o + j * 5 + 2, none⟩)
  | 13, v => v = .int .u8 ((x.by_.toNat : Nat) : Int)
  | 14, v => v = .agg (rowOf (secB x.by_))
  | 15, v => v = .int .i64 zf
  | 16, v => v = .int .i64 zf
  | _, _ => True
def dpsF : Nat → List Nat
  | 3 => [1, 2]
  | 4 => [3]
  | 5 => [4]
  | 6 => [5]
  | 7 => [6]
  | 8 => [7]
  | 11 => [9, 10]
  | 12 => [11]
  | 13 => [12]
  | 14 => [13]
  | 15 => [0, 8, 14]
  | 16 => [15]
  | _ => []
set_option maxRecDepth 100000 in
set_option maxHeartbeats 16000000 in
theorem walk (w : World) (n : Int) (A0 : Option Addr) (r c0 : Nat) (ls : List ActK) (hn : ls.length = r) (hp : RdK w w.heap.size A0 ls) (hr7 : r ≤ 9223372036854775807) : Calls Try.prog 6 #[.int .i64 n, .slice A0 r c0] w fun e w' => e = .returned (.bool true) ∧ Below w.heap.size w w' := by
  obtain ⟨B, hB⟩ : ∃ B, w.heap.size = B := ⟨_, rfl⟩
  obtain ⟨x0, m, hm⟩ := restK n 10 (by omega) (by omega)
  obtain ⟨N, hN⟩ : ∃ N, 1 + m = N := ⟨_, rfl⟩
  have r1 := hm.u
  have r2 := hm.t
  have r3 := hm.r
  have r4 := hm.wu
  have r5 := hm.wi
  have hmlt := hm.lt
  have r6 : IntKind.i64.wrap (1 + (m : Int)) = (N : Int) := by rw [IntWalk.i64_in _ (by omega)]; omega
  simp only [show ((10 : Nat) : Int) = 10 from rfl] at r2 r3
  have cn := dnew_yes w 4 (by omega) (by omega)
  rw [hB, show ((4 : Nat) : Int) = 4 from rfl] at cn
  have cd := disks_any
  have HP := hidD_ hp
  have HN := hidD_ hn
  have HB := hidD_ hB
  have hN1 : 1 ≤ N := by omega
  have hN2 : N ≤ 10 := by omega
  clear hm hp hn hB hN hmlt
  go_enter Try.func6, Try.ntmps6
  go_upto_region 5 with (first
    | (go_at_call 19; ((with_reducible refine cn.mono ?_); clear cn; rintro e w1 ⟨p, q, rfl, h1, h2⟩; have H1 := hidD_ h1; have X1 := hidD_ h2; clear h1 h2))
    | (go_at_call 11; ((with_reducible refine (cd _).mono ?_); clear cd; rintro e w2 ⟨rfl, hb⟩; have H2 := hidD_ (H1.out.below hb); have X2 := hidD_ (X1.out.trans (hb.mono (by have := X1.out.size; have := HB.out; omega))); clear hb)))
  clear r1 r2 r3 r4 r5 r6
  have cf := dfuse_yes H2.out (N : Int) N (by omega) (by omega)
  go_wp2_with (go_at_call 8; ((with_reducible refine cf.mono ?_); clear cf; rintro e w3 ⟨rfl, h1, h2, _⟩; have H3 := hidD_ (show FzI B w3 p q N 0 from ⟨_, [], Nat.le_refl _, by rw [decide_eq_false (by omega), Nat.sub_zero]; exact h1⟩); have X3 := hidD_ (X2.out.trans h2); clear h1 h2))
  go_loopw [7, 8] (fun k i wr => ∃ j : Nat, j ≤ r ∧ j ≤ 20 ∧ i = .int .i64 j ∧ k = .int .i64 j ∧ Hid (FzI B wr p q N j) ∧ Hid (Below B w wr)) (fun _ i _ => 20 - (intOf i).toNat)
  case atStart => exact ⟨0, Nat.zero_le _, by omega, rfl, rfl, H3, X3⟩
  case round =>
    obtain ⟨j, hjr, hj20, rfl, rfl, HFZ, HXW⟩ := hrel
    by_cases hlt : j < r ∧ j < 20
    · obtain ⟨hltr, hlt2⟩ := hlt
      obtain ⟨b, o, rfl, hbl, hcx⟩ := HP.out (by rw [HN.out]; omega)
      have hjl : j < ls.length := by rw [HN.out]; exact hltr
      obtain ⟨hcx1, hok⟩ := hcx j hjl
      generalize ls[j] = x at hcx1 hok
      have HBW := hidD_ (show B ≤ wr.heap.size by have := HXW.out.size; have := HB.out; omega)
      have HBL := hidD_ (show b < wr.heap.size by have := HXW.out.size; omega)
      have HCX := hidD_ (fun i (hi : i < 5) => (HXW.out.cell (p := ⟨b, o + j * 5 + i, none⟩) (by have := HB.out; show b < B; omega)).trans (hcx1 i hi))
      have c0' := HCX.out 0 (by omega)
      simp only [ActK.row, List.getElem?_toArray, List.getElem?_cons_zero, Nat.add_zero] at c0'
      obtain ⟨zf, hzf⟩ : ∃ z, fzE N j = z := ⟨_, rfl⟩
      have HZF := hidD_ hzf
      obtain ⟨U, m4, hrk⟩ := restK x.at1 4 (by omega) (by omega)
      have HRK := hidD_ hrk
      have t0 : (0 : Int) ≤ (j : Int) := by omega
      have tn : (j : Int) < (r : Int) := by omega
      have t20 : (j : Int) < 20 := by omega
      have d1 : decide ((j : Int) < (r : Int)) = true := decide_eq_true tn
      have d2 : decide ((j : Int) < 20) = true := decide_eq_true t20
      clear hrk hcx hcx1 hzf
      by_cases hz : x.what.tmod 3 = 0
      · have cs := fz_sync HFZ.out
        rw [HZF.out] at cs
        go_upto_region 14 with (go_at_call 14; ((with_reducible refine cs.mono ?_); clear cs; rintro e w4 ⟨rfl, h1, h2⟩; have H2 := hidD_ h1; have X2 := hidD_ (HXW.out.trans h2); clear h1 h2))
        clear d1 d2 hz c0'
        have co := off_fz H2.out
        by_cases hN : N ≤ j + 1
        · have hz : zf = 9 := by rw [← HZF.out]; exact if_pos hN
          subst hz
          rw [decide_eq_true hN] at co
          have hN1 : (N : Int) ≤ (j : Int) + 1 := by omega
          have d1 : decide ((j : Int) + 1 < (N : Int)) = false := decide_eq_false (by omega)
          have d2 : decide ((N : Int) ≤ (j : Int) + 1) = true := decide_eq_true (by omega)
          go_wp2_with (go_at_call 17; ((with_reducible refine co.mono ?_); clear co; rintro e w' ⟨rfl, rfl⟩))
          go_roundw
          case rel => exact ⟨j + 1, by omega, by omega, by go_num, by go_num, H2, X2⟩
          case measure => simp [intOf]; omega
        · have hz : zf = 0 := by rw [← HZF.out]; exact if_neg hN
          subst hz
          rw [decide_eq_false hN] at co
          have hN1 : (j : Int) + 1 < (N : Int) := by omega
          have d1 : decide ((j : Int) + 1 < (N : Int)) = true := decide_eq_true (by omega)
          have d2 : decide ((N : Int) ≤ (j : Int) + 1) = false := decide_eq_false (by omega)
          go_wp2_with (go_at_call 17; ((with_reducible refine co.mono ?_); clear co; rintro e w' ⟨rfl, rfl⟩))
          go_roundw
          case rel => exact ⟨j + 1, by omega, by omega, by go_num, by go_num, H2, X2⟩
          case measure => simp [intOf]; omega
      · have hz1 : (x.what.tmod 3 == 0) = false := by simpa using hz
        go_upto_region 13 with fail
        clear d1 d2 hz hz1 c0'
        refine region_byJF [47, 48, 49, 50, 51, 52, 53, 54, 55, 56, 57, 58, 59, 60, 61, 62, 9] (fun _ => True) (fun _ _ => True) (fun jj v _ => FzR p b o r c0 j U m4 x zf jj v) (fun D2 a W => PhJ dpsF 15 (fun W => Below wr.heap.size wr W) (fun W => FzI B W p q N (j + 1) ∧ Below B w W) D2 a W) (by kernel_rfl) (by kernel_rfl) (by kernel_rfl) (by kernel_rfl) (fun j v w w' hT hr => ?_) (fun j v w hlt hj _ => ?_) trivial ?_ (PhJ.start ((Below.refl _ _).drew)) ?_
        · exact hr
        · rcases j with _ | _ | _ | _ | _ | _ | _ | _ | _ | _ | _ | _ | _ | _ | _ | _ | _ | j
          all_goals first
            | (exfalso; simp [dstOf] at hj; done)
            | trivial
        · refine ⟨fun D2 a W hC hd hsz hf hv hJ hL hW K hK => ?_, fun D2 a W hC hd hsz hf hv hJ hL hW K hK => ?_, fun D2 a W hC hd hsz hf hv hJ hL hW K hK => ?_, fun D2 a W hC hd hsz hf hv hJ hL hW K hK => ?_, fun D2 a W hC hd hsz hf hv hJ hL hW K hK => ?_, fun D2 a W hC hd hsz hf hv hJ hL hW K hK => ?_, fun D2 a W hC hd hsz hf hv hJ hL hW K hK => ?_, fun D2 a W hC hd hsz hf hv hJ hL hW K hK => ?_, fun D2 a W hC hd hsz hf hv hJ hL hW K hK => ?_, fun D2 a W hC hd hsz hf hv hJ hL hW K hK => ?_, fun D2 a W hC hd hsz hf hv hJ hL hW K hK => ?_, fun D2 a W hC hd hsz hf hv hJ hL hW K hK => ?_, fun D2 a W hC hd hsz hf hv hJ hL hW K hK => ?_, fun D2 a W hC hd hsz hf hv hJ hL hW K hK => ?_, fun D2 a W hC hd hsz hf hv hJ hL hW K hK => ?_, fun D2 a W hC hd hsz hf hv hJ hL hW K hK => ?_, fun D2 a W hC hd hsz hf hv hJ hL hW K hK => ?_, trivial⟩
          · clear hsz
            have e1 := slot_of (a := a) (s := 5) (v := .pointer (some ⟨p, 0, none⟩)) (hf 5 (by kernel_rfl))
            refine step_run (wanted_none rfl) (v := .pointer (some ⟨p, 0, none⟩)) (w' := W) ?_ (hK _ _ trivial trivial rfl (hJ.same 0 (by decide) ls0))
            go_simp
          · clear hsz
            have e1 := slot_of (a := a) (s := 1) (v := .slice (some ⟨b, o, none⟩) r c0) (hf 1 (by kernel_rfl))
            refine step_run (wanted_none rfl) (v := .slice (some ⟨b, o, none⟩) r c0) (w' := W) ?_ (hK _ _ trivial trivial rfl (hJ.same 1 (by decide) ls0))
            go_simp
          · clear hsz
            have e1 := slot_of (a := a) (s := 8) (v := .int .i64 (j : Int)) (hf 8 (by kernel_rfl))
            refine step_run (wanted_none rfl) (v := .int .i64 (j : Int)) (w' := W) ?_ (hK _ _ trivial trivial rfl (hJ.same 2 (by decide) ls0))
            go_simp
          · clear hsz
            have e1 := slot_of (a := a) (s := 48) (v := .slice (some ⟨b, o, none⟩) r c0) (hv 1 (by kernel_rfl))
            have e2 := slot_of (a := a) (s := 49) (v := .int .i64 (j : Int)) (hv 2 (by kernel_rfl))
            refine step_run (wanted_none rfl) (v := .pointer (some ⟨b, o + j * 5, none⟩)) (w' := W) ?_ (hK _ _ trivial trivial rfl (hJ.same 3 (by decide) (ls2 (hW 1 (by kernel_rfl)) (hW 2 (by kernel_rfl)))))
            go_simp
          · clear hsz
            have e1 := slot_of (a := a) (s := 50) (v := .pointer (some ⟨b, o + j * 5, none⟩)) (hv 3 (by kernel_rfl))
            refine step_run (wanted_none rfl) (v := .pointer (some ⟨b, o + j * 5 + 1, none⟩)) (w' := W) ?_ (hK _ _ trivial trivial rfl (hJ.same 4 (by decide) (ls1 (hW 3 (by kernel_rfl)))))
            go_simp
          · clear hsz
            have e1 := slot_of (a := a) (s := 51) (v := .pointer (some ⟨b, o + j * 5 + 1, none⟩)) (hv 4 (by kernel_rfl))
            have hO := hJ.get 5 [6, 7, 8, 15] rfl rfl hL
            have cc := (hO.cell (p := ⟨b, o + j * 5 + 1, none⟩) HBL.out).trans (HCX.out 1 (by omega))
            simp only [ActK.row, List.getElem?_toArray, List.getElem?_cons_zero, List.getElem?_cons_succ] at cc
            refine step_run (wanted_none rfl) (v := .int .i64 x.at1) (w' := W) ?_ (hK _ _ trivial trivial rfl (hJ.same 5 (by decide) (ls1 (hW 4 (by kernel_rfl)))))
            go_simp
          · clear hsz
            have e1 := slot_of (a := a) (s := 52) (v := .int .i64 x.at1) (hv 5 (by kernel_rfl))
            have h1 := HRK.out.u
            refine step_run (wanted_none rfl) (v := .int .u64 (U : Int)) (w' := W) ?_ (hK _ _ trivial trivial rfl (hJ.same 6 (by decide) (ls1 (hW 5 (by kernel_rfl)))))
            go_simp
          · clear hsz
            have e1 := slot_of (a := a) (s := 53) (v := .int .u64 (U : Int)) (hv 6 (by kernel_rfl))
            have h1 := HRK.out.t
            have h2 := HRK.out.r
            have h3 := HRK.out.wu
            simp only [show ((4 : Nat) : Int) = 4 from rfl] at h1 h2
            refine step_run (wanted_none rfl) (v := .int .u64 (m4 : Int)) (w' := W) ?_ (hK _ _ trivial trivial rfl (hJ.same 7 (by decide) (ls1 (hW 6 (by kernel_rfl)))))
            go_simp
          · clear hsz
            have e1 := slot_of (a := a) (s := 54) (v := .int .u64 (m4 : Int)) (hv 7 (by kernel_rfl))
            have h1 := HRK.out.wi
            refine step_run (wanted_none rfl) (v := .int .i64 (m4 : Int)) (w' := W) ?_ (hK _ _ trivial trivial rfl (hJ.same 8 (by decide) (ls1 (hW 7 (by kernel_rfl)))))
            go_simp
          · clear hsz
            have e1 := slot_of (a := a) (s := 1) (v := .slice (some ⟨b, o, none⟩) r c0) (hf 1 (by kernel_rfl))
            refine step_run (wanted_none rfl) (v := .slice (some ⟨b, o, none⟩) r c0) (w' := W) ?_ (hK _ _ trivial trivial rfl (hJ.same 9 (by decide) ls0))
            go_simp
          · clear hsz
            have e1 := slot_of (a := a) (s := 8) (v := .int .i64 (j : Int)) (hf 8 (by kernel_rfl))
            refine step_run (wanted_none rfl) (v := .int .i64 (j : Int)) (w' := W) ?_ (hK _ _ trivial trivial rfl (hJ.same 10 (by decide) ls0))
            go_simp
          · clear hsz
            have e1 := slot_of (a := a) (s := 56) (v := .slice (some ⟨b, o, none⟩) r c0) (hv 9 (by kernel_rfl))
            have e2 := slot_of (a := a) (s := 57) (v := .int .i64 (j : Int)) (hv 10 (by kernel_rfl))
            refine step_run (wanted_none rfl) (v := .pointer (some ⟨b, o + j * 5, none⟩)) (w' := W) ?_ (hK _ _ trivial trivial rfl (hJ.same 11 (by decide) (ls2 (hW 9 (by kernel_rfl)) (hW 10 (by kernel_rfl)))))
            go_simp
          · clear hsz
            have e1 := slot_of (a := a) (s := 58) (v := .pointer (some ⟨b, o + j * 5, none⟩)) (hv 11 (by kernel_rfl))
            refine step_run (wanted_none rfl) (v := .pointer (some ⟨b, o + j * 5 + 2, none⟩)) (w' := W) ?_ (hK _ _ trivial trivial rfl (hJ.same 12 (by decide) (ls1 (hW 11 (by kernel_rfl)))))
            go_simp
          · clear hsz
            have e1 := slot_of (a := a) (s := 59) (v := .pointer (some ⟨b, o + j * 5 + 2, none⟩)) (hv 12 (by kernel_rfl))
            have hO := hJ.get 13 [14, 15] rfl rfl hL
            have cc := (hO.cell (p := ⟨b, o + j * 5 + 2, none⟩) HBL.out).trans (HCX.out 2 (by omega))
            simp only [ActK.row, List.getElem?_toArray, List.getElem?_cons_zero, List.getElem?_cons_succ] at cc
            refine step_run (wanted_none rfl) (v := .int .u8 ((x.by_.toNat : Nat) : Int)) (w' := W) ?_ (hK _ _ trivial trivial rfl (hJ.same 13 (by decide) (ls1 (hW 12 (by kernel_rfl)))))
            go_simp
          · clear hsz
            have e1 := slot_of (a := a) (s := 60) (v := .int .u8 ((x.by_.toNat : Nat) : Int)) (hv 13 (by kernel_rfl))
            have hF := way_down hJ.cl [15] 14 15 rfl rfl hL
            have hO := hJ.old hF
            refine step_callx 13 #[.int .u8 ((x.by_.toNat : Nat) : Int)] (wanted_none rfl) (w' := W) ?_ ((sector_any W x.by_ _ rfl).mono fun e W2 hh => ?_)
            · go_simp
            · obtain ⟨rfl, hb⟩ := hh
              exact ⟨_, rfl, hK _ _ trivial trivial rfl (hJ.turn 14 (by decide) (ls1 (hW 13 (by kernel_rfl))) hF (hO.trans (hb.mono hO.size)))⟩
          · clear hsz
            have e1 := slot_of (a := a) (s := 47) (v := .pointer (some ⟨p, 0, none⟩)) (hv 0 (by kernel_rfl))
            have e2 := slot_of (a := a) (s := 55) (v := .int .i64 (m4 : Int)) (hv 8 (by kernel_rfl))
            have e3 := slot_of (a := a) (s := 61) (v := .agg (rowOf (secB x.by_))) (hv 14 (by kernel_rfl))
            have hO := hJ.old hL
            have cw := fz_write (HFZ.out.below hO) (Nat.le_trans HBW.out hO.size) (by omega) m4 HRK.out.lt (secB x.by_) (secB_len _)
            rw [HZF.out] at cw
            refine step_callx 12 #[.pointer (some ⟨p, 0, none⟩), .int .i64 (m4 : Int), .agg (rowOf (secB x.by_))] (wanted_none rfl) (w' := W) ?_ (cw.mono fun e W2 hh => ?_)
            · go_simp
            · obtain ⟨rfl, k1, k2⟩ := hh
              exact ⟨_, rfl, hK _ _ trivial trivial rfl (hJ.store (ls3 (hW 0 (by kernel_rfl)) (hW 8 (by kernel_rfl)) (hW 14 (by kernel_rfl))) ⟨k1, (HXW.out.trans (hO.mono HBW.out)).trans k2⟩)⟩
          · clear hsz
            have e1 := slot_of (a := a) (s := 62) (v := .int .i64 zf) (hv 15 (by kernel_rfl))
            refine step_run (wanted_none rfl) (v := .int .i64 zf) (w' := W) ?_ (hK _ _ trivial trivial rfl (hJ.same 16 (by decide) (ls1 (hW 15 (by kernel_rfl)))))
            go_simp
        · intro f wz hC2 hv2 L3 hL3 hJ3
          obtain ⟨aE, hJ, hfr⟩ := hJ3
          have k0 := hJ.fin (hL3 15 (by decide))
          have H2 := hidD_ k0.1
          have X2 := hidD_ k0.2
          have f0 : f 9 = .int .i64 zf := hv2 16 (by decide)
          simp only [framed, List.foldl_cons, List.foldl_nil, List.setIfInBounds_toArray, List.set_cons_succ, List.set_cons_zero]
          rw [f0]
          clear hv2 hC2 f0 hJ hfr hL3 k0
          rename_i Kd hKd
          refine hKd _ _ ?_
          have co := off_fz H2.out
          by_cases hN : N ≤ j + 1
          · have hz : zf = 9 := by rw [← HZF.out]; exact if_pos hN
            subst hz
            rw [decide_eq_true hN] at co
            have hN1 : (N : Int) ≤ (j : Int) + 1 := by omega
            have d1 : decide ((j : Int) + 1 < (N : Int)) = false := decide_eq_false (by omega)
            have d2 : decide ((N : Int) ≤ (j : Int) + 1) = true := decide_eq_true (by omega)
            go_wp2_with (go_at_call 17; ((with_reducible refine co.mono ?_); clear co; rintro e w' ⟨rfl, rfl⟩))
            go_roundw
            case rel => exact ⟨j + 1, by omega, by omega, by go_num, by go_num, H2, X2⟩
            case measure => simp [intOf]; omega
          · have hz : zf = 0 := by rw [← HZF.out]; exact if_neg hN
            subst hz
            rw [decide_eq_false hN] at co
            have hN1 : (j : Int) + 1 < (N : Int) := by omega
            have d1 : decide ((j : Int) + 1 < (N : Int)) = true := decide_eq_true (by omega)
            have d2 : decide ((N : Int) ≤ (j : Int) + 1) = false := decide_eq_false (by omega)
            go_wp2_with (go_at_call 17; ((with_reducible refine co.mono ?_); clear co; rintro e w' ⟨rfl, rfl⟩))
            go_roundw
            case rel => exact ⟨j + 1, by omega, by omega, by go_num, by go_num, H2, X2⟩
            case measure => simp [intOf]; omega
    · have hend : (j : Int) < (r : Int) → ¬ (j : Int) < 20 := by omega
      have cc0 : ∃ F R, R.length ≤ j ∧ DkI B wr p q 4 F R (N - j) (decide (N ≤ j)) := HFZ.out
      obtain ⟨F, R, hRl, hD⟩ := cc0
      have cc : Calls Try.prog 9 #[.pointer (some ⟨p, 0, none⟩), .slice none 0 0] wr (fun e w' => e = .returned (.tuple #[]) ∧ DkI B w' p q 4 (appl F (kept R [])) [] 0 false ∧ Below B wr w' ∧ UnT dkT wr w') :=
        dcrash_any hD (by have := HXW.out.size; have := HB.out; omega) (by omega) none 0 0 [] rfl (fun _ _ _ j hj => absurd hj (by omega))
      by_cases hltr : j < r
      · have d1 : decide ((j : Int) < (r : Int)) = true := decide_eq_true (by omega)
        have d2 : decide ((j : Int) < 20) = false := decide_eq_false (by omega)
        have d3 : ¬ (j : Int) < 20 := by omega
        clear hend hlt
        go_wp2_with (first
          | (go_at_call 9; ((with_reducible refine cc.mono ?_); clear cc; rintro e w4 ⟨rfl, h1, h2, _⟩; have X4 := hidD_ (HXW.out.trans h2); have co := doff_yes h1; have cs := dsync_ok h1 (by omega); clear h1 h2))
          | (go_at_call 17; ((with_reducible refine co.mono ?_); clear co; rintro e w' ⟨rfl, rfl⟩))
          | (go_at_call 14; ((with_reducible refine cs.mono ?_); clear cs; rintro e w5 ⟨rfl, _, h2, _⟩; have X5 := hidD_ (X4.out.trans h2); clear h2)))
        go_ret
        exact ⟨rfl, by rw [HB.out]; exact X5.out⟩
      · have d1 : decide ((j : Int) < (r : Int)) = false := decide_eq_false (by omega)
        have d3 : ¬ (j : Int) < (r : Int) := by omega
        clear hend hlt
        go_wp2_with (first
          | (go_at_call 9; ((with_reducible refine cc.mono ?_); clear cc; rintro e w4 ⟨rfl, h1, h2, _⟩; have X4 := hidD_ (HXW.out.trans h2); have co := doff_yes h1; have cs := dsync_ok h1 (by omega); clear h1 h2))
          | (go_at_call 17; ((with_reducible refine co.mono ?_); clear co; rintro e w' ⟨rfl, rfl⟩))
          | (go_at_call 14; ((with_reducible refine cs.mono ?_); clear cs; rintro e w5 ⟨rfl, _, h2, _⟩; have X5 := hidD_ (X4.out.trans h2); clear h2)))
        go_ret
        exact ⟨rfl, by rw [HB.out]; exact X5.out⟩

set_option maxRecDepth 100000 in
theorem lifted (os : Os) (started : os.Started) (H : Type) (enc : TypeId × Value → H) :
    ReturnsInHanded {} Try.checked os 6 .any (Rows.diskFusesSpec.pre6 enc Try.prog Try.f6 Rows.diskFusesRow.domain false) (Rows.diskFusesSpec.post enc Try.prog Try.f6 false true false false) := by
  refine returnsInHanded_of_change (C := Try.checked) own_ started (by kernel_rfl) Try.func6
    (ChangeSpec.witness6 (enc := enc) (C := Try.checked) false ⟨#[], #[.int .i64 0, .slice none 0 0], []⟩ 8 (by kernel_rfl) (by kernel_rfl) (by kernel_rfl) (by kernel_rfl)) ?_
  intro W base args ds gs before hval0 hW hcnd _
  have hval : ∀ (j : Nat) t v, Try.f6.params[j]? = some t → args[j]? = some v → Value.okWide Try.prog W .any base t v := hval0
  have hW' := hW
  obtain ⟨p, q, hA0, hV, rfl, hfz, hnd⟩ := hW
  have hA : DataW.TrodAll enc Try.prog W 0 (fun _ => true) true Try.f6.params.toList args.toList ds p := hA0
  rw [Try.params6] at hA hval
  obtain ⟨v0, vs0, d0, ds0, p0, q0, hargs, rfl, rfl, h0, r0⟩ := trodAll_cons hA
  obtain ⟨v1, vs1, d1, ds1, p1, q1, rfl, rfl, rfl, h1, r1⟩ := trodAll_cons r0
  obtain ⟨rfl, rfl, rfl⟩ := trodAll_nil r1
  obtain rfl : args = #[v0, v1] := by cases args; simp_all
  obtain ⟨rfl, rfl⟩ := trodVars_none hV
  obtain ⟨a0, rfl, rfl, rfl, w0⟩ := open_int Try.underlying3 (hval 0 3 v0 rfl rfl) h0
  obtain ⟨A1, l1, c1, rfl, hp1, hl1, hm1⟩ := open_actsK Try.underlying41 Try.underlying50 ⟨rfl, rfl⟩ ⟨rfl, rfl⟩ ⟨rfl, rfl⟩ ⟨rfl, rfl⟩ ⟨rfl, rfl⟩ Try.underlying3 (by kernel_rfl) Try.underlying5 (by kernel_rfl) Try.underlying48 (by kernel_rfl) Try.underlying4 (by kernel_rfl) (by kernel_rfl) (hval 1 41 v1 rfl rfl) h1
  refine (walk W a0 A1 l1.length c1 l1 rfl hp1 (by unfold maxLen at hm1; omega)).mono fun e W' ⟨he, hg⟩ => ⟨_, he, ?_⟩
  exact law_post laidOut_ (of_decide_eq_true (by kernel_rfl)) rfl rfl Try.underlying4 rfl hW' hg

theorem over : Rows.diskFusesRow.holds Try.pinned (OpenSpec.ofChange Rows.diskFusesSpec) :=
  OpenClaim.holds_of_wide 6 Try.f6 rfl rfl rfl rfl rfl rfl rfl ⟨rfl, rfl, rfl, rfl, rfl⟩ rfl rfl rfl rfl rfl (by kernel_rfl) Try.func6 (by kernel_rfl)
    (of_decide_eq_true (by kernel_rfl)) (by unfold Func.isWrapper; first | (rw [if_pos (by decide +kernel)]; kernel_rfl) | (rw [if_neg (by decide +kernel)]; exact ⟨rfl, rfl⟩))
    (fun os started H enc _ => lifted os started H enc)

theorem proved : Rows.DiskFusesSaid := over
#print axioms proved
end Go.Proofs.Ytibnfldddpmafaa.diskFuses
