/-
  Proved: for all numbers and rows of calls LogWrites answers true: records are written as the chapter says, or have no room; they are there again. No condition.
-/
import Derived.Test.YtdlciehboimciaaLhi
import Derived.Test.YtdlciehboimciaaDkn
namespace Go.Proofs.Ytdlciehboimciaa.logWrites
set_option maxRecDepth 100000
open Go.ChangeShapes Go.WideShapes Go.ChangeAt Go.RowKit
set_option linter.unusedVariables false
set_option linter.unusedSimpArgs false

theorem infoAct : (Try.prog.info? 34).map (·.size) = some 2 := by kernel_rfl
/-- What an image tells of a log. -/
theorem holds_image {n t a : Nat} {R F : List (List UInt8)} (h : HoldsL n t a R F) (h4 : 4 ≤ n) : (F.flatten.drop (t % 2 * 64)).take 64 = headB t a (allB R).length := by
  have hl := h.len
  have h64 := h.s64
  rw [← h.hd, ← (flat_split h64 (t % 2) (by omega)).2, drop_cons_getD (t % 2) (by omega), List.flatten_cons, List.take_append_of_le_length (by rw [getD_mem64 h64 _ (by omega)]; omega), List.take_of_length_le (by rw [getD_mem64 h64 _ (by omega)]; omega)]
set_option maxRecDepth 100000 in
set_option maxHeartbeats 32000000 in
theorem walk (w : World) (z : Int) (A0 : Option Addr) (n0 c0 : Nat) (l : List LAct) (hn : l.length = n0) (hp : RdLA w w.heap.size A0 l) (hn9 : n0 ≤ 9223372036854775807) : Calls Try.prog 3 #[.int .i64 z, .slice A0 n0 c0] w fun e w' => e = .returned (.bool true) ∧ Below w.heap.size w w' := by
  obtain ⟨y, hy, hyb⟩ := u64_natK z
  obtain ⟨k, hk⟩ : ∃ k, y % 14 = k := ⟨_, rfl⟩
  have s3 : (y : Int).tmod 14 = (k : Int) := by rw [Int.tmod_eq_emod_of_nonneg (by omega)]; omega
  have s4 : IntKind.u64.wrap (k : Int) = (k : Int) := IntWalk.u64_in _ (by omega)
  have s5 : IntKind.i64.wrap (k : Int) = (k : Int) := IntWalk.i64_in _ (by omega)
  obtain ⟨n, hnk⟩ : ∃ n, 4 + k = n := ⟨_, rfl⟩
  have s6 : (4 : Int) + (k : Int) = (n : Int) := by omega
  have hk14 : k < 14 := by omega
  have h4 : 4 ≤ n := by omega
  have h9 : n ≤ 8192 := by omega
  obtain ⟨room, hroom⟩ : ∃ x, roomN n = x := ⟨_, rfl⟩
  have hroom6 : room ≤ 10000 := by rw [← hroom]; unfold roomN secsA; omega
  have HRM := hidg_ hroom
  have HN := hidg_ hn
  have HP := hidg_ hp
  have cn := dnew_yes w n (by omega) h9
  clear hk hyb hnk hroom hn hp
  go_enter Try.func3, Try.ntmps3
  go_upto_region 6 with (first
    | (go_at_call 7; ((with_reducible refine cn.mono ?_); clear cn; rintro e w1 ⟨p, q, rfl, h1, hb⟩; have D1 := hidg_ (show DkJ w.heap.size w1 p q n ⟨zsecs n, [], 0, false⟩ from h1); have B1 := hidg_ hb; clear h1 hb))
    | (go_at_call 8; have cp := format_v D1.out B1.out.size h4 h9; ((with_reducible refine cp.mono ?_); clear cp; rintro e w2 ⟨g, rfl, hL, hb⟩; have L2 := hidg_ hL; have B2 := hidg_ (B1.out.trans hb); clear hL hb))
    | (go_at_call 9; have cp := logs_any w2; ((with_reducible refine cp.mono ?_); clear cp; rintro e w3 ⟨rfl, hb⟩; have L3 := hidg_ (L2.out.below hb); have B3 := hidg_ (B2.out.trans (hb.mono B2.out.size)); clear hb)))
  clear s3 s4 s5 s6 hy D1 L2
  go_wp2
  go_loopw [10, 11, 12, 13] (fun hv tv av i wr => ∃ (j kk t a : Nat) (Ah : Option Addr) (ch : Nat) (R : List (List UInt8)), j ≤ n0 ∧ j ≤ 15 ∧ t ≤ 1 + j ∧ i = .int .i64 j ∧ tv = .int .i64 t ∧ av = .int .i64 a ∧ hv = .slice Ah kk ch ∧ Hid (∃ s : DkX, s.fu = 0 ∧ LogV w.heap.size wr g p q n t a R s) ∧ Hid (RecT wr w.heap.size (.slice Ah kk ch) R) ∧ Hid (R.length = kk) ∧ Hid (Below w.heap.size w wr)) (fun _ _ _ i _ => 15 - (intOf i).toNat)
  case atStart => exact ⟨0, 0, 1, 0, none, 0, [], Nat.zero_le _, Nat.zero_le _, by omega, rfl, rfl, rfl, rfl, hidg_ ⟨_, rfl, L3.out⟩, hidg_ (RecT.nil_ _ _), hidg_ rfl, B3⟩
  case round =>
    obtain ⟨j, kk, t, a, Ah, ch, R, hj, hj15, htj, rfl, rfl, rfl, rfl, HLS, HRT, HRK, HWX⟩ := hrel
    by_cases hlt : j < n0 ∧ j < 15
    · obtain ⟨hl, hl2⟩ := hlt
      have d1 : decide ((j : Int) < (n0 : Int)) = true := decide_eq_true (by omega)
      have d2 : decide (j < n0) = true := decide_eq_true hl
      have d3 : decide ((j : Int) < 15) = true := decide_eq_true (by omega)
      have d4 : decide (j < 15) = true := decide_eq_true hl2
      obtain ⟨j1, hj1⟩ : ∃ x, j + 1 = x := ⟨_, rfl⟩
      have HJ1 := hidg_ hj1
      have ej1 : (j : Int) + 1 = (j1 : Int) := by omega
      obtain ⟨b, off, rfl, hbl, hcs⟩ := HP.out (by rw [HN.out]; omega)
      obtain ⟨x1, x2, x3, x4⟩ := hcs j (by rw [HN.out]; exact hl)
      obtain ⟨x, hx⟩ : ∃ x, l[j]'(by rw [HN.out]; exact hl) = x := ⟨_, rfl⟩
      rw [hx] at x1 x2 x3 x4
      obtain ⟨rep, recs, Ax, cx⟩ := x
      dsimp only at x1 x2 x3 x4
      obtain ⟨nx, hnx⟩ : ∃ y, recs.length = y := ⟨_, rfl⟩
      rw [hnx] at x2 x4
      have y1 := (HWX.out.cell (p := ⟨b, off + 2 * j, none⟩) hbl).trans x1
      have y2 := (HWX.out.cell (p := ⟨b, off + 2 * j + 1, none⟩) hbl).trans x2
      rw [Nat.mul_comm 2 j] at y1 y2
      have HCE := hidg_ (show ∀ i, i < (#[Value.bool rep, Value.slice Ax nx cx] : Array Value).size → wr.cell? ⟨b, off + j * 2 + i, none⟩ = (#[Value.bool rep, Value.slice Ax nx cx] : Array Value)[i]? from fun i hi => by
        have h2 : i < 2 := hi
        rcases i with _ | _ | i
        · exact y1
        · exact y2
        · omega)
      have cfw := actFew_any wr rep Ax nx cx recs hnx ((x3.below HWX.out (Nat.le_refl _)).more HWX.out.size) x4
      obtain ⟨R1, hR1⟩ : ∃ y, fewL recs 3 100 = y := ⟨_, rfl⟩
      obtain ⟨K, hK⟩ : ∃ y, min 3 nx = y := ⟨_, rfl⟩
      rw [hR1, hK] at cfw
      unfold FewP at cfw
      have hK3 : K ≤ 3 := by omega
      have HR1L := hidg_ (show R1.length = K by rw [← hR1, fewL_len, hnx, hK])
      have HR1S := hidg_ (show ∀ r ∈ R1, r.length ≤ 100 by rw [← hR1]; exact fewL_small recs 3 100)
      have HR1B := hidg_ (show (allB R1).length ≤ 324 by rw [← hR1]; exact fewL_allB recs 3 100)
      have t0 : (0 : Int) ≤ (j : Int) := by omega
      have tn : (j : Int) < (n0 : Int) := by omega
      have HTJ := hidg_ htj
      have HY1 := hidg_ (fun W (hW : Below w.heap.size w W) => show W.cell? ⟨b, off + j * 2, none⟩ = some (.bool rep) by rw [Nat.mul_comm j 2]; exact (hW.cell (p := ⟨b, off + 2 * j, none⟩) hbl).trans x1)
      clear x1 x2 x3 x4 hcs hx hnx hR1 hK y1 y2 htj hbl
      go_upto_region 12 with (first
        | (refine wpList_load_sub rfl 34 (.tmp 61) rfl b (off + j * 2) rfl #[.bool rep, .slice Ax nx cx] HCE.out _ Try.underlying34 rfl infoAct ?_)
        | (go_at_call 10; ((with_reducible refine cfw.mono ?_); clear cfw; rintro e w5 ⟨A5, c5, rfl, hT, hb⟩; have B5 := hidg_ hb; have T5 := hidg_ (hT.lower HWX.out.size); have X5 := hidg_ (HWX.out.trans (hb.mono HWX.out.size)); clear hT hb)))
      obtain ⟨s, HFv, HLv⟩ := HLS.out
      have HF := hidg_ HFv
      have L5 := hidg_ (HLv.below B5.out)
      have R5 := hidg_ (HRT.out.below B5.out)
      have hy5 := HY1.out w5 X5.out
      clear HFv HLv HLS HRT HCE HY1
      cases rep with
      | true =>
        have HALLR := hidg_ (allL_any (w := w5) (A := A5) (La := R1) K c5 HR1L.out T5.out.pta (by have := HR1B.out; omega))
        obtain ⟨c1, hc1⟩ : ∃ x, (allB R1).length = x := ⟨_, rfl⟩
        have hz1 : (strOf (allB R1)).size = c1 := by rw [strOf_size, hc1]
        have HC1 := hidg_ hc1
        have hc16 : c1 ≤ 1000 := by have := HR1B.out; omega
        clear hc1
        by_cases hfit : c1 ≤ room
        · have d5 : decide ((room : Int) < (c1 : Int)) = false := decide_eq_false (by omega)
          have d6 : decide (room < c1) = false := decide_eq_false (by omega)
          have cr := replace_v0 L5.out HF.out X5.out.size h4 h9 (by have := HTJ.out; omega) R1 K A5 c5 HR1L.out T5.out.pta (by rw [HC1.out, HRM.out]; exact hfit)
          obtain ⟨tt, htt⟩ : ∃ x, t + 1 = x := ⟨_, rfl⟩
          obtain ⟨aa, haa⟩ : ∃ x, 1 - a = x := ⟨_, rfl⟩
          rw [htt, haa] at cr
          have ha1 := L5.out.ho.ha
          have ett : (t : Int) + 1 = (tt : Int) := by omega
          have eaa : (1 : Int) - (a : Int) = (aa : Int) := by omega
          have htt9 : tt ≤ 100 := by have := HTJ.out; omega
          have HTT := hidg_ (show tt ≤ j + 2 by have := HTJ.out; omega)
          have ha9 : a ≤ 1 := ha1
          clear htt haa hfit
          go_upto_region 31 with (first
            | (go_at_call 11; ((with_reducible refine cr.mono ?_); clear cr; rintro e w6 ⟨rfl, s6, hf6, hL6, hb6, hu6⟩; have F6 := hidg_ hf6; have L6 := hidg_ hL6; have X6 := hidg_ (X5.out.trans hb6); have T6 := hidg_ (T5.out.unt hu6 (by decide) (by decide)); clear hf6 hL6 hb6 hu6))
            | (go_at_call 12; have ca := allL_any (w := w6) (A := A5) (La := R1) K c5 HR1L.out T6.out.pta (by rw [HC1.out]; omega); ((with_reducible refine ca.mono ?_); clear ca; rintro e w7 ⟨rfl, hb⟩; have L7 := hidg_ (L6.out.below hb); have X7 := hidg_ (X6.out.trans (hb.mono X6.out.size)); have T7 := hidg_ (T6.out.below hb); clear hb))
            | (go_at_call 13; have cp := refRoomL_any n h4 h9 w7; rw [HRM.out] at cp; ((with_reducible refine cp.mono ?_); clear cp; rintro e w' ⟨rfl, rfl⟩)))
          have HL := L7
          have HR := T7
          have HX := X7
          have HK := HR1L
          have HF7 := F6
          clear HF ett eaa d5 d6 hz1 L5 R5 T5 L6 T6 X6 L7 T7 X7 F6 HC1
          have HF := HF7
          clear HF7
          generalize R1 = RR at *
          generalize K = kk at *
          generalize s6 = s at *
          generalize A5 = Ah at *
          generalize c5 = ch at *
          obtain ⟨c, hc⟩ : ∃ x, (allB RR).length = x := ⟨_, rfl⟩
          obtain ⟨AB, hAB⟩ : ∃ x, allB RR = x := ⟨_, rfl⟩
          have HC := hidg_ hc
          have HAB := hidg_ hAB
          have hHO := HL.out.ho
          have hcr : c ≤ room := by have := hHO.hc; rw [hc, HRM.out] at this; exact this
          have haa := hHO.ha
          have cim := dimage_any HL.out.dk
          have e0 : appl s.F s.R = s.F := by rw [HL.out.sR, appl_nil]
          obtain ⟨NN, hNN⟩ : ∃ x, n * 64 = x := ⟨_, rfl⟩
          obtain ⟨FL, hFL⟩ : ∃ x, s.F.flatten = x := ⟨_, rfl⟩
          rw [e0, hNN, hFL] at cim
          have hFLN : FL.length = NN := by rw [← hFL, flat_len hHO.s64, hHO.len, hNN]
          obtain ⟨t2, ht2⟩ : ∃ x, tt % 2 = x := ⟨_, rfl⟩
          obtain ⟨lo, hlo⟩ : ∃ x, t2 * 64 = x := ⟨_, rfl⟩
          obtain ⟨hi, hhi⟩ : ∃ x, lo + 64 = x := ⟨_, rfl⟩
          obtain ⟨ar, har⟩ : ∃ x, aa * room = x := ⟨_, rfl⟩
          obtain ⟨at_, hat⟩ : ∃ x, 128 + ar = x := ⟨_, rfl⟩
          obtain ⟨ae, hae⟩ : ∃ x, at_ + c = x := ⟨_, rfl⟩
          obtain ⟨lf, hlf⟩ : ∃ x, room - c = x := ⟨_, rfl⟩
          have har1 : ar ≤ room := by
            rw [← har]
            have := Nat.mul_le_mul_right room haa
            omega
          have hfit : at_ + room ≤ NN := by
            have h1 : firstS n aa * 64 = at_ := by rw [← hat, ← har, ← HRM.out]; unfold firstS roomN; rw [Nat.add_mul, Nat.mul_assoc]
            have h2 : firstS n aa + secsA n ≤ n := by
              have := Nat.mul_le_mul_right (secsA n) haa
              unfold firstS
              unfold secsA at *
              omega
            have h3 : room = secsA n * 64 := by rw [← HRM.out]; rfl
            omega
          have E1 : (FL.drop lo).take (hi - lo) = headB tt aa c := by rw [show hi - lo = 64 by omega, ← hFL, ← hlo, ← ht2, ← hc]; exact holds_image hHO h4
          have E2 : (FL.drop at_).take (ae - at_) = AB := by
            rw [show ae - at_ = c by omega, ← hFL, ← hc, ← hAB]
            have h1 : firstS n aa * 64 = at_ := by rw [← hat, ← har, ← HRM.out]; unfold firstS roomN; rw [Nat.add_mul, Nat.mul_assoc]
            rw [← h1]
            exact hHO.by_
          obtain ⟨HB, hHB⟩ : ∃ x, headB tt aa c = x := ⟨_, rfl⟩
          have hs1 := fun W => str_mid FL NN lo hi hFLN (by omega) (by omega) W
          have hs2 := fun W => str_mid FL NN at_ ae hFLN (by omega) (by omega) W
          rw [E1, hHB] at hs1
          rw [E2] at hs2
          have hABl : (strOf AB).size = c := by rw [strOf_size, ← hAB, hc]
          have q1 : (tt : Int).tmod 2 = (t2 : Int) := by rw [Int.tmod_eq_emod_of_nonneg (by omega)]; omega
          have q2 : (t2 : Int) * 64 = (lo : Int) := by omega
          have q3 : (lo : Int) + 64 = (hi : Int) := by omega
          have q4 : (at_ : Int) + (c : Int) = (ae : Int) := by omega
          have q5 : (room : Int) - (c : Int) = (lf : Int) := by omega
          have q6 : (128 : Int) + (ar : Int) = (at_ : Int) := by omega
          have v1 : IntKind.i64.wrap (lo : Int) = (lo : Int) := IntWalk.i64_in _ (by omega)
          have v2 : IntKind.i64.wrap (hi : Int) = (hi : Int) := IntWalk.i64_in _ (by omega)
          have v3 : IntKind.i64.wrap (ae : Int) = (ae : Int) := IntWalk.i64_in _ (by omega)
          have v4 : IntKind.i64.wrap (lf : Int) = (lf : Int) := IntWalk.i64_in _ (by omega)
          have v5 : IntKind.i64.wrap (t2 : Int) = (t2 : Int) := IntWalk.i64_in _ (by omega)
          have hb1 : c ≤ 1000000 := by omega
          have hb2 : ar ≤ 1000000 := by omega
          have hb3 : at_ ≤ 1000000 := by omega
          have htt6 : tt ≤ 1000000 := by omega
          have HCR := hidg_ hcr
          have HLF := hidg_ hlf
          have HHB := hidg_ hHB
          have HAA := hidg_ haa
          have HFLN := hidg_ hFLN
          have HARR := hidg_ har
          clear hc hAB hHO hcr haa e0 hNN hFL hFLN ht2 hlo hhi har hat hae hlf har1 hfit E1 E2 hHB
          have q7 : (aa : Int) * (room : Int) = (ar : Int) := by have := HARR.out; rw [← this]; simp
          go_upto_region 34 with (first
            | (go_at_call 16; ((with_reducible refine cim.mono ?_); clear cim; rintro e wi ⟨Ai, ci, rfl, hO, hb⟩; have cvi := conv_strn hO.rd.1 NN ci HFLN.out; have Xi := hidg_ (HX.out.trans (hb.mono HX.out.size)); have Li := hidg_ (HL.out.below hb); have Ri := hidg_ (HR.out.below hb); clear hO hb))
            | (go_at_call 12; have ca := allL_any (w := wi) (A := Ah) (La := RR) kk ch HK.out Ri.out.pta (by rw [HC.out]; exact hb1); rw [HAB.out] at ca; ((with_reducible refine ca.mono ?_); clear ca; rintro e wl ⟨rfl, hb⟩; have Xl := hidg_ (Xi.out.trans (hb.mono Xi.out.size)); have Ll := hidg_ (Li.out.below hb); have Rl := hidg_ (Ri.out.below hb); clear hb))
            | (go_at_call 13; have cp := refRoomL_any n h4 h9 wl; rw [HRM.out] at cp; ((with_reducible refine cp.mono ?_); clear cp; rintro e w' ⟨rfl, rfl⟩)))
          clear q7 q6 cvi
          have QH := hidg_ (fun W (hW : Below wl.heap.size wl W) => (headL_any W tt aa c htt6 HAA.out hb1).mono fun e w' hh => (show e = .returned (.string (strOf HB)) ∧ Below wl.heap.size wl w' from ⟨by rw [HHB.out] at hh; exact hh.1, hW.trans (hh.2.mono hW.size)⟩))
          have QT := hidg_ (fun W (hW : Below wl.heap.size wl W) => (lturn_any (Ll.out.below hW).lg).mono fun e w' hh => (show e = .returned (.int .i64 (tt : Int)) ∧ Below wl.heap.size wl w' from ⟨hh.1, hh.2 ▸ hW⟩))
          have QL := hidg_ (fun W (hW : Below wl.heap.size wl W) => (lleft_any (Ll.out.below hW).lg (Ll.out.below hW).dk h4 h9 (by rw [HC.out, HRM.out]; exact HCR.out)).mono fun e w' hh => (show e = .returned (.int .i64 (lf : Int)) ∧ Below wl.heap.size wl w' from ⟨by rw [HC.out, HRM.out, HLF.out] at hh; exact hh.1, hW.trans (hh.2.mono hW.size)⟩))
          have QR := hidg_ (fun W (hW : Below wl.heap.size wl W) => (refRoomL_any n h4 h9 W).mono fun e w' hh => (show e = .returned (.int .i64 (room : Int)) ∧ Below wl.heap.size wl w' from ⟨by rw [HRM.out] at hh; exact hh.1, hh.2 ▸ hW⟩))
          have QO := hidg_ (fun W (hW : Below wl.heap.size wl W) => (dloose_yes (Ll.out.below hW).dk).mono fun e w' hh => (show e = .returned (.int .i64 0) ∧ Below wl.heap.size wl w' from ⟨by rw [Ll.out.sR] at hh; exact hh.1, hh.2 ▸ hW⟩))
          refine region_quiet_in (C := fun W => Below wl.heap.size wl W) (by kernel_rfl) (by kernel_rfl) ((Below.refl _ _).drew) ?_
          (go_big_quiet_want; (refine BigFrame.quiet_move _ rfl ?_; go_simp); go_big_quiet_on)
          (go_big_quiet_want; (refine BigFrame.quiet_move _ rfl ?_; go_simp); go_big_quiet_on)
          (go_big_quiet_want; (refine quiet_run (.int .i64 (t2 : Int)) ?_ ?_; (focus (intro W hW; go_simp; done)); go_simp); go_big_quiet_on)
          (go_big_quiet_want; (refine quiet_run (.int .i64 (lo : Int)) ?_ ?_; (focus (intro W hW; go_simp; done)); go_simp); go_big_quiet_on)
          (go_big_quiet_want; (refine BigFrame.quiet_move _ rfl ?_; go_simp); go_big_quiet_on)
          (go_big_quiet_want; (refine quiet_run (.int .i64 (t2 : Int)) ?_ ?_; (focus (intro W hW; go_simp; done)); go_simp); go_big_quiet_on)
          (go_big_quiet_want; (refine quiet_run (.int .i64 (lo : Int)) ?_ ?_; (focus (intro W hW; go_simp; done)); go_simp); go_big_quiet_on)
          (go_big_quiet_want; (refine quiet_run (.int .i64 (hi : Int)) ?_ ?_; (focus (intro W hW; go_simp; done)); go_simp); go_big_quiet_on)
          (go_big_quiet_want; (refine quiet_run (.string (strOf HB)) ?_ ?_; (focus (intro W hW; have h := hs1 W; go_simp; done)); go_simp); go_big_quiet_on)
          (go_big_quiet_want; (refine BigFrame.quiet_move _ rfl ?_; go_simp); go_big_quiet_on)
          (go_big_quiet_want; (refine BigFrame.quiet_move _ rfl ?_; go_simp); go_big_quiet_on)
          (go_big_quiet_want; (refine BigFrame.quiet_move _ rfl ?_; go_simp); go_big_quiet_on)
          (go_big_quiet_want; (refine quiet_run (.int .i64 (c : Int)) ?_ ?_; (focus (intro W hW; go_simp; done)); go_simp); go_big_quiet_on)
          (go_big_quiet_want; (refine quiet_call (.string (strOf HB)) 17 #[.int .i64 (tt : Int), .int .i64 (aa : Int), .int .i64 (c : Int)] ?_ QH.out ?_; (focus (intro W; go_simp; done)); go_simp); go_big_quiet_on)
          (go_big_quiet_want; (refine quiet_run (.bool false) ?_ ?_; (focus (intro W hW; go_simp; done)); go_simp); go_big_quiet_on)
          (go_big_quiet_want; (refine BigFrame.quiet_move _ rfl ?_; go_simp); go_big_quiet_on)
          (go_big_quiet_want; (refine BigFrame.quiet_move _ rfl ?_; go_simp); go_big_quiet_on)
          (go_big_quiet_want; (refine BigFrame.quiet_move _ rfl ?_; go_simp); go_big_quiet_on)
          (go_big_quiet_want; (refine BigFrame.quiet_move _ rfl ?_; go_simp); go_big_quiet_on)
          (go_big_quiet_want; (refine BigFrame.quiet_move _ rfl ?_; go_simp); go_big_quiet_on)
          (go_big_quiet_want; (refine quiet_run (.int .i64 (c : Int)) ?_ ?_; (focus (intro W hW; go_simp; done)); go_simp); go_big_quiet_on)
          (go_big_quiet_want; (refine quiet_run (.int .i64 (ae : Int)) ?_ ?_; (focus (intro W hW; go_simp; done)); go_simp); go_big_quiet_on)
          (go_big_quiet_want; (refine quiet_run (.string (strOf AB)) ?_ ?_; (focus (intro W hW; have h := hs2 W; go_simp; done)); go_simp); go_big_quiet_on)
          (go_big_quiet_want; (refine BigFrame.quiet_move _ rfl ?_; go_simp); go_big_quiet_on)
          (go_big_quiet_want; (refine quiet_run (.bool false) ?_ ?_; (focus (intro W hW; go_simp; done)); go_simp); go_big_quiet_on)
          (go_big_quiet_want; (refine quiet_run (.bool false) ?_ ?_; (focus (intro W hW; go_simp; done)); go_simp); go_big_quiet_on)
          (go_big_quiet_want; (refine BigFrame.quiet_move _ rfl ?_; go_simp); go_big_quiet_on)
          (go_big_quiet_want; (refine BigFrame.quiet_move _ rfl ?_; go_simp); go_big_quiet_on)
          (go_big_quiet_want; (refine quiet_call (.int .i64 (tt : Int)) 18 #[.pointer (some ⟨g, 0, none⟩)] ?_ QT.out ?_; (focus (intro W; go_simp; done)); go_simp); go_big_quiet_on)
          (go_big_quiet_want; (refine BigFrame.quiet_move _ rfl ?_; go_simp); go_big_quiet_on)
          (go_big_quiet_want; (refine quiet_run (.bool false) ?_ ?_; (focus (intro W hW; go_simp; done)); go_simp); go_big_quiet_on)
          (go_big_quiet_want; (refine quiet_run (.bool false) ?_ ?_; (focus (intro W hW; go_simp; done)); go_simp); go_big_quiet_on)
          (go_big_quiet_want; (refine BigFrame.quiet_move _ rfl ?_; go_simp); go_big_quiet_on)
          (go_big_quiet_want; (refine BigFrame.quiet_move _ rfl ?_; go_simp); go_big_quiet_on)
          (go_big_quiet_want; (refine quiet_call (.int .i64 (lf : Int)) 19 #[.pointer (some ⟨g, 0, none⟩)] ?_ QL.out ?_; (focus (intro W; go_simp; done)); go_simp); go_big_quiet_on)
          (go_big_quiet_want; (refine BigFrame.quiet_move _ rfl ?_; go_simp); go_big_quiet_on)
          (go_big_quiet_want; (refine quiet_call (.int .i64 (room : Int)) 13 #[.int .i64 (n : Int)] ?_ QR.out ?_; (focus (intro W; go_simp; done)); go_simp); go_big_quiet_on)
          (go_big_quiet_want; (refine BigFrame.quiet_move _ rfl ?_; go_simp); go_big_quiet_on)
          (go_big_quiet_want; (refine quiet_run (.int .i64 (c : Int)) ?_ ?_; (focus (intro W hW; go_simp; done)); go_simp); go_big_quiet_on)
          (go_big_quiet_want; (refine quiet_run (.int .i64 (lf : Int)) ?_ ?_; (focus (intro W hW; go_simp; done)); go_simp); go_big_quiet_on)
          (go_big_quiet_want; (refine quiet_run (.bool false) ?_ ?_; (focus (intro W hW; go_simp; done)); go_simp); go_big_quiet_on)
          (go_big_quiet_want; (refine quiet_run (.bool false) ?_ ?_; (focus (intro W hW; go_simp; done)); go_simp); go_big_quiet_on)
          (go_big_quiet_want; (refine BigFrame.quiet_move _ rfl ?_; go_simp); go_big_quiet_on)
          (go_big_quiet_want; (refine BigFrame.quiet_move _ rfl ?_; go_simp); go_big_quiet_on)
          (go_big_quiet_want; (refine quiet_call (.int .i64 0) 20 #[.pointer (some ⟨p, 0, none⟩)] ?_ QO.out ?_; (focus (intro W; go_simp; done)); go_simp); go_big_quiet_on)
          (go_big_quiet_want; (refine quiet_run (.bool false) ?_ ?_; (focus (intro W hW; go_simp; done)); go_simp); go_big_quiet_on)
          (go_big_quiet_want; (refine quiet_run (.bool false) ?_ ?_; (focus (intro W hW; go_simp; done)); go_simp); go_big_quiet_on)
          refine wpQuiet_nil ?_
          intro wz hwz
          have hz2 : Below wl.heap.size wl wz := hwz
          have Xz := hidg_ (Xl.out.trans (hz2.mono Xl.out.size))
          have Lz := hidg_ (Ll.out.below hz2)
          have Rz := hidg_ (Rl.out.below hz2)
          clear hwz hz2 QH QT QL QR QO q1 q2 q3 q4 q5 v1 v2 v3 v4 v5 hs1 hs2 hABl
          go_wp2
          go_roundw
          case rel => exact ⟨j1, kk, tt, aa, Ah, ch, RR, by have := HJ1.out; omega, by have := HJ1.out; omega, by have := HTT.out; have := HJ1.out; omega, rfl, rfl, rfl, rfl, hidg_ ⟨s, HF.out, Lz.out⟩, Rz, HK, Xz⟩
          case measure => simp [intOf]; have := HJ1.out; omega
        · have d5 : decide ((room : Int) < (c1 : Int)) = true := decide_eq_true (by omega)
          have d6 : decide (room < c1) = true := decide_eq_true (by omega)
          have cr := replace_full L5.out.lg L5.out.dk h4 h9 (by have := HTJ.out; omega) R1 K A5 c5 HR1L.out T5.out.pta (by rw [HC1.out]; omega) (by rw [HC1.out, HRM.out]; exact hfit)
          clear hfit
          go_wp2_with (first
            | (go_at_call 11; ((with_reducible refine cr.mono ?_); clear cr; rintro e w6 ⟨rfl, rfl⟩))
            | (go_at_call 12; ((with_reducible refine HALLR.out.mono ?_); rintro e w7 ⟨rfl, hb⟩; have L7 := hidg_ (L5.out.below hb); have X7 := hidg_ (X5.out.trans (hb.mono X5.out.size)); have R7 := hidg_ (R5.out.below hb); clear hb))
            | (go_at_call 13; have cp := refRoomL_any n h4 h9 w7; rw [HRM.out] at cp; ((with_reducible refine cp.mono ?_); clear cp; rintro e w' ⟨rfl, rfl⟩)))
          go_roundw
          case rel => exact ⟨j1, kk, t, a, Ah, ch, R, by have := HJ1.out; omega, by have := HJ1.out; omega, by have := HTJ.out; have := HJ1.out; omega, rfl, rfl, rfl, rfl, hidg_ ⟨s, HF.out, L7.out⟩, R7, HRK, X7⟩
          case measure => simp [intOf]; have := HJ1.out; omega
      | false =>
        rcases Nat.eq_zero_or_pos K with hK0 | hK0
        · have d5 : decide ((0 : Int) < (K : Int)) = false := decide_eq_false (by omega)
          have d6 : decide (0 < K) = false := decide_eq_false (by omega)
          have HTT := hidg_ (show t ≤ j + 2 by have := HTJ.out; omega)
          have hkz := hidg_ hK0
          have htt9 : t ≤ 100 := by have := HTJ.out; omega
          clear hK0
          go_upto_region 31 with fail
          have HL := L5
          have HR := R5
          have HX := X5
          have HK := HRK
          clear d5 d6 L5 R5 T5 HTJ
          generalize t = tt at *
          generalize a = aa at *
          generalize R = RR at *
          obtain ⟨c, hc⟩ : ∃ x, (allB RR).length = x := ⟨_, rfl⟩
          obtain ⟨AB, hAB⟩ : ∃ x, allB RR = x := ⟨_, rfl⟩
          have HC := hidg_ hc
          have HAB := hidg_ hAB
          have hHO := HL.out.ho
          have hcr : c ≤ room := by have := hHO.hc; rw [hc, HRM.out] at this; exact this
          have haa := hHO.ha
          have cim := dimage_any HL.out.dk
          have e0 : appl s.F s.R = s.F := by rw [HL.out.sR, appl_nil]
          obtain ⟨NN, hNN⟩ : ∃ x, n * 64 = x := ⟨_, rfl⟩
          obtain ⟨FL, hFL⟩ : ∃ x, s.F.flatten = x := ⟨_, rfl⟩
          rw [e0, hNN, hFL] at cim
          have hFLN : FL.length = NN := by rw [← hFL, flat_len hHO.s64, hHO.len, hNN]
          obtain ⟨t2, ht2⟩ : ∃ x, tt % 2 = x := ⟨_, rfl⟩
          obtain ⟨lo, hlo⟩ : ∃ x, t2 * 64 = x := ⟨_, rfl⟩
          obtain ⟨hi, hhi⟩ : ∃ x, lo + 64 = x := ⟨_, rfl⟩
          obtain ⟨ar, har⟩ : ∃ x, aa * room = x := ⟨_, rfl⟩
          obtain ⟨at_, hat⟩ : ∃ x, 128 + ar = x := ⟨_, rfl⟩
          obtain ⟨ae, hae⟩ : ∃ x, at_ + c = x := ⟨_, rfl⟩
          obtain ⟨lf, hlf⟩ : ∃ x, room - c = x := ⟨_, rfl⟩
          have har1 : ar ≤ room := by
            rw [← har]
            have := Nat.mul_le_mul_right room haa
            omega
          have hfit : at_ + room ≤ NN := by
            have h1 : firstS n aa * 64 = at_ := by rw [← hat, ← har, ← HRM.out]; unfold firstS roomN; rw [Nat.add_mul, Nat.mul_assoc]
            have h2 : firstS n aa + secsA n ≤ n := by
              have := Nat.mul_le_mul_right (secsA n) haa
              unfold firstS
              unfold secsA at *
              omega
            have h3 : room = secsA n * 64 := by rw [← HRM.out]; rfl
            omega
          have E1 : (FL.drop lo).take (hi - lo) = headB tt aa c := by rw [show hi - lo = 64 by omega, ← hFL, ← hlo, ← ht2, ← hc]; exact holds_image hHO h4
          have E2 : (FL.drop at_).take (ae - at_) = AB := by
            rw [show ae - at_ = c by omega, ← hFL, ← hc, ← hAB]
            have h1 : firstS n aa * 64 = at_ := by rw [← hat, ← har, ← HRM.out]; unfold firstS roomN; rw [Nat.add_mul, Nat.mul_assoc]
            rw [← h1]
            exact hHO.by_
          obtain ⟨HB, hHB⟩ : ∃ x, headB tt aa c = x := ⟨_, rfl⟩
          have hs1 := fun W => str_mid FL NN lo hi hFLN (by omega) (by omega) W
          have hs2 := fun W => str_mid FL NN at_ ae hFLN (by omega) (by omega) W
          rw [E1, hHB] at hs1
          rw [E2] at hs2
          have hABl : (strOf AB).size = c := by rw [strOf_size, ← hAB, hc]
          have q1 : (tt : Int).tmod 2 = (t2 : Int) := by rw [Int.tmod_eq_emod_of_nonneg (by omega)]; omega
          have q2 : (t2 : Int) * 64 = (lo : Int) := by omega
          have q3 : (lo : Int) + 64 = (hi : Int) := by omega
          have q4 : (at_ : Int) + (c : Int) = (ae : Int) := by omega
          have q5 : (room : Int) - (c : Int) = (lf : Int) := by omega
          have q6 : (128 : Int) + (ar : Int) = (at_ : Int) := by omega
          have v1 : IntKind.i64.wrap (lo : Int) = (lo : Int) := IntWalk.i64_in _ (by omega)
          have v2 : IntKind.i64.wrap (hi : Int) = (hi : Int) := IntWalk.i64_in _ (by omega)
          have v3 : IntKind.i64.wrap (ae : Int) = (ae : Int) := IntWalk.i64_in _ (by omega)
          have v4 : IntKind.i64.wrap (lf : Int) = (lf : Int) := IntWalk.i64_in _ (by omega)
          have v5 : IntKind.i64.wrap (t2 : Int) = (t2 : Int) := IntWalk.i64_in _ (by omega)
          have hb1 : c ≤ 1000000 := by omega
          have hb2 : ar ≤ 1000000 := by omega
          have hb3 : at_ ≤ 1000000 := by omega
          have htt6 : tt ≤ 1000000 := by omega
          have HCR := hidg_ hcr
          have HLF := hidg_ hlf
          have HHB := hidg_ hHB
          have HAA := hidg_ haa
          have HFLN := hidg_ hFLN
          have HARR := hidg_ har
          clear hc hAB hHO hcr haa e0 hNN hFL hFLN ht2 hlo hhi har hat hae hlf har1 hfit E1 E2 hHB
          have q7 : (aa : Int) * (room : Int) = (ar : Int) := by have := HARR.out; rw [← this]; simp
          go_upto_region 34 with (first
            | (go_at_call 16; ((with_reducible refine cim.mono ?_); clear cim; rintro e wi ⟨Ai, ci, rfl, hO, hb⟩; have cvi := conv_strn hO.rd.1 NN ci HFLN.out; have Xi := hidg_ (HX.out.trans (hb.mono HX.out.size)); have Li := hidg_ (HL.out.below hb); have Ri := hidg_ (HR.out.below hb); clear hO hb))
            | (go_at_call 12; have ca := allL_any (w := wi) (A := Ah) (La := RR) kk ch HK.out Ri.out.pta (by rw [HC.out]; exact hb1); rw [HAB.out] at ca; ((with_reducible refine ca.mono ?_); clear ca; rintro e wl ⟨rfl, hb⟩; have Xl := hidg_ (Xi.out.trans (hb.mono Xi.out.size)); have Ll := hidg_ (Li.out.below hb); have Rl := hidg_ (Ri.out.below hb); clear hb))
            | (go_at_call 13; have cp := refRoomL_any n h4 h9 wl; rw [HRM.out] at cp; ((with_reducible refine cp.mono ?_); clear cp; rintro e w' ⟨rfl, rfl⟩)))
          clear q7 q6 cvi
          have QH := hidg_ (fun W (hW : Below wl.heap.size wl W) => (headL_any W tt aa c htt6 HAA.out hb1).mono fun e w' hh => (show e = .returned (.string (strOf HB)) ∧ Below wl.heap.size wl w' from ⟨by rw [HHB.out] at hh; exact hh.1, hW.trans (hh.2.mono hW.size)⟩))
          have QT := hidg_ (fun W (hW : Below wl.heap.size wl W) => (lturn_any (Ll.out.below hW).lg).mono fun e w' hh => (show e = .returned (.int .i64 (tt : Int)) ∧ Below wl.heap.size wl w' from ⟨hh.1, hh.2 ▸ hW⟩))
          have QL := hidg_ (fun W (hW : Below wl.heap.size wl W) => (lleft_any (Ll.out.below hW).lg (Ll.out.below hW).dk h4 h9 (by rw [HC.out, HRM.out]; exact HCR.out)).mono fun e w' hh => (show e = .returned (.int .i64 (lf : Int)) ∧ Below wl.heap.size wl w' from ⟨by rw [HC.out, HRM.out, HLF.out] at hh; exact hh.1, hW.trans (hh.2.mono hW.size)⟩))
          have QR := hidg_ (fun W (hW : Below wl.heap.size wl W) => (refRoomL_any n h4 h9 W).mono fun e w' hh => (show e = .returned (.int .i64 (room : Int)) ∧ Below wl.heap.size wl w' from ⟨by rw [HRM.out] at hh; exact hh.1, hh.2 ▸ hW⟩))
          have QO := hidg_ (fun W (hW : Below wl.heap.size wl W) => (dloose_yes (Ll.out.below hW).dk).mono fun e w' hh => (show e = .returned (.int .i64 0) ∧ Below wl.heap.size wl w' from ⟨by rw [Ll.out.sR] at hh; exact hh.1, hh.2 ▸ hW⟩))
          refine region_quiet_in (C := fun W => Below wl.heap.size wl W) (by kernel_rfl) (by kernel_rfl) ((Below.refl _ _).drew) ?_
          (go_big_quiet_want; (refine BigFrame.quiet_move _ rfl ?_; go_simp); go_big_quiet_on)
          (go_big_quiet_want; (refine BigFrame.quiet_move _ rfl ?_; go_simp); go_big_quiet_on)
          (go_big_quiet_want; (refine quiet_run (.int .i64 (t2 : Int)) ?_ ?_; (focus (intro W hW; go_simp; done)); go_simp); go_big_quiet_on)
          (go_big_quiet_want; (refine quiet_run (.int .i64 (lo : Int)) ?_ ?_; (focus (intro W hW; go_simp; done)); go_simp); go_big_quiet_on)
          (go_big_quiet_want; (refine BigFrame.quiet_move _ rfl ?_; go_simp); go_big_quiet_on)
          (go_big_quiet_want; (refine quiet_run (.int .i64 (t2 : Int)) ?_ ?_; (focus (intro W hW; go_simp; done)); go_simp); go_big_quiet_on)
          (go_big_quiet_want; (refine quiet_run (.int .i64 (lo : Int)) ?_ ?_; (focus (intro W hW; go_simp; done)); go_simp); go_big_quiet_on)
          (go_big_quiet_want; (refine quiet_run (.int .i64 (hi : Int)) ?_ ?_; (focus (intro W hW; go_simp; done)); go_simp); go_big_quiet_on)
          (go_big_quiet_want; (refine quiet_run (.string (strOf HB)) ?_ ?_; (focus (intro W hW; have h := hs1 W; go_simp; done)); go_simp); go_big_quiet_on)
          (go_big_quiet_want; (refine BigFrame.quiet_move _ rfl ?_; go_simp); go_big_quiet_on)
          (go_big_quiet_want; (refine BigFrame.quiet_move _ rfl ?_; go_simp); go_big_quiet_on)
          (go_big_quiet_want; (refine BigFrame.quiet_move _ rfl ?_; go_simp); go_big_quiet_on)
          (go_big_quiet_want; (refine quiet_run (.int .i64 (c : Int)) ?_ ?_; (focus (intro W hW; go_simp; done)); go_simp); go_big_quiet_on)
          (go_big_quiet_want; (refine quiet_call (.string (strOf HB)) 17 #[.int .i64 (tt : Int), .int .i64 (aa : Int), .int .i64 (c : Int)] ?_ QH.out ?_; (focus (intro W; go_simp; done)); go_simp); go_big_quiet_on)
          (go_big_quiet_want; (refine quiet_run (.bool false) ?_ ?_; (focus (intro W hW; go_simp; done)); go_simp); go_big_quiet_on)
          (go_big_quiet_want; (refine BigFrame.quiet_move _ rfl ?_; go_simp); go_big_quiet_on)
          (go_big_quiet_want; (refine BigFrame.quiet_move _ rfl ?_; go_simp); go_big_quiet_on)
          (go_big_quiet_want; (refine BigFrame.quiet_move _ rfl ?_; go_simp); go_big_quiet_on)
          (go_big_quiet_want; (refine BigFrame.quiet_move _ rfl ?_; go_simp); go_big_quiet_on)
          (go_big_quiet_want; (refine BigFrame.quiet_move _ rfl ?_; go_simp); go_big_quiet_on)
          (go_big_quiet_want; (refine quiet_run (.int .i64 (c : Int)) ?_ ?_; (focus (intro W hW; go_simp; done)); go_simp); go_big_quiet_on)
          (go_big_quiet_want; (refine quiet_run (.int .i64 (ae : Int)) ?_ ?_; (focus (intro W hW; go_simp; done)); go_simp); go_big_quiet_on)
          (go_big_quiet_want; (refine quiet_run (.string (strOf AB)) ?_ ?_; (focus (intro W hW; have h := hs2 W; go_simp; done)); go_simp); go_big_quiet_on)
          (go_big_quiet_want; (refine BigFrame.quiet_move _ rfl ?_; go_simp); go_big_quiet_on)
          (go_big_quiet_want; (refine quiet_run (.bool false) ?_ ?_; (focus (intro W hW; go_simp; done)); go_simp); go_big_quiet_on)
          (go_big_quiet_want; (refine quiet_run (.bool false) ?_ ?_; (focus (intro W hW; go_simp; done)); go_simp); go_big_quiet_on)
          (go_big_quiet_want; (refine BigFrame.quiet_move _ rfl ?_; go_simp); go_big_quiet_on)
          (go_big_quiet_want; (refine BigFrame.quiet_move _ rfl ?_; go_simp); go_big_quiet_on)
          (go_big_quiet_want; (refine quiet_call (.int .i64 (tt : Int)) 18 #[.pointer (some ⟨g, 0, none⟩)] ?_ QT.out ?_; (focus (intro W; go_simp; done)); go_simp); go_big_quiet_on)
          (go_big_quiet_want; (refine BigFrame.quiet_move _ rfl ?_; go_simp); go_big_quiet_on)
          (go_big_quiet_want; (refine quiet_run (.bool false) ?_ ?_; (focus (intro W hW; go_simp; done)); go_simp); go_big_quiet_on)
          (go_big_quiet_want; (refine quiet_run (.bool false) ?_ ?_; (focus (intro W hW; go_simp; done)); go_simp); go_big_quiet_on)
          (go_big_quiet_want; (refine BigFrame.quiet_move _ rfl ?_; go_simp); go_big_quiet_on)
          (go_big_quiet_want; (refine BigFrame.quiet_move _ rfl ?_; go_simp); go_big_quiet_on)
          (go_big_quiet_want; (refine quiet_call (.int .i64 (lf : Int)) 19 #[.pointer (some ⟨g, 0, none⟩)] ?_ QL.out ?_; (focus (intro W; go_simp; done)); go_simp); go_big_quiet_on)
          (go_big_quiet_want; (refine BigFrame.quiet_move _ rfl ?_; go_simp); go_big_quiet_on)
          (go_big_quiet_want; (refine quiet_call (.int .i64 (room : Int)) 13 #[.int .i64 (n : Int)] ?_ QR.out ?_; (focus (intro W; go_simp; done)); go_simp); go_big_quiet_on)
          (go_big_quiet_want; (refine BigFrame.quiet_move _ rfl ?_; go_simp); go_big_quiet_on)
          (go_big_quiet_want; (refine quiet_run (.int .i64 (c : Int)) ?_ ?_; (focus (intro W hW; go_simp; done)); go_simp); go_big_quiet_on)
          (go_big_quiet_want; (refine quiet_run (.int .i64 (lf : Int)) ?_ ?_; (focus (intro W hW; go_simp; done)); go_simp); go_big_quiet_on)
          (go_big_quiet_want; (refine quiet_run (.bool false) ?_ ?_; (focus (intro W hW; go_simp; done)); go_simp); go_big_quiet_on)
          (go_big_quiet_want; (refine quiet_run (.bool false) ?_ ?_; (focus (intro W hW; go_simp; done)); go_simp); go_big_quiet_on)
          (go_big_quiet_want; (refine BigFrame.quiet_move _ rfl ?_; go_simp); go_big_quiet_on)
          (go_big_quiet_want; (refine BigFrame.quiet_move _ rfl ?_; go_simp); go_big_quiet_on)
          (go_big_quiet_want; (refine quiet_call (.int .i64 0) 20 #[.pointer (some ⟨p, 0, none⟩)] ?_ QO.out ?_; (focus (intro W; go_simp; done)); go_simp); go_big_quiet_on)
          (go_big_quiet_want; (refine quiet_run (.bool false) ?_ ?_; (focus (intro W hW; go_simp; done)); go_simp); go_big_quiet_on)
          (go_big_quiet_want; (refine quiet_run (.bool false) ?_ ?_; (focus (intro W hW; go_simp; done)); go_simp); go_big_quiet_on)
          refine wpQuiet_nil ?_
          intro wz hwz
          have hz2 : Below wl.heap.size wl wz := hwz
          have Xz := hidg_ (Xl.out.trans (hz2.mono Xl.out.size))
          have Lz := hidg_ (Ll.out.below hz2)
          have Rz := hidg_ (Rl.out.below hz2)
          clear hwz hz2 QH QT QL QR QO q1 q2 q3 q4 q5 v1 v2 v3 v4 v5 hs1 hs2 hABl
          go_wp2
          go_roundw
          case rel => exact ⟨j1, kk, tt, aa, Ah, ch, RR, by have := HJ1.out; omega, by have := HJ1.out; omega, by have := HTT.out; have := HJ1.out; omega, rfl, rfl, rfl, rfl, hidg_ ⟨s, HF.out, Lz.out⟩, Rz, HK, Xz⟩
          case measure => simp [intOf]; have := HJ1.out; omega
        · have d5 : decide ((0 : Int) < (K : Int)) = true := decide_eq_true (by omega)
          have d6 : decide (0 < K) = true := decide_eq_true (by omega)
          obtain ⟨b5, o5, a5, k5, rfl, hc5, hr5, hl5⟩ := T5.out.pta 0 (by rw [HR1L.out]; exact hK0)
          obtain ⟨r, hr⟩ : ∃ y, R1.getD 0 [] = y := ⟨_, rfl⟩
          rw [hr] at hc5 hr5
          obtain ⟨rn, hrn⟩ : ∃ y, r.length = y := ⟨_, rfl⟩
          rw [hrn, Nat.add_zero] at hc5
          have hrn100 : rn ≤ 100 := by
            rw [← hrn, ← hr]
            have : 0 < R1.length := by rw [HR1L.out]; exact hK0
            exact HR1S.out _ (by simp [List.getD, this])
          obtain ⟨c, hc⟩ : ∃ y, (allB R).length = y := ⟨_, rfl⟩
          have hcr : c ≤ room := by have := L5.out.ho.hc; rw [hc, HRM.out] at this; exact this
          obtain ⟨rs, hrs⟩ : ∃ y, rn + 8 = y := ⟨_, rfl⟩
          obtain ⟨cs, hcs⟩ : ∃ y, c + rs = y := ⟨_, rfl⟩
          have ecs : (c : Int) + (rs : Int) = (cs : Int) := by omega
          have hzb : (strOf (allB R)).size = c := by rw [strOf_size, hc]
          have hzr : (strOf (recB r)).size = rs := by rw [strOf_size, recB_len, hrn, hrs]
          have cv5 := conv_strn hr5 rn k5 hrn
          have hp6 : ∀ W, RecT W w.heap.size (.slice (some ⟨b5, o5, none⟩) K c5) R1 → ∃ a6 k6, W.cell? ⟨b5, o5, none⟩ = some (.slice a6 rn k6) ∧ (convert 39 9 (.slice a6 rn k6)).run Try.prog W = .ok (.string (strOf r)) W := fun W hT => by
            obtain ⟨b', o', a', k', e', hc', hr', _⟩ := hT.pta 0 (by rw [HR1L.out]; exact hK0)
            injection e' with e'
            injection e' with e1 e2
            subst e1 e2
            rw [hr] at hc' hr'
            rw [hrn, Nat.add_zero] at hc'
            exact ⟨a', k', hc', conv_strn hr' rn k' hrn⟩
          have HP6 := hidg_ hp6
          have HRN := hidg_ hrn
          have HCC := hidg_ hc
          have HRS2 := hidg_ hrs
          have HCR2 := hidg_ hcr
          have tK : (0 : Int) < (K : Int) := by omega
          have hc6 : c ≤ 10000 := by omega
          have hrs6 : rs ≤ 200 := by omega
          have hcs6 : cs ≤ 20000 := by omega
          by_cases hfit : cs ≤ room
          · have d7 : decide ((room : Int) < (cs : Int)) = false := decide_eq_false (by omega)
            have d8 : decide (room < cs) = false := decide_eq_false (by omega)
            have cap := append_v0 L5.out HF.out X5.out.size h4 h9 (by have := HTJ.out; omega) r rn a5 k5 hrn hr5 (by rw [hc, HRM.out]; omega)
            obtain ⟨tt, htt⟩ : ∃ y, t + 1 = y := ⟨_, rfl⟩
            rw [htt] at cap
            have ett : (t : Int) + 1 = (tt : Int) := by omega
            have htt9 : tt ≤ 100 := by have := HTJ.out; omega
            have HTT := hidg_ (show tt ≤ j + 2 by have := HTJ.out; omega)
            clear htt hfit hr5 hrn hc hrs hcr hp6 hl5 hcs
            go_upto_region 30 with (first
              | (go_at_call 14; ((with_reducible refine cap.mono ?_); clear cap cv5; rintro e w6 ⟨rfl, s6, hf6, hL6, hb6, hu6⟩; have F6 := hidg_ hf6; have L6 := hidg_ hL6; have X6 := hidg_ (X5.out.trans hb6); have T6 := hidg_ (T5.out.unt hu6 (by decide) (by decide)); have R6 := hidg_ (R5.out.unt hu6 (by decide) (by decide)); clear hf6 hL6 hb6 hu6 hc5; (obtain ⟨a6, k6, hc6', cv6⟩ := HP6.out w6 T6.out)))
              | (go_at_call 12; have ca := allL_any (w := w6) (A := Ah) (La := R) kk ch HRK.out R6.out.pta (by rw [HCC.out]; omega); ((with_reducible refine ca.mono ?_); clear ca; rintro e w7 ⟨rfl, hb⟩; have L7 := hidg_ (L6.out.below hb); have X7 := hidg_ (X6.out.trans (hb.mono X6.out.size)); have R7 := hidg_ (R6.out.below hb); clear hb))
              | (go_at_call 15; have cp := refRecL_any w7 r rn HRN.out (by omega); ((with_reducible refine cp.mono ?_); clear cp; rintro e w8 ⟨rfl, hb⟩; have L8 := hidg_ (L7.out.below hb); have X8 := hidg_ (X7.out.trans (hb.mono X7.out.size)); have R8 := hidg_ (R7.out.below hb); clear hb))
              | (go_at_call 13; have cp := refRoomL_any n h4 h9 w8; rw [HRM.out] at cp; ((with_reducible refine cp.mono ?_); clear cp; rintro e w' ⟨rfl, rfl⟩)))
            obtain ⟨w9, hw9⟩ : ∃ W, w8.alloc (.cells #[] 39) = W := ⟨_, rfl⟩
            have B9 := hidg_ (show Below w8.heap.size w8 w9 by rw [← hw9]; exact (Below.refl _ _).alloc (Nat.le_refl _) _)
            have E9 := hidg_ (show RecT w9 w.heap.size (.slice (some ⟨w8.heap.size, 0, none⟩) 0 0) [] by rw [← hw9]; exact RecT.lit0 w8 _ X8.out.size)
            have R9 := hidg_ (R8.out.below B9.out)
            have X9 := hidg_ (X8.out.trans (B9.out.mono X8.out.size))
            have hkk6 : kk ≤ 10000 := by have h1 := (allB_len R).1; have h2 := HRK.out; have h3 := HCC.out; omega
            clear ecs hzb hzr cv6 hc6' d5 d6 d7 d8
            go_upto_region 31 with (first
              | (refine wpList_appRT rfl (.tmp 119) (.tmp 120) rfl E9.out rfl kk ch rfl HRK.out R9.out.src.1 0 rfl (by omega) X9.out.size ?_; intro Aa ca wa ha ga; have RA := hidg_ (show RecT wa w.heap.size (.slice Aa kk ca) R by have h := ha; rw [Nat.zero_add, List.nil_append] at h; exact h); have XA := hidg_ (X9.out.grown ga X9.out.size (fun k e => (E9.out.blk k e).1)); have LA := hidg_ ((L8.out.below B9.out).untR (E9.out.untR ga)); clear ha ga; simp only [Nat.zero_add]; (obtain ⟨cp_, wb, cvb, hOb, hBb⟩ := conv_str_own wa w.heap.size r rn HRN.out XA.out.size (by omega)); have OB := hidg_ hOb; have BB := hidg_ hBb; have RB := hidg_ (RA.out.below hBb); have LB := hidg_ (LA.out.below hBb); have XB := hidg_ (XA.out.trans (hBb.mono XA.out.size)); clear hOb hBb; (obtain ⟨wc, hwc⟩ : ∃ W, wb.alloc (.cells #[.slice (some ⟨wa.heap.size, 0, none⟩) rn cp_] 39) = W := ⟨_, rfl⟩); have BC := hidg_ (show Below wb.heap.size wb wc by rw [← hwc]; exact (Below.refl _ _).alloc (Nat.le_refl _) _); have KC := hidg_ (show wc.cell? ⟨wb.heap.size, 0, none⟩ = some (.slice (some ⟨wa.heap.size, 0, none⟩) rn cp_) by rw [← hwc]; have h := (Bk.new wb 39 #[.slice (some ⟨wa.heap.size, 0, none⟩) rn cp_]).cell 0; simp only [List.getElem?_toArray, List.getElem?_cons_zero] at h; exact h); have RC := hidg_ (RB.out.below BC.out); have LC := hidg_ (LB.out.below BC.out); have XC := hidg_ (XB.out.trans (BC.out.mono XB.out.size)); have OC := hidg_ (OB.out.below BC.out (Nat.le_refl _)))
              | (refine wpList_appRT rfl (.tmp 121) (.tmp 124) rfl RC.out rfl 1 1 rfl (M := [r]) rfl (SrcR.one wb.heap.size HRN.out OC.out KC.out) kk HRK.out (by omega) XC.out.size ?_; intro Ad cd wd hd gd; have RD := hidg_ hd; have XD := hidg_ (XC.out.grown gd XC.out.size (fun k e => (RC.out.blk k e).1)); have LD := hidg_ (LC.out.untR (RC.out.untR gd)); clear hd gd))
            have HL := LD
            have HR := RD
            have HX := XD
            have HK := hidg_ (show (R ++ [r]).length = kk + 1 by rw [List.length_append, HRK.out]; rfl)
            have HF7 := F6
            clear HF ett L5 R5 T5 L6 T6 X6 L7 X7 F6 R6 R7 R8 R9 RA RB RC X8 X9 XA XB XC LA LB LC LD L8 RD XD OB OC KC BB BC B9 E9 HCC HP6 HRN HRS2 HCR2 hc6 hcs6
            have HF := HF7
            clear HF7
            generalize R ++ [r] = RR at *
            generalize kk + 1 = kk at *
            generalize s6 = s at *
            generalize Ad = Ah at *
            generalize cd = ch at *
            generalize a = aa at *
            obtain ⟨c, hc⟩ : ∃ x, (allB RR).length = x := ⟨_, rfl⟩
            obtain ⟨AB, hAB⟩ : ∃ x, allB RR = x := ⟨_, rfl⟩
            have HC := hidg_ hc
            have HAB := hidg_ hAB
            have hHO := HL.out.ho
            have hcr : c ≤ room := by have := hHO.hc; rw [hc, HRM.out] at this; exact this
            have haa := hHO.ha
            have cim := dimage_any HL.out.dk
            have e0 : appl s.F s.R = s.F := by rw [HL.out.sR, appl_nil]
            obtain ⟨NN, hNN⟩ : ∃ x, n * 64 = x := ⟨_, rfl⟩
            obtain ⟨FL, hFL⟩ : ∃ x, s.F.flatten = x := ⟨_, rfl⟩
            rw [e0, hNN, hFL] at cim
            have hFLN : FL.length = NN := by rw [← hFL, flat_len hHO.s64, hHO.len, hNN]
            obtain ⟨t2, ht2⟩ : ∃ x, tt % 2 = x := ⟨_, rfl⟩
            obtain ⟨lo, hlo⟩ : ∃ x, t2 * 64 = x := ⟨_, rfl⟩
            obtain ⟨hi, hhi⟩ : ∃ x, lo + 64 = x := ⟨_, rfl⟩
            obtain ⟨ar, har⟩ : ∃ x, aa * room = x := ⟨_, rfl⟩
            obtain ⟨at_, hat⟩ : ∃ x, 128 + ar = x := ⟨_, rfl⟩
            obtain ⟨ae, hae⟩ : ∃ x, at_ + c = x := ⟨_, rfl⟩
            obtain ⟨lf, hlf⟩ : ∃ x, room - c = x := ⟨_, rfl⟩
            have har1 : ar ≤ room := by
              rw [← har]
              have := Nat.mul_le_mul_right room haa
              omega
            have hfit : at_ + room ≤ NN := by
              have h1 : firstS n aa * 64 = at_ := by rw [← hat, ← har, ← HRM.out]; unfold firstS roomN; rw [Nat.add_mul, Nat.mul_assoc]
              have h2 : firstS n aa + secsA n ≤ n := by
                have := Nat.mul_le_mul_right (secsA n) haa
                unfold firstS
                unfold secsA at *
                omega
              have h3 : room = secsA n * 64 := by rw [← HRM.out]; rfl
              omega
            have E1 : (FL.drop lo).take (hi - lo) = headB tt aa c := by rw [show hi - lo = 64 by omega, ← hFL, ← hlo, ← ht2, ← hc]; exact holds_image hHO h4
            have E2 : (FL.drop at_).take (ae - at_) = AB := by
              rw [show ae - at_ = c by omega, ← hFL, ← hc, ← hAB]
              have h1 : firstS n aa * 64 = at_ := by rw [← hat, ← har, ← HRM.out]; unfold firstS roomN; rw [Nat.add_mul, Nat.mul_assoc]
              rw [← h1]
              exact hHO.by_
            obtain ⟨HB, hHB⟩ : ∃ x, headB tt aa c = x := ⟨_, rfl⟩
            have hs1 := fun W => str_mid FL NN lo hi hFLN (by omega) (by omega) W
            have hs2 := fun W => str_mid FL NN at_ ae hFLN (by omega) (by omega) W
            rw [E1, hHB] at hs1
            rw [E2] at hs2
            have hABl : (strOf AB).size = c := by rw [strOf_size, ← hAB, hc]
            have q1 : (tt : Int).tmod 2 = (t2 : Int) := by rw [Int.tmod_eq_emod_of_nonneg (by omega)]; omega
            have q2 : (t2 : Int) * 64 = (lo : Int) := by omega
            have q3 : (lo : Int) + 64 = (hi : Int) := by omega
            have q4 : (at_ : Int) + (c : Int) = (ae : Int) := by omega
            have q5 : (room : Int) - (c : Int) = (lf : Int) := by omega
            have q6 : (128 : Int) + (ar : Int) = (at_ : Int) := by omega
            have v1 : IntKind.i64.wrap (lo : Int) = (lo : Int) := IntWalk.i64_in _ (by omega)
            have v2 : IntKind.i64.wrap (hi : Int) = (hi : Int) := IntWalk.i64_in _ (by omega)
            have v3 : IntKind.i64.wrap (ae : Int) = (ae : Int) := IntWalk.i64_in _ (by omega)
            have v4 : IntKind.i64.wrap (lf : Int) = (lf : Int) := IntWalk.i64_in _ (by omega)
            have v5 : IntKind.i64.wrap (t2 : Int) = (t2 : Int) := IntWalk.i64_in _ (by omega)
            have hb1 : c ≤ 1000000 := by omega
            have hb2 : ar ≤ 1000000 := by omega
            have hb3 : at_ ≤ 1000000 := by omega
            have htt6 : tt ≤ 1000000 := by omega
            have HCR := hidg_ hcr
            have HLF := hidg_ hlf
            have HHB := hidg_ hHB
            have HAA := hidg_ haa
            have HFLN := hidg_ hFLN
            have HARR := hidg_ har
            clear hc hAB hHO hcr haa e0 hNN hFL hFLN ht2 hlo hhi har hat hae hlf har1 hfit E1 E2 hHB
            have q7 : (aa : Int) * (room : Int) = (ar : Int) := by have := HARR.out; rw [← this]; simp
            go_upto_region 34 with (first
              | (go_at_call 16; ((with_reducible refine cim.mono ?_); clear cim; rintro e wi ⟨Ai, ci, rfl, hO, hb⟩; have cvi := conv_strn hO.rd.1 NN ci HFLN.out; have Xi := hidg_ (HX.out.trans (hb.mono HX.out.size)); have Li := hidg_ (HL.out.below hb); have Ri := hidg_ (HR.out.below hb); clear hO hb))
              | (go_at_call 12; have ca := allL_any (w := wi) (A := Ah) (La := RR) kk ch HK.out Ri.out.pta (by rw [HC.out]; exact hb1); rw [HAB.out] at ca; ((with_reducible refine ca.mono ?_); clear ca; rintro e wl ⟨rfl, hb⟩; have Xl := hidg_ (Xi.out.trans (hb.mono Xi.out.size)); have Ll := hidg_ (Li.out.below hb); have Rl := hidg_ (Ri.out.below hb); clear hb))
              | (go_at_call 13; have cp := refRoomL_any n h4 h9 wl; rw [HRM.out] at cp; ((with_reducible refine cp.mono ?_); clear cp; rintro e w' ⟨rfl, rfl⟩)))
            clear q7 q6 cvi
            have QH := hidg_ (fun W (hW : Below wl.heap.size wl W) => (headL_any W tt aa c htt6 HAA.out hb1).mono fun e w' hh => (show e = .returned (.string (strOf HB)) ∧ Below wl.heap.size wl w' from ⟨by rw [HHB.out] at hh; exact hh.1, hW.trans (hh.2.mono hW.size)⟩))
            have QT := hidg_ (fun W (hW : Below wl.heap.size wl W) => (lturn_any (Ll.out.below hW).lg).mono fun e w' hh => (show e = .returned (.int .i64 (tt : Int)) ∧ Below wl.heap.size wl w' from ⟨hh.1, hh.2 ▸ hW⟩))
            have QL := hidg_ (fun W (hW : Below wl.heap.size wl W) => (lleft_any (Ll.out.below hW).lg (Ll.out.below hW).dk h4 h9 (by rw [HC.out, HRM.out]; exact HCR.out)).mono fun e w' hh => (show e = .returned (.int .i64 (lf : Int)) ∧ Below wl.heap.size wl w' from ⟨by rw [HC.out, HRM.out, HLF.out] at hh; exact hh.1, hW.trans (hh.2.mono hW.size)⟩))
            have QR := hidg_ (fun W (hW : Below wl.heap.size wl W) => (refRoomL_any n h4 h9 W).mono fun e w' hh => (show e = .returned (.int .i64 (room : Int)) ∧ Below wl.heap.size wl w' from ⟨by rw [HRM.out] at hh; exact hh.1, hh.2 ▸ hW⟩))
            have QO := hidg_ (fun W (hW : Below wl.heap.size wl W) => (dloose_yes (Ll.out.below hW).dk).mono fun e w' hh => (show e = .returned (.int .i64 0) ∧ Below wl.heap.size wl w' from ⟨by rw [Ll.out.sR] at hh; exact hh.1, hh.2 ▸ hW⟩))
            refine region_quiet_in (C := fun W => Below wl.heap.size wl W) (by kernel_rfl) (by kernel_rfl) ((Below.refl _ _).drew) ?_
            (go_big_quiet_want; (refine BigFrame.quiet_move _ rfl ?_; go_simp); go_big_quiet_on)
            (go_big_quiet_want; (refine BigFrame.quiet_move _ rfl ?_; go_simp); go_big_quiet_on)
            (go_big_quiet_want; (refine quiet_run (.int .i64 (t2 : Int)) ?_ ?_; (focus (intro W hW; go_simp; done)); go_simp); go_big_quiet_on)
            (go_big_quiet_want; (refine quiet_run (.int .i64 (lo : Int)) ?_ ?_; (focus (intro W hW; go_simp; done)); go_simp); go_big_quiet_on)
            (go_big_quiet_want; (refine BigFrame.quiet_move _ rfl ?_; go_simp); go_big_quiet_on)
            (go_big_quiet_want; (refine quiet_run (.int .i64 (t2 : Int)) ?_ ?_; (focus (intro W hW; go_simp; done)); go_simp); go_big_quiet_on)
            (go_big_quiet_want; (refine quiet_run (.int .i64 (lo : Int)) ?_ ?_; (focus (intro W hW; go_simp; done)); go_simp); go_big_quiet_on)
            (go_big_quiet_want; (refine quiet_run (.int .i64 (hi : Int)) ?_ ?_; (focus (intro W hW; go_simp; done)); go_simp); go_big_quiet_on)
            (go_big_quiet_want; (refine quiet_run (.string (strOf HB)) ?_ ?_; (focus (intro W hW; have h := hs1 W; go_simp; done)); go_simp); go_big_quiet_on)
            (go_big_quiet_want; (refine BigFrame.quiet_move _ rfl ?_; go_simp); go_big_quiet_on)
            (go_big_quiet_want; (refine BigFrame.quiet_move _ rfl ?_; go_simp); go_big_quiet_on)
            (go_big_quiet_want; (refine BigFrame.quiet_move _ rfl ?_; go_simp); go_big_quiet_on)
            (go_big_quiet_want; (refine quiet_run (.int .i64 (c : Int)) ?_ ?_; (focus (intro W hW; go_simp; done)); go_simp); go_big_quiet_on)
            (go_big_quiet_want; (refine quiet_call (.string (strOf HB)) 17 #[.int .i64 (tt : Int), .int .i64 (aa : Int), .int .i64 (c : Int)] ?_ QH.out ?_; (focus (intro W; go_simp; done)); go_simp); go_big_quiet_on)
            (go_big_quiet_want; (refine quiet_run (.bool false) ?_ ?_; (focus (intro W hW; go_simp; done)); go_simp); go_big_quiet_on)
            (go_big_quiet_want; (refine BigFrame.quiet_move _ rfl ?_; go_simp); go_big_quiet_on)
            (go_big_quiet_want; (refine BigFrame.quiet_move _ rfl ?_; go_simp); go_big_quiet_on)
            (go_big_quiet_want; (refine BigFrame.quiet_move _ rfl ?_; go_simp); go_big_quiet_on)
            (go_big_quiet_want; (refine BigFrame.quiet_move _ rfl ?_; go_simp); go_big_quiet_on)
            (go_big_quiet_want; (refine BigFrame.quiet_move _ rfl ?_; go_simp); go_big_quiet_on)
            (go_big_quiet_want; (refine quiet_run (.int .i64 (c : Int)) ?_ ?_; (focus (intro W hW; go_simp; done)); go_simp); go_big_quiet_on)
            (go_big_quiet_want; (refine quiet_run (.int .i64 (ae : Int)) ?_ ?_; (focus (intro W hW; go_simp; done)); go_simp); go_big_quiet_on)
            (go_big_quiet_want; (refine quiet_run (.string (strOf AB)) ?_ ?_; (focus (intro W hW; have h := hs2 W; go_simp; done)); go_simp); go_big_quiet_on)
            (go_big_quiet_want; (refine BigFrame.quiet_move _ rfl ?_; go_simp); go_big_quiet_on)
            (go_big_quiet_want; (refine quiet_run (.bool false) ?_ ?_; (focus (intro W hW; go_simp; done)); go_simp); go_big_quiet_on)
            (go_big_quiet_want; (refine quiet_run (.bool false) ?_ ?_; (focus (intro W hW; go_simp; done)); go_simp); go_big_quiet_on)
            (go_big_quiet_want; (refine BigFrame.quiet_move _ rfl ?_; go_simp); go_big_quiet_on)
            (go_big_quiet_want; (refine BigFrame.quiet_move _ rfl ?_; go_simp); go_big_quiet_on)
            (go_big_quiet_want; (refine quiet_call (.int .i64 (tt : Int)) 18 #[.pointer (some ⟨g, 0, none⟩)] ?_ QT.out ?_; (focus (intro W; go_simp; done)); go_simp); go_big_quiet_on)
            (go_big_quiet_want; (refine BigFrame.quiet_move _ rfl ?_; go_simp); go_big_quiet_on)
            (go_big_quiet_want; (refine quiet_run (.bool false) ?_ ?_; (focus (intro W hW; go_simp; done)); go_simp); go_big_quiet_on)
            (go_big_quiet_want; (refine quiet_run (.bool false) ?_ ?_; (focus (intro W hW; go_simp; done)); go_simp); go_big_quiet_on)
            (go_big_quiet_want; (refine BigFrame.quiet_move _ rfl ?_; go_simp); go_big_quiet_on)
            (go_big_quiet_want; (refine BigFrame.quiet_move _ rfl ?_; go_simp); go_big_quiet_on)
            (go_big_quiet_want; (refine quiet_call (.int .i64 (lf : Int)) 19 #[.pointer (some ⟨g, 0, none⟩)] ?_ QL.out ?_; (focus (intro W; go_simp; done)); go_simp); go_big_quiet_on)
            (go_big_quiet_want; (refine BigFrame.quiet_move _ rfl ?_; go_simp); go_big_quiet_on)
            (go_big_quiet_want; (refine quiet_call (.int .i64 (room : Int)) 13 #[.int .i64 (n : Int)] ?_ QR.out ?_; (focus (intro W; go_simp; done)); go_simp); go_big_quiet_on)
            (go_big_quiet_want; (refine BigFrame.quiet_move _ rfl ?_; go_simp); go_big_quiet_on)
            (go_big_quiet_want; (refine quiet_run (.int .i64 (c : Int)) ?_ ?_; (focus (intro W hW; go_simp; done)); go_simp); go_big_quiet_on)
            (go_big_quiet_want; (refine quiet_run (.int .i64 (lf : Int)) ?_ ?_; (focus (intro W hW; go_simp; done)); go_simp); go_big_quiet_on)
            (go_big_quiet_want; (refine quiet_run (.bool false) ?_ ?_; (focus (intro W hW; go_simp; done)); go_simp); go_big_quiet_on)
            (go_big_quiet_want; (refine quiet_run (.bool false) ?_ ?_; (focus (intro W hW; go_simp; done)); go_simp); go_big_quiet_on)
            (go_big_quiet_want; (refine BigFrame.quiet_move _ rfl ?_; go_simp); go_big_quiet_on)
            (go_big_quiet_want; (refine BigFrame.quiet_move _ rfl ?_; go_simp); go_big_quiet_on)
            (go_big_quiet_want; (refine quiet_call (.int .i64 0) 20 #[.pointer (some ⟨p, 0, none⟩)] ?_ QO.out ?_; (focus (intro W; go_simp; done)); go_simp); go_big_quiet_on)
            (go_big_quiet_want; (refine quiet_run (.bool false) ?_ ?_; (focus (intro W hW; go_simp; done)); go_simp); go_big_quiet_on)
            (go_big_quiet_want; (refine quiet_run (.bool false) ?_ ?_; (focus (intro W hW; go_simp; done)); go_simp); go_big_quiet_on)
            refine wpQuiet_nil ?_
            intro wz hwz
            have hz2 : Below wl.heap.size wl wz := hwz
            have Xz := hidg_ (Xl.out.trans (hz2.mono Xl.out.size))
            have Lz := hidg_ (Ll.out.below hz2)
            have Rz := hidg_ (Rl.out.below hz2)
            clear hwz hz2 QH QT QL QR QO q1 q2 q3 q4 q5 v1 v2 v3 v4 v5 hs1 hs2 hABl
            go_wp2
            go_roundw
            case rel => exact ⟨j1, kk, tt, aa, Ah, ch, RR, by have := HJ1.out; omega, by have := HJ1.out; omega, by have := HTT.out; have := HJ1.out; omega, rfl, rfl, rfl, rfl, hidg_ ⟨s, HF.out, Lz.out⟩, Rz, HK, Xz⟩
            case measure => simp [intOf]; have := HJ1.out; omega
          · have d7 : decide ((room : Int) < (cs : Int)) = true := decide_eq_true (by omega)
            have d8 : decide (room < cs) = true := decide_eq_true (by omega)
            have cap := append_full L5.out.lg L5.out.dk h4 h9 (by have := HTJ.out; omega) (by rw [hc]; omega) rn a5 k5 (by omega) (by rw [hc, HRM.out]; omega)
            clear hfit hr5 hrn hc hrs hcr hp6 hl5 hcs
            go_wp2_with (first
              | (go_at_call 14; ((with_reducible refine cap.mono ?_); clear cap cv5; rintro e w6 ⟨rfl, hb6⟩; have L6 := hidg_ (L5.out.below hb6); have X6 := hidg_ (X5.out.trans (hb6.mono X5.out.size)); have T6 := hidg_ (T5.out.below hb6); have R6 := hidg_ (R5.out.below hb6); clear hb6 hc5; (obtain ⟨a6, k6, hc6', cv6⟩ := HP6.out w6 T6.out)))
              | (go_at_call 12; have ca := allL_any (w := w6) (A := Ah) (La := R) kk ch HRK.out R6.out.pta (by rw [HCC.out]; omega); ((with_reducible refine ca.mono ?_); clear ca; rintro e w7 ⟨rfl, hb⟩; have L7 := hidg_ (L6.out.below hb); have X7 := hidg_ (X6.out.trans (hb.mono X6.out.size)); have R7 := hidg_ (R6.out.below hb); clear hb))
              | (go_at_call 15; have cp := refRecL_any w7 r rn HRN.out (by omega); ((with_reducible refine cp.mono ?_); clear cp; rintro e w8 ⟨rfl, hb⟩; have L8 := hidg_ (L7.out.below hb); have X8 := hidg_ (X7.out.trans (hb.mono X7.out.size)); have R8 := hidg_ (R7.out.below hb); clear hb))
              | (go_at_call 13; have cp := refRoomL_any n h4 h9 w8; rw [HRM.out] at cp; ((with_reducible refine cp.mono ?_); clear cp; rintro e w' ⟨rfl, rfl⟩)))
            go_roundw
            case rel => exact ⟨j1, kk, t, a, Ah, ch, R, by have := HJ1.out; omega, by have := HJ1.out; omega, by have := HTJ.out; have := HJ1.out; omega, rfl, rfl, rfl, rfl, hidg_ ⟨s, HF.out, L8.out⟩, R8, HRK, X8⟩
            case measure => simp [intOf]; have := HJ1.out; omega
    · obtain ⟨s, HFv, HLv⟩ := HLS.out
      have HF := hidg_ HFv
      have HL := hidg_ HLv
      have ht16 : t ≤ 16 := by omega
      obtain ⟨c, hc⟩ : ∃ y, (allB R).length = y := ⟨_, rfl⟩
      have hcr : c ≤ room := by have := HLv.ho.hc; rw [hc, HRM.out] at this; exact this
      obtain ⟨lf, hlf⟩ : ∃ y, room - c = y := ⟨_, rfl⟩
      have HC := hidg_ hc
      have HCR := hidg_ hcr
      have HLF := hidg_ hlf
      have hkk6 : kk ≤ 10000 := by have h1 := (allB_len R).1; have h2 := HRK.out; omega
      have d0 : j < n0 → ¬ j < 15 := fun h h2 => hlt ⟨h, h2⟩
      clear HFv HLv hc hcr hlf hlt HLS
      by_cases h : j < n0
      · have d1 : decide ((j : Int) < (n0 : Int)) = true := decide_eq_true (by omega)
        have d2 : decide (j < n0) = true := decide_eq_true h
        have d3 : decide ((j : Int) < 15) = false := decide_eq_false (by have := d0 h; omega)
        have d4 : decide (j < 15) = false := decide_eq_false (d0 h)
        clear d0 h
        go_wp2_with (first
          | (go_at_call 21; have cp := open_v (t := t) (a := a) (R := R) HL.out.dk HL.out.on h4 h9 (by omega) (by rw [HL.out.sR]; exact HL.out.ho); ((with_reducible refine cp.mono ?_); clear cp; rintro e we ⟨ge, Ae, ke, ce, rfl, hke, hge, hRe, hle, hbe⟩; obtain rfl : kk = ke := HRK.out.symm.trans hke; have PE := hidg_ hRe.pta; have LE := hidg_ hle; have HLe := hidg_ (HL.out.below hbe); have DE := hidg_ (DkI.below HL.out.dk hbe); have RE := hidg_ (HRT.out.below hbe); have XE := hidg_ (HWX.out.trans (hbe.mono HWX.out.size)); clear hge hRe hle hbe hke))
          | (go_at_call 22; have cq := sameL_any (w := we) (A := Ae) (B := Ah) (La := R) (Lb := R) kk ce kk ch HRK.out HRK.out PE.out RE.out.pta (by omega) (by omega); rw [decide_eq_true rfl] at cq; ((with_reducible refine cq.mono ?_); clear cq; rintro e wg ⟨rfl, hb⟩; have LG := hidg_ (LE.out.below hb); have DG := hidg_ (DkI.below DE.out hb); have HLg := hidg_ (HLe.out.below hb); have XG := hidg_ (XE.out.trans (hb.mono XE.out.size)); clear hb; have ct := lturn_any LG.out))
          | (go_at_call 18; ((with_reducible refine ct.mono ?_); clear ct; rintro e w' ⟨rfl, rfl⟩; have cl := lleft_any LG.out DG.out h4 h9 (by rw [HC.out, HRM.out]; exact HCR.out); rw [HC.out, HRM.out, HLF.out] at cl))
          | (go_at_call 19; ((with_reducible refine cl.mono ?_); clear cl; rintro e wh ⟨rfl, hb⟩; have XH := hidg_ (XG.out.trans (hb.mono XG.out.size)); have HLh := hidg_ (HLg.out.below hb); clear hb; have cl2 := lleft_any HLh.out.lg HLh.out.dk h4 h9 (by rw [HC.out, HRM.out]; exact HCR.out); rw [HC.out, HRM.out, HLF.out] at cl2))
          | (go_at_call 19; ((with_reducible refine cl2.mono ?_); clear cl2; rintro e wi ⟨rfl, hb⟩; have XI := hidg_ (XH.out.trans (hb.mono XH.out.size)); clear hb)))
        go_ret
        exact ⟨rfl, XI.out⟩
      · have d1 : decide ((j : Int) < (n0 : Int)) = false := decide_eq_false (by omega)
        have d2 : decide (j < n0) = false := decide_eq_false h
        clear d0 h
        go_wp2_with (first
          | (go_at_call 21; have cp := open_v (t := t) (a := a) (R := R) HL.out.dk HL.out.on h4 h9 (by omega) (by rw [HL.out.sR]; exact HL.out.ho); ((with_reducible refine cp.mono ?_); clear cp; rintro e we ⟨ge, Ae, ke, ce, rfl, hke, hge, hRe, hle, hbe⟩; obtain rfl : kk = ke := HRK.out.symm.trans hke; have PE := hidg_ hRe.pta; have LE := hidg_ hle; have HLe := hidg_ (HL.out.below hbe); have DE := hidg_ (DkI.below HL.out.dk hbe); have RE := hidg_ (HRT.out.below hbe); have XE := hidg_ (HWX.out.trans (hbe.mono HWX.out.size)); clear hge hRe hle hbe hke))
          | (go_at_call 22; have cq := sameL_any (w := we) (A := Ae) (B := Ah) (La := R) (Lb := R) kk ce kk ch HRK.out HRK.out PE.out RE.out.pta (by omega) (by omega); rw [decide_eq_true rfl] at cq; ((with_reducible refine cq.mono ?_); clear cq; rintro e wg ⟨rfl, hb⟩; have LG := hidg_ (LE.out.below hb); have DG := hidg_ (DkI.below DE.out hb); have HLg := hidg_ (HLe.out.below hb); have XG := hidg_ (XE.out.trans (hb.mono XE.out.size)); clear hb; have ct := lturn_any LG.out))
          | (go_at_call 18; ((with_reducible refine ct.mono ?_); clear ct; rintro e w' ⟨rfl, rfl⟩; have cl := lleft_any LG.out DG.out h4 h9 (by rw [HC.out, HRM.out]; exact HCR.out); rw [HC.out, HRM.out, HLF.out] at cl))
          | (go_at_call 19; ((with_reducible refine cl.mono ?_); clear cl; rintro e wh ⟨rfl, hb⟩; have XH := hidg_ (XG.out.trans (hb.mono XG.out.size)); have HLh := hidg_ (HLg.out.below hb); clear hb; have cl2 := lleft_any HLh.out.lg HLh.out.dk h4 h9 (by rw [HC.out, HRM.out]; exact HCR.out); rw [HC.out, HRM.out, HLF.out] at cl2))
          | (go_at_call 19; ((with_reducible refine cl2.mono ?_); clear cl2; rintro e wi ⟨rfl, hb⟩; have XI := hidg_ (XH.out.trans (hb.mono XH.out.size)); clear hb)))
        go_ret
        exact ⟨rfl, XI.out⟩

set_option maxRecDepth 100000 in
theorem lifted (os : Os) (started : os.Started) (H : Type) (enc : TypeId × Value → H) :
    ReturnsInHanded {} Try.checked os 3 .any (Rows.logWritesSpec.pre6 enc Try.prog Try.f3 Rows.logWritesRow.domain false) (Rows.logWritesSpec.post enc Try.prog Try.f3 false true false false) := by
  refine returnsInHanded_of_change (C := Try.checked) own_ started (by kernel_rfl) Try.func3
    (ChangeSpec.witness6 (enc := enc) (C := Try.checked) false ⟨#[], #[.int .i64 0, .slice none 0 0], []⟩ 8 (by kernel_rfl) (by kernel_rfl) (by kernel_rfl) (by kernel_rfl)) ?_
  intro W base args ds gs before hval0 hW hcnd _
  have hval : ∀ (j : Nat) t v, Try.f3.params[j]? = some t → args[j]? = some v → Value.okWide Try.prog W .any base t v := hval0
  have hW' := hW
  obtain ⟨p, q, hA0, hV, rfl, hfz, hnd⟩ := hW
  have hA : DataW.TrodAll enc Try.prog W 0 (fun _ => true) true Try.f3.params.toList args.toList ds p := hA0
  rw [Try.params3] at hA hval
  obtain ⟨v0, vs0, d0, ds0, p0, q0, hargs, rfl, rfl, h0, r0⟩ := trodAll_cons hA
  obtain ⟨v1, vs1, d1, ds1, p1, q1, rfl, rfl, rfl, h1, r1⟩ := trodAll_cons r0
  obtain ⟨rfl, rfl, rfl⟩ := trodAll_nil r1
  obtain rfl : args = #[v0, v1] := by cases args; simp_all
  obtain ⟨rfl, rfl⟩ := trodVars_none hV
  obtain ⟨z0, rfl, rfl, rfl, w0⟩ := open_int Try.underlying3 (hval 0 3 v0 rfl rfl) h0
  obtain ⟨A1, l1, c1, rfl, hp1, hlc1, hcm1⟩ := open_lacts Try.underlying22 Try.underlying34 ⟨rfl, rfl⟩ ⟨rfl, rfl⟩ Try.underlying4 (by kernel_rfl) Try.underlying32 (by kernel_rfl) Try.underlying39 Try.underlying5 (by kernel_rfl) (by kernel_rfl) (by kernel_rfl) (hval 1 22 v1 rfl rfl) h1
  refine (walk W z0 A1 l1.length c1 l1 rfl hp1 (by unfold maxLen at hcm1; omega)).mono fun e W' ⟨he, hg⟩ => ⟨_, he, ?_⟩
  exact law_post laidOut_ (of_decide_eq_true (by kernel_rfl)) rfl rfl Try.underlying4 rfl hW' hg

theorem over : Rows.logWritesRow.holds Try.pinned (OpenSpec.ofChange Rows.logWritesSpec) :=
  OpenClaim.holds_of_wide 3 Try.f3 rfl rfl rfl rfl rfl rfl rfl ⟨rfl, rfl, rfl, rfl, rfl⟩ rfl rfl rfl rfl rfl (by kernel_rfl) Try.func3 (by kernel_rfl)
    (of_decide_eq_true (by kernel_rfl)) (by unfold Func.isWrapper; first | (rw [if_pos (by decide +kernel)]; kernel_rfl) | (rw [if_neg (by decide +kernel)]; exact ⟨rfl, rfl⟩))
    (fun os started H enc _ => lifted os started H enc)

theorem proved : Rows.LogWritesSaid := over
#print axioms proved
end Go.Proofs.Ytdlciehboimciaa.logWrites
