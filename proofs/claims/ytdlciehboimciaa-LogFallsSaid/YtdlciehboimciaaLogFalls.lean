/-
  Proved: for all falls LogFalls answers true: behind crashes at any write or Sync, one behind the other, the records are those of all calls that were answered, and perhaps of the one under way. No condition.
-/
import Derived.Test.YtdlciehboimciaaLhj
import Derived.Test.YtdlciehboimciaaDkn
namespace Go.Proofs.Ytdlciehboimciaa.logFalls
set_option maxRecDepth 100000
open Go.ChangeShapes Go.WideShapes Go.ChangeAt Go.RowKit
set_option linter.unusedVariables false
set_option linter.unusedSimpArgs false

theorem infoAct : (Try.prog.info? 34).map (·.size) = some 2 := by kernel_rfl
theorem infoFall : (Try.prog.info? 52).map (·.size) = some 3 := by kernel_rfl
def zFall : Array Value := #[.slice none 0 0, .int .i64 0, .slice none 0 0]
theorem zeroFall (W : World) : (zeroValue 52).run Try.prog W = .ok (.agg zFall) W := by kernel_rfl
def NxR (kk ch rn k5 K c5 b5 o5 : Nat) (Ah a5 : Option Addr) : Nat → Value → World → Prop
  | 1, v, _ => v = .slice Ah kk ch
  | 3, v, _ => v = .slice (some ⟨b5, o5, none⟩) K c5
  | 4, v, _ => v = .pointer (some ⟨b5, o5, none⟩)
  | 5, v, _ => v = .slice a5 rn k5
  | _, _, _ => True
theorem NxR.keep {kk ch rn k5 K c5 b5 o5 : Nat} {Ah a5 : Option Addr} {i : Nat} {v : Value} {W W' : World} (hh : NxR kk ch rn k5 K c5 b5 o5 Ah a5 i v W) : NxR kk ch rn k5 K c5 b5 o5 Ah a5 i v W' := by
  unfold NxR at hh ⊢
  split at hh <;> first
    | exact hh
    | trivial
set_option maxRecDepth 100000 in
set_option maxHeartbeats 64000000 in
theorem walk (w : World) (A0 : Option Addr) (n0 c0 : Nat) (l : List LFall) (hn : l.length = n0) (hp : RdLF w w.heap.size A0 l) (hn9 : n0 ≤ 9223372036854775807) : Calls Try.prog 4 #[.slice A0 n0 c0] w fun e w' => e = .returned (.bool true) ∧ Below w.heap.size w w' := by
  have hroom : roomN 22 = 640 := rfl
  have HN := hidg_ hn
  have HP := hidg_ hp
  have cn : Calls Try.prog 7 #[.int .i64 22] w _ := dnew_yes w 22 (by omega) (by omega)
  clear hn hp
  go_enter Try.func4, Try.ntmps4
  go_upto_region 5 with (first
    | (go_at_call 7; ((with_reducible refine cn.mono ?_); clear cn; rintro e w1 ⟨p, q, rfl, h1, hb⟩; have D1 := hidg_ (show DkJ w.heap.size w1 p q 22 ⟨zsecs 22, [], 0, false⟩ from h1); have B1 := hidg_ hb; clear h1 hb))
    | (go_at_call 8; have cp := format_v D1.out B1.out.size (by omega) (by omega); ((with_reducible refine cp.mono ?_); clear cp; rintro e w2 ⟨g, rfl, hL, hb⟩; have L2 := hidg_ hL; have B2 := hidg_ (B1.out.trans hb); clear hL hb))
    | (go_at_call 9; have cp := logs_any w2; ((with_reducible refine cp.mono ?_); clear cp; rintro e w3 ⟨rfl, hb⟩; have L3 := hidg_ (L2.out.below hb); have B3 := hidg_ (B2.out.trans (hb.mono B2.out.size)); clear hb)))
  clear D1 L2
  go_wp2
  go_loopw [5, 7, 8] (fun lv sv i wr => ∃ (j gl t a kk : Nat) (Ah : Option Addr) (ch : Nat) (S : List (List UInt8)), j ≤ n0 ∧ j ≤ 4 ∧ t ≤ 1 + 7 * j ∧ i = .int .i64 j ∧ lv = .pointer (some ⟨gl, 0, none⟩) ∧ sv = .slice Ah kk ch ∧ Hid (∃ s : DkX, s.fu = 0 ∧ LogV w.heap.size wr gl p q 22 t a S s) ∧ Hid (RecT wr w.heap.size (.slice Ah kk ch) S) ∧ Hid (S.length = kk) ∧ Hid (Below w.heap.size w wr)) (fun _ _ i _ => 4 - (intOf i).toNat)
  case atStart => exact ⟨0, g, 1, 0, 0, none, 0, [], Nat.zero_le _, Nat.zero_le _, by omega, rfl, rfl, rfl, hidg_ ⟨_, rfl, L3.out⟩, hidg_ (RecT.nil_ _ _), hidg_ rfl, B3⟩
  case round =>
    obtain ⟨j, gl, t, a, kk, Ah, ch, S, hj, hj4, htj, rfl, rfl, rfl, HLS, HRT, HRK, HWX⟩ := hrel
    by_cases hlt : j < n0 ∧ j < 4
    · obtain ⟨hl, hl2⟩ := hlt
      have d1 : decide ((j : Int) < (n0 : Int)) = true := decide_eq_true (by omega)
      have d2 : decide (j < n0) = true := decide_eq_true hl
      have d3 : decide ((j : Int) < 4) = true := decide_eq_true (by omega)
      have d4 : decide (j < 4) = true := decide_eq_true hl2
      obtain ⟨j1, hj1⟩ : ∃ x, j + 1 = x := ⟨_, rfl⟩
      have HJ1 := hidg_ hj1
      have ej1 : (j : Int) + 1 = (j1 : Int) := by omega
      obtain ⟨wo, rfl⟩ : ∃ x, x = wr := ⟨wr, rfl⟩
      obtain ⟨b, off, rfl, hbl, hcs⟩ := HP.out (by rw [HN.out]; omega)
      obtain ⟨x1, x2, x3, x4, x5, x6, x7⟩ := hcs j (by rw [HN.out]; exact hl)
      obtain ⟨x, hx⟩ : ∃ x, l[j]'(by rw [HN.out]; exact hl) = x := ⟨_, rfl⟩
      rw [hx] at x1 x2 x3 x4 x5 x6 x7
      obtain ⟨row, rat, rcap, fz, stay, sat, scap⟩ := x
      dsimp only at x1 x2 x3 x4 x5 x6 x7
      obtain ⟨n1, hn1⟩ : ∃ y, row.length = y := ⟨_, rfl⟩
      obtain ⟨ns, hns⟩ : ∃ y, stay.length = y := ⟨_, rfl⟩
      rw [hn1] at x1 x5
      rw [hns] at x3 x7
      have y1 := (HWX.out.cell (p := ⟨b, off + 3 * j, none⟩) hbl).trans x1
      have y2 := (HWX.out.cell (p := ⟨b, off + 3 * j + 1, none⟩) hbl).trans x2
      have y3 := (HWX.out.cell (p := ⟨b, off + 3 * j + 2, none⟩) hbl).trans x3
      rw [Nat.mul_comm 3 j] at y1 y2 y3
      obtain ⟨FC, hFC⟩ : ∃ y, (#[Value.slice rat n1 rcap, Value.int .i64 fz, Value.slice sat ns scap] : Array Value) = y := ⟨_, rfl⟩
      have HFCs := hidg_ (show FC.size = 3 by rw [← hFC]; rfl)
      have HCE := hidg_ (show ∀ i, i < FC.size → wo.cell? ⟨b, off + j * 3 + i, none⟩ = FC[i]? from fun i hi => by
        rw [HFCs.out] at hi
        rw [← hFC]
        rcases i with _ | _ | _ | i
        · exact y1
        · exact y2
        · exact y3
        · omega)
      have HFC1 := hidg_ (show FC.all (·.oneCell') = true by rw [← hFC, Array.all_eq_true_iff_forall_mem]; intro v hv; simp only [List.mem_toArray, List.mem_cons, List.not_mem_nil, or_false] at hv; rcases hv with rfl | rfl | rfl <;> rfl)
      have HFI := hidg_ (show (Try.prog.info? 52).map (·.size) = some FC.size by rw [HFCs.out]; exact infoFall)
      have HFC := hidg_ hFC
      obtain ⟨U, hU, hUb⟩ := u64_natK fz
      obtain ⟨v, hv⟩ : ∃ y, U % 16 = y := ⟨_, rfl⟩
      have s3 : (U : Int).tmod 16 = (v : Int) := by rw [Int.tmod_eq_emod_of_nonneg (by omega)]; omega
      have s4 : IntKind.u64.wrap (v : Int) = (v : Int) := IntWalk.u64_in _ (by omega)
      have s5 : IntKind.i64.wrap (v : Int) = (v : Int) := IntWalk.i64_in _ (by omega)
      have hv16 : v < 16 := by omega
      have t0 : (0 : Int) ≤ (j : Int) := by omega
      have tn : (j : Int) < (n0 : Int) := by omega
      have HROW := hidg_ x4
      have HSTAY := hidg_ x6
      have HN1 := hidg_ hn1
      have HNS := hidg_ hns
      have HTJ := hidg_ htj
      obtain ⟨gF, hgF⟩ : ∃ y, wo.heap.size = y := ⟨_, rfl⟩
      obtain ⟨wa, hwa⟩ : ∃ W, wo.alloc (.cells zFall 52) = W := ⟨_, rfl⟩
      have KA := hidg_ (show Bk wa gF 52 zFall by rw [← hwa, ← hgF]; exact Bk.new wo _ _)
      have BA := hidg_ (show Below wo.heap.size wo wa by rw [← hwa]; exact (Below.refl _ _).alloc (Nat.le_refl _) _)
      have hzf := zeroFall
      have HGF := hidg_ (show w.heap.size ≤ gF by rw [← hgF]; exact HWX.out.size)
      have HGF2 := hidg_ hgF
      clear x1 x2 x3 x4 x5 x6 hcs hx hn1 hns y1 y2 y3 hFC hv hUb htj hbl hj1
      go_upto_region 10 with (first
        | (refine wpList_load_sub rfl 52 (.tmp 48) rfl b (off + j * 3) rfl FC HCE.out _ Try.underlying52 rfl HFI.out ?_)
        | (refine wpList_put_row rfl 52 (.tmp 9) (.tmp 49) rfl gF FC rfl rfl 52 zFall KA.out HFI.out (by rw [HFCs.out]; rfl) HFC1.out ?_; intro w9 k9 g9 s9; have K9 := hidg_ k9; have B9 := hidg_ (BA.out.grown g9 BA.out.size (fun k e => by injection e with e; have := HGF2.out; omega)); clear k9 g9 s9))
      have kf := K9.out
      rw [← HFC.out] at kf
      have kf1 := kf.cell 1
      simp only [List.getElem?_toArray, List.getElem?_cons_zero, List.getElem?_cons_succ] at kf1
      clear kf
      obtain ⟨s, hsf, hLV⟩ := HLS.out
      have L9 := hidg_ (hLV.below B9.out)
      have X9 := hidg_ (HWX.out.trans (B9.out.mono HWX.out.size))
      have T9 := hidg_ (HRT.out.below B9.out)
      have cfu := dfuse_yes L9.out.dk (v : Int) v (by omega) (by omega)
      clear hsf hLV HLS HRT hwa
      go_wp2_with (go_at_call 23; ((with_reducible refine cfu.mono ?_); clear cfu; rintro e w4 ⟨rfl, hd, hb, hu⟩; have L4 := hidg_ (show LogV w.heap.size w4 gl p q 22 t a S ⟨s.F, s.R, v, s.off⟩ from ⟨Bk.unt L9.out.lg hu (by decide), hd, L9.out.on, L9.out.sR, L9.out.ho, L9.out.gb⟩); have X4 := hidg_ (X9.out.trans hb); have T4 := hidg_ (T9.out.unt hu (by decide) (by decide)); have K4 := hidg_ (K9.out.unt hu (by decide)); clear hd hb hu))
      clear s3 s4 s5 hU kf1 L9 X9 T9 K9 B9 BA KA HCE
      go_loopw [7, 10, 11] (fun sv nv i wr => ∃ (k t2 a2 kk2 kn : Nat) (Ah2 : Option Addr) (ch2 : Nat) (An : Option Addr) (cn : Nat) (S2 N : List (List UInt8)) (y : DkX), k ≤ n1 ∧ k ≤ 6 ∧ i = .int .i64 k ∧ sv = .slice Ah2 kk2 ch2 ∧ nv = .slice An kn cn ∧ Hid (t2 + (if y.off = true then 1 else 0) ≤ t + k) ∧ Hid (FaS w wr gl p q 22 t2 a2 S2 N y) ∧ Hid (RecT wr w.heap.size (.slice Ah2 kk2 ch2) S2) ∧ Hid (S2.length = kk2) ∧ Hid (RecT wr w.heap.size (.slice An kn cn) N) ∧ Hid (N.length = kn) ∧ Hid (S2.length ≤ 10000) ∧ Hid (Bk wr gF 52 FC)) (fun _ _ i _ => 6 - (intOf i).toNat)
      case atStart => exact ⟨0, t, a, kk, kk, Ah, ch, Ah, ch, S, S, _, Nat.zero_le _, Nat.zero_le _, rfl, rfl, rfl, hidg_ (by rw [if_neg (by show ¬ s.off = true; have := L4.out.on; simp at this; simp [this])]; exact Nat.le_refl _), hidg_ (FaS.start L4.out X4.out), T4, HRK, T4, HRK, hidg_ (by have h1 := (allB_len S).1; have h3 := L4.out.ho.hc; rw [hroom] at h3; omega), K4⟩
      case round =>
        obtain ⟨k, t2, a2, kk2, kn, Ah2, ch2, An, cn, S2, N, y, hk, hk6, rfl, rfl, rfl, HT2, HFS, HRS, HSK, HRN, HNK, HSB, HKF⟩ := hrel
        have kf := HKF.out
        rw [← HFC.out] at kf
        have kf0 := kf.cell 0
        have kf2 := kf.cell 2
        simp only [List.getElem?_toArray, List.getElem?_cons_zero, List.getElem?_cons_succ] at kf0 kf2
        clear kf
        have cof := doff_yes HFS.out.dk
        obtain ⟨k1, hk1⟩ : ∃ x, k + 1 = x := ⟨_, rfl⟩
        have HK1 := hidg_ hk1
        have ek1 : (k : Int) + 1 = (k1 : Int) := by omega
        by_cases hc1 : k < n1
        · have f1 : decide ((k : Int) < (n1 : Int)) = true := decide_eq_true (by omega)
          have f2 : decide (k < n1) = true := decide_eq_true hc1
          by_cases hc2 : k < 6
          · have f3 : decide ((k : Int) < 6) = true := decide_eq_true (by omega)
            have f4 : decide (k < 6) = true := decide_eq_true hc2
            cases ho : y.off with
            | true =>
              rw [ho] at cof
              clear hk1 ek1 hc1 hc2
              go_upto_region 27 with (go_at_call 24; ((with_reducible refine cof.mono ?_); clear cof; rintro e w' ⟨rfl, rfl⟩))
              have cc := crash_v HFS.out.dk HFS.out.be.size HFS.out.yR sat ns scap stay HNS.out (fun W hb _ j' hj' => by
                obtain ⟨b', o', e', hl', hc'⟩ := HSTAY.out (by rw [HNS.out]; omega)
                refine ⟨b', o', e', ?_⟩
                exact ((HFS.out.be.trans hb).cell (p := ⟨b', o' + j', none⟩) hl').trans (hc' j' (by rw [HNS.out]; exact hj')))
              have hcr := HFS.out.crash stay
              obtain ⟨F', hF'⟩ : ∃ x, appl y.F (kept y.R stay) = x := ⟨_, rfl⟩
              rw [hF'] at cc hcr
              have HT7 := hidg_ (show t2 ≤ 1 + 7 * j1 - 1 ∧ (y.off = true → t2 + 1 ≤ 1 + 7 * j1 - 1) by
                have h1 := HT2.out
                have h2 := HTJ.out
                have h3 := HJ1.out
                constructor
                · omega
                · intro ho9
                  rw [if_pos ho9] at h1
                  omega)
              have hkS : kk2 ≤ 10000 := by have h1 := HSB.out; have h2 := HSK.out; omega
              clear hF'
              go_upto_region 28 with (go_at_call 25; ((with_reducible refine cc.mono ?_); clear cc; rintro e w5 ⟨rfl, hd, hb, hu⟩; have D5 := hidg_ hd; have X5 := hidg_ (HFS.out.be.trans hb); have RS5 := hidg_ (HRS.out.unt hu (by decide) (by decide)); have RN5 := hidg_ (HRN.out.unt hu (by decide) (by decide)); clear hd hb hu))
              rcases hcr with hH | ⟨hoff, a', hH⟩
              · have HH := hidg_ hH
                have ht9 : t2 ≤ 9223372036854775807 := by have := HT7.out.1; have := HJ1.out; omega
                clear hH
                go_wp2_with (first
                  | (go_at_call 21; have cp := open_v (t := t2) (a := a2) (R := S2) D5.out rfl (by omega) (by omega) ht9 (show HoldsL 22 t2 a2 S2 (appl F' []) from HH.out); ((with_reducible refine cp.mono ?_); clear cp; rintro e w6 ⟨g6, A6, k6, c6, rfl, hk6, hg6, hR6, hl6, hb6⟩; obtain rfl : kk2 = k6 := HSK.out.symm.trans hk6; have P6 := hidg_ hR6.pta; have X6 := hidg_ (X5.out.trans (hb6.mono X5.out.size)); have RS6 := hidg_ (RS5.out.below hb6); have L6 := hidg_ (show LogV w.heap.size w6 g6 p q 22 t2 a2 S2 ⟨F', [], 0, false⟩ from ⟨hl6, DkI.below D5.out hb6, rfl, rfl, HH.out, Nat.le_trans X5.out.size hg6⟩); clear hg6 hR6 hl6 hb6 hk6))
                  | (go_at_call 22; have cq := sameL_any (w := w6) (A := A6) (B := Ah2) (La := S2) (Lb := S2) kk2 c6 kk2 ch2 HSK.out HSK.out P6.out RS6.out.pta (by omega) (by omega); rw [decide_eq_true rfl] at cq; ((with_reducible refine cq.mono ?_); clear cq; rintro e w7 ⟨rfl, hb⟩; have L7 := hidg_ (L6.out.below hb); have X7 := hidg_ (X6.out.trans (hb.mono X6.out.size)); have RS7 := hidg_ (RS6.out.below hb); clear hb)))
                go_roundw
                case rel => exact ⟨j1, g6, t2, a2, kk2, Ah2, ch2, S2, by have := HJ1.out; omega, by have := HJ1.out; omega, by have := HT7.out.1; omega, rfl, rfl, rfl, hidg_ ⟨_, rfl, L7.out⟩, RS7, HSK, X7⟩
                case measure => simp [intOf]; have := HJ1.out; omega
              · have hkk6 : kn ≤ 10000 := by have h1 := (allB_len N).1; have h2 := HNK.out; have h3 := hH.hc; rw [hroom] at h3; omega
                have HH := hidg_ hH
                have ht10 : t2 + 1 ≤ 1 + 7 * j1 := by have := HT7.out.2 hoff; omega
                have ht9 : t2 + 1 ≤ 9223372036854775807 := by have := HJ1.out; omega
                obtain ⟨t3, ht3⟩ : ∃ x, t2 + 1 = x := ⟨_, rfl⟩
                rw [ht3] at HH ht9 ht10
                by_cases hNS : N = S2
                · have HNS2 := hidg_ hNS
                  clear hH hoff hNS ht3
                  go_wp2_with (first
                    | (go_at_call 21; have cp := open_v (t := t3) (a := a') (R := N) D5.out rfl (by omega) (by omega) ht9 (show HoldsL 22 t3 a' N (appl F' []) from HH.out); ((with_reducible refine cp.mono ?_); clear cp; rintro e w6 ⟨g6, A6, k6, c6, rfl, hk6, hg6, hR6, hl6, hb6⟩; obtain rfl : kn = k6 := HNK.out.symm.trans hk6; have P6 := hidg_ hR6.pta; have X6 := hidg_ (X5.out.trans (hb6.mono X5.out.size)); have RS6 := hidg_ (RS5.out.below hb6); have L6 := hidg_ (show LogV w.heap.size w6 g6 p q 22 t3 a' N ⟨F', [], 0, false⟩ from ⟨hl6, DkI.below D5.out hb6, rfl, rfl, HH.out, Nat.le_trans X5.out.size hg6⟩); clear hg6 hR6 hl6 hb6 hk6))
                    | (go_at_call 22; have cq := sameL_any (w := w6) (A := A6) (B := Ah2) (La := N) (Lb := S2) kn c6 kk2 ch2 HNK.out HSK.out P6.out RS6.out.pta (by omega) (by omega); rw [decide_eq_true HNS2.out] at cq; ((with_reducible refine cq.mono ?_); clear cq; rintro e w7 ⟨rfl, hb⟩; have L7 := hidg_ (L6.out.below hb); have X7 := hidg_ (X6.out.trans (hb.mono X6.out.size)); have RS7 := hidg_ (RS6.out.below hb); clear hb)))
                  go_roundw
                  case rel => exact ⟨j1, g6, t3, a', kk2, Ah2, ch2, S2, by have := HJ1.out; omega, by have := HJ1.out; omega, ht10, rfl, rfl, rfl, hidg_ ⟨_, rfl, by rw [← HNS2.out]; exact L7.out⟩, RS7, HSK, X7⟩
                  case measure => simp [intOf]; have := HJ1.out; omega
                · have HNS2 := hidg_ hNS
                  have hSr := HFS.out
                  clear hH hoff hNS ht3
                  go_wp2_with (first
                    | (go_at_call 21; have cp := open_v (t := t3) (a := a') (R := N) D5.out rfl (by omega) (by omega) ht9 (show HoldsL 22 t3 a' N (appl F' []) from HH.out); ((with_reducible refine cp.mono ?_); clear cp; rintro e w6 ⟨g6, A6, k6, c6, rfl, hk6, hg6, hR6, hl6, hb6⟩; obtain rfl : kn = k6 := HNK.out.symm.trans hk6; have P6 := hidg_ hR6.pta; have X6 := hidg_ (X5.out.trans (hb6.mono X5.out.size)); have RS6 := hidg_ (RS5.out.below hb6); have RN6 := hidg_ (RN5.out.below hb6); have L6 := hidg_ (show LogV w.heap.size w6 g6 p q 22 t3 a' N ⟨F', [], 0, false⟩ from ⟨hl6, DkI.below D5.out hb6, rfl, rfl, HH.out, Nat.le_trans X5.out.size hg6⟩); clear hg6 hR6 hl6 hb6 hk6; have cq := sameL_any (w := w6) (A := A6) (B := Ah2) (La := N) (Lb := S2) kn c6 kk2 ch2 HNK.out HSK.out P6.out RS6.out.pta (by omega) (by omega); rw [decide_eq_false HNS2.out] at cq))
                    | (go_at_call 22; ((with_reducible refine cq.mono ?_); clear cq; rintro e w7 ⟨rfl, hb⟩; have L7 := hidg_ (L6.out.below hb); have X7 := hidg_ (X6.out.trans (hb.mono X6.out.size)); have RN7 := hidg_ (RN6.out.below hb); have P7 := hidg_ (P6.out.below hb); clear hb; have cq2 := sameL_any (w := w7) (A := A6) (B := An) (La := N) (Lb := N) kn c6 kn cn HNK.out HNK.out P7.out RN7.out.pta (by omega) (by omega); rw [decide_eq_true rfl] at cq2))
                    | (go_at_call 22; ((with_reducible refine cq2.mono ?_); clear cq2; rintro e w8 ⟨rfl, hb⟩; have L8 := hidg_ (L7.out.below hb); have X8 := hidg_ (X7.out.trans (hb.mono X7.out.size)); have RN8 := hidg_ (RN7.out.below hb); clear hb)))
                  go_roundw
                  case rel => exact ⟨j1, g6, t3, a', kn, An, cn, N, by have := HJ1.out; omega, by have := HJ1.out; omega, ht10, rfl, rfl, rfl, hidg_ ⟨_, rfl, L8.out⟩, RN8, HNK, X8⟩
                  case measure => simp [intOf]; have := HJ1.out; omega
            | false =>
              rw [ho] at cof
              have HHO := hidg_ ho
              obtain ⟨LV, hNS⟩ := HFS.out.on ho
              have ht2 : t2 ≤ t + k := by have h := HT2.out; rw [if_neg (by rw [ho]; decide)] at h; exact h
              have LVh := hidg_ LV
              have HNS := hidg_ hNS
              obtain ⟨b2, o2, rfl, hbl2, hcs2⟩ := HROW.out (by rw [HN1.out]; omega)
              obtain ⟨x1, x2, x3, x4⟩ := hcs2 k (by rw [HN1.out]; exact hc1)
              obtain ⟨x, hx⟩ : ∃ x, row[k]'(by rw [HN1.out]; exact hc1) = x := ⟨_, rfl⟩
              rw [hx] at x1 x2 x3 x4
              obtain ⟨rep, recs, Ax, cx⟩ := x
              dsimp only at x1 x2 x3 x4
              obtain ⟨nx, hnx⟩ : ∃ y, recs.length = y := ⟨_, rfl⟩
              rw [hnx] at x2 x4
              have z1 := (HFS.out.be.cell (p := ⟨b2, o2 + 2 * k, none⟩) hbl2).trans x1
              have z2 := (HFS.out.be.cell (p := ⟨b2, o2 + 2 * k + 1, none⟩) hbl2).trans x2
              rw [Nat.mul_comm 2 k] at z1 z2
              have HCE2 := hidg_ (show ∀ i, i < (#[Value.bool rep, Value.slice Ax nx cx] : Array Value).size → wr.cell? ⟨b2, o2 + k * 2 + i, none⟩ = (#[Value.bool rep, Value.slice Ax nx cx] : Array Value)[i]? from fun i hi => by
                have h2 : i < 2 := hi
                rcases i with _ | _ | i
                · exact z1
                · exact z2
                · omega)
              have cfw := actFew_any wr rep Ax nx cx recs hnx ((x3.below HFS.out.be (Nat.le_refl _)).more HFS.out.be.size) x4
              obtain ⟨R1, hR1⟩ : ∃ y, fewL recs 3 100 = y := ⟨_, rfl⟩
              obtain ⟨Ki, hK⟩ : ∃ y, min 3 nx = y := ⟨_, rfl⟩
              rw [hR1, hK] at cfw
              unfold FewP at cfw
              have hK3 : Ki ≤ 3 := by omega
              have HR1L := hidg_ (show R1.length = Ki by rw [← hR1, fewL_len, hnx, hK])
              have HR1S := hidg_ (show ∀ r ∈ R1, r.length ≤ 100 by rw [← hR1]; exact fewL_small recs 3 100)
              have HR1B := hidg_ (show (allB R1).length ≤ 324 by rw [← hR1]; exact fewL_allB recs 3 100)
              have u0 : (0 : Int) ≤ (k : Int) := by omega
              have un : (k : Int) < (n1 : Int) := by omega
              have HY1 := hidg_ (fun W (hW : Below w.heap.size w W) => show W.cell? ⟨b2, o2 + k * 2, none⟩ = some (.bool rep) by rw [Nat.mul_comm k 2]; exact (hW.cell (p := ⟨b2, o2 + 2 * k, none⟩) hbl2).trans x1)
              have HT29 := hidg_ (show t2 ≤ 40 by have := HTJ.out; omega)
              have HT2K := hidg_ (show t2 + 1 ≤ t + k1 by omega)
              clear x1 x2 x3 x4 hcs2 hx hnx hR1 hK z1 z2 hbl2 ho LV hNS ht2 hk1
              go_upto_region 16 with (first
                | (go_at_call 24; ((with_reducible refine cof.mono ?_); clear cof; rintro e w' ⟨rfl, rfl⟩))
                | (refine wpList_load_sub rfl 34 (.tmp 77) rfl b2 (o2 + k * 2) rfl #[.bool rep, .slice Ax nx cx] HCE2.out _ Try.underlying34 rfl infoAct ?_)
                | (go_at_call 10; ((with_reducible refine cfw.mono ?_); clear cfw; rintro e w5 ⟨A5, c5, rfl, hT, hb⟩; have B5 := hidg_ hb; have T5 := hidg_ (hT.lower HFS.out.be.size); have X5 := hidg_ (HFS.out.be.trans (hb.mono HFS.out.be.size)); have L5 := hidg_ (LVh.out.below hb); have RS5 := hidg_ (HRS.out.below hb); have RN5 := hidg_ (HRN.out.below hb); have KF5 := hidg_ (HKF.out.below hb HKF.out.lt); have FS5 := hidg_ (HFS.out.below hb); clear hT hb)))
              have kf5 := KF5.out
              rw [← HFC.out] at kf5
              have kf50 := kf5.cell 0
              simp only [List.getElem?_toArray, List.getElem?_cons_zero] at kf50
              have hy5 := HY1.out w5 X5.out
              clear kf5 kf0 kf2 HCE2 HY1 HKF HRS HRN LVh B5
              have hax := L5.out.ho.ha
              obtain ⟨t3, ht3⟩ : ∃ x, t2 + 1 = x := ⟨_, rfl⟩
              cases rep with
              | true =>
                have hfit : (allB R1).length ≤ roomN 22 := by rw [hroom]; have := HR1B.out; omega
                have ht19 : t2 + 1 ≤ 9223372036854775807 := by have := HT29.out; omega
                have cr := replace_v L5.out X5.out.size (by omega) (by omega) ht19 R1 Ki A5 c5 HR1L.out T5.out.pta hfit
                have HCRS := hidg_ (fun ho9 => replace_crash L5.out (by omega) (by omega) ht19 R1 hfit ho9)
                obtain ⟨Y, hY⟩ : ∃ Y, opY y 22 t2 (1 - a2) 0 (allB R1) = Y := ⟨_, rfl⟩
                have HLB := hidg_ (show 0 + (allB R1).length ≤ 600000 by have := HR1B.out; omega)
                have HYY := hidg_ hY
                cases ho2 : Y.off with
                | false =>
                  have HOY := hidg_ ho2
                  have HE := hidg_ (show erX (opY y 22 t2 (1 - a2) 0 (allB R1)) = 0 by rw [hY, erX, if_neg (by rw [ho2]; decide)])
                  have HT3 := hidg_ ht3
                  clear ho2 hY hfit ht19 ht3 HCRS
                  go_wp2_with (go_at_call 11; ((with_reducible refine cr.mono ?_); clear cr; rintro e w6 hp; have hen := hp.en; rw [HE.out] at hen; subst hen; have F6 := hidg_ (FaS.done L5.out X5.out hp HLB.out (by rw [HYY.out]; exact HOY.out)); have T6 := hidg_ (T5.out.unt hp.un (by decide) (by decide)); have K6 := hidg_ (KF5.out.unt hp.un (by decide)); clear hp))
                  go_roundw
                  case rel => exact ⟨k1, t2 + 1, 1 - a2, Ki, Ki, A5, c5, A5, c5, R1, R1, Y, by have := HK1.out; omega, by have := HK1.out; omega, rfl, rfl, rfl, hidg_ (by rw [if_neg (by rw [HOY.out]; decide)]; exact HT2K.out), hidg_ (by rw [← HYY.out]; exact F6.out), T6, HR1L, T6, HR1L, hidg_ (by have := HR1L.out; omega), K6⟩
                  case measure => simp [intOf]; have := HK1.out; omega
                | true =>
                  have HOY := hidg_ ho2
                  have HE := hidg_ (show erX (opY y 22 t2 (1 - a2) 0 (allB R1)) = 9 by rw [hY, erX, if_pos ho2])
                  clear ho2 hY hfit ht19 ht3
                  go_wp2_with (first
                    | (go_at_call 11; ((with_reducible refine cr.mono ?_); clear cr; rintro e w6 hp; have hen := hp.en; rw [HE.out] at hen; subst hen; have F6 := hidg_ (FaS.fell L5.out X5.out hp HLB.out (by rw [HYY.out]; exact HOY.out) (HCRS.out (by rw [HYY.out]; exact HOY.out))); have T6 := hidg_ (T5.out.unt hp.un (by decide) (by decide)); have RS6 := hidg_ (RS5.out.unt hp.un (by decide) (by decide)); have K6 := hidg_ (KF5.out.unt hp.un (by decide)); clear hp))
                    | (go_at_call 24; have cof2 := doff_yes F6.out.dk; rw [HYY.out, HOY.out] at cof2; ((with_reducible refine cof2.mono ?_); clear cof2; rintro e w' ⟨rfl, rfl⟩)))
                  go_roundw
                  case rel => exact ⟨k1, t2, a2, kk2, Ki, Ah2, ch2, A5, c5, S2, R1, Y, by have := HK1.out; omega, by have := HK1.out; omega, rfl, rfl, rfl, hidg_ (by rw [if_pos HOY.out]; exact HT2K.out), hidg_ (by rw [← HYY.out]; exact F6.out), RS6, HSK, T6, HR1L, HSB, K6⟩
                  case measure => simp [intOf]; have := HK1.out; omega
              | false =>
                rcases Nat.eq_zero_or_pos Ki with hK0 | hK0
                · have g5 : decide ((0 : Int) < (Ki : Int)) = false := decide_eq_false (by omega)
                  have g6 : decide (0 < Ki) = false := decide_eq_false (by omega)
                  clear ht3 hK0
                  go_wp2
                  go_roundw
                  case rel => exact ⟨k1, t2, a2, kn, kn, An, cn, An, cn, N, N, y, by have := HK1.out; omega, by have := HK1.out; omega, rfl, rfl, rfl, hidg_ (by rw [if_neg (by rw [HHO.out]; decide)]; have := HT2K.out; omega), hidg_ (by have h := FS5.out; rw [← HNS.out] at h; exact h), RN5, HNK, RN5, HNK, hidg_ (by rw [HNS.out]; exact HSB.out), KF5⟩
                  case measure => simp [intOf]; have := HK1.out; omega
                · have g5 : decide ((0 : Int) < (Ki : Int)) = true := decide_eq_true (by omega)
                  have g6 : decide (0 < Ki) = true := decide_eq_true (by omega)
                  have uK : (0 : Int) < (Ki : Int) := by omega
                  have uK3 : ¬ Ki = 0 := by omega
                  obtain ⟨b5, o5, rfl, hsr⟩ := T5.out.src.1 (by rw [HR1L.out]; exact hK0)
                  obtain ⟨a5, k5, hc5, hO5⟩ := hsr 0 (by rw [HR1L.out]; exact hK0)
                  obtain ⟨r, hr⟩ : ∃ y, R1.getD 0 [] = y := ⟨_, rfl⟩
                  rw [hr] at hc5 hO5
                  obtain ⟨rn, hrn⟩ : ∃ y, r.length = y := ⟨_, rfl⟩
                  rw [hrn] at hc5 hO5
                  rw [Nat.add_zero] at hc5
                  have hrn100 : rn ≤ 100 := by
                    rw [← hrn, ← hr]
                    have : 0 < R1.length := by rw [HR1L.out]; exact hK0
                    exact HR1S.out _ (by simp [List.getD, this])
                  have hkk9 : kk2 ≤ 10000 := by have h1 := HSB.out; have h2 := HSK.out; omega
                  have C5 := hidg_ hc5
                  have O5 := hidg_ hO5
                  have HRL := hidg_ hrn
                  have HT3 := hidg_ ht3
                  clear hsr hc5 hO5 hr hrn hK0 ht3
                  go_upto_region 21 with fail
                  clear kf50 hy5
                  rename_i Kr hKr
                  refine region_byJF [93, 94, 95, 96, 97, 98, 99, 100, 10] (fun _ => True) (fun _ _ => True) (NxR kk2 ch2 rn k5 Ki c5 b5 o5 Ah2 a5) (fun D a9 W => FnJ w.heap.size w5 kk2 rn k5 a5 r S2 D a9 W) (by kernel_rfl) (by kernel_rfl) (by kernel_rfl) (by kernel_rfl) (fun j v w w' hT hr => ?_) (fun j v w hlt hj _ => ?_) trivial ?_ ⟨fun e => (by cases e), fun e => (by cases e), fun e => (by cases e), fun e => (by cases e), (Below.refl _ _).drew, fun e => (by cases e), fun e => (by cases e), fun e => (by cases e), fun e => (by cases e), fun e => (by cases e)⟩ ?_
                  · exact NxR.keep hr
                  · rcases j with _ | _ | _ | _ | _ | _ | _ | _ | _ | j
                    all_goals first
                      | (exfalso; simp [dstOf] at hj; done)
                      | trivial
                  · refine ⟨fun D a9 W hC hd hsz hf hv hJ hL hW K hK => ?_, fun D a9 W hC hd hsz hf hv hJ hL hW K hK => ?_, fun D a9 W hC hd hsz hf hv hJ hL hW K hK => ?_, fun D a9 W hC hd hsz hf hv hJ hL hW K hK => ?_, fun D a9 W hC hd hsz hf hv hJ hL hW K hK => ?_, fun D a9 W hC hd hsz hf hv hJ hL hW K hK => ?_, fun D a9 W hC hd hsz hf hv hJ hL hW K hK => ?_, fun D a9 W hC hd hsz hf hv hJ hL hW K hK => ?_, fun D a9 W hC hd hsz hf hv hJ hL hW K hK => ?_, trivial⟩
                    · have H9 := hidg_ (show 93 < a9.tmps.size by rw [hsz]; simp)
                      clear hsz
                      refine step_run (wanted_none rfl) (v := .slice (some ⟨W.heap.size, 0, none⟩) 0 0) (w' := W.alloc (.cells #[] 39)) ?_ (hK _ _ trivial trivial trivial (hJ.lay (Nat.le_trans X5.out.size hJ.be.size) hL H9.out))
                      go_simp
                    · clear hsz
                      have e1 := slot_of (a := a9) (s := 7) (v := .slice Ah2 kk2 ch2) (hf 7 (by kernel_rfl))
                      refine step_run (wanted_none rfl) (v := .slice Ah2 kk2 ch2) (w' := W) ?_ (hK _ _ trivial trivial rfl (hJ.same 1 94 _ (by decide) (by decide)))
                      go_simp
                    · have H9 := hidg_ (show 95 < a9.tmps.size by rw [hsz]; simp)
                      clear hsz
                      obtain ⟨g9, hg9, hs9, hR9⟩ := hJ.z (hW 0 (by kernel_rfl)) hL
                      refine step_appRT2 rfl (.tmp 93) (.tmp 94) rfl hR9 (eval_of hs9) kk2 ch2 (eval_of (hv 1 (by kernel_rfl))) HSK.out ((RS5.out.below hJ.be).src.1) 0 rfl (by omega) (Nat.le_trans X5.out.size hJ.be.size) ?_
                      simp only [Nat.zero_add, List.nil_append]
                      intro A' c' w' hR' hgr hob
                      exact hK _ _ trivial trivial trivial (hJ.app (hW 0 (by kernel_rfl)) hL H9.out hg9 hR9 hR' hgr hob)
                    · clear hsz
                      have e1 := slot_of (a := a9) (s := 12) (v := .slice (some ⟨b5, o5, none⟩) Ki c5) (hf 12 (by kernel_rfl))
                      refine step_run (wanted_none rfl) (v := .slice (some ⟨b5, o5, none⟩) Ki c5) (w' := W) ?_ (hK _ _ trivial trivial rfl (hJ.same 3 96 _ (by decide) (by decide)))
                      go_simp
                    · clear hsz
                      have e1 := slot_of (a := a9) (s := 96) (v := .slice (some ⟨b5, o5, none⟩) Ki c5) (hv 3 (by kernel_rfl))
                      refine step_run (wanted_none rfl) (v := .pointer (some ⟨b5, o5, none⟩)) (w' := W) ?_ (hK _ _ trivial trivial rfl (hJ.same 4 97 _ (by decide) (by decide)))
                      go_simp
                    · clear hsz
                      have e1 := slot_of (a := a9) (s := 97) (v := .pointer (some ⟨b5, o5, none⟩)) (hv 4 (by kernel_rfl))
                      have hq := (hJ.be.cell (p := ⟨b5, o5, none⟩) (World.block_lt_of_cell? w5 _ C5.out)).trans C5.out
                      refine step_run (wanted_none rfl) (v := .slice a5 rn k5) (w' := W) ?_ (hK _ _ trivial trivial rfl (hJ.same 5 98 _ (by decide) (by decide)))
                      go_simp
                    · have H9 := hidg_ (show 99 < a9.tmps.size by rw [hsz]; simp)
                      clear hsz
                      have e1 := slot_of (a := a9) (s := 98) (v := .slice a5 rn k5) (hv 5 (by kernel_rfl))
                      refine step_run (wanted_none rfl) (v := .slice (some ⟨W.heap.size, 0, none⟩) 1 1) (w' := W.alloc (.cells #[.slice a5 rn k5] 39)) ?_ (hK _ _ trivial trivial trivial (hJ.one hL H9.out))
                      go_simp
                    · have H9 := hidg_ (show 100 < a9.tmps.size by rw [hsz]; simp)
                      clear hsz
                      have h2 := hW 2 (by kernel_rfl)
                      have h6 := hW 6 (by kernel_rfl)
                      obtain ⟨A9, q9, hs9, hR9, hB9⟩ := hJ.e h2 hL
                      obtain ⟨g9, hg9, ho9, hc9⟩ := hJ.o h6 hL
                      refine step_appRT rfl (.tmp 95) (.tmp 99) rfl hR9 (eval_of hs9) 1 1 (eval_of ho9) (M := [r]) rfl (SrcR.one g9 HRL.out (O5.out.below hJ.be (Nat.le_refl _)) hc9) kk2 HSK.out (by omega) (Nat.le_trans X5.out.size hJ.be.size) ?_
                      intro A' c' w' hR' hgr
                      exact hK _ _ trivial trivial trivial (hJ.two h2 h6 hL H9.out hR' (hJ.be.grown hgr hJ.be.size hB9))
                    · have H9 := hidg_ (show 10 < a9.tmps.size by rw [hsz]; simp)
                      clear hsz
                      obtain ⟨A9, q9, hs9, hR9⟩ := hJ.f (hW 7 (by kernel_rfl))
                      have e1 := slot_of hs9
                      refine step_run (wanted_none rfl) (v := .slice A9 (kk2 + 1) q9) (w' := W) ?_ (hK _ _ trivial trivial trivial (hJ.done (hW 7 (by kernel_rfl)) H9.out hs9 hR9))
                      go_simp
                  · intro f9 w6 hC9 hv9 D9 hD9 hJ9
                    obtain ⟨aE, hJ, hfr⟩ := hJ9
                    obtain ⟨A9, c9, hs9, hR9⟩ := hJ.h (hD9 8 (by decide))
                    rw [hfr] at hs9
                    have B6 := hidg_ hJ.be
                    have RN6 := hidg_ hR9
                    simp only [framed, List.foldl_cons, List.foldl_nil, List.setIfInBounds_toArray, List.set_cons_succ, List.set_cons_zero]
                    rw [hs9]
                    clear hv9 hC9 hJ hfr hD9 hs9 hR9
                    refine hKr _ _ ?_
                    have L6 := hidg_ (L5.out.below B6.out)
                    have X6 := hidg_ (X5.out.trans (B6.out.mono X5.out.size))
                    have RS6 := hidg_ (RS5.out.below B6.out)
                    have KF6 := hidg_ (KF5.out.below B6.out KF5.out.lt)
                    have hc6 := (B6.out.cell (p := ⟨b5, o5, none⟩) (World.block_lt_of_cell? w5 _ C5.out)).trans C5.out
                    have hr6 := (O5.out.below B6.out (Nat.le_refl _)).rd.1
                    obtain ⟨cc, hcc⟩ : ∃ x, (allB S2).length = x := ⟨_, rfl⟩
                    have hcc6 : cc ≤ 640 := by have := L6.out.ho.hc; rw [hcc, hroom] at this; exact this
                    have HCC := hidg_ hcc
                    have ht19 : t2 + 1 ≤ 9223372036854775807 := by have := HT29.out; omega
                    by_cases hfit : cc + (rn + 8) ≤ 640
                    · have hfit2 : (allB S2).length + (rn + 8) ≤ roomN 22 := by rw [hcc, hroom]; exact hfit
                      have cr := append_v L6.out X6.out.size (by omega) (by omega) ht19 r rn a5 k5 HRL.out hr6 hfit2
                      have HCRS := hidg_ (fun ho9 => append_crash L6.out (by omega) (by omega) ht19 r (by rw [HRL.out]; exact hfit2) ho9)
                      obtain ⟨Y, hY⟩ : ∃ Y, opY y 22 t2 a2 (allB S2).length (recB r) = Y := ⟨_, rfl⟩
                      have HLB := hidg_ (show (allB S2).length + (recB r).length ≤ 600000 by rw [recB_len, HRL.out]; omega)
                      have HYY := hidg_ hY
                      cases ho2 : Y.off with
                      | false =>
                        have HOY := hidg_ ho2
                        have HE := hidg_ (show erX (opY y 22 t2 a2 (allB S2).length (recB r)) = 0 by rw [hY, erX, if_neg (by rw [ho2]; decide)])
                        clear ho2 hY hfit hfit2 ht19 HCRS hcc hr6
                        go_wp2_with (go_at_call 14; ((with_reducible refine cr.mono ?_); clear cr; rintro e w7 hp; have hen := hp.en; rw [HE.out] at hen; subst hen; have F7 := hidg_ (FaS.done L6.out X6.out hp HLB.out (by rw [HYY.out]; exact HOY.out)); have RN7 := hidg_ (RN6.out.unt hp.un (by decide) (by decide)); have K7 := hidg_ (KF6.out.unt hp.un (by decide)); clear hp))
                        go_roundw
                        case rel => exact ⟨k1, t2 + 1, a2, kk2 + 1, kk2 + 1, A9, c9, A9, c9, S2 ++ [r], S2 ++ [r], Y, by have := HK1.out; omega, by have := HK1.out; omega, rfl, rfl, rfl, hidg_ (by rw [if_neg (by rw [HOY.out]; decide)]; exact HT2K.out), hidg_ (by rw [← HYY.out]; exact F7.out), RN7, hidg_ (by rw [List.length_append, HSK.out]; rfl), RN7, hidg_ (by rw [List.length_append, HSK.out]; rfl), hidg_ (by have h1 := (allB_len (S2 ++ [r])).1; have h3 := (F7.out.on (by rw [HYY.out]; exact HOY.out)).1.ho.hc; rw [hroom] at h3; omega), K7⟩
                        case measure => simp [intOf]; have := HK1.out; omega
                      | true =>
                        have HOY := hidg_ ho2
                        have HE := hidg_ (show erX (opY y 22 t2 a2 (allB S2).length (recB r)) = 9 by rw [hY, erX, if_pos ho2])
                        clear ho2 hY hfit hfit2 ht19 hcc hr6
                        go_wp2_with (first
                          | (go_at_call 14; ((with_reducible refine cr.mono ?_); clear cr; rintro e w7 hp; have hen := hp.en; rw [HE.out] at hen; subst hen; have F7 := hidg_ (FaS.fell L6.out X6.out hp HLB.out (by rw [HYY.out]; exact HOY.out) (HCRS.out (by rw [HYY.out]; exact HOY.out))); have RN7 := hidg_ (RN6.out.unt hp.un (by decide) (by decide)); have RS7 := hidg_ (RS6.out.unt hp.un (by decide) (by decide)); have K7 := hidg_ (KF6.out.unt hp.un (by decide)); clear hp))
                          | (go_at_call 24; have cof2 := doff_yes F7.out.dk; rw [HYY.out, HOY.out] at cof2; ((with_reducible refine cof2.mono ?_); clear cof2; rintro e w' ⟨rfl, rfl⟩)))
                        go_roundw
                        case rel => exact ⟨k1, t2, a2, kk2, kk2 + 1, Ah2, ch2, A9, c9, S2, S2 ++ [r], Y, by have := HK1.out; omega, by have := HK1.out; omega, rfl, rfl, rfl, hidg_ (by rw [if_pos HOY.out]; exact HT2K.out), hidg_ (by rw [← HYY.out]; exact F7.out), RS7, HSK, RN7, hidg_ (by rw [List.length_append, HSK.out]; rfl), HSB, K7⟩
                        case measure => simp [intOf]; have := HK1.out; omega
                    · have cr := append_full L6.out.lg L6.out.dk (by omega) (by omega) (by omega) (by rw [hcc]; omega) rn a5 k5 (by omega) (by rw [hcc, hroom]; exact hfit)
                      clear hfit ht19 hcc hr6
                      go_wp2_with (first
                        | (go_at_call 14; ((with_reducible refine cr.mono ?_); clear cr; rintro e w7 ⟨rfl, hb⟩; have L7 := hidg_ (L6.out.below hb); have X7 := hidg_ (X6.out.trans (hb.mono X6.out.size)); have RS7 := hidg_ (RS6.out.below hb); have K7 := hidg_ (KF6.out.below hb KF6.out.lt); clear hb))
                        | (go_at_call 24; have cof2 := doff_yes L7.out.dk; rw [HHO.out] at cof2; ((with_reducible refine cof2.mono ?_); clear cof2; rintro e w' ⟨rfl, rfl⟩)))
                      go_roundw
                      case rel => exact ⟨k1, t2, a2, kk2, kk2, Ah2, ch2, Ah2, ch2, S2, S2, y, by have := HK1.out; omega, by have := HK1.out; omega, rfl, rfl, rfl, hidg_ (by rw [if_neg (by rw [HHO.out]; decide)]; have := HT2K.out; omega), hidg_ (FaS.start L7.out X7.out), RS7, HSK, RS7, HSK, HSB, K7⟩
                      case measure => simp [intOf]; have := HK1.out; omega
          · have f3 : decide ((k : Int) < 6) = false := decide_eq_false (by omega)
            have f4 : decide (k < 6) = false := decide_eq_false hc2
            clear hk1 ek1 hc1 hc2 cof
            go_upto_region 27 with (go_at_call 24; ((with_reducible refine cof.mono ?_); clear cof; rintro e w' ⟨rfl, rfl⟩))
            have cc := crash_v HFS.out.dk HFS.out.be.size HFS.out.yR sat ns scap stay HNS.out (fun W hb _ j' hj' => by
              obtain ⟨b', o', e', hl', hc'⟩ := HSTAY.out (by rw [HNS.out]; omega)
              refine ⟨b', o', e', ?_⟩
              exact ((HFS.out.be.trans hb).cell (p := ⟨b', o' + j', none⟩) hl').trans (hc' j' (by rw [HNS.out]; exact hj')))
            have hcr := HFS.out.crash stay
            obtain ⟨F', hF'⟩ : ∃ x, appl y.F (kept y.R stay) = x := ⟨_, rfl⟩
            rw [hF'] at cc hcr
            have HT7 := hidg_ (show t2 ≤ 1 + 7 * j1 - 1 ∧ (y.off = true → t2 + 1 ≤ 1 + 7 * j1 - 1) by
              have h1 := HT2.out
              have h2 := HTJ.out
              have h3 := HJ1.out
              constructor
              · omega
              · intro ho9
                rw [if_pos ho9] at h1
                omega)
            have hkS : kk2 ≤ 10000 := by have h1 := HSB.out; have h2 := HSK.out; omega
            clear hF'
            go_upto_region 28 with (go_at_call 25; ((with_reducible refine cc.mono ?_); clear cc; rintro e w5 ⟨rfl, hd, hb, hu⟩; have D5 := hidg_ hd; have X5 := hidg_ (HFS.out.be.trans hb); have RS5 := hidg_ (HRS.out.unt hu (by decide) (by decide)); have RN5 := hidg_ (HRN.out.unt hu (by decide) (by decide)); clear hd hb hu))
            rcases hcr with hH | ⟨hoff, a', hH⟩
            · have HH := hidg_ hH
              have ht9 : t2 ≤ 9223372036854775807 := by have := HT7.out.1; have := HJ1.out; omega
              clear hH
              go_wp2_with (first
                | (go_at_call 21; have cp := open_v (t := t2) (a := a2) (R := S2) D5.out rfl (by omega) (by omega) ht9 (show HoldsL 22 t2 a2 S2 (appl F' []) from HH.out); ((with_reducible refine cp.mono ?_); clear cp; rintro e w6 ⟨g6, A6, k6, c6, rfl, hk6, hg6, hR6, hl6, hb6⟩; obtain rfl : kk2 = k6 := HSK.out.symm.trans hk6; have P6 := hidg_ hR6.pta; have X6 := hidg_ (X5.out.trans (hb6.mono X5.out.size)); have RS6 := hidg_ (RS5.out.below hb6); have L6 := hidg_ (show LogV w.heap.size w6 g6 p q 22 t2 a2 S2 ⟨F', [], 0, false⟩ from ⟨hl6, DkI.below D5.out hb6, rfl, rfl, HH.out, Nat.le_trans X5.out.size hg6⟩); clear hg6 hR6 hl6 hb6 hk6))
                | (go_at_call 22; have cq := sameL_any (w := w6) (A := A6) (B := Ah2) (La := S2) (Lb := S2) kk2 c6 kk2 ch2 HSK.out HSK.out P6.out RS6.out.pta (by omega) (by omega); rw [decide_eq_true rfl] at cq; ((with_reducible refine cq.mono ?_); clear cq; rintro e w7 ⟨rfl, hb⟩; have L7 := hidg_ (L6.out.below hb); have X7 := hidg_ (X6.out.trans (hb.mono X6.out.size)); have RS7 := hidg_ (RS6.out.below hb); clear hb)))
              go_roundw
              case rel => exact ⟨j1, g6, t2, a2, kk2, Ah2, ch2, S2, by have := HJ1.out; omega, by have := HJ1.out; omega, by have := HT7.out.1; omega, rfl, rfl, rfl, hidg_ ⟨_, rfl, L7.out⟩, RS7, HSK, X7⟩
              case measure => simp [intOf]; have := HJ1.out; omega
            · have hkk6 : kn ≤ 10000 := by have h1 := (allB_len N).1; have h2 := HNK.out; have h3 := hH.hc; rw [hroom] at h3; omega
              have HH := hidg_ hH
              have ht10 : t2 + 1 ≤ 1 + 7 * j1 := by have := HT7.out.2 hoff; omega
              have ht9 : t2 + 1 ≤ 9223372036854775807 := by have := HJ1.out; omega
              obtain ⟨t3, ht3⟩ : ∃ x, t2 + 1 = x := ⟨_, rfl⟩
              rw [ht3] at HH ht9 ht10
              by_cases hNS : N = S2
              · have HNS2 := hidg_ hNS
                clear hH hoff hNS ht3
                go_wp2_with (first
                  | (go_at_call 21; have cp := open_v (t := t3) (a := a') (R := N) D5.out rfl (by omega) (by omega) ht9 (show HoldsL 22 t3 a' N (appl F' []) from HH.out); ((with_reducible refine cp.mono ?_); clear cp; rintro e w6 ⟨g6, A6, k6, c6, rfl, hk6, hg6, hR6, hl6, hb6⟩; obtain rfl : kn = k6 := HNK.out.symm.trans hk6; have P6 := hidg_ hR6.pta; have X6 := hidg_ (X5.out.trans (hb6.mono X5.out.size)); have RS6 := hidg_ (RS5.out.below hb6); have L6 := hidg_ (show LogV w.heap.size w6 g6 p q 22 t3 a' N ⟨F', [], 0, false⟩ from ⟨hl6, DkI.below D5.out hb6, rfl, rfl, HH.out, Nat.le_trans X5.out.size hg6⟩); clear hg6 hR6 hl6 hb6 hk6))
                  | (go_at_call 22; have cq := sameL_any (w := w6) (A := A6) (B := Ah2) (La := N) (Lb := S2) kn c6 kk2 ch2 HNK.out HSK.out P6.out RS6.out.pta (by omega) (by omega); rw [decide_eq_true HNS2.out] at cq; ((with_reducible refine cq.mono ?_); clear cq; rintro e w7 ⟨rfl, hb⟩; have L7 := hidg_ (L6.out.below hb); have X7 := hidg_ (X6.out.trans (hb.mono X6.out.size)); have RS7 := hidg_ (RS6.out.below hb); clear hb)))
                go_roundw
                case rel => exact ⟨j1, g6, t3, a', kk2, Ah2, ch2, S2, by have := HJ1.out; omega, by have := HJ1.out; omega, ht10, rfl, rfl, rfl, hidg_ ⟨_, rfl, by rw [← HNS2.out]; exact L7.out⟩, RS7, HSK, X7⟩
                case measure => simp [intOf]; have := HJ1.out; omega
              · have HNS2 := hidg_ hNS
                have hSr := HFS.out
                clear hH hoff hNS ht3
                go_wp2_with (first
                  | (go_at_call 21; have cp := open_v (t := t3) (a := a') (R := N) D5.out rfl (by omega) (by omega) ht9 (show HoldsL 22 t3 a' N (appl F' []) from HH.out); ((with_reducible refine cp.mono ?_); clear cp; rintro e w6 ⟨g6, A6, k6, c6, rfl, hk6, hg6, hR6, hl6, hb6⟩; obtain rfl : kn = k6 := HNK.out.symm.trans hk6; have P6 := hidg_ hR6.pta; have X6 := hidg_ (X5.out.trans (hb6.mono X5.out.size)); have RS6 := hidg_ (RS5.out.below hb6); have RN6 := hidg_ (RN5.out.below hb6); have L6 := hidg_ (show LogV w.heap.size w6 g6 p q 22 t3 a' N ⟨F', [], 0, false⟩ from ⟨hl6, DkI.below D5.out hb6, rfl, rfl, HH.out, Nat.le_trans X5.out.size hg6⟩); clear hg6 hR6 hl6 hb6 hk6; have cq := sameL_any (w := w6) (A := A6) (B := Ah2) (La := N) (Lb := S2) kn c6 kk2 ch2 HNK.out HSK.out P6.out RS6.out.pta (by omega) (by omega); rw [decide_eq_false HNS2.out] at cq))
                  | (go_at_call 22; ((with_reducible refine cq.mono ?_); clear cq; rintro e w7 ⟨rfl, hb⟩; have L7 := hidg_ (L6.out.below hb); have X7 := hidg_ (X6.out.trans (hb.mono X6.out.size)); have RN7 := hidg_ (RN6.out.below hb); have P7 := hidg_ (P6.out.below hb); clear hb; have cq2 := sameL_any (w := w7) (A := A6) (B := An) (La := N) (Lb := N) kn c6 kn cn HNK.out HNK.out P7.out RN7.out.pta (by omega) (by omega); rw [decide_eq_true rfl] at cq2))
                  | (go_at_call 22; ((with_reducible refine cq2.mono ?_); clear cq2; rintro e w8 ⟨rfl, hb⟩; have L8 := hidg_ (L7.out.below hb); have X8 := hidg_ (X7.out.trans (hb.mono X7.out.size)); have RN8 := hidg_ (RN7.out.below hb); clear hb)))
                go_roundw
                case rel => exact ⟨j1, g6, t3, a', kn, An, cn, N, by have := HJ1.out; omega, by have := HJ1.out; omega, ht10, rfl, rfl, rfl, hidg_ ⟨_, rfl, L8.out⟩, RN8, HNK, X8⟩
                case measure => simp [intOf]; have := HJ1.out; omega
        · have f1 : decide ((k : Int) < (n1 : Int)) = false := decide_eq_false (by omega)
          have f2 : decide (k < n1) = false := decide_eq_false hc1
          clear hk1 ek1 hc1 cof
          go_upto_region 27 with (go_at_call 24; ((with_reducible refine cof.mono ?_); clear cof; rintro e w' ⟨rfl, rfl⟩))
          have cc := crash_v HFS.out.dk HFS.out.be.size HFS.out.yR sat ns scap stay HNS.out (fun W hb _ j' hj' => by
            obtain ⟨b', o', e', hl', hc'⟩ := HSTAY.out (by rw [HNS.out]; omega)
            refine ⟨b', o', e', ?_⟩
            exact ((HFS.out.be.trans hb).cell (p := ⟨b', o' + j', none⟩) hl').trans (hc' j' (by rw [HNS.out]; exact hj')))
          have hcr := HFS.out.crash stay
          obtain ⟨F', hF'⟩ : ∃ x, appl y.F (kept y.R stay) = x := ⟨_, rfl⟩
          rw [hF'] at cc hcr
          have HT7 := hidg_ (show t2 ≤ 1 + 7 * j1 - 1 ∧ (y.off = true → t2 + 1 ≤ 1 + 7 * j1 - 1) by
            have h1 := HT2.out
            have h2 := HTJ.out
            have h3 := HJ1.out
            constructor
            · omega
            · intro ho9
              rw [if_pos ho9] at h1
              omega)
          have hkS : kk2 ≤ 10000 := by have h1 := HSB.out; have h2 := HSK.out; omega
          clear hF'
          go_upto_region 28 with (go_at_call 25; ((with_reducible refine cc.mono ?_); clear cc; rintro e w5 ⟨rfl, hd, hb, hu⟩; have D5 := hidg_ hd; have X5 := hidg_ (HFS.out.be.trans hb); have RS5 := hidg_ (HRS.out.unt hu (by decide) (by decide)); have RN5 := hidg_ (HRN.out.unt hu (by decide) (by decide)); clear hd hb hu))
          rcases hcr with hH | ⟨hoff, a', hH⟩
          · have HH := hidg_ hH
            have ht9 : t2 ≤ 9223372036854775807 := by have := HT7.out.1; have := HJ1.out; omega
            clear hH
            go_wp2_with (first
              | (go_at_call 21; have cp := open_v (t := t2) (a := a2) (R := S2) D5.out rfl (by omega) (by omega) ht9 (show HoldsL 22 t2 a2 S2 (appl F' []) from HH.out); ((with_reducible refine cp.mono ?_); clear cp; rintro e w6 ⟨g6, A6, k6, c6, rfl, hk6, hg6, hR6, hl6, hb6⟩; obtain rfl : kk2 = k6 := HSK.out.symm.trans hk6; have P6 := hidg_ hR6.pta; have X6 := hidg_ (X5.out.trans (hb6.mono X5.out.size)); have RS6 := hidg_ (RS5.out.below hb6); have L6 := hidg_ (show LogV w.heap.size w6 g6 p q 22 t2 a2 S2 ⟨F', [], 0, false⟩ from ⟨hl6, DkI.below D5.out hb6, rfl, rfl, HH.out, Nat.le_trans X5.out.size hg6⟩); clear hg6 hR6 hl6 hb6 hk6))
              | (go_at_call 22; have cq := sameL_any (w := w6) (A := A6) (B := Ah2) (La := S2) (Lb := S2) kk2 c6 kk2 ch2 HSK.out HSK.out P6.out RS6.out.pta (by omega) (by omega); rw [decide_eq_true rfl] at cq; ((with_reducible refine cq.mono ?_); clear cq; rintro e w7 ⟨rfl, hb⟩; have L7 := hidg_ (L6.out.below hb); have X7 := hidg_ (X6.out.trans (hb.mono X6.out.size)); have RS7 := hidg_ (RS6.out.below hb); clear hb)))
            go_roundw
            case rel => exact ⟨j1, g6, t2, a2, kk2, Ah2, ch2, S2, by have := HJ1.out; omega, by have := HJ1.out; omega, by have := HT7.out.1; omega, rfl, rfl, rfl, hidg_ ⟨_, rfl, L7.out⟩, RS7, HSK, X7⟩
            case measure => simp [intOf]; have := HJ1.out; omega
          · have hkk6 : kn ≤ 10000 := by have h1 := (allB_len N).1; have h2 := HNK.out; have h3 := hH.hc; rw [hroom] at h3; omega
            have HH := hidg_ hH
            have ht10 : t2 + 1 ≤ 1 + 7 * j1 := by have := HT7.out.2 hoff; omega
            have ht9 : t2 + 1 ≤ 9223372036854775807 := by have := HJ1.out; omega
            obtain ⟨t3, ht3⟩ : ∃ x, t2 + 1 = x := ⟨_, rfl⟩
            rw [ht3] at HH ht9 ht10
            by_cases hNS : N = S2
            · have HNS2 := hidg_ hNS
              clear hH hoff hNS ht3
              go_wp2_with (first
                | (go_at_call 21; have cp := open_v (t := t3) (a := a') (R := N) D5.out rfl (by omega) (by omega) ht9 (show HoldsL 22 t3 a' N (appl F' []) from HH.out); ((with_reducible refine cp.mono ?_); clear cp; rintro e w6 ⟨g6, A6, k6, c6, rfl, hk6, hg6, hR6, hl6, hb6⟩; obtain rfl : kn = k6 := HNK.out.symm.trans hk6; have P6 := hidg_ hR6.pta; have X6 := hidg_ (X5.out.trans (hb6.mono X5.out.size)); have RS6 := hidg_ (RS5.out.below hb6); have L6 := hidg_ (show LogV w.heap.size w6 g6 p q 22 t3 a' N ⟨F', [], 0, false⟩ from ⟨hl6, DkI.below D5.out hb6, rfl, rfl, HH.out, Nat.le_trans X5.out.size hg6⟩); clear hg6 hR6 hl6 hb6 hk6))
                | (go_at_call 22; have cq := sameL_any (w := w6) (A := A6) (B := Ah2) (La := N) (Lb := S2) kn c6 kk2 ch2 HNK.out HSK.out P6.out RS6.out.pta (by omega) (by omega); rw [decide_eq_true HNS2.out] at cq; ((with_reducible refine cq.mono ?_); clear cq; rintro e w7 ⟨rfl, hb⟩; have L7 := hidg_ (L6.out.below hb); have X7 := hidg_ (X6.out.trans (hb.mono X6.out.size)); have RS7 := hidg_ (RS6.out.below hb); clear hb)))
              go_roundw
              case rel => exact ⟨j1, g6, t3, a', kk2, Ah2, ch2, S2, by have := HJ1.out; omega, by have := HJ1.out; omega, ht10, rfl, rfl, rfl, hidg_ ⟨_, rfl, by rw [← HNS2.out]; exact L7.out⟩, RS7, HSK, X7⟩
              case measure => simp [intOf]; have := HJ1.out; omega
            · have HNS2 := hidg_ hNS
              have hSr := HFS.out
              clear hH hoff hNS ht3
              go_wp2_with (first
                | (go_at_call 21; have cp := open_v (t := t3) (a := a') (R := N) D5.out rfl (by omega) (by omega) ht9 (show HoldsL 22 t3 a' N (appl F' []) from HH.out); ((with_reducible refine cp.mono ?_); clear cp; rintro e w6 ⟨g6, A6, k6, c6, rfl, hk6, hg6, hR6, hl6, hb6⟩; obtain rfl : kn = k6 := HNK.out.symm.trans hk6; have P6 := hidg_ hR6.pta; have X6 := hidg_ (X5.out.trans (hb6.mono X5.out.size)); have RS6 := hidg_ (RS5.out.below hb6); have RN6 := hidg_ (RN5.out.below hb6); have L6 := hidg_ (show LogV w.heap.size w6 g6 p q 22 t3 a' N ⟨F', [], 0, false⟩ from ⟨hl6, DkI.below D5.out hb6, rfl, rfl, HH.out, Nat.le_trans X5.out.size hg6⟩); clear hg6 hR6 hl6 hb6 hk6; have cq := sameL_any (w := w6) (A := A6) (B := Ah2) (La := N) (Lb := S2) kn c6 kk2 ch2 HNK.out HSK.out P6.out RS6.out.pta (by omega) (by omega); rw [decide_eq_false HNS2.out] at cq))
                | (go_at_call 22; ((with_reducible refine cq.mono ?_); clear cq; rintro e w7 ⟨rfl, hb⟩; have L7 := hidg_ (L6.out.below hb); have X7 := hidg_ (X6.out.trans (hb.mono X6.out.size)); have RN7 := hidg_ (RN6.out.below hb); have P7 := hidg_ (P6.out.below hb); clear hb; have cq2 := sameL_any (w := w7) (A := A6) (B := An) (La := N) (Lb := N) kn c6 kn cn HNK.out HNK.out P7.out RN7.out.pta (by omega) (by omega); rw [decide_eq_true rfl] at cq2))
                | (go_at_call 22; ((with_reducible refine cq2.mono ?_); clear cq2; rintro e w8 ⟨rfl, hb⟩; have L8 := hidg_ (L7.out.below hb); have X8 := hidg_ (X7.out.trans (hb.mono X7.out.size)); have RN8 := hidg_ (RN7.out.below hb); clear hb)))
              go_roundw
              case rel => exact ⟨j1, g6, t3, a', kn, An, cn, N, by have := HJ1.out; omega, by have := HJ1.out; omega, ht10, rfl, rfl, rfl, hidg_ ⟨_, rfl, L8.out⟩, RN8, HNK, X8⟩
              case measure => simp [intOf]; have := HJ1.out; omega
    · have d0 : j < n0 → ¬ j < 4 := fun h h2 => hlt ⟨h, h2⟩
      clear hlt
      by_cases h : j < n0
      · have d1 : decide ((j : Int) < (n0 : Int)) = true := decide_eq_true (by omega)
        have d2 : decide (j < n0) = true := decide_eq_true h
        have d3 : decide ((j : Int) < 4) = false := decide_eq_false (by have := d0 h; omega)
        have d4 : decide (j < 4) = false := decide_eq_false (d0 h)
        clear d0 h
        go_wp2
        go_ret
        exact ⟨rfl, HWX.out⟩
      · have d1 : decide ((j : Int) < (n0 : Int)) = false := decide_eq_false (by omega)
        have d2 : decide (j < n0) = false := decide_eq_false h
        clear d0 h
        go_wp2
        go_ret
        exact ⟨rfl, HWX.out⟩

set_option maxRecDepth 100000 in
theorem lifted (os : Os) (started : os.Started) (H : Type) (enc : TypeId × Value → H) :
    ReturnsInHanded {} Try.checked os 4 .any (Rows.logFallsSpec.pre6 enc Try.prog Try.f4 Rows.logFallsRow.domain false) (Rows.logFallsSpec.post enc Try.prog Try.f4 false true false false) := by
  refine returnsInHanded_of_change (C := Try.checked) own_ started (by kernel_rfl) Try.func4
    (ChangeSpec.witness6 (enc := enc) (C := Try.checked) false ⟨#[], #[.slice none 0 0], []⟩ 8 (by kernel_rfl) (by kernel_rfl) (by kernel_rfl) (by kernel_rfl)) ?_
  intro W base args ds gs before hval0 hW hcnd _
  have hval : ∀ (j : Nat) t v, Try.f4.params[j]? = some t → args[j]? = some v → Value.okWide Try.prog W .any base t v := hval0
  have hW' := hW
  obtain ⟨p, q, hA0, hV, rfl, hfz, hnd⟩ := hW
  have hA : DataW.TrodAll enc Try.prog W 0 (fun _ => true) true Try.f4.params.toList args.toList ds p := hA0
  rw [Try.params4] at hA hval
  obtain ⟨v0, vs0, d0, ds0, p0, q0, hargs, rfl, rfl, h0, r0⟩ := trodAll_cons hA
  obtain ⟨rfl, rfl, rfl⟩ := trodAll_nil r0
  obtain rfl : args = #[v0] := by cases args; simp_all
  obtain ⟨rfl, rfl⟩ := trodVars_none hV
  obtain ⟨A0, l0, c0, rfl, hp0, hlc0, hcm0⟩ := open_lfalls Try.underlying49 Try.underlying52 ⟨rfl, rfl⟩ ⟨rfl, rfl⟩ ⟨rfl, rfl⟩ (by kernel_rfl) Try.underlying22 (by kernel_rfl) Try.underlying3 (by kernel_rfl) Try.underlying50 (by kernel_rfl) Try.underlying34 ⟨rfl, rfl⟩ ⟨rfl, rfl⟩ Try.underlying4 (by kernel_rfl) Try.underlying32 (by kernel_rfl) Try.underlying39 Try.underlying5 (by kernel_rfl) (by kernel_rfl) (by kernel_rfl) (hval 0 49 v0 rfl rfl) h0
  refine (walk W A0 l0.length c0 l0 rfl hp0 (by unfold maxLen at hcm0; omega)).mono fun e W' ⟨he, hg⟩ => ⟨_, he, ?_⟩
  exact law_post laidOut_ (of_decide_eq_true (by kernel_rfl)) rfl rfl Try.underlying4 rfl hW' hg

theorem over : Rows.logFallsRow.holds Try.pinned (OpenSpec.ofChange Rows.logFallsSpec) :=
  OpenClaim.holds_of_wide 4 Try.f4 rfl rfl rfl rfl rfl rfl rfl ⟨rfl, rfl, rfl, rfl, rfl⟩ rfl rfl rfl rfl rfl (by kernel_rfl) Try.func4 (by kernel_rfl)
    (of_decide_eq_true (by kernel_rfl)) (by unfold Func.isWrapper; first | (rw [if_pos (by decide +kernel)]; kernel_rfl) | (rw [if_neg (by decide +kernel)]; exact ⟨rfl, rfl⟩))
    (fun os started H enc _ => lifted os started H enc)

theorem proved : Rows.LogFallsSaid := over
#print axioms proved
end Go.Proofs.Ytdlciehboimciaa.logFalls
