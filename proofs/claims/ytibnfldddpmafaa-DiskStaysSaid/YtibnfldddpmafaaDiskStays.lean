/-
  Proved: for all bytes, all rows of writes and all that a crash lets stay DiskStays answers true: what was synced, and not written since, stays; the rest is one of what was written there. No condition.
-/
import Derived.Test.YtibnfldddpmafaaDko
namespace Go.Proofs.Ytibnfldddpmafaa.diskStays
open Go.ChangeShapes Go.WideShapes Go.ChangeAt Go.RowKit
set_option linter.unusedVariables false
set_option linter.unusedSimpArgs false

def M17R (gf gm j : Nat) (b : UInt8) : Nat → Value → Prop
  | 0, v => v = .int .i64 (j : Int)
  | 1, v => v = .int .i64 (j : Int)
  | 2, v => v = .pointer (some ⟨gf, j, none⟩)
  | 3, v => v = .int .u8 ((b.toNat : Nat) : Int)
  | 4, v => v = .pointer (some ⟨gm, j * 256, none⟩)
  | 5, v => v = .pointer (some ⟨gm, j * 256 + b.toNat, none⟩)
  | _, _ => True
def dps17 : Nat → List Nat
  | 2 => [1]
  | 3 => [2]
  | 4 => [0]
  | 5 => [4, 3]
  | 6 => [5]
  | _ => []
def M24R (ab ao r c1 gm j m4 : Nat) (x : ActK) : Nat → Value → Prop
  | 0, v => v = .int .i64 (m4 : Int)
  | 1, v => v = .slice (some ⟨ab, ao, none⟩) r c1
  | 2, v => v = .int .i64 (j : Int)
  | 3, v => v = .pointer (some ⟨ab, ao + j * 5, none⟩)
  | 4, v => v = .pointer (some ⟨ab, ao + j * 5 + 2, none⟩)
  | 5, v => v = .int .u8 ((x.by_.toNat : Nat) : Int)
  | 6, v => v = .pointer (some ⟨gm, m4 * 256, none⟩)
  | 7, v => v = .pointer (some ⟨gm, m4 * 256 + x.by_.toNat, none⟩)
  | _, _ => True
def dps24 : Nat → List Nat
  | 3 => [1, 2]
  | 4 => [3]
  | 5 => [4]
  | 6 => [0]
  | 7 => [6, 5]
  | 8 => [7]
  | _ => []
def M30R (g16 gm j : Nat) (b : UInt8) : Nat → Value → Prop
  | 0, v => v = .int .i64 0
  | 1, v => v = .bool false
  | 2, v => v = .bool false
  | 3, v => v = .agg (rowOf (secB b))
  | 4, v => v = .pointer (some ⟨g16, 0, none⟩)
  | 5, v => v = .int .u8 ((b.toNat : Nat) : Int)
  | 6, v => v = .agg (rowOf (secB b))
  | 7, v => v = .bool false
  | 8, v => v = .bool false
  | 9, v => v = .bool false
  | 10, v => v = .int .i64 (j : Int)
  | 11, v => v = .pointer (some ⟨g16, 0, none⟩)
  | 12, v => v = .int .u8 ((b.toNat : Nat) : Int)
  | 13, v => v = .pointer (some ⟨gm, j * 256, none⟩)
  | 14, v => v = .pointer (some ⟨gm, j * 256 + b.toNat, none⟩)
  | 15, v => v = .bool true
  | 16, v => v = .bool false
  | 17, v => v = .bool false
  | _, _ => True
set_option maxRecDepth 100000 in
set_option maxHeartbeats 16000000 in
theorem walk (w : World) (A0 : Option Addr) (n0 c0 : Nat) (l0 : List UInt8) (hn0 : l0.length = n0) (hr0 : Rd w w.heap.size A0 l0) (h07 : n0 ≤ 9223372036854775807) (A1 : Option Addr) (r c1 : Nat) (lk : List ActK) (hn : lk.length = r) (hp : RdK w w.heap.size A1 lk) (hr7 : r ≤ 9223372036854775807) (A2 : Option Addr) (ns c2 : Nat) (S : List Bool) (hns : S.length = ns) (hs : RdB w w.heap.size A2 S) :
    Calls Try.prog 5 #[.slice A0 n0 c0, .slice A1 r c1, .slice A2 ns c2] w fun e w' => e = .returned (.bool true) ∧ Below w.heap.size w w' := by
  obtain ⟨B, hB⟩ : ∃ B, w.heap.size = B := ⟨_, rfl⟩
  have cn := dnew_yes w 6 (by omega) (by omega)
  rw [hB, show ((6 : Nat) : Int) = 6 from rfl] at cn
  rw [hB] at hr0 hp hs
  have cd := disks_any
  have HR0 := hidD_ hr0
  have HN0 := hidD_ hn0
  have HP := hidD_ hp
  have HN := hidD_ hn
  have HS := hidD_ hs
  have HNS := hidD_ hns
  have HB := hidD_ hB
  clear hr0 hp hs hn hns hB hn0
  have z6 := zero6
  have zm := zeroM
  go_enter Try.func5, Try.ntmps5
  go_upto_region 4 with (first
    | (go_at_call 19; ((with_reducible refine cn.mono ?_); clear cn; rintro e w1 ⟨p, q, rfl, h1, h2⟩; have H1 := hidD_ h1; have X1 := hidD_ h2; clear h1 h2))
    | (go_at_call 11; ((with_reducible refine (cd _).mono ?_); clear cd; rintro e w2 ⟨rfl, hb⟩; have H2 := hidD_ (H1.out.below hb); have X2 := hidD_ (X1.out.trans (hb.mono (by have := X1.out.size; have := HB.out; omega))); clear hb)))
  obtain ⟨gf, hgf⟩ : ∃ g, w2.heap.size = g := ⟨_, rfl⟩
  obtain ⟨w3, hw3⟩ : ∃ W, w2.alloc (.cells (rowOf zb6) 56) = W := ⟨_, rfl⟩
  have b3 : Below w2.heap.size w2 w3 := by rw [← hw3]; exact (Below.refl _ _).alloc (Nat.le_refl _) _
  have HGF := hidD_ (show B ≤ gf by have := X2.out.size; have := HB.out; omega)
  have H3 := hidD_ (show DfI B w3 p q gf 0 zb6 from ⟨zb6_len, by rw [← hw3, ← hgf]; exact Bk.new w2 _ _, [], Nat.le_refl _, zsecs_map 6, H2.out.below b3⟩)
  have X3 := hidD_ (X2.out.trans (b3.mono (by have := HGF.out; omega)))
  clear b3
  go_wp2
  go_loopw [10] (fun i wr => ∃ (j : Nat) (L : List UInt8), j ≤ 6 ∧ j ≤ n0 ∧ i = .int .i64 j ∧ Hid (DfI B wr p q gf j L) ∧ Hid (Below B w wr)) (fun i _ => 6 - (intOf i).toNat)
  case atStart => exact ⟨0, _, by omega, Nat.zero_le _, rfl, H3, X3⟩
  case round =>
    obtain ⟨j, L, hj6, hjn, rfl, HDF, HXW⟩ := hrel
    clear hw3 hgf
    by_cases hlt : j < 6 ∧ j < n0
    · obtain ⟨hlt1, hlt2⟩ := hlt
      obtain ⟨b8, o8, rfl, hb8, hc8⟩ := HR0.out (by rw [HN0.out]; omega)
      have hcx := hc8 j (by rw [HN0.out]; exact hlt2)
      generalize l0.getD j 0 = x at hcx
      have HBW := hidD_ (show B ≤ wr.heap.size by have := HXW.out.size; have := HB.out; omega)
      have HC := hidD_ (fun W (hx : Below B w W) => (hx.cell (p := ⟨b8, o8 + j, none⟩) hb8).trans hcx)
      have c8 := HC.out wr HXW.out
      have cs := sector_any wr x _ rfl
      have t0 : (0 : Int) ≤ (j : Int) := by omega
      have tn : (j : Int) < (n0 : Int) := by omega
      have t6 : (j : Int) < 6 := by omega
      have d1 : decide ((j : Int) < 6) = true := decide_eq_true t6
      have d2 : decide ((j : Int) < (n0 : Int)) = true := decide_eq_true tn
      clear hc8 hcx
      go_upto_region 10 with (first
        | (go_at_call 13; ((with_reducible refine cs.mono ?_); clear cs; rintro e w4 ⟨rfl, hb⟩; have H4 := HDF.out.below hb; have X4 := hidD_ (HXW.out.trans (hb.mono HBW.out)); clear hb; (obtain ⟨q1, q2, R, q3, q4, q5⟩ := H4); have Q1 := hidD_ q1; have Q2 := hidD_ q2; have Q3 := hidD_ q3; have Q4 := hidD_ q4; have cw : Calls Try.prog 12 #[.pointer (some ⟨p, 0, none⟩), .int .i64 (j : Int), .agg (rowOf (secB x))] w4 (DkP B w4 p q 6 (zsecs 6) (R ++ [(j, secB x)]) 0 false 0) := dwrite_yes q5 (by have := X4.out.size; have := HB.out; omega) j (by omega) (secB x) (secB_len x) (by omega); clear q1 q2 q3 q4 q5))
        | (go_at_call 12; ((with_reducible refine cw.mono ?_); clear cw; rintro e w5 ⟨rfl, h1, h2, h3⟩; have H5 := hidD_ h1; have K5 := hidD_ (Q2.out.unt h3 (by decide)); have X5 := hidD_ (X4.out.trans h2); clear h1 h2 h3)))
      clear c8
      have c9 := HC.out w5 X5.out
      have cf := K5.out.cell j
      rw [rowOf_at _ _ (by rw [Q1.out]; omega)] at cf
      have ff := K5.out.frozen j
      have KF9 := hidD_ (K5.out.set_ j (.int .u8 ((x.toNat : Nat) : Int)))
      have PD := Bk.putD (b0 := B) (T := [56]) K5.out HGF.out (by simp) j (.int .u8 ((x.toNat : Nat) : Int))
      have H9 := hidD_ (H5.out.unt PD.2 (by decide))
      have X9 := hidD_ (X5.out.trans PD.1)
      clear PD
      go_wp2
      go_roundw
      case rel => exact ⟨j + 1, L.set j x, by omega, by omega, by go_num, hidD_ ⟨by rw [List.length_set]; exact Q1.out, by rw [← rowOf_set]; exact KF9.out, _, by rw [List.length_append, List.length_singleton]; have := Q3.out; omega, by rw [appl_snoc, Q4.out, map_set], H9.out⟩, X9⟩
      case measure => simp [intOf]; omega
    · have d12 : (j : Int) < 6 → ¬ (j : Int) < (n0 : Int) := by omega
      obtain ⟨Q1, q2, R, q3, Q4, q5⟩ := HDF.out
      have HLL := hidD_ Q1
      have HKF := hidD_ q2
      have cy := dsync_ok q5 (by omega)
      rw [Q4] at cy
      clear Q1 q2 q3 Q4 q5
      by_cases h6 : j < 6
      · have d1 : decide ((j : Int) < 6) = true := decide_eq_true (by omega)
        have d2 : decide ((j : Int) < (n0 : Int)) = false := decide_eq_false (by omega)
        have d3 : ¬ (j : Int) < (n0 : Int) := by omega
        clear hlt d12
        go_upto_region 13 with (go_at_call 14; ((with_reducible refine cy.mono ?_); clear cy; rintro e w4 ⟨rfl, h1, h2, h3⟩; have H4 := hidD_ h1; have K4 := hidD_ (HKF.out.unt h3 (by decide)); have X4 := hidD_ (HXW.out.trans h2); clear h1 h2 h3))
        clear HDF HXW HKF
        obtain ⟨gm, hgm⟩ : ∃ g, w4.heap.size = g := ⟨_, rfl⟩
        obtain ⟨w5, hw5⟩ : ∃ W, w4.alloc (.cells (mayC fun _ => false) 58) = W := ⟨_, rfl⟩
        have b5 : Below w4.heap.size w4 w5 := by rw [← hw5]; exact (Below.refl _ _).alloc (Nat.le_refl _) _
        have HGM := hidD_ (show B ≤ gm by have := X4.out.size; have := HB.out; omega)
        have KM5 := hidD_ (show Bk w5 gm 58 (mayC fun _ => false) by rw [← hw5, ← hgm]; exact Bk.new w4 _ _)
        have KF5 := hidD_ (K4.out.below b5 K4.out.lt)
        have H5 := hidD_ (H4.out.below b5)
        have X5 := hidD_ (X4.out.trans (b5.mono (by have := HGM.out; omega)))
        clear b5
        go_wp2
        go_loopw [12] (fun i wr => ∃ (j : Nat) (M : Nat → Bool), j ≤ 6 ∧ i = .int .i64 j ∧ Hid (Bk wr gm 58 (mayC M)) ∧ Hid (∀ k, k < j → M (k * 256 + (L.getD k 0).toNat) = true) ∧ Hid (Bk wr gf 56 (rowOf L)) ∧ Hid (DkI B wr p q 6 (L.map secB) [] 0 false) ∧ Hid (Below B w wr)) (fun i _ => 6 - (intOf i).toNat)
        case atStart => exact ⟨0, _, by omega, rfl, KM5, hidD_ (fun k hk => absurd hk (by omega)), KF5, H5, X5⟩
        case round =>
          obtain ⟨j, M, hj6, rfl, HKM, HML, HKF, HD, HXW⟩ := hrel
          clear hw5 hgm
          by_cases hlt : j < 6
          · obtain ⟨b, hb⟩ : ∃ b, L.getD j 0 = b := ⟨_, rfl⟩
            have HLB := hidD_ hb
            have cf := HKF.out.cell j
            rw [rowOf_at _ _ (by rw [HLL.out]; exact hlt), hb] at cf
            have hb8 : b.toNat < 256 := b.toNat_lt
            have HB8 := hidD_ (show (b.toNat : Int) < 256 by omega)
            have HLT := hidD_ (show j * 256 + b.toNat < 1536 by omega)
            have t0 : (0 : Int) ≤ (j : Int) := by omega
            have t6 : (j : Int) < 6 := by omega
            have d1 : decide ((j : Int) < 6) = true := decide_eq_true t6
            clear hb
            go_upto_region 17 with fail
            obtain ⟨wd, hwd⟩ : ∃ W3, { wr with drawn := wr.drawn + 1 } = W3 := ⟨_, rfl⟩
            have HCF := hidD_ (show wd.cell? ⟨gf, j, none⟩ = some (.int .u8 ((b.toNat : Nat) : Int)) by rw [← hwd]; exact cf)
            have KMD := hidD_ (show Bk wd gm 58 (mayC M) by rw [← hwd]; exact HKM.out)
            have KFD := hidD_ (show Bk wd gf 56 (rowOf L) by rw [← hwd]; exact HKF.out)
            have HCM := hidD_ ((KMD.out.cell (j * 256 + b.toNat)).trans (mayC_at M _ HLT.out))
            have HFM := hidD_ (KMD.out.frozen (j * 256 + b.toNat))
            have bd : Below wr.heap.size wr wd := by rw [← hwd]; exact (Below.refl _ _).drew
            have HD5 := hidD_ (HD.out.below bd)
            have XD5 := hidD_ (HXW.out.trans (bd.mono (by have := HXW.out.size; have := HB.out; omega)))
            have HWD := hidD_ hwd
            clear cf hb8 bd hwd
            refine region_byJF [60, 61, 62, 63, 64, 65] (fun _ => True) (fun _ _ => True) (fun jj v _ => M17R gf gm j b jj v) (fun D2 a W => PhJ dps17 6 (fun W => W = wd) (fun W => W = wd.setCell ⟨gm, j * 256 + b.toNat, none⟩ (.bool true)) D2 a W) (by kernel_rfl) (by kernel_rfl) (by kernel_rfl) (by kernel_rfl) (fun j v w w' hT hr => ?_) (fun j v w hlt hj _ => ?_) trivial ?_ (by rw [HWD.out]; exact PhJ.start rfl) ?_
            · exact hr
            · rcases j with _ | _ | _ | _ | _ | _ | _ | j
              all_goals first
                | (exfalso; simp [dstOf] at hj; done)
                | trivial
            · refine ⟨fun D2 a W hC hd hsz hf hv hJ hL hW K hK => ?_, fun D2 a W hC hd hsz hf hv hJ hL hW K hK => ?_, fun D2 a W hC hd hsz hf hv hJ hL hW K hK => ?_, fun D2 a W hC hd hsz hf hv hJ hL hW K hK => ?_, fun D2 a W hC hd hsz hf hv hJ hL hW K hK => ?_, fun D2 a W hC hd hsz hf hv hJ hL hW K hK => ?_, fun D2 a W hC hd hsz hf hv hJ hL hW K hK => ?_, trivial⟩
              · clear hsz
                have e1 := slot_of (a := a) (s := 12) (v := .int .i64 (j : Int)) (hf 12 (by kernel_rfl))
                refine step_run (wanted_none rfl) (v := .int .i64 (j : Int)) (w' := W) ?_ (hK _ _ trivial trivial rfl (hJ.same 0 (by decide) ls0))
                go_simp
              · clear hsz
                have e1 := slot_of (a := a) (s := 12) (v := .int .i64 (j : Int)) (hf 12 (by kernel_rfl))
                refine step_run (wanted_none rfl) (v := .int .i64 (j : Int)) (w' := W) ?_ (hK _ _ trivial trivial rfl (hJ.same 1 (by decide) ls0))
                go_simp
              · clear hsz
                have e1 := slot_of (a := a) (s := 9) (v := .pointer (some ⟨gf, 0, none⟩)) (hf 9 (by kernel_rfl))
                have e2 := slot_of (a := a) (s := 61) (v := .int .i64 (j : Int)) (hv 1 (by kernel_rfl))
                refine step_run (wanted_none rfl) (v := .pointer (some ⟨gf, j, none⟩)) (w' := W) ?_ (hK _ _ trivial trivial rfl (hJ.same 2 (by decide) (ls1 (hW 1 (by kernel_rfl)))))
                go_simp
              · clear hsz
                have e1 := slot_of (a := a) (s := 62) (v := .pointer (some ⟨gf, j, none⟩)) (hv 2 (by kernel_rfl))
                have hO := hJ.get 3 [5, 6] rfl rfl hL
                subst hO
                have cc := HCF.out
                refine step_run (wanted_none rfl) (v := .int .u8 ((b.toNat : Nat) : Int)) (w' := W) ?_ (hK _ _ trivial trivial rfl (hJ.same 3 (by decide) (ls1 (hW 2 (by kernel_rfl)))))
                go_simp
              · clear hsz
                have e1 := slot_of (a := a) (s := 11) (v := .pointer (some ⟨gm, 0, none⟩)) (hf 11 (by kernel_rfl))
                have e2 := slot_of (a := a) (s := 60) (v := .int .i64 (j : Int)) (hv 0 (by kernel_rfl))
                refine step_run (wanted_none rfl) (v := .pointer (some ⟨gm, j * 256, none⟩)) (w' := W) ?_ (hK _ _ trivial trivial rfl (hJ.same 4 (by decide) (ls1 (hW 0 (by kernel_rfl)))))
                go_simp
              · clear hsz
                have e1 := slot_of (a := a) (s := 64) (v := .pointer (some ⟨gm, j * 256, none⟩)) (hv 4 (by kernel_rfl))
                have e2 := slot_of (a := a) (s := 63) (v := .int .u8 ((b.toNat : Nat) : Int)) (hv 3 (by kernel_rfl))
                have hb1 := HB8.out
                refine step_run (wanted_none rfl) (v := .pointer (some ⟨gm, j * 256 + b.toNat, none⟩)) (w' := W) ?_ (hK _ _ trivial trivial rfl (hJ.same 5 (by decide) (ls2 (hW 4 (by kernel_rfl)) (hW 3 (by kernel_rfl)))))
                go_simp
              · clear hsz
                have hO := hJ.old hL
                subst hO
                have e1 := slot_of (a := a) (s := 65) (v := .pointer (some ⟨gm, j * 256 + b.toNat, none⟩)) (hv 5 (by kernel_rfl))
                have cc := HCM.out
                have cf := HFM.out
                refine step_skip (wanted_none rfl) (w' := W.setCell ⟨gm, j * 256 + b.toNat, none⟩ (.bool true)) ?_ (hK undef _ trivial trivial trivial (hJ.store (ls1 (hW 5 (by kernel_rfl))) rfl))
                go_simp
            · intro f wy hC5 hv5 L3 hL3 hJ3
              obtain ⟨aE, hJ, hfr⟩ := hJ3
              have e5 := hJ.fin (hL3 6 (by decide))
              subst e5
              have KM9 := hidD_ (show Bk (wd.setCell ⟨gm, j * 256 + b.toNat, none⟩ (.bool true)) gm 58 (mayC fun k => decide (k = j * 256 + b.toNat) || M k) by rw [← mayC_set M _ HLT.out]; exact KMD.out.set_ _ _)
              have KF9 := hidD_ (KFD.out.far (p := ⟨gm, j * 256 + b.toNat, none⟩) (KFD.out.neT KMD.out (by decide)) (.bool true))
              have PD := Bk.putD (b0 := B) (T := [58]) KMD.out HGM.out (by simp) (j * 256 + b.toNat) (.bool true)
              have H9 := hidD_ (HD5.out.unt PD.2 (by decide))
              have X9 := hidD_ (XD5.out.trans PD.1)
              simp only [framed, List.foldl_cons, List.foldl_nil, List.setIfInBounds_toArray, List.set_cons_succ, List.set_cons_zero]
              clear hv5 hC5 hJ hfr hL3 PD
              rename_i Kd hKd
              refine hKd _ _ ?_
              generalize wd.setCell ⟨gm, j * 256 + b.toNat, none⟩ (.bool true) = wy at *
              go_wp2
              go_roundw
              case rel =>
                refine ⟨j + 1, _, by omega, by go_num, KM9, hidD_ (fun k hk => ?_), KF9, H9, X9⟩
                rcases Nat.lt_or_ge k j with h1 | h1
                · rw [HML.out k h1, Bool.or_true]
                · obtain rfl : k = j := by omega
                  rw [HLB.out]
                  simp
              case measure => simp [intOf]; omega
          · obtain rfl : j = 6 := by omega
            have d3 : ¬ ((6 : Nat) : Int) < 6 := by omega
            have HMS := hidD_ (mayS_map HLL.out HML.out)
            go_wp2
            go_loopw [13] (fun i wr => ∃ (j : Nat) (M : Nat → Bool) (R : List WrV), j ≤ r ∧ j ≤ 20 ∧ i = .int .i64 j ∧ Hid (Bk wr gm 58 (mayC M)) ∧ Hid (MayS M (L.map secB)) ∧ Hid (R.length ≤ j) ∧ Hid (MayR M R) ∧ Hid (DkI B wr p q 6 (L.map secB) R 0 false) ∧ Hid (Below B w wr)) (fun i _ => 20 - (intOf i).toNat)
            case atStart => exact ⟨0, M, [], Nat.zero_le _, by omega, rfl, HKM, HMS, hidD_ (Nat.le_refl _), hidD_ (fun x hx => by cases hx), HD, HXW⟩
            case round =>
              clear HKM HML HKF HD HXW HMS
              obtain ⟨j, M, R, hjr, hj20, rfl, HKM, HMS, HRJ, HMR, HD, HXW⟩ := hrel
              by_cases hlt : j < r ∧ j < 20
              · obtain ⟨hltr, hlt2⟩ := hlt
                obtain ⟨ab, ao, rfl, hbl, hcx⟩ := HP.out (by rw [HN.out]; omega)
                have hjl : j < lk.length := by rw [HN.out]; exact hltr
                obtain ⟨hcx1, hok⟩ := hcx j hjl
                generalize lk[j] = x at hcx1 hok
                have HBW := hidD_ (show B ≤ wr.heap.size by have := HXW.out.size; have := HB.out; omega)
                have HCX := hidD_ (fun W (hx : Below B w W) i (hi : i < 5) => (hx.cell (p := ⟨ab, ao + j * 5 + i, none⟩) hbl).trans (hcx1 i hi))
                have ca := HCX.out wr HXW.out 1 (by omega)
                have cb := HCX.out wr HXW.out 2 (by omega)
                simp only [ActK.row, List.getElem?_toArray, List.getElem?_cons_zero, List.getElem?_cons_succ] at ca cb
                obtain ⟨U, m4, hrk⟩ := restK x.at1 6 (by omega) (by omega)
                have HRK := hidD_ hrk
                have r1 := hrk.u
                have r2 := hrk.t
                have r3 := hrk.r
                have r4 := hrk.wu
                have r5 := hrk.wi
                simp only [show ((6 : Nat) : Int) = 6 from rfl] at r2 r3
                have cs := sector_any wr x.by_ _ rfl
                have t0 : (0 : Int) ≤ (j : Int) := by omega
                have tn : (j : Int) < (r : Int) := by omega
                have t20 : (j : Int) < 20 := by omega
                have d1 : decide ((j : Int) < (r : Int)) = true := decide_eq_true tn
                have d2 : decide ((j : Int) < 20) = true := decide_eq_true t20
                clear hrk hcx hcx1
                go_upto_region 24 with (first
                  | (go_at_call 13; ((with_reducible refine cs.mono ?_); clear cs; rintro e w6 ⟨rfl, hb⟩; have H6 := hidD_ (HD.out.below hb); have K6 := hidD_ (HKM.out.below hb HKM.out.lt); have X6 := hidD_ (HXW.out.trans (hb.mono HBW.out)); clear hb; have cw : Calls Try.prog 12 #[.pointer (some ⟨p, 0, none⟩), .int .i64 (m4 : Int), .agg (rowOf (secB x.by_))] w6 (DkP B w6 p q 6 (L.map secB) (R ++ [(m4, secB x.by_)]) 0 false 0) := dwrite_yes H6.out (by have := X6.out.size; have := HB.out; omega) m4 HRK.out.lt (secB x.by_) (secB_len _) (by have := HRJ.out; omega)))
                  | (go_at_call 12; ((with_reducible refine cw.mono ?_); clear cw; rintro e w7 ⟨rfl, h1, h2, h3⟩; have H7 := hidD_ h1; have K7 := hidD_ (K6.out.unt h3 (by decide)); have X7 := hidD_ (X6.out.trans h2); clear h1 h2 h3)))
                clear ca cb r1 r2 r3 r4 r5 d1 d2
                have hb8 : x.by_.toNat < 256 := x.by_.toNat_lt
                have hm6 := HRK.out.lt
                have HB8 := hidD_ (show (x.by_.toNat : Int) < 256 by omega)
                have HLT := hidD_ (show m4 * 256 + x.by_.toNat < 1536 by omega)
                obtain ⟨wd, hwd⟩ : ∃ W3, { w7 with drawn := w7.drawn + 1 } = W3 := ⟨_, rfl⟩
                have bd : Below w7.heap.size w7 wd := by rw [← hwd]; exact (Below.refl _ _).drew
                have XD5 := hidD_ (X7.out.trans (bd.mono (by have := X7.out.size; have := HB.out; omega)))
                have hcb := HCX.out wd XD5.out 2 (by omega)
                simp only [ActK.row, List.getElem?_toArray, List.getElem?_cons_zero, List.getElem?_cons_succ] at hcb
                have HCB := hidD_ hcb
                have KMD := hidD_ (K7.out.below bd K7.out.lt)
                have HCM := hidD_ ((KMD.out.cell (m4 * 256 + x.by_.toNat)).trans (mayC_at M _ HLT.out))
                have HFM := hidD_ (KMD.out.frozen (m4 * 256 + x.by_.toNat))
                have HD5 := hidD_ (H7.out.below bd)
                have HWD := hidD_ hwd
                clear hb8 bd hwd hcb hm6
                refine region_byJF [94, 95, 96, 97, 98, 99, 100, 101] (fun _ => True) (fun _ _ => True) (fun jj v _ => M24R ab ao r c1 gm j m4 x jj v) (fun D2 a W => PhJ dps24 8 (fun W => W = wd) (fun W => W = wd.setCell ⟨gm, m4 * 256 + x.by_.toNat, none⟩ (.bool true)) D2 a W) (by kernel_rfl) (by kernel_rfl) (by kernel_rfl) (by kernel_rfl) (fun j v w w' hT hr => ?_) (fun j v w hlt hj _ => ?_) trivial ?_ (by rw [HWD.out]; exact PhJ.start rfl) ?_
                · exact hr
                · rcases j with _ | _ | _ | _ | _ | _ | _ | _ | _ | j
                  all_goals first
                    | (exfalso; simp [dstOf] at hj; done)
                    | trivial
                · refine ⟨fun D2 a W hC hd hsz hf hv hJ hL hW K hK => ?_, fun D2 a W hC hd hsz hf hv hJ hL hW K hK => ?_, fun D2 a W hC hd hsz hf hv hJ hL hW K hK => ?_, fun D2 a W hC hd hsz hf hv hJ hL hW K hK => ?_, fun D2 a W hC hd hsz hf hv hJ hL hW K hK => ?_, fun D2 a W hC hd hsz hf hv hJ hL hW K hK => ?_, fun D2 a W hC hd hsz hf hv hJ hL hW K hK => ?_, fun D2 a W hC hd hsz hf hv hJ hL hW K hK => ?_, fun D2 a W hC hd hsz hf hv hJ hL hW K hK => ?_, trivial⟩
                  · clear hsz
                    have e1 := slot_of (a := a) (s := 14) (v := .int .i64 (m4 : Int)) (hf 14 (by kernel_rfl))
                    refine step_run (wanted_none rfl) (v := .int .i64 (m4 : Int)) (w' := W) ?_ (hK _ _ trivial trivial rfl (hJ.same 0 (by decide) ls0))
                    go_simp
                  · clear hsz
                    have e1 := slot_of (a := a) (s := 1) (v := .slice (some ⟨ab, ao, none⟩) r c1) (hf 1 (by kernel_rfl))
                    refine step_run (wanted_none rfl) (v := .slice (some ⟨ab, ao, none⟩) r c1) (w' := W) ?_ (hK _ _ trivial trivial rfl (hJ.same 1 (by decide) ls0))
                    go_simp
                  · clear hsz
                    have e1 := slot_of (a := a) (s := 13) (v := .int .i64 (j : Int)) (hf 13 (by kernel_rfl))
                    refine step_run (wanted_none rfl) (v := .int .i64 (j : Int)) (w' := W) ?_ (hK _ _ trivial trivial rfl (hJ.same 2 (by decide) ls0))
                    go_simp
                  · clear hsz
                    have e1 := slot_of (a := a) (s := 95) (v := .slice (some ⟨ab, ao, none⟩) r c1) (hv 1 (by kernel_rfl))
                    have e2 := slot_of (a := a) (s := 96) (v := .int .i64 (j : Int)) (hv 2 (by kernel_rfl))
                    refine step_run (wanted_none rfl) (v := .pointer (some ⟨ab, ao + j * 5, none⟩)) (w' := W) ?_ (hK _ _ trivial trivial rfl (hJ.same 3 (by decide) (ls2 (hW 1 (by kernel_rfl)) (hW 2 (by kernel_rfl)))))
                    go_simp
                  · clear hsz
                    have e1 := slot_of (a := a) (s := 97) (v := .pointer (some ⟨ab, ao + j * 5, none⟩)) (hv 3 (by kernel_rfl))
                    refine step_run (wanted_none rfl) (v := .pointer (some ⟨ab, ao + j * 5 + 2, none⟩)) (w' := W) ?_ (hK _ _ trivial trivial rfl (hJ.same 4 (by decide) (ls1 (hW 3 (by kernel_rfl)))))
                    go_simp
                  · clear hsz
                    have e1 := slot_of (a := a) (s := 98) (v := .pointer (some ⟨ab, ao + j * 5 + 2, none⟩)) (hv 4 (by kernel_rfl))
                    have hO := hJ.get 5 [7, 8] rfl rfl hL
                    subst hO
                    have cc := HCB.out
                    refine step_run (wanted_none rfl) (v := .int .u8 ((x.by_.toNat : Nat) : Int)) (w' := W) ?_ (hK _ _ trivial trivial rfl (hJ.same 5 (by decide) (ls1 (hW 4 (by kernel_rfl)))))
                    go_simp
                  · clear hsz
                    have e1 := slot_of (a := a) (s := 11) (v := .pointer (some ⟨gm, 0, none⟩)) (hf 11 (by kernel_rfl))
                    have e2 := slot_of (a := a) (s := 94) (v := .int .i64 (m4 : Int)) (hv 0 (by kernel_rfl))
                    have hb2 : (m4 : Int) < 6 := by have := HRK.out.lt; omega
                    refine step_run (wanted_none rfl) (v := .pointer (some ⟨gm, m4 * 256, none⟩)) (w' := W) ?_ (hK _ _ trivial trivial rfl (hJ.same 6 (by decide) (ls1 (hW 0 (by kernel_rfl)))))
                    go_simp
                  · clear hsz
                    have e1 := slot_of (a := a) (s := 100) (v := .pointer (some ⟨gm, m4 * 256, none⟩)) (hv 6 (by kernel_rfl))
                    have e2 := slot_of (a := a) (s := 99) (v := .int .u8 ((x.by_.toNat : Nat) : Int)) (hv 5 (by kernel_rfl))
                    have hb1 := HB8.out
                    refine step_run (wanted_none rfl) (v := .pointer (some ⟨gm, m4 * 256 + x.by_.toNat, none⟩)) (w' := W) ?_ (hK _ _ trivial trivial rfl (hJ.same 7 (by decide) (ls2 (hW 6 (by kernel_rfl)) (hW 5 (by kernel_rfl)))))
                    go_simp
                  · clear hsz
                    have hO := hJ.old hL
                    subst hO
                    have e1 := slot_of (a := a) (s := 101) (v := .pointer (some ⟨gm, m4 * 256 + x.by_.toNat, none⟩)) (hv 7 (by kernel_rfl))
                    have cc := HCM.out
                    have cf := HFM.out
                    refine step_skip (wanted_none rfl) (w' := W.setCell ⟨gm, m4 * 256 + x.by_.toNat, none⟩ (.bool true)) ?_ (hK undef _ trivial trivial trivial (hJ.store (ls1 (hW 7 (by kernel_rfl))) rfl))
                    go_simp
                · intro f wy hC5 hv5 L3 hL3 hJ3
                  obtain ⟨aE, hJ, hfr⟩ := hJ3
                  have e5 := hJ.fin (hL3 8 (by decide))
                  subst e5
                  have KM9 := hidD_ (show Bk (wd.setCell ⟨gm, m4 * 256 + x.by_.toNat, none⟩ (.bool true)) gm 58 (mayC fun k => decide (k = m4 * 256 + x.by_.toNat) || M k) by rw [← mayC_set M _ HLT.out]; exact KMD.out.set_ _ _)
                  have PD := Bk.putD (b0 := B) (T := [58]) KMD.out HGM.out (by simp) (m4 * 256 + x.by_.toNat) (.bool true)
                  have H9 := hidD_ (HD5.out.unt PD.2 (by decide))
                  have X9 := hidD_ (XD5.out.trans PD.1)
                  simp only [framed, List.foldl_cons, List.foldl_nil, List.setIfInBounds_toArray, List.set_cons_succ, List.set_cons_zero]
                  clear hv5 hC5 hJ hfr hL3 PD
                  rename_i Kd hKd
                  refine hKd _ _ ?_
                  generalize wd.setCell ⟨gm, m4 * 256 + x.by_.toNat, none⟩ (.bool true) = wy at *
                  go_wp2
                  go_roundw
                  case rel =>
                    have hmm : ∀ k, M k = true → (decide (k = m4 * 256 + x.by_.toNat) || M k) = true := fun k hk => by rw [hk, Bool.or_true]
                    refine ⟨j + 1, _, _, by omega, by omega, by go_num, KM9, hidD_ (HMS.out.more hmm), hidD_ ?_, hidD_ ?_, H9, X9⟩
                    · rw [List.length_append, List.length_singleton]
                      have := HRJ.out
                      omega
                    · intro y hy
                      rcases List.mem_append.1 hy with h1 | h1
                      · exact (HMR.out.more hmm) y h1
                      · simp at h1
                        subst h1
                        exact ⟨HRK.out.lt, x.by_, rfl, by simp⟩
                  case measure => simp [intOf]; omega
              · have cc : Calls Try.prog 9 #[.pointer (some ⟨p, 0, none⟩), .slice A2 ns c2] wr (fun e w' => e = .returned (.tuple #[]) ∧ DkI B w' p q 6 (appl (L.map secB) (kept R S)) [] 0 false ∧ Below B wr w' ∧ UnT dkT wr w') :=
                  dcrash_any HD.out (by have := HXW.out.size; have := HB.out; omega) (by have := HRJ.out; omega) A2 ns c2 S HNS.out (fun W hx _ k hk => by
                    obtain ⟨b2, o2, e2, hlt2, hc2⟩ := HS.out (by rw [HNS.out]; omega)
                    refine ⟨b2, o2, e2, ?_⟩
                    exact ((HXW.out.trans hx).cell (p := ⟨b2, o2 + k, none⟩) hlt2).trans (hc2 k (by rw [HNS.out]; exact hk)))
                have HMF := hidD_ (may_appl (kept R S) _ HMS.out (fun x hx => HMR.out x (kept_mem _ _ _ hx)))
                generalize appl (L.map secB) (kept R S) = F9 at cc HMF
                by_cases hltr : j < r
                · have d1 : decide ((j : Int) < (r : Int)) = true := decide_eq_true (by omega)
                  have d2 : decide ((j : Int) < 20) = false := decide_eq_false (by omega)
                  have d3 : ¬ (j : Int) < 20 := by omega
                  clear hlt
                  go_wp2_with (go_at_call 9; ((with_reducible refine cc.mono ?_); clear cc; rintro e w6 ⟨rfl, h1, h2, h3⟩; have H6 := hidD_ h1; have K6 := hidD_ (HKM.out.unt h3 (by decide)); have X6 := hidD_ (HXW.out.trans h2); clear h1 h2 h3))
                  go_loopw [15] (fun i wr => ∃ j : Nat, j ≤ 6 ∧ i = .int .i64 j ∧ Hid (Bk wr gm 58 (mayC M)) ∧ Hid (DkI B wr p q 6 F9 [] 0 false) ∧ Hid (Below B w wr)) (fun i _ => 6 - (intOf i).toNat)
                  case atStart => exact ⟨0, by omega, rfl, K6, H6, X6⟩
                  case round =>
                    clear HKM HD HXW H6 K6 X6 d1 d3
                    obtain ⟨j, hj6, rfl, HKM, HD, HXW⟩ := hrel
                    by_cases hlt : j < 6
                    · obtain ⟨b, hb1, hb2⟩ := HMF.out.2 j hlt
                      have HBW := hidD_ (show B ≤ wr.heap.size by have := HXW.out.size; have := HB.out; omega)
                      have cr : Calls Try.prog 10 #[.pointer (some ⟨p, 0, none⟩), .int .i64 (j : Int)] wr (fun e w' => e = .returned (.tuple #[.agg (rowOf (secB b)), .int .i64 0]) ∧ Below wr.heap.size wr w') := by
                        have h := dread_any HD.out (j : Int)
                        rw [hasE_ok 6 j hlt, show readD 6 F9 [] false (j : Int) = secB b by unfold readD; rw [if_pos (hasE_ok 6 j hlt)]; exact hb1] at h
                        exact h
                      have hb8 : b.toNat < 256 := b.toNat_lt
                      have HB8 := hidD_ (show (b.toNat : Int) < 256 by omega)
                      have HLT := hidD_ (show j * 256 + b.toNat < 1536 by omega)
                      have HCM := hidD_ ((mayC_at M _ HLT.out).trans (by rw [hb2]))
                      have zs := zeroSec
                      have t0 : (0 : Int) ≤ (j : Int) := by omega
                      have t6 : (j : Int) < 6 := by omega
                      have d1 : decide ((j : Int) < 6) = true := decide_eq_true t6
                      clear hb1 hb2 hb8
                      go_upto_region 30 with (first
                        | (go_at_call 10; ((with_reducible refine cr.mono ?_); clear cr; rintro e w7 ⟨rfl, hb⟩; have H7 := hidD_ (HD.out.below hb); have K7 := hidD_ (HKM.out.below hb HKM.out.lt); have X7 := hidD_ (HXW.out.trans (hb.mono HBW.out)); clear hb; (obtain ⟨g16, hg16⟩ : ∃ g, w7.heap.size = g := ⟨_, rfl⟩); (obtain ⟨w8, hw8⟩ : ∃ W, w7.alloc (.cells (rowOf zsec) 27) = W := ⟨_, rfl⟩); have B8 := hidD_ (show Below w7.heap.size w7 w8 by rw [← hw8]; exact (Below.refl _ _).alloc (Nat.le_refl _) _); have K8 := hidD_ (show Bk w8 g16 27 (rowOf zsec) by rw [← hw8, ← hg16]; exact Bk.new w7 _ _)))
                        | (refine wpList_put_row rfl 27 (.tmp 16) (.tmp 113) rfl g16 (rowOf (secB b)) rfl rfl 27 (rowOf zsec) K8.out (iSec _ (secB_len b)) (by rw [rowOf_size, rowOf_size, secB_len, zsec_len]) (bytes_one _) ?_; intro wd kd gd sd; have K16 := hidD_ kd; have BD := hidD_ (B8.out.grown gd B8.out.size (fun k e => by injection e with e; omega)); clear kd gd sd))
                      have HD5 := hidD_ (H7.out.below BD.out)
                      have KMD := hidD_ (K7.out.below BD.out K7.out.lt)
                      have XD5 := hidD_ (X7.out.trans (BD.out.mono (by have := X7.out.size; have := HB.out; omega)))
                      clear d1 hw8 hg16
                      refine region_byF [115, 116, 117, 118, 119, 120, 121, 122, 123, 124, 125, 126, 127, 128, 129, 130, 131, 132] (fun W => Below wd.heap.size wd W) (fun W W' => Below W.heap.size W W') (fun jj v _ => M30R g16 gm j b jj v) (by kernel_rfl) (by kernel_rfl) (by kernel_rfl) (by kernel_rfl) (fun j v w w' hT hr => ?_) (fun j v w hlt hj _ => ?_) ((Below.refl _ _).drew) ?_ ?_
                      · exact hr
                      · rcases j with _ | _ | _ | _ | _ | _ | _ | _ | _ | _ | _ | _ | _ | _ | _ | _ | _ | _ | j
                        all_goals first
                          | (exfalso; simp [dstOf] at hj; done)
                          | trivial
                      · refine ⟨fun a W hC hd hf hv K hK => ?_, fun a W hC hd hf hv K hK => ?_, fun a W hC hd hf hv K hK => ?_, fun a W hC hd hf hv K hK => ?_, fun a W hC hd hf hv K hK => ?_, fun a W hC hd hf hv K hK => ?_, fun a W hC hd hf hv K hK => ?_, fun a W hC hd hf hv K hK => ?_, fun a W hC hd hf hv K hK => ?_, fun a W hC hd hf hv K hK => ?_, fun a W hC hd hf hv K hK => ?_, fun a W hC hd hf hv K hK => ?_, fun a W hC hd hf hv K hK => ?_, fun a W hC hd hf hv K hK => ?_, fun a W hC hd hf hv K hK => ?_, fun a W hC hd hf hv K hK => ?_, fun a W hC hd hf hv K hK => ?_, fun a W hC hd hf hv K hK => ?_, trivial⟩
                        · have e1 := slot_of (a := a) (s := 17) (v := .int .i64 0) (hf 17 (by kernel_rfl))
                          refine step_run (wanted_none rfl) (v := .int .i64 0) (w' := W) ?_ (hK _ _ hC (Below.refl _ _) rfl)
                          go_simp
                        · have e1 := slot_of (a := a) (s := 115) (v := .int .i64 0) (hv 0 (by kernel_rfl))
                          refine step_run (wanted_none rfl) (v := .bool false) (w' := W) ?_ (hK _ _ hC (Below.refl _ _) rfl)
                          go_simp
                        · have e1 := slot_of (a := a) (s := 116) (v := .bool false) (hv 1 (by kernel_rfl))
                          refine step_run (wanted_none rfl) (v := .bool false) (w' := W) ?_ (hK _ _ hC (Below.refl _ _) rfl)
                          go_simp
                        · exact step_load_sub (wanted_at (j := 2) (s := 117) (b := false) rfl (by kernel_rfl) (hv 2 (by kernel_rfl))) 27 (.tmp 16) rfl g16 0 (eval_of (hf 16 (by kernel_rfl))) (rowOf (secB b)) (fun i hi => by rw [Nat.zero_add]; exact (K16.out.below hC K16.out.lt).cell i) _ Try.underlying27 rfl (iSec _ (secB_len b)) (hK _ _ hC (Below.refl _ _) rfl)
                        · have e1 := slot_of (a := a) (s := 16) (v := .pointer (some ⟨g16, 0, none⟩)) (hf 16 (by kernel_rfl))
                          refine step_run (wanted_at (j := 2) (s := 117) (b := false) rfl (by kernel_rfl) (hv 2 (by kernel_rfl))) (v := .pointer (some ⟨g16, 0, none⟩)) (w' := W) ?_ (hK _ _ hC (Below.refl _ _) rfl)
                          go_simp
                        · have e1 := slot_of (a := a) (s := 119) (v := .pointer (some ⟨g16, 0, none⟩)) (hv 4 (by kernel_rfl))
                          have cc := ((K16.out.below hC K16.out.lt).cell 0).trans (secB_at b)
                          refine step_run (wanted_at (j := 2) (s := 117) (b := false) rfl (by kernel_rfl) (hv 2 (by kernel_rfl))) (v := .int .u8 ((b.toNat : Nat) : Int)) (w' := W) ?_ (hK _ _ hC (Below.refl _ _) rfl)
                          go_simp
                        · have e1 := slot_of (a := a) (s := 120) (v := .int .u8 ((b.toNat : Nat) : Int)) (hv 5 (by kernel_rfl))
                          refine step_callx 13 #[.int .u8 ((b.toNat : Nat) : Int)] (wanted_at (j := 2) (s := 117) (b := false) rfl (by kernel_rfl) (hv 2 (by kernel_rfl))) (w' := W) ?_ ((sector_any W b _ rfl).mono fun e W2 hh => ?_)
                          · go_simp
                          · obtain ⟨rfl, hb⟩ := hh
                            exact ⟨_, rfl, hK _ _ (hC.trans (hb.mono hC.size)) hb rfl⟩
                        · have hq := eqSec (secB b) (secB b) (secB_len b) (secB_len b) W
                          rw [show (secB b == secB b) = true from beq_self_eq_true _] at hq
                          have e1 := slot_of (a := a) (s := 118) (v := .agg (rowOf (secB b))) (hv 3 (by kernel_rfl))
                          have e2 := slot_of (a := a) (s := 121) (v := .agg (rowOf (secB b))) (hv 6 (by kernel_rfl))
                          refine step_run (wanted_at (j := 2) (s := 117) (b := false) rfl (by kernel_rfl) (hv 2 (by kernel_rfl))) (v := .bool false) (w' := W) ?_ (hK _ _ hC (Below.refl _ _) rfl)
                          go_simp
                        · have e1 := slot_of (a := a) (s := 117) (v := .bool false) (hv 2 (by kernel_rfl))
                          have e2 := slot_of (a := a) (s := 122) (v := .bool false) (hv 7 (by kernel_rfl))
                          refine step_run (wanted_none rfl) (v := .bool false) (w' := W) ?_ (hK _ _ hC (Below.refl _ _) rfl)
                          go_simp
                        · have e1 := slot_of (a := a) (s := 123) (v := .bool false) (hv 8 (by kernel_rfl))
                          refine step_run (wanted_none rfl) (v := .bool false) (w' := W) ?_ (hK _ _ hC (Below.refl _ _) rfl)
                          go_simp
                        · have e1 := slot_of (a := a) (s := 15) (v := .int .i64 (j : Int)) (hf 15 (by kernel_rfl))
                          refine step_run (wanted_at (j := 9) (s := 124) (b := false) rfl (by kernel_rfl) (hv 9 (by kernel_rfl))) (v := .int .i64 (j : Int)) (w' := W) ?_ (hK _ _ hC (Below.refl _ _) rfl)
                          go_simp
                        · have e1 := slot_of (a := a) (s := 16) (v := .pointer (some ⟨g16, 0, none⟩)) (hf 16 (by kernel_rfl))
                          refine step_run (wanted_at (j := 9) (s := 124) (b := false) rfl (by kernel_rfl) (hv 9 (by kernel_rfl))) (v := .pointer (some ⟨g16, 0, none⟩)) (w' := W) ?_ (hK _ _ hC (Below.refl _ _) rfl)
                          go_simp
                        · have e1 := slot_of (a := a) (s := 126) (v := .pointer (some ⟨g16, 0, none⟩)) (hv 11 (by kernel_rfl))
                          have cc := ((K16.out.below hC K16.out.lt).cell 0).trans (secB_at b)
                          refine step_run (wanted_at (j := 9) (s := 124) (b := false) rfl (by kernel_rfl) (hv 9 (by kernel_rfl))) (v := .int .u8 ((b.toNat : Nat) : Int)) (w' := W) ?_ (hK _ _ hC (Below.refl _ _) rfl)
                          go_simp
                        · have e1 := slot_of (a := a) (s := 11) (v := .pointer (some ⟨gm, 0, none⟩)) (hf 11 (by kernel_rfl))
                          have e2 := slot_of (a := a) (s := 125) (v := .int .i64 (j : Int)) (hv 10 (by kernel_rfl))
                          refine step_run (wanted_at (j := 9) (s := 124) (b := false) rfl (by kernel_rfl) (hv 9 (by kernel_rfl))) (v := .pointer (some ⟨gm, j * 256, none⟩)) (w' := W) ?_ (hK _ _ hC (Below.refl _ _) rfl)
                          go_simp
                        · have e1 := slot_of (a := a) (s := 128) (v := .pointer (some ⟨gm, j * 256, none⟩)) (hv 13 (by kernel_rfl))
                          have e2 := slot_of (a := a) (s := 127) (v := .int .u8 ((b.toNat : Nat) : Int)) (hv 12 (by kernel_rfl))
                          have hb1 := HB8.out
                          refine step_run (wanted_at (j := 9) (s := 124) (b := false) rfl (by kernel_rfl) (hv 9 (by kernel_rfl))) (v := .pointer (some ⟨gm, j * 256 + b.toNat, none⟩)) (w' := W) ?_ (hK _ _ hC (Below.refl _ _) rfl)
                          go_simp
                        · have e1 := slot_of (a := a) (s := 129) (v := .pointer (some ⟨gm, j * 256 + b.toNat, none⟩)) (hv 14 (by kernel_rfl))
                          have cc := ((KMD.out.below hC KMD.out.lt).cell (j * 256 + b.toNat)).trans HCM.out
                          refine step_run (wanted_at (j := 9) (s := 124) (b := false) rfl (by kernel_rfl) (hv 9 (by kernel_rfl))) (v := .bool true) (w' := W) ?_ (hK _ _ hC (Below.refl _ _) rfl)
                          go_simp
                        · have e1 := slot_of (a := a) (s := 130) (v := .bool true) (hv 15 (by kernel_rfl))
                          refine step_run (wanted_at (j := 9) (s := 124) (b := false) rfl (by kernel_rfl) (hv 9 (by kernel_rfl))) (v := .bool false) (w' := W) ?_ (hK _ _ hC (Below.refl _ _) rfl)
                          go_simp
                        · have e1 := slot_of (a := a) (s := 124) (v := .bool false) (hv 9 (by kernel_rfl))
                          have e2 := slot_of (a := a) (s := 131) (v := .bool false) (hv 16 (by kernel_rfl))
                          refine step_run (wanted_none rfl) (v := .bool false) (w' := W) ?_ (hK _ _ hC (Below.refl _ _) rfl)
                          go_simp
                      · intro f wy hC2 hv2
                        have f0 : f 132 = .bool false := hv2 17 (by decide)
                        have H9 := hidD_ (HD5.out.below hC2)
                        have KM9 := hidD_ (KMD.out.below hC2 KMD.out.lt)
                        have X9 := hidD_ (XD5.out.trans (hC2.mono (by have := XD5.out.size; have := HB.out; omega)))
                        simp only [framed, List.foldl_cons, List.foldl_nil, List.setIfInBounds_toArray, List.set_cons_succ, List.set_cons_zero]
                        rw [f0]
                        clear hv2 hC2 f0
                        rename_i Kd hKd
                        refine hKd _ _ ?_
                        go_wp2
                        go_roundw
                        case rel => exact ⟨j + 1, by omega, by go_num, KM9, H9, X9⟩
                        case measure => simp [intOf]; omega
                    · obtain rfl : j = 6 := by omega
                      have d3 : ¬ ((6 : Nat) : Int) < 6 := by omega
                      have cl := dloose_yes HD.out
                      have co := doff_yes HD.out
                      rw [show (([] : List WrV).length : Int) = 0 from rfl] at cl
                      go_wp2_with (first
                        | (go_at_call 16; ((with_reducible refine cl.mono ?_); clear cl; rintro e w' ⟨rfl, rfl⟩; skip))
                        | (go_at_call 17; ((with_reducible refine co.mono ?_); clear co; rintro e w' ⟨rfl, rfl⟩; skip)))
                      go_ret
                      exact ⟨rfl, by rw [HB.out]; exact HXW.out⟩
                · have d1 : decide ((j : Int) < (r : Int)) = false := decide_eq_false (by omega)
                  have d3 : ¬ (j : Int) < (r : Int) := by omega
                  clear hlt
                  go_wp2_with (go_at_call 9; ((with_reducible refine cc.mono ?_); clear cc; rintro e w6 ⟨rfl, h1, h2, h3⟩; have H6 := hidD_ h1; have K6 := hidD_ (HKM.out.unt h3 (by decide)); have X6 := hidD_ (HXW.out.trans h2); clear h1 h2 h3))
                  go_loopw [15] (fun i wr => ∃ j : Nat, j ≤ 6 ∧ i = .int .i64 j ∧ Hid (Bk wr gm 58 (mayC M)) ∧ Hid (DkI B wr p q 6 F9 [] 0 false) ∧ Hid (Below B w wr)) (fun i _ => 6 - (intOf i).toNat)
                  case atStart => exact ⟨0, by omega, rfl, K6, H6, X6⟩
                  case round =>
                    clear HKM HD HXW H6 K6 X6 d1 d3
                    obtain ⟨j, hj6, rfl, HKM, HD, HXW⟩ := hrel
                    by_cases hlt : j < 6
                    · obtain ⟨b, hb1, hb2⟩ := HMF.out.2 j hlt
                      have HBW := hidD_ (show B ≤ wr.heap.size by have := HXW.out.size; have := HB.out; omega)
                      have cr : Calls Try.prog 10 #[.pointer (some ⟨p, 0, none⟩), .int .i64 (j : Int)] wr (fun e w' => e = .returned (.tuple #[.agg (rowOf (secB b)), .int .i64 0]) ∧ Below wr.heap.size wr w') := by
                        have h := dread_any HD.out (j : Int)
                        rw [hasE_ok 6 j hlt, show readD 6 F9 [] false (j : Int) = secB b by unfold readD; rw [if_pos (hasE_ok 6 j hlt)]; exact hb1] at h
                        exact h
                      have hb8 : b.toNat < 256 := b.toNat_lt
                      have HB8 := hidD_ (show (b.toNat : Int) < 256 by omega)
                      have HLT := hidD_ (show j * 256 + b.toNat < 1536 by omega)
                      have HCM := hidD_ ((mayC_at M _ HLT.out).trans (by rw [hb2]))
                      have zs := zeroSec
                      have t0 : (0 : Int) ≤ (j : Int) := by omega
                      have t6 : (j : Int) < 6 := by omega
                      have d1 : decide ((j : Int) < 6) = true := decide_eq_true t6
                      clear hb1 hb2 hb8
                      go_upto_region 30 with (first
                        | (go_at_call 10; ((with_reducible refine cr.mono ?_); clear cr; rintro e w7 ⟨rfl, hb⟩; have H7 := hidD_ (HD.out.below hb); have K7 := hidD_ (HKM.out.below hb HKM.out.lt); have X7 := hidD_ (HXW.out.trans (hb.mono HBW.out)); clear hb; (obtain ⟨g16, hg16⟩ : ∃ g, w7.heap.size = g := ⟨_, rfl⟩); (obtain ⟨w8, hw8⟩ : ∃ W, w7.alloc (.cells (rowOf zsec) 27) = W := ⟨_, rfl⟩); have B8 := hidD_ (show Below w7.heap.size w7 w8 by rw [← hw8]; exact (Below.refl _ _).alloc (Nat.le_refl _) _); have K8 := hidD_ (show Bk w8 g16 27 (rowOf zsec) by rw [← hw8, ← hg16]; exact Bk.new w7 _ _)))
                        | (refine wpList_put_row rfl 27 (.tmp 16) (.tmp 113) rfl g16 (rowOf (secB b)) rfl rfl 27 (rowOf zsec) K8.out (iSec _ (secB_len b)) (by rw [rowOf_size, rowOf_size, secB_len, zsec_len]) (bytes_one _) ?_; intro wd kd gd sd; have K16 := hidD_ kd; have BD := hidD_ (B8.out.grown gd B8.out.size (fun k e => by injection e with e; omega)); clear kd gd sd))
                      have HD5 := hidD_ (H7.out.below BD.out)
                      have KMD := hidD_ (K7.out.below BD.out K7.out.lt)
                      have XD5 := hidD_ (X7.out.trans (BD.out.mono (by have := X7.out.size; have := HB.out; omega)))
                      clear d1 hw8 hg16
                      refine region_byF [115, 116, 117, 118, 119, 120, 121, 122, 123, 124, 125, 126, 127, 128, 129, 130, 131, 132] (fun W => Below wd.heap.size wd W) (fun W W' => Below W.heap.size W W') (fun jj v _ => M30R g16 gm j b jj v) (by kernel_rfl) (by kernel_rfl) (by kernel_rfl) (by kernel_rfl) (fun j v w w' hT hr => ?_) (fun j v w hlt hj _ => ?_) ((Below.refl _ _).drew) ?_ ?_
                      · exact hr
                      · rcases j with _ | _ | _ | _ | _ | _ | _ | _ | _ | _ | _ | _ | _ | _ | _ | _ | _ | _ | j
                        all_goals first
                          | (exfalso; simp [dstOf] at hj; done)
                          | trivial
                      · refine ⟨fun a W hC hd hf hv K hK => ?_, fun a W hC hd hf hv K hK => ?_, fun a W hC hd hf hv K hK => ?_, fun a W hC hd hf hv K hK => ?_, fun a W hC hd hf hv K hK => ?_, fun a W hC hd hf hv K hK => ?_, fun a W hC hd hf hv K hK => ?_, fun a W hC hd hf hv K hK => ?_, fun a W hC hd hf hv K hK => ?_, fun a W hC hd hf hv K hK => ?_, fun a W hC hd hf hv K hK => ?_, fun a W hC hd hf hv K hK => ?_, fun a W hC hd hf hv K hK => ?_, fun a W hC hd hf hv K hK => ?_, fun a W hC hd hf hv K hK => ?_, fun a W hC hd hf hv K hK => ?_, fun a W hC hd hf hv K hK => ?_, fun a W hC hd hf hv K hK => ?_, trivial⟩
                        · have e1 := slot_of (a := a) (s := 17) (v := .int .i64 0) (hf 17 (by kernel_rfl))
                          refine step_run (wanted_none rfl) (v := .int .i64 0) (w' := W) ?_ (hK _ _ hC (Below.refl _ _) rfl)
                          go_simp
                        · have e1 := slot_of (a := a) (s := 115) (v := .int .i64 0) (hv 0 (by kernel_rfl))
                          refine step_run (wanted_none rfl) (v := .bool false) (w' := W) ?_ (hK _ _ hC (Below.refl _ _) rfl)
                          go_simp
                        · have e1 := slot_of (a := a) (s := 116) (v := .bool false) (hv 1 (by kernel_rfl))
                          refine step_run (wanted_none rfl) (v := .bool false) (w' := W) ?_ (hK _ _ hC (Below.refl _ _) rfl)
                          go_simp
                        · exact step_load_sub (wanted_at (j := 2) (s := 117) (b := false) rfl (by kernel_rfl) (hv 2 (by kernel_rfl))) 27 (.tmp 16) rfl g16 0 (eval_of (hf 16 (by kernel_rfl))) (rowOf (secB b)) (fun i hi => by rw [Nat.zero_add]; exact (K16.out.below hC K16.out.lt).cell i) _ Try.underlying27 rfl (iSec _ (secB_len b)) (hK _ _ hC (Below.refl _ _) rfl)
                        · have e1 := slot_of (a := a) (s := 16) (v := .pointer (some ⟨g16, 0, none⟩)) (hf 16 (by kernel_rfl))
                          refine step_run (wanted_at (j := 2) (s := 117) (b := false) rfl (by kernel_rfl) (hv 2 (by kernel_rfl))) (v := .pointer (some ⟨g16, 0, none⟩)) (w' := W) ?_ (hK _ _ hC (Below.refl _ _) rfl)
                          go_simp
                        · have e1 := slot_of (a := a) (s := 119) (v := .pointer (some ⟨g16, 0, none⟩)) (hv 4 (by kernel_rfl))
                          have cc := ((K16.out.below hC K16.out.lt).cell 0).trans (secB_at b)
                          refine step_run (wanted_at (j := 2) (s := 117) (b := false) rfl (by kernel_rfl) (hv 2 (by kernel_rfl))) (v := .int .u8 ((b.toNat : Nat) : Int)) (w' := W) ?_ (hK _ _ hC (Below.refl _ _) rfl)
                          go_simp
                        · have e1 := slot_of (a := a) (s := 120) (v := .int .u8 ((b.toNat : Nat) : Int)) (hv 5 (by kernel_rfl))
                          refine step_callx 13 #[.int .u8 ((b.toNat : Nat) : Int)] (wanted_at (j := 2) (s := 117) (b := false) rfl (by kernel_rfl) (hv 2 (by kernel_rfl))) (w' := W) ?_ ((sector_any W b _ rfl).mono fun e W2 hh => ?_)
                          · go_simp
                          · obtain ⟨rfl, hb⟩ := hh
                            exact ⟨_, rfl, hK _ _ (hC.trans (hb.mono hC.size)) hb rfl⟩
                        · have hq := eqSec (secB b) (secB b) (secB_len b) (secB_len b) W
                          rw [show (secB b == secB b) = true from beq_self_eq_true _] at hq
                          have e1 := slot_of (a := a) (s := 118) (v := .agg (rowOf (secB b))) (hv 3 (by kernel_rfl))
                          have e2 := slot_of (a := a) (s := 121) (v := .agg (rowOf (secB b))) (hv 6 (by kernel_rfl))
                          refine step_run (wanted_at (j := 2) (s := 117) (b := false) rfl (by kernel_rfl) (hv 2 (by kernel_rfl))) (v := .bool false) (w' := W) ?_ (hK _ _ hC (Below.refl _ _) rfl)
                          go_simp
                        · have e1 := slot_of (a := a) (s := 117) (v := .bool false) (hv 2 (by kernel_rfl))
                          have e2 := slot_of (a := a) (s := 122) (v := .bool false) (hv 7 (by kernel_rfl))
                          refine step_run (wanted_none rfl) (v := .bool false) (w' := W) ?_ (hK _ _ hC (Below.refl _ _) rfl)
                          go_simp
                        · have e1 := slot_of (a := a) (s := 123) (v := .bool false) (hv 8 (by kernel_rfl))
                          refine step_run (wanted_none rfl) (v := .bool false) (w' := W) ?_ (hK _ _ hC (Below.refl _ _) rfl)
                          go_simp
                        · have e1 := slot_of (a := a) (s := 15) (v := .int .i64 (j : Int)) (hf 15 (by kernel_rfl))
                          refine step_run (wanted_at (j := 9) (s := 124) (b := false) rfl (by kernel_rfl) (hv 9 (by kernel_rfl))) (v := .int .i64 (j : Int)) (w' := W) ?_ (hK _ _ hC (Below.refl _ _) rfl)
                          go_simp
                        · have e1 := slot_of (a := a) (s := 16) (v := .pointer (some ⟨g16, 0, none⟩)) (hf 16 (by kernel_rfl))
                          refine step_run (wanted_at (j := 9) (s := 124) (b := false) rfl (by kernel_rfl) (hv 9 (by kernel_rfl))) (v := .pointer (some ⟨g16, 0, none⟩)) (w' := W) ?_ (hK _ _ hC (Below.refl _ _) rfl)
                          go_simp
                        · have e1 := slot_of (a := a) (s := 126) (v := .pointer (some ⟨g16, 0, none⟩)) (hv 11 (by kernel_rfl))
                          have cc := ((K16.out.below hC K16.out.lt).cell 0).trans (secB_at b)
                          refine step_run (wanted_at (j := 9) (s := 124) (b := false) rfl (by kernel_rfl) (hv 9 (by kernel_rfl))) (v := .int .u8 ((b.toNat : Nat) : Int)) (w' := W) ?_ (hK _ _ hC (Below.refl _ _) rfl)
                          go_simp
                        · have e1 := slot_of (a := a) (s := 11) (v := .pointer (some ⟨gm, 0, none⟩)) (hf 11 (by kernel_rfl))
                          have e2 := slot_of (a := a) (s := 125) (v := .int .i64 (j : Int)) (hv 10 (by kernel_rfl))
                          refine step_run (wanted_at (j := 9) (s := 124) (b := false) rfl (by kernel_rfl) (hv 9 (by kernel_rfl))) (v := .pointer (some ⟨gm, j * 256, none⟩)) (w' := W) ?_ (hK _ _ hC (Below.refl _ _) rfl)
                          go_simp
                        · have e1 := slot_of (a := a) (s := 128) (v := .pointer (some ⟨gm, j * 256, none⟩)) (hv 13 (by kernel_rfl))
                          have e2 := slot_of (a := a) (s := 127) (v := .int .u8 ((b.toNat : Nat) : Int)) (hv 12 (by kernel_rfl))
                          have hb1 := HB8.out
                          refine step_run (wanted_at (j := 9) (s := 124) (b := false) rfl (by kernel_rfl) (hv 9 (by kernel_rfl))) (v := .pointer (some ⟨gm, j * 256 + b.toNat, none⟩)) (w' := W) ?_ (hK _ _ hC (Below.refl _ _) rfl)
                          go_simp
                        · have e1 := slot_of (a := a) (s := 129) (v := .pointer (some ⟨gm, j * 256 + b.toNat, none⟩)) (hv 14 (by kernel_rfl))
                          have cc := ((KMD.out.below hC KMD.out.lt).cell (j * 256 + b.toNat)).trans HCM.out
                          refine step_run (wanted_at (j := 9) (s := 124) (b := false) rfl (by kernel_rfl) (hv 9 (by kernel_rfl))) (v := .bool true) (w' := W) ?_ (hK _ _ hC (Below.refl _ _) rfl)
                          go_simp
                        · have e1 := slot_of (a := a) (s := 130) (v := .bool true) (hv 15 (by kernel_rfl))
                          refine step_run (wanted_at (j := 9) (s := 124) (b := false) rfl (by kernel_rfl) (hv 9 (by kernel_rfl))) (v := .bool false) (w' := W) ?_ (hK _ _ hC (Below.refl _ _) rfl)
                          go_simp
                        · have e1 := slot_of (a := a) (s := 124) (v := .bool false) (hv 9 (by kernel_rfl))
                          have e2 := slot_of (a := a) (s := 131) (v := .bool false) (hv 16 (by kernel_rfl))
                          refine step_run (wanted_none rfl) (v := .bool false) (w' := W) ?_ (hK _ _ hC (Below.refl _ _) rfl)
                          go_simp
                      · intro f wy hC2 hv2
                        have f0 : f 132 = .bool false := hv2 17 (by decide)
                        have H9 := hidD_ (HD5.out.below hC2)
                        have KM9 := hidD_ (KMD.out.below hC2 KMD.out.lt)
                        have X9 := hidD_ (XD5.out.trans (hC2.mono (by have := XD5.out.size; have := HB.out; omega)))
                        simp only [framed, List.foldl_cons, List.foldl_nil, List.setIfInBounds_toArray, List.set_cons_succ, List.set_cons_zero]
                        rw [f0]
                        clear hv2 hC2 f0
                        rename_i Kd hKd
                        refine hKd _ _ ?_
                        go_wp2
                        go_roundw
                        case rel => exact ⟨j + 1, by omega, by go_num, KM9, H9, X9⟩
                        case measure => simp [intOf]; omega
                    · obtain rfl : j = 6 := by omega
                      have d3 : ¬ ((6 : Nat) : Int) < 6 := by omega
                      have cl := dloose_yes HD.out
                      have co := doff_yes HD.out
                      rw [show (([] : List WrV).length : Int) = 0 from rfl] at cl
                      go_wp2_with (first
                        | (go_at_call 16; ((with_reducible refine cl.mono ?_); clear cl; rintro e w' ⟨rfl, rfl⟩; skip))
                        | (go_at_call 17; ((with_reducible refine co.mono ?_); clear co; rintro e w' ⟨rfl, rfl⟩; skip)))
                      go_ret
                      exact ⟨rfl, by rw [HB.out]; exact HXW.out⟩
      · have d1 : decide ((j : Int) < 6) = false := decide_eq_false (by omega)
        have d3 : ¬ (j : Int) < 6 := by omega
        clear hlt d12
        go_upto_region 13 with (go_at_call 14; ((with_reducible refine cy.mono ?_); clear cy; rintro e w4 ⟨rfl, h1, h2, h3⟩; have H4 := hidD_ h1; have K4 := hidD_ (HKF.out.unt h3 (by decide)); have X4 := hidD_ (HXW.out.trans h2); clear h1 h2 h3))
        clear HDF HXW HKF
        obtain ⟨gm, hgm⟩ : ∃ g, w4.heap.size = g := ⟨_, rfl⟩
        obtain ⟨w5, hw5⟩ : ∃ W, w4.alloc (.cells (mayC fun _ => false) 58) = W := ⟨_, rfl⟩
        have b5 : Below w4.heap.size w4 w5 := by rw [← hw5]; exact (Below.refl _ _).alloc (Nat.le_refl _) _
        have HGM := hidD_ (show B ≤ gm by have := X4.out.size; have := HB.out; omega)
        have KM5 := hidD_ (show Bk w5 gm 58 (mayC fun _ => false) by rw [← hw5, ← hgm]; exact Bk.new w4 _ _)
        have KF5 := hidD_ (K4.out.below b5 K4.out.lt)
        have H5 := hidD_ (H4.out.below b5)
        have X5 := hidD_ (X4.out.trans (b5.mono (by have := HGM.out; omega)))
        clear b5
        go_wp2
        go_loopw [12] (fun i wr => ∃ (j : Nat) (M : Nat → Bool), j ≤ 6 ∧ i = .int .i64 j ∧ Hid (Bk wr gm 58 (mayC M)) ∧ Hid (∀ k, k < j → M (k * 256 + (L.getD k 0).toNat) = true) ∧ Hid (Bk wr gf 56 (rowOf L)) ∧ Hid (DkI B wr p q 6 (L.map secB) [] 0 false) ∧ Hid (Below B w wr)) (fun i _ => 6 - (intOf i).toNat)
        case atStart => exact ⟨0, _, by omega, rfl, KM5, hidD_ (fun k hk => absurd hk (by omega)), KF5, H5, X5⟩
        case round =>
          obtain ⟨j, M, hj6, rfl, HKM, HML, HKF, HD, HXW⟩ := hrel
          clear hw5 hgm
          by_cases hlt : j < 6
          · obtain ⟨b, hb⟩ : ∃ b, L.getD j 0 = b := ⟨_, rfl⟩
            have HLB := hidD_ hb
            have cf := HKF.out.cell j
            rw [rowOf_at _ _ (by rw [HLL.out]; exact hlt), hb] at cf
            have hb8 : b.toNat < 256 := b.toNat_lt
            have HB8 := hidD_ (show (b.toNat : Int) < 256 by omega)
            have HLT := hidD_ (show j * 256 + b.toNat < 1536 by omega)
            have t0 : (0 : Int) ≤ (j : Int) := by omega
            have t6 : (j : Int) < 6 := by omega
            have d1 : decide ((j : Int) < 6) = true := decide_eq_true t6
            clear hb
            go_upto_region 17 with fail
            obtain ⟨wd, hwd⟩ : ∃ W3, { wr with drawn := wr.drawn + 1 } = W3 := ⟨_, rfl⟩
            have HCF := hidD_ (show wd.cell? ⟨gf, j, none⟩ = some (.int .u8 ((b.toNat : Nat) : Int)) by rw [← hwd]; exact cf)
            have KMD := hidD_ (show Bk wd gm 58 (mayC M) by rw [← hwd]; exact HKM.out)
            have KFD := hidD_ (show Bk wd gf 56 (rowOf L) by rw [← hwd]; exact HKF.out)
            have HCM := hidD_ ((KMD.out.cell (j * 256 + b.toNat)).trans (mayC_at M _ HLT.out))
            have HFM := hidD_ (KMD.out.frozen (j * 256 + b.toNat))
            have bd : Below wr.heap.size wr wd := by rw [← hwd]; exact (Below.refl _ _).drew
            have HD5 := hidD_ (HD.out.below bd)
            have XD5 := hidD_ (HXW.out.trans (bd.mono (by have := HXW.out.size; have := HB.out; omega)))
            have HWD := hidD_ hwd
            clear cf hb8 bd hwd
            refine region_byJF [60, 61, 62, 63, 64, 65] (fun _ => True) (fun _ _ => True) (fun jj v _ => M17R gf gm j b jj v) (fun D2 a W => PhJ dps17 6 (fun W => W = wd) (fun W => W = wd.setCell ⟨gm, j * 256 + b.toNat, none⟩ (.bool true)) D2 a W) (by kernel_rfl) (by kernel_rfl) (by kernel_rfl) (by kernel_rfl) (fun j v w w' hT hr => ?_) (fun j v w hlt hj _ => ?_) trivial ?_ (by rw [HWD.out]; exact PhJ.start rfl) ?_
            · exact hr
            · rcases j with _ | _ | _ | _ | _ | _ | _ | j
              all_goals first
                | (exfalso; simp [dstOf] at hj; done)
                | trivial
            · refine ⟨fun D2 a W hC hd hsz hf hv hJ hL hW K hK => ?_, fun D2 a W hC hd hsz hf hv hJ hL hW K hK => ?_, fun D2 a W hC hd hsz hf hv hJ hL hW K hK => ?_, fun D2 a W hC hd hsz hf hv hJ hL hW K hK => ?_, fun D2 a W hC hd hsz hf hv hJ hL hW K hK => ?_, fun D2 a W hC hd hsz hf hv hJ hL hW K hK => ?_, fun D2 a W hC hd hsz hf hv hJ hL hW K hK => ?_, trivial⟩
              · clear hsz
                have e1 := slot_of (a := a) (s := 12) (v := .int .i64 (j : Int)) (hf 12 (by kernel_rfl))
                refine step_run (wanted_none rfl) (v := .int .i64 (j : Int)) (w' := W) ?_ (hK _ _ trivial trivial rfl (hJ.same 0 (by decide) ls0))
                go_simp
              · clear hsz
                have e1 := slot_of (a := a) (s := 12) (v := .int .i64 (j : Int)) (hf 12 (by kernel_rfl))
                refine step_run (wanted_none rfl) (v := .int .i64 (j : Int)) (w' := W) ?_ (hK _ _ trivial trivial rfl (hJ.same 1 (by decide) ls0))
                go_simp
              · clear hsz
                have e1 := slot_of (a := a) (s := 9) (v := .pointer (some ⟨gf, 0, none⟩)) (hf 9 (by kernel_rfl))
                have e2 := slot_of (a := a) (s := 61) (v := .int .i64 (j : Int)) (hv 1 (by kernel_rfl))
                refine step_run (wanted_none rfl) (v := .pointer (some ⟨gf, j, none⟩)) (w' := W) ?_ (hK _ _ trivial trivial rfl (hJ.same 2 (by decide) (ls1 (hW 1 (by kernel_rfl)))))
                go_simp
              · clear hsz
                have e1 := slot_of (a := a) (s := 62) (v := .pointer (some ⟨gf, j, none⟩)) (hv 2 (by kernel_rfl))
                have hO := hJ.get 3 [5, 6] rfl rfl hL
                subst hO
                have cc := HCF.out
                refine step_run (wanted_none rfl) (v := .int .u8 ((b.toNat : Nat) : Int)) (w' := W) ?_ (hK _ _ trivial trivial rfl (hJ.same 3 (by decide) (ls1 (hW 2 (by kernel_rfl)))))
                go_simp
              · clear hsz
                have e1 := slot_of (a := a) (s := 11) (v := .pointer (some ⟨gm, 0, none⟩)) (hf 11 (by kernel_rfl))
                have e2 := slot_of (a := a) (s := 60) (v := .int .i64 (j : Int)) (hv 0 (by kernel_rfl))
                refine step_run (wanted_none rfl) (v := .pointer (some ⟨gm, j * 256, none⟩)) (w' := W) ?_ (hK _ _ trivial trivial rfl (hJ.same 4 (by decide) (ls1 (hW 0 (by kernel_rfl)))))
                go_simp
              · clear hsz
                have e1 := slot_of (a := a) (s := 64) (v := .pointer (some ⟨gm, j * 256, none⟩)) (hv 4 (by kernel_rfl))
                have e2 := slot_of (a := a) (s := 63) (v := .int .u8 ((b.toNat : Nat) : Int)) (hv 3 (by kernel_rfl))
                have hb1 := HB8.out
                refine step_run (wanted_none rfl) (v := .pointer (some ⟨gm, j * 256 + b.toNat, none⟩)) (w' := W) ?_ (hK _ _ trivial trivial rfl (hJ.same 5 (by decide) (ls2 (hW 4 (by kernel_rfl)) (hW 3 (by kernel_rfl)))))
                go_simp
              · clear hsz
                have hO := hJ.old hL
                subst hO
                have e1 := slot_of (a := a) (s := 65) (v := .pointer (some ⟨gm, j * 256 + b.toNat, none⟩)) (hv 5 (by kernel_rfl))
                have cc := HCM.out
                have cf := HFM.out
                refine step_skip (wanted_none rfl) (w' := W.setCell ⟨gm, j * 256 + b.toNat, none⟩ (.bool true)) ?_ (hK undef _ trivial trivial trivial (hJ.store (ls1 (hW 5 (by kernel_rfl))) rfl))
                go_simp
            · intro f wy hC5 hv5 L3 hL3 hJ3
              obtain ⟨aE, hJ, hfr⟩ := hJ3
              have e5 := hJ.fin (hL3 6 (by decide))
              subst e5
              have KM9 := hidD_ (show Bk (wd.setCell ⟨gm, j * 256 + b.toNat, none⟩ (.bool true)) gm 58 (mayC fun k => decide (k = j * 256 + b.toNat) || M k) by rw [← mayC_set M _ HLT.out]; exact KMD.out.set_ _ _)
              have KF9 := hidD_ (KFD.out.far (p := ⟨gm, j * 256 + b.toNat, none⟩) (KFD.out.neT KMD.out (by decide)) (.bool true))
              have PD := Bk.putD (b0 := B) (T := [58]) KMD.out HGM.out (by simp) (j * 256 + b.toNat) (.bool true)
              have H9 := hidD_ (HD5.out.unt PD.2 (by decide))
              have X9 := hidD_ (XD5.out.trans PD.1)
              simp only [framed, List.foldl_cons, List.foldl_nil, List.setIfInBounds_toArray, List.set_cons_succ, List.set_cons_zero]
              clear hv5 hC5 hJ hfr hL3 PD
              rename_i Kd hKd
              refine hKd _ _ ?_
              generalize wd.setCell ⟨gm, j * 256 + b.toNat, none⟩ (.bool true) = wy at *
              go_wp2
              go_roundw
              case rel =>
                refine ⟨j + 1, _, by omega, by go_num, KM9, hidD_ (fun k hk => ?_), KF9, H9, X9⟩
                rcases Nat.lt_or_ge k j with h1 | h1
                · rw [HML.out k h1, Bool.or_true]
                · obtain rfl : k = j := by omega
                  rw [HLB.out]
                  simp
              case measure => simp [intOf]; omega
          · obtain rfl : j = 6 := by omega
            have d3 : ¬ ((6 : Nat) : Int) < 6 := by omega
            have HMS := hidD_ (mayS_map HLL.out HML.out)
            go_wp2
            go_loopw [13] (fun i wr => ∃ (j : Nat) (M : Nat → Bool) (R : List WrV), j ≤ r ∧ j ≤ 20 ∧ i = .int .i64 j ∧ Hid (Bk wr gm 58 (mayC M)) ∧ Hid (MayS M (L.map secB)) ∧ Hid (R.length ≤ j) ∧ Hid (MayR M R) ∧ Hid (DkI B wr p q 6 (L.map secB) R 0 false) ∧ Hid (Below B w wr)) (fun i _ => 20 - (intOf i).toNat)
            case atStart => exact ⟨0, M, [], Nat.zero_le _, by omega, rfl, HKM, HMS, hidD_ (Nat.le_refl _), hidD_ (fun x hx => by cases hx), HD, HXW⟩
            case round =>
              clear HKM HML HKF HD HXW HMS
              obtain ⟨j, M, R, hjr, hj20, rfl, HKM, HMS, HRJ, HMR, HD, HXW⟩ := hrel
              by_cases hlt : j < r ∧ j < 20
              · obtain ⟨hltr, hlt2⟩ := hlt
                obtain ⟨ab, ao, rfl, hbl, hcx⟩ := HP.out (by rw [HN.out]; omega)
                have hjl : j < lk.length := by rw [HN.out]; exact hltr
                obtain ⟨hcx1, hok⟩ := hcx j hjl
                generalize lk[j] = x at hcx1 hok
                have HBW := hidD_ (show B ≤ wr.heap.size by have := HXW.out.size; have := HB.out; omega)
                have HCX := hidD_ (fun W (hx : Below B w W) i (hi : i < 5) => (hx.cell (p := ⟨ab, ao + j * 5 + i, none⟩) hbl).trans (hcx1 i hi))
                have ca := HCX.out wr HXW.out 1 (by omega)
                have cb := HCX.out wr HXW.out 2 (by omega)
                simp only [ActK.row, List.getElem?_toArray, List.getElem?_cons_zero, List.getElem?_cons_succ] at ca cb
                obtain ⟨U, m4, hrk⟩ := restK x.at1 6 (by omega) (by omega)
                have HRK := hidD_ hrk
                have r1 := hrk.u
                have r2 := hrk.t
                have r3 := hrk.r
                have r4 := hrk.wu
                have r5 := hrk.wi
                simp only [show ((6 : Nat) : Int) = 6 from rfl] at r2 r3
                have cs := sector_any wr x.by_ _ rfl
                have t0 : (0 : Int) ≤ (j : Int) := by omega
                have tn : (j : Int) < (r : Int) := by omega
                have t20 : (j : Int) < 20 := by omega
                have d1 : decide ((j : Int) < (r : Int)) = true := decide_eq_true tn
                have d2 : decide ((j : Int) < 20) = true := decide_eq_true t20
                clear hrk hcx hcx1
                go_upto_region 24 with (first
                  | (go_at_call 13; ((with_reducible refine cs.mono ?_); clear cs; rintro e w6 ⟨rfl, hb⟩; have H6 := hidD_ (HD.out.below hb); have K6 := hidD_ (HKM.out.below hb HKM.out.lt); have X6 := hidD_ (HXW.out.trans (hb.mono HBW.out)); clear hb; have cw : Calls Try.prog 12 #[.pointer (some ⟨p, 0, none⟩), .int .i64 (m4 : Int), .agg (rowOf (secB x.by_))] w6 (DkP B w6 p q 6 (L.map secB) (R ++ [(m4, secB x.by_)]) 0 false 0) := dwrite_yes H6.out (by have := X6.out.size; have := HB.out; omega) m4 HRK.out.lt (secB x.by_) (secB_len _) (by have := HRJ.out; omega)))
                  | (go_at_call 12; ((with_reducible refine cw.mono ?_); clear cw; rintro e w7 ⟨rfl, h1, h2, h3⟩; have H7 := hidD_ h1; have K7 := hidD_ (K6.out.unt h3 (by decide)); have X7 := hidD_ (X6.out.trans h2); clear h1 h2 h3)))
                clear ca cb r1 r2 r3 r4 r5 d1 d2
                have hb8 : x.by_.toNat < 256 := x.by_.toNat_lt
                have hm6 := HRK.out.lt
                have HB8 := hidD_ (show (x.by_.toNat : Int) < 256 by omega)
                have HLT := hidD_ (show m4 * 256 + x.by_.toNat < 1536 by omega)
                obtain ⟨wd, hwd⟩ : ∃ W3, { w7 with drawn := w7.drawn + 1 } = W3 := ⟨_, rfl⟩
                have bd : Below w7.heap.size w7 wd := by rw [← hwd]; exact (Below.refl _ _).drew
                have XD5 := hidD_ (X7.out.trans (bd.mono (by have := X7.out.size; have := HB.out; omega)))
                have hcb := HCX.out wd XD5.out 2 (by omega)
                simp only [ActK.row, List.getElem?_toArray, List.getElem?_cons_zero, List.getElem?_cons_succ] at hcb
                have HCB := hidD_ hcb
                have KMD := hidD_ (K7.out.below bd K7.out.lt)
                have HCM := hidD_ ((KMD.out.cell (m4 * 256 + x.by_.toNat)).trans (mayC_at M _ HLT.out))
                have HFM := hidD_ (KMD.out.frozen (m4 * 256 + x.by_.toNat))
                have HD5 := hidD_ (H7.out.below bd)
                have HWD := hidD_ hwd
                clear hb8 bd hwd hcb hm6
                refine region_byJF [94, 95, 96, 97, 98, 99, 100, 101] (fun _ => True) (fun _ _ => True) (fun jj v _ => M24R ab ao r c1 gm j m4 x jj v) (fun D2 a W => PhJ dps24 8 (fun W => W = wd) (fun W => W = wd.setCell ⟨gm, m4 * 256 + x.by_.toNat, none⟩ (.bool true)) D2 a W) (by kernel_rfl) (by kernel_rfl) (by kernel_rfl) (by kernel_rfl) (fun j v w w' hT hr => ?_) (fun j v w hlt hj _ => ?_) trivial ?_ (by rw [HWD.out]; exact PhJ.start rfl) ?_
                · exact hr
                · rcases j with _ | _ | _ | _ | _ | _ | _ | _ | _ | j
                  all_goals first
                    | (exfalso; simp [dstOf] at hj; done)
                    | trivial
                · refine ⟨fun D2 a W hC hd hsz hf hv hJ hL hW K hK => ?_, fun D2 a W hC hd hsz hf hv hJ hL hW K hK => ?_, fun D2 a W hC hd hsz hf hv hJ hL hW K hK => ?_, fun D2 a W hC hd hsz hf hv hJ hL hW K hK => ?_, fun D2 a W hC hd hsz hf hv hJ hL hW K hK => ?_, fun D2 a W hC hd hsz hf hv hJ hL hW K hK => ?_, fun D2 a W hC hd hsz hf hv hJ hL hW K hK => ?_, fun D2 a W hC hd hsz hf hv hJ hL hW K hK => ?_, fun D2 a W hC hd hsz hf hv hJ hL hW K hK => ?_, trivial⟩
                  · clear hsz
                    have e1 := slot_of (a := a) (s := 14) (v := .int .i64 (m4 : Int)) (hf 14 (by kernel_rfl))
                    refine step_run (wanted_none rfl) (v := .int .i64 (m4 : Int)) (w' := W) ?_ (hK _ _ trivial trivial rfl (hJ.same 0 (by decide) ls0))
                    go_simp
                  · clear hsz
                    have e1 := slot_of (a := a) (s := 1) (v := .slice (some ⟨ab, ao, none⟩) r c1) (hf 1 (by kernel_rfl))
                    refine step_run (wanted_none rfl) (v := .slice (some ⟨ab, ao, none⟩) r c1) (w' := W) ?_ (hK _ _ trivial trivial rfl (hJ.same 1 (by decide) ls0))
                    go_simp
                  · clear hsz
                    have e1 := slot_of (a := a) (s := 13) (v := .int .i64 (j : Int)) (hf 13 (by kernel_rfl))
                    refine step_run (wanted_none rfl) (v := .int .i64 (j : Int)) (w' := W) ?_ (hK _ _ trivial trivial rfl (hJ.same 2 (by decide) ls0))
                    go_simp
                  · clear hsz
                    have e1 := slot_of (a := a) (s := 95) (v := .slice (some ⟨ab, ao, none⟩) r c1) (hv 1 (by kernel_rfl))
                    have e2 := slot_of (a := a) (s := 96) (v := .int .i64 (j : Int)) (hv 2 (by kernel_rfl))
                    refine step_run (wanted_none rfl) (v := .pointer (some ⟨ab, ao + j * 5, none⟩)) (w' := W) ?_ (hK _ _ trivial trivial rfl (hJ.same 3 (by decide) (ls2 (hW 1 (by kernel_rfl)) (hW 2 (by kernel_rfl)))))
                    go_simp
                  · clear hsz
                    have e1 := slot_of (a := a) (s := 97) (v := .pointer (some ⟨ab, ao + j * 5, none⟩)) (hv 3 (by kernel_rfl))
                    refine step_run (wanted_none rfl) (v := .pointer (some ⟨ab, ao + j * 5 + 2, none⟩)) (w' := W) ?_ (hK _ _ trivial trivial rfl (hJ.same 4 (by decide) (ls1 (hW 3 (by kernel_rfl)))))
                    go_simp
                  · clear hsz
                    have e1 := slot_of (a := a) (s := 98) (v := .pointer (some ⟨ab, ao + j * 5 + 2, none⟩)) (hv 4 (by kernel_rfl))
                    have hO := hJ.get 5 [7, 8] rfl rfl hL
                    subst hO
                    have cc := HCB.out
                    refine step_run (wanted_none rfl) (v := .int .u8 ((x.by_.toNat : Nat) : Int)) (w' := W) ?_ (hK _ _ trivial trivial rfl (hJ.same 5 (by decide) (ls1 (hW 4 (by kernel_rfl)))))
                    go_simp
                  · clear hsz
                    have e1 := slot_of (a := a) (s := 11) (v := .pointer (some ⟨gm, 0, none⟩)) (hf 11 (by kernel_rfl))
                    have e2 := slot_of (a := a) (s := 94) (v := .int .i64 (m4 : Int)) (hv 0 (by kernel_rfl))
                    have hb2 : (m4 : Int) < 6 := by have := HRK.out.lt; omega
                    refine step_run (wanted_none rfl) (v := .pointer (some ⟨gm, m4 * 256, none⟩)) (w' := W) ?_ (hK _ _ trivial trivial rfl (hJ.same 6 (by decide) (ls1 (hW 0 (by kernel_rfl)))))
                    go_simp
                  · clear hsz
                    have e1 := slot_of (a := a) (s := 100) (v := .pointer (some ⟨gm, m4 * 256, none⟩)) (hv 6 (by kernel_rfl))
                    have e2 := slot_of (a := a) (s := 99) (v := .int .u8 ((x.by_.toNat : Nat) : Int)) (hv 5 (by kernel_rfl))
                    have hb1 := HB8.out
                    refine step_run (wanted_none rfl) (v := .pointer (some ⟨gm, m4 * 256 + x.by_.toNat, none⟩)) (w' := W) ?_ (hK _ _ trivial trivial rfl (hJ.same 7 (by decide) (ls2 (hW 6 (by kernel_rfl)) (hW 5 (by kernel_rfl)))))
                    go_simp
                  · clear hsz
                    have hO := hJ.old hL
                    subst hO
                    have e1 := slot_of (a := a) (s := 101) (v := .pointer (some ⟨gm, m4 * 256 + x.by_.toNat, none⟩)) (hv 7 (by kernel_rfl))
                    have cc := HCM.out
                    have cf := HFM.out
                    refine step_skip (wanted_none rfl) (w' := W.setCell ⟨gm, m4 * 256 + x.by_.toNat, none⟩ (.bool true)) ?_ (hK undef _ trivial trivial trivial (hJ.store (ls1 (hW 7 (by kernel_rfl))) rfl))
                    go_simp
                · intro f wy hC5 hv5 L3 hL3 hJ3
                  obtain ⟨aE, hJ, hfr⟩ := hJ3
                  have e5 := hJ.fin (hL3 8 (by decide))
                  subst e5
                  have KM9 := hidD_ (show Bk (wd.setCell ⟨gm, m4 * 256 + x.by_.toNat, none⟩ (.bool true)) gm 58 (mayC fun k => decide (k = m4 * 256 + x.by_.toNat) || M k) by rw [← mayC_set M _ HLT.out]; exact KMD.out.set_ _ _)
                  have PD := Bk.putD (b0 := B) (T := [58]) KMD.out HGM.out (by simp) (m4 * 256 + x.by_.toNat) (.bool true)
                  have H9 := hidD_ (HD5.out.unt PD.2 (by decide))
                  have X9 := hidD_ (XD5.out.trans PD.1)
                  simp only [framed, List.foldl_cons, List.foldl_nil, List.setIfInBounds_toArray, List.set_cons_succ, List.set_cons_zero]
                  clear hv5 hC5 hJ hfr hL3 PD
                  rename_i Kd hKd
                  refine hKd _ _ ?_
                  generalize wd.setCell ⟨gm, m4 * 256 + x.by_.toNat, none⟩ (.bool true) = wy at *
                  go_wp2
                  go_roundw
                  case rel =>
                    have hmm : ∀ k, M k = true → (decide (k = m4 * 256 + x.by_.toNat) || M k) = true := fun k hk => by rw [hk, Bool.or_true]
                    refine ⟨j + 1, _, _, by omega, by omega, by go_num, KM9, hidD_ (HMS.out.more hmm), hidD_ ?_, hidD_ ?_, H9, X9⟩
                    · rw [List.length_append, List.length_singleton]
                      have := HRJ.out
                      omega
                    · intro y hy
                      rcases List.mem_append.1 hy with h1 | h1
                      · exact (HMR.out.more hmm) y h1
                      · simp at h1
                        subst h1
                        exact ⟨HRK.out.lt, x.by_, rfl, by simp⟩
                  case measure => simp [intOf]; omega
              · have cc : Calls Try.prog 9 #[.pointer (some ⟨p, 0, none⟩), .slice A2 ns c2] wr (fun e w' => e = .returned (.tuple #[]) ∧ DkI B w' p q 6 (appl (L.map secB) (kept R S)) [] 0 false ∧ Below B wr w' ∧ UnT dkT wr w') :=
                  dcrash_any HD.out (by have := HXW.out.size; have := HB.out; omega) (by have := HRJ.out; omega) A2 ns c2 S HNS.out (fun W hx _ k hk => by
                    obtain ⟨b2, o2, e2, hlt2, hc2⟩ := HS.out (by rw [HNS.out]; omega)
                    refine ⟨b2, o2, e2, ?_⟩
                    exact ((HXW.out.trans hx).cell (p := ⟨b2, o2 + k, none⟩) hlt2).trans (hc2 k (by rw [HNS.out]; exact hk)))
                have HMF := hidD_ (may_appl (kept R S) _ HMS.out (fun x hx => HMR.out x (kept_mem _ _ _ hx)))
                generalize appl (L.map secB) (kept R S) = F9 at cc HMF
                by_cases hltr : j < r
                · have d1 : decide ((j : Int) < (r : Int)) = true := decide_eq_true (by omega)
                  have d2 : decide ((j : Int) < 20) = false := decide_eq_false (by omega)
                  have d3 : ¬ (j : Int) < 20 := by omega
                  clear hlt
                  go_wp2_with (go_at_call 9; ((with_reducible refine cc.mono ?_); clear cc; rintro e w6 ⟨rfl, h1, h2, h3⟩; have H6 := hidD_ h1; have K6 := hidD_ (HKM.out.unt h3 (by decide)); have X6 := hidD_ (HXW.out.trans h2); clear h1 h2 h3))
                  go_loopw [15] (fun i wr => ∃ j : Nat, j ≤ 6 ∧ i = .int .i64 j ∧ Hid (Bk wr gm 58 (mayC M)) ∧ Hid (DkI B wr p q 6 F9 [] 0 false) ∧ Hid (Below B w wr)) (fun i _ => 6 - (intOf i).toNat)
                  case atStart => exact ⟨0, by omega, rfl, K6, H6, X6⟩
                  case round =>
                    clear HKM HD HXW H6 K6 X6 d1 d3
                    obtain ⟨j, hj6, rfl, HKM, HD, HXW⟩ := hrel
                    by_cases hlt : j < 6
                    · obtain ⟨b, hb1, hb2⟩ := HMF.out.2 j hlt
                      have HBW := hidD_ (show B ≤ wr.heap.size by have := HXW.out.size; have := HB.out; omega)
                      have cr : Calls Try.prog 10 #[.pointer (some ⟨p, 0, none⟩), .int .i64 (j : Int)] wr (fun e w' => e = .returned (.tuple #[.agg (rowOf (secB b)), .int .i64 0]) ∧ Below wr.heap.size wr w') := by
                        have h := dread_any HD.out (j : Int)
                        rw [hasE_ok 6 j hlt, show readD 6 F9 [] false (j : Int) = secB b by unfold readD; rw [if_pos (hasE_ok 6 j hlt)]; exact hb1] at h
                        exact h
                      have hb8 : b.toNat < 256 := b.toNat_lt
                      have HB8 := hidD_ (show (b.toNat : Int) < 256 by omega)
                      have HLT := hidD_ (show j * 256 + b.toNat < 1536 by omega)
                      have HCM := hidD_ ((mayC_at M _ HLT.out).trans (by rw [hb2]))
                      have zs := zeroSec
                      have t0 : (0 : Int) ≤ (j : Int) := by omega
                      have t6 : (j : Int) < 6 := by omega
                      have d1 : decide ((j : Int) < 6) = true := decide_eq_true t6
                      clear hb1 hb2 hb8
                      go_upto_region 30 with (first
                        | (go_at_call 10; ((with_reducible refine cr.mono ?_); clear cr; rintro e w7 ⟨rfl, hb⟩; have H7 := hidD_ (HD.out.below hb); have K7 := hidD_ (HKM.out.below hb HKM.out.lt); have X7 := hidD_ (HXW.out.trans (hb.mono HBW.out)); clear hb; (obtain ⟨g16, hg16⟩ : ∃ g, w7.heap.size = g := ⟨_, rfl⟩); (obtain ⟨w8, hw8⟩ : ∃ W, w7.alloc (.cells (rowOf zsec) 27) = W := ⟨_, rfl⟩); have B8 := hidD_ (show Below w7.heap.size w7 w8 by rw [← hw8]; exact (Below.refl _ _).alloc (Nat.le_refl _) _); have K8 := hidD_ (show Bk w8 g16 27 (rowOf zsec) by rw [← hw8, ← hg16]; exact Bk.new w7 _ _)))
                        | (refine wpList_put_row rfl 27 (.tmp 16) (.tmp 113) rfl g16 (rowOf (secB b)) rfl rfl 27 (rowOf zsec) K8.out (iSec _ (secB_len b)) (by rw [rowOf_size, rowOf_size, secB_len, zsec_len]) (bytes_one _) ?_; intro wd kd gd sd; have K16 := hidD_ kd; have BD := hidD_ (B8.out.grown gd B8.out.size (fun k e => by injection e with e; omega)); clear kd gd sd))
                      have HD5 := hidD_ (H7.out.below BD.out)
                      have KMD := hidD_ (K7.out.below BD.out K7.out.lt)
                      have XD5 := hidD_ (X7.out.trans (BD.out.mono (by have := X7.out.size; have := HB.out; omega)))
                      clear d1 hw8 hg16
                      refine region_byF [115, 116, 117, 118, 119, 120, 121, 122, 123, 124, 125, 126, 127, 128, 129, 130, 131, 132] (fun W => Below wd.heap.size wd W) (fun W W' => Below W.heap.size W W') (fun jj v _ => M30R g16 gm j b jj v) (by kernel_rfl) (by kernel_rfl) (by kernel_rfl) (by kernel_rfl) (fun j v w w' hT hr => ?_) (fun j v w hlt hj _ => ?_) ((Below.refl _ _).drew) ?_ ?_
                      · exact hr
                      · rcases j with _ | _ | _ | _ | _ | _ | _ | _ | _ | _ | _ | _ | _ | _ | _ | _ | _ | _ | j
                        all_goals first
                          | (exfalso; simp [dstOf] at hj; done)
                          | trivial
                      · refine ⟨fun a W hC hd hf hv K hK => ?_, fun a W hC hd hf hv K hK => ?_, fun a W hC hd hf hv K hK => ?_, fun a W hC hd hf hv K hK => ?_, fun a W hC hd hf hv K hK => ?_, fun a W hC hd hf hv K hK => ?_, fun a W hC hd hf hv K hK => ?_, fun a W hC hd hf hv K hK => ?_, fun a W hC hd hf hv K hK => ?_, fun a W hC hd hf hv K hK => ?_, fun a W hC hd hf hv K hK => ?_, fun a W hC hd hf hv K hK => ?_, fun a W hC hd hf hv K hK => ?_, fun a W hC hd hf hv K hK => ?_, fun a W hC hd hf hv K hK => ?_, fun a W hC hd hf hv K hK => ?_, fun a W hC hd hf hv K hK => ?_, fun a W hC hd hf hv K hK => ?_, trivial⟩
                        · have e1 := slot_of (a := a) (s := 17) (v := .int .i64 0) (hf 17 (by kernel_rfl))
                          refine step_run (wanted_none rfl) (v := .int .i64 0) (w' := W) ?_ (hK _ _ hC (Below.refl _ _) rfl)
                          go_simp
                        · have e1 := slot_of (a := a) (s := 115) (v := .int .i64 0) (hv 0 (by kernel_rfl))
                          refine step_run (wanted_none rfl) (v := .bool false) (w' := W) ?_ (hK _ _ hC (Below.refl _ _) rfl)
                          go_simp
                        · have e1 := slot_of (a := a) (s := 116) (v := .bool false) (hv 1 (by kernel_rfl))
                          refine step_run (wanted_none rfl) (v := .bool false) (w' := W) ?_ (hK _ _ hC (Below.refl _ _) rfl)
                          go_simp
                        · exact step_load_sub (wanted_at (j := 2) (s := 117) (b := false) rfl (by kernel_rfl) (hv 2 (by kernel_rfl))) 27 (.tmp 16) rfl g16 0 (eval_of (hf 16 (by kernel_rfl))) (rowOf (secB b)) (fun i hi => by rw [Nat.zero_add]; exact (K16.out.below hC K16.out.lt).cell i) _ Try.underlying27 rfl (iSec _ (secB_len b)) (hK _ _ hC (Below.refl _ _) rfl)
                        · have e1 := slot_of (a := a) (s := 16) (v := .pointer (some ⟨g16, 0, none⟩)) (hf 16 (by kernel_rfl))
                          refine step_run (wanted_at (j := 2) (s := 117) (b := false) rfl (by kernel_rfl) (hv 2 (by kernel_rfl))) (v := .pointer (some ⟨g16, 0, none⟩)) (w' := W) ?_ (hK _ _ hC (Below.refl _ _) rfl)
                          go_simp
                        · have e1 := slot_of (a := a) (s := 119) (v := .pointer (some ⟨g16, 0, none⟩)) (hv 4 (by kernel_rfl))
                          have cc := ((K16.out.below hC K16.out.lt).cell 0).trans (secB_at b)
                          refine step_run (wanted_at (j := 2) (s := 117) (b := false) rfl (by kernel_rfl) (hv 2 (by kernel_rfl))) (v := .int .u8 ((b.toNat : Nat) : Int)) (w' := W) ?_ (hK _ _ hC (Below.refl _ _) rfl)
                          go_simp
                        · have e1 := slot_of (a := a) (s := 120) (v := .int .u8 ((b.toNat : Nat) : Int)) (hv 5 (by kernel_rfl))
                          refine step_callx 13 #[.int .u8 ((b.toNat : Nat) : Int)] (wanted_at (j := 2) (s := 117) (b := false) rfl (by kernel_rfl) (hv 2 (by kernel_rfl))) (w' := W) ?_ ((sector_any W b _ rfl).mono fun e W2 hh => ?_)
                          · go_simp
                          · obtain ⟨rfl, hb⟩ := hh
                            exact ⟨_, rfl, hK _ _ (hC.trans (hb.mono hC.size)) hb rfl⟩
                        · have hq := eqSec (secB b) (secB b) (secB_len b) (secB_len b) W
                          rw [show (secB b == secB b) = true from beq_self_eq_true _] at hq
                          have e1 := slot_of (a := a) (s := 118) (v := .agg (rowOf (secB b))) (hv 3 (by kernel_rfl))
                          have e2 := slot_of (a := a) (s := 121) (v := .agg (rowOf (secB b))) (hv 6 (by kernel_rfl))
                          refine step_run (wanted_at (j := 2) (s := 117) (b := false) rfl (by kernel_rfl) (hv 2 (by kernel_rfl))) (v := .bool false) (w' := W) ?_ (hK _ _ hC (Below.refl _ _) rfl)
                          go_simp
                        · have e1 := slot_of (a := a) (s := 117) (v := .bool false) (hv 2 (by kernel_rfl))
                          have e2 := slot_of (a := a) (s := 122) (v := .bool false) (hv 7 (by kernel_rfl))
                          refine step_run (wanted_none rfl) (v := .bool false) (w' := W) ?_ (hK _ _ hC (Below.refl _ _) rfl)
                          go_simp
                        · have e1 := slot_of (a := a) (s := 123) (v := .bool false) (hv 8 (by kernel_rfl))
                          refine step_run (wanted_none rfl) (v := .bool false) (w' := W) ?_ (hK _ _ hC (Below.refl _ _) rfl)
                          go_simp
                        · have e1 := slot_of (a := a) (s := 15) (v := .int .i64 (j : Int)) (hf 15 (by kernel_rfl))
                          refine step_run (wanted_at (j := 9) (s := 124) (b := false) rfl (by kernel_rfl) (hv 9 (by kernel_rfl))) (v := .int .i64 (j : Int)) (w' := W) ?_ (hK _ _ hC (Below.refl _ _) rfl)
                          go_simp
                        · have e1 := slot_of (a := a) (s := 16) (v := .pointer (some ⟨g16, 0, none⟩)) (hf 16 (by kernel_rfl))
                          refine step_run (wanted_at (j := 9) (s := 124) (b := false) rfl (by kernel_rfl) (hv 9 (by kernel_rfl))) (v := .pointer (some ⟨g16, 0, none⟩)) (w' := W) ?_ (hK _ _ hC (Below.refl _ _) rfl)
                          go_simp
                        · have e1 := slot_of (a := a) (s := 126) (v := .pointer (some ⟨g16, 0, none⟩)) (hv 11 (by kernel_rfl))
                          have cc := ((K16.out.below hC K16.out.lt).cell 0).trans (secB_at b)
                          refine step_run (wanted_at (j := 9) (s := 124) (b := false) rfl (by kernel_rfl) (hv 9 (by kernel_rfl))) (v := .int .u8 ((b.toNat : Nat) : Int)) (w' := W) ?_ (hK _ _ hC (Below.refl _ _) rfl)
                          go_simp
                        · have e1 := slot_of (a := a) (s := 11) (v := .pointer (some ⟨gm, 0, none⟩)) (hf 11 (by kernel_rfl))
                          have e2 := slot_of (a := a) (s := 125) (v := .int .i64 (j : Int)) (hv 10 (by kernel_rfl))
                          refine step_run (wanted_at (j := 9) (s := 124) (b := false) rfl (by kernel_rfl) (hv 9 (by kernel_rfl))) (v := .pointer (some ⟨gm, j * 256, none⟩)) (w' := W) ?_ (hK _ _ hC (Below.refl _ _) rfl)
                          go_simp
                        · have e1 := slot_of (a := a) (s := 128) (v := .pointer (some ⟨gm, j * 256, none⟩)) (hv 13 (by kernel_rfl))
                          have e2 := slot_of (a := a) (s := 127) (v := .int .u8 ((b.toNat : Nat) : Int)) (hv 12 (by kernel_rfl))
                          have hb1 := HB8.out
                          refine step_run (wanted_at (j := 9) (s := 124) (b := false) rfl (by kernel_rfl) (hv 9 (by kernel_rfl))) (v := .pointer (some ⟨gm, j * 256 + b.toNat, none⟩)) (w' := W) ?_ (hK _ _ hC (Below.refl _ _) rfl)
                          go_simp
                        · have e1 := slot_of (a := a) (s := 129) (v := .pointer (some ⟨gm, j * 256 + b.toNat, none⟩)) (hv 14 (by kernel_rfl))
                          have cc := ((KMD.out.below hC KMD.out.lt).cell (j * 256 + b.toNat)).trans HCM.out
                          refine step_run (wanted_at (j := 9) (s := 124) (b := false) rfl (by kernel_rfl) (hv 9 (by kernel_rfl))) (v := .bool true) (w' := W) ?_ (hK _ _ hC (Below.refl _ _) rfl)
                          go_simp
                        · have e1 := slot_of (a := a) (s := 130) (v := .bool true) (hv 15 (by kernel_rfl))
                          refine step_run (wanted_at (j := 9) (s := 124) (b := false) rfl (by kernel_rfl) (hv 9 (by kernel_rfl))) (v := .bool false) (w' := W) ?_ (hK _ _ hC (Below.refl _ _) rfl)
                          go_simp
                        · have e1 := slot_of (a := a) (s := 124) (v := .bool false) (hv 9 (by kernel_rfl))
                          have e2 := slot_of (a := a) (s := 131) (v := .bool false) (hv 16 (by kernel_rfl))
                          refine step_run (wanted_none rfl) (v := .bool false) (w' := W) ?_ (hK _ _ hC (Below.refl _ _) rfl)
                          go_simp
                      · intro f wy hC2 hv2
                        have f0 : f 132 = .bool false := hv2 17 (by decide)
                        have H9 := hidD_ (HD5.out.below hC2)
                        have KM9 := hidD_ (KMD.out.below hC2 KMD.out.lt)
                        have X9 := hidD_ (XD5.out.trans (hC2.mono (by have := XD5.out.size; have := HB.out; omega)))
                        simp only [framed, List.foldl_cons, List.foldl_nil, List.setIfInBounds_toArray, List.set_cons_succ, List.set_cons_zero]
                        rw [f0]
                        clear hv2 hC2 f0
                        rename_i Kd hKd
                        refine hKd _ _ ?_
                        go_wp2
                        go_roundw
                        case rel => exact ⟨j + 1, by omega, by go_num, KM9, H9, X9⟩
                        case measure => simp [intOf]; omega
                    · obtain rfl : j = 6 := by omega
                      have d3 : ¬ ((6 : Nat) : Int) < 6 := by omega
                      have cl := dloose_yes HD.out
                      have co := doff_yes HD.out
                      rw [show (([] : List WrV).length : Int) = 0 from rfl] at cl
                      go_wp2_with (first
                        | (go_at_call 16; ((with_reducible refine cl.mono ?_); clear cl; rintro e w' ⟨rfl, rfl⟩; skip))
                        | (go_at_call 17; ((with_reducible refine co.mono ?_); clear co; rintro e w' ⟨rfl, rfl⟩; skip)))
                      go_ret
                      exact ⟨rfl, by rw [HB.out]; exact HXW.out⟩
                · have d1 : decide ((j : Int) < (r : Int)) = false := decide_eq_false (by omega)
                  have d3 : ¬ (j : Int) < (r : Int) := by omega
                  clear hlt
                  go_wp2_with (go_at_call 9; ((with_reducible refine cc.mono ?_); clear cc; rintro e w6 ⟨rfl, h1, h2, h3⟩; have H6 := hidD_ h1; have K6 := hidD_ (HKM.out.unt h3 (by decide)); have X6 := hidD_ (HXW.out.trans h2); clear h1 h2 h3))
                  go_loopw [15] (fun i wr => ∃ j : Nat, j ≤ 6 ∧ i = .int .i64 j ∧ Hid (Bk wr gm 58 (mayC M)) ∧ Hid (DkI B wr p q 6 F9 [] 0 false) ∧ Hid (Below B w wr)) (fun i _ => 6 - (intOf i).toNat)
                  case atStart => exact ⟨0, by omega, rfl, K6, H6, X6⟩
                  case round =>
                    clear HKM HD HXW H6 K6 X6 d1 d3
                    obtain ⟨j, hj6, rfl, HKM, HD, HXW⟩ := hrel
                    by_cases hlt : j < 6
                    · obtain ⟨b, hb1, hb2⟩ := HMF.out.2 j hlt
                      have HBW := hidD_ (show B ≤ wr.heap.size by have := HXW.out.size; have := HB.out; omega)
                      have cr : Calls Try.prog 10 #[.pointer (some ⟨p, 0, none⟩), .int .i64 (j : Int)] wr (fun e w' => e = .returned (.tuple #[.agg (rowOf (secB b)), .int .i64 0]) ∧ Below wr.heap.size wr w') := by
                        have h := dread_any HD.out (j : Int)
                        rw [hasE_ok 6 j hlt, show readD 6 F9 [] false (j : Int) = secB b by unfold readD; rw [if_pos (hasE_ok 6 j hlt)]; exact hb1] at h
                        exact h
                      have hb8 : b.toNat < 256 := b.toNat_lt
                      have HB8 := hidD_ (show (b.toNat : Int) < 256 by omega)
                      have HLT := hidD_ (show j * 256 + b.toNat < 1536 by omega)
                      have HCM := hidD_ ((mayC_at M _ HLT.out).trans (by rw [hb2]))
                      have zs := zeroSec
                      have t0 : (0 : Int) ≤ (j : Int) := by omega
                      have t6 : (j : Int) < 6 := by omega
                      have d1 : decide ((j : Int) < 6) = true := decide_eq_true t6
                      clear hb1 hb2 hb8
                      go_upto_region 30 with (first
                        | (go_at_call 10; ((with_reducible refine cr.mono ?_); clear cr; rintro e w7 ⟨rfl, hb⟩; have H7 := hidD_ (HD.out.below hb); have K7 := hidD_ (HKM.out.below hb HKM.out.lt); have X7 := hidD_ (HXW.out.trans (hb.mono HBW.out)); clear hb; (obtain ⟨g16, hg16⟩ : ∃ g, w7.heap.size = g := ⟨_, rfl⟩); (obtain ⟨w8, hw8⟩ : ∃ W, w7.alloc (.cells (rowOf zsec) 27) = W := ⟨_, rfl⟩); have B8 := hidD_ (show Below w7.heap.size w7 w8 by rw [← hw8]; exact (Below.refl _ _).alloc (Nat.le_refl _) _); have K8 := hidD_ (show Bk w8 g16 27 (rowOf zsec) by rw [← hw8, ← hg16]; exact Bk.new w7 _ _)))
                        | (refine wpList_put_row rfl 27 (.tmp 16) (.tmp 113) rfl g16 (rowOf (secB b)) rfl rfl 27 (rowOf zsec) K8.out (iSec _ (secB_len b)) (by rw [rowOf_size, rowOf_size, secB_len, zsec_len]) (bytes_one _) ?_; intro wd kd gd sd; have K16 := hidD_ kd; have BD := hidD_ (B8.out.grown gd B8.out.size (fun k e => by injection e with e; omega)); clear kd gd sd))
                      have HD5 := hidD_ (H7.out.below BD.out)
                      have KMD := hidD_ (K7.out.below BD.out K7.out.lt)
                      have XD5 := hidD_ (X7.out.trans (BD.out.mono (by have := X7.out.size; have := HB.out; omega)))
                      clear d1 hw8 hg16
                      refine region_byF [115, 116, 117, 118, 119, 120, 121, 122, 123, 124, 125, 126, 127, 128, 129, 130, 131, 132] (fun W => Below wd.heap.size wd W) (fun W W' => Below W.heap.size W W') (fun jj v _ => M30R g16 gm j b jj v) (by kernel_rfl) (by kernel_rfl) (by kernel_rfl) (by kernel_rfl) (fun j v w w' hT hr => ?_) (fun j v w hlt hj _ => ?_) ((Below.refl _ _).drew) ?_ ?_
                      · exact hr
                      · rcases j with _ | _ | _ | _ | _ | _ | _ | _ | _ | _ | _ | _ | _ | _ | _ | _ | _ | _ | j
                        all_goals first
                          | (exfalso; simp [dstOf] at hj; done)
                          | trivial
                      · refine ⟨fun a W hC hd hf hv K hK => ?_, fun a W hC hd hf hv K hK => ?_, fun a W hC hd hf hv K hK => ?_, fun a W hC hd hf hv K hK => ?_, fun a W hC hd hf hv K hK => ?_, fun a W hC hd hf hv K hK => ?_, fun a W hC hd hf hv K hK => ?_, fun a W hC hd hf hv K hK => ?_, fun a W hC hd hf hv K hK => ?_, fun a W hC hd hf hv K hK => ?_, fun a W hC hd hf hv K hK => ?_, fun a W hC hd hf hv K hK => ?_, fun a W hC hd hf hv K hK => ?_, fun a W hC hd hf hv K hK => ?_, fun a W hC hd hf hv K hK => ?_, fun a W hC hd hf hv K hK => ?_, fun a W hC hd hf hv K hK => ?_, fun a W hC hd hf hv K hK => ?_, trivial⟩
                        · have e1 := slot_of (a := a) (s := 17) (v := .int .i64 0) (hf 17 (by kernel_rfl))
                          refine step_run (wanted_none rfl) (v := .int .i64 0) (w' := W) ?_ (hK _ _ hC (Below.refl _ _) rfl)
                          go_simp
                        · have e1 := slot_of (a := a) (s := 115) (v := .int .i64 0) (hv 0 (by kernel_rfl))
                          refine step_run (wanted_none rfl) (v := .bool false) (w' := W) ?_ (hK _ _ hC (Below.refl _ _) rfl)
                          go_simp
                        · have e1 := slot_of (a := a) (s := 116) (v := .bool false) (hv 1 (by kernel_rfl))
                          refine step_run (wanted_none rfl) (v := .bool false) (w' := W) ?_ (hK _ _ hC (Below.refl _ _) rfl)
                          go_simp
                        · exact step_load_sub (wanted_at (j := 2) (s := 117) (b := false) rfl (by kernel_rfl) (hv 2 (by kernel_rfl))) 27 (.tmp 16) rfl g16 0 (eval_of (hf 16 (by kernel_rfl))) (rowOf (secB b)) (fun i hi => by rw [Nat.zero_add]; exact (K16.out.below hC K16.out.lt).cell i) _ Try.underlying27 rfl (iSec _ (secB_len b)) (hK _ _ hC (Below.refl _ _) rfl)
                        · have e1 := slot_of (a := a) (s := 16) (v := .pointer (some ⟨g16, 0, none⟩)) (hf 16 (by kernel_rfl))
                          refine step_run (wanted_at (j := 2) (s := 117) (b := false) rfl (by kernel_rfl) (hv 2 (by kernel_rfl))) (v := .pointer (some ⟨g16, 0, none⟩)) (w' := W) ?_ (hK _ _ hC (Below.refl _ _) rfl)
                          go_simp
                        · have e1 := slot_of (a := a) (s := 119) (v := .pointer (some ⟨g16, 0, none⟩)) (hv 4 (by kernel_rfl))
                          have cc := ((K16.out.below hC K16.out.lt).cell 0).trans (secB_at b)
                          refine step_run (wanted_at (j := 2) (s := 117) (b := false) rfl (by kernel_rfl) (hv 2 (by kernel_rfl))) (v := .int .u8 ((b.toNat : Nat) : Int)) (w' := W) ?_ (hK _ _ hC (Below.refl _ _) rfl)
                          go_simp
                        · have e1 := slot_of (a := a) (s := 120) (v := .int .u8 ((b.toNat : Nat) : Int)) (hv 5 (by kernel_rfl))
                          refine step_callx 13 #[.int .u8 ((b.toNat : Nat) : Int)] (wanted_at (j := 2) (s := 117) (b := false) rfl (by kernel_rfl) (hv 2 (by kernel_rfl))) (w' := W) ?_ ((sector_any W b _ rfl).mono fun e W2 hh => ?_)
                          · go_simp
                          · obtain ⟨rfl, hb⟩ := hh
                            exact ⟨_, rfl, hK _ _ (hC.trans (hb.mono hC.size)) hb rfl⟩
                        · have hq := eqSec (secB b) (secB b) (secB_len b) (secB_len b) W
                          rw [show (secB b == secB b) = true from beq_self_eq_true _] at hq
                          have e1 := slot_of (a := a) (s := 118) (v := .agg (rowOf (secB b))) (hv 3 (by kernel_rfl))
                          have e2 := slot_of (a := a) (s := 121) (v := .agg (rowOf (secB b))) (hv 6 (by kernel_rfl))
                          refine step_run (wanted_at (j := 2) (s := 117) (b := false) rfl (by kernel_rfl) (hv 2 (by kernel_rfl))) (v := .bool false) (w' := W) ?_ (hK _ _ hC (Below.refl _ _) rfl)
                          go_simp
                        · have e1 := slot_of (a := a) (s := 117) (v := .bool false) (hv 2 (by kernel_rfl))
                          have e2 := slot_of (a := a) (s := 122) (v := .bool false) (hv 7 (by kernel_rfl))
                          refine step_run (wanted_none rfl) (v := .bool false) (w' := W) ?_ (hK _ _ hC (Below.refl _ _) rfl)
                          go_simp
                        · have e1 := slot_of (a := a) (s := 123) (v := .bool false) (hv 8 (by kernel_rfl))
                          refine step_run (wanted_none rfl) (v := .bool false) (w' := W) ?_ (hK _ _ hC (Below.refl _ _) rfl)
                          go_simp
                        · have e1 := slot_of (a := a) (s := 15) (v := .int .i64 (j : Int)) (hf 15 (by kernel_rfl))
                          refine step_run (wanted_at (j := 9) (s := 124) (b := false) rfl (by kernel_rfl) (hv 9 (by kernel_rfl))) (v := .int .i64 (j : Int)) (w' := W) ?_ (hK _ _ hC (Below.refl _ _) rfl)
                          go_simp
                        · have e1 := slot_of (a := a) (s := 16) (v := .pointer (some ⟨g16, 0, none⟩)) (hf 16 (by kernel_rfl))
                          refine step_run (wanted_at (j := 9) (s := 124) (b := false) rfl (by kernel_rfl) (hv 9 (by kernel_rfl))) (v := .pointer (some ⟨g16, 0, none⟩)) (w' := W) ?_ (hK _ _ hC (Below.refl _ _) rfl)
                          go_simp
                        · have e1 := slot_of (a := a) (s := 126) (v := .pointer (some ⟨g16, 0, none⟩)) (hv 11 (by kernel_rfl))
                          have cc := ((K16.out.below hC K16.out.lt).cell 0).trans (secB_at b)
                          refine step_run (wanted_at (j := 9) (s := 124) (b := false) rfl (by kernel_rfl) (hv 9 (by kernel_rfl))) (v := .int .u8 ((b.toNat : Nat) : Int)) (w' := W) ?_ (hK _ _ hC (Below.refl _ _) rfl)
                          go_simp
                        · have e1 := slot_of (a := a) (s := 11) (v := .pointer (some ⟨gm, 0, none⟩)) (hf 11 (by kernel_rfl))
                          have e2 := slot_of (a := a) (s := 125) (v := .int .i64 (j : Int)) (hv 10 (by kernel_rfl))
                          refine step_run (wanted_at (j := 9) (s := 124) (b := false) rfl (by kernel_rfl) (hv 9 (by kernel_rfl))) (v := .pointer (some ⟨gm, j * 256, none⟩)) (w' := W) ?_ (hK _ _ hC (Below.refl _ _) rfl)
                          go_simp
                        · have e1 := slot_of (a := a) (s := 128) (v := .pointer (some ⟨gm, j * 256, none⟩)) (hv 13 (by kernel_rfl))
                          have e2 := slot_of (a := a) (s := 127) (v := .int .u8 ((b.toNat : Nat) : Int)) (hv 12 (by kernel_rfl))
                          have hb1 := HB8.out
                          refine step_run (wanted_at (j := 9) (s := 124) (b := false) rfl (by kernel_rfl) (hv 9 (by kernel_rfl))) (v := .pointer (some ⟨gm, j * 256 + b.toNat, none⟩)) (w' := W) ?_ (hK _ _ hC (Below.refl _ _) rfl)
                          go_simp
                        · have e1 := slot_of (a := a) (s := 129) (v := .pointer (some ⟨gm, j * 256 + b.toNat, none⟩)) (hv 14 (by kernel_rfl))
                          have cc := ((KMD.out.below hC KMD.out.lt).cell (j * 256 + b.toNat)).trans HCM.out
                          refine step_run (wanted_at (j := 9) (s := 124) (b := false) rfl (by kernel_rfl) (hv 9 (by kernel_rfl))) (v := .bool true) (w' := W) ?_ (hK _ _ hC (Below.refl _ _) rfl)
                          go_simp
                        · have e1 := slot_of (a := a) (s := 130) (v := .bool true) (hv 15 (by kernel_rfl))
                          refine step_run (wanted_at (j := 9) (s := 124) (b := false) rfl (by kernel_rfl) (hv 9 (by kernel_rfl))) (v := .bool false) (w' := W) ?_ (hK _ _ hC (Below.refl _ _) rfl)
                          go_simp
                        · have e1 := slot_of (a := a) (s := 124) (v := .bool false) (hv 9 (by kernel_rfl))
                          have e2 := slot_of (a := a) (s := 131) (v := .bool false) (hv 16 (by kernel_rfl))
                          refine step_run (wanted_none rfl) (v := .bool false) (w' := W) ?_ (hK _ _ hC (Below.refl _ _) rfl)
                          go_simp
                      · intro f wy hC2 hv2
                        have f0 : f 132 = .bool false := hv2 17 (by decide)
                        have H9 := hidD_ (HD5.out.below hC2)
                        have KM9 := hidD_ (KMD.out.below hC2 KMD.out.lt)
                        have X9 := hidD_ (XD5.out.trans (hC2.mono (by have := XD5.out.size; have := HB.out; omega)))
                        simp only [framed, List.foldl_cons, List.foldl_nil, List.setIfInBounds_toArray, List.set_cons_succ, List.set_cons_zero]
                        rw [f0]
                        clear hv2 hC2 f0
                        rename_i Kd hKd
                        refine hKd _ _ ?_
                        go_wp2
                        go_roundw
                        case rel => exact ⟨j + 1, by omega, by go_num, KM9, H9, X9⟩
                        case measure => simp [intOf]; omega
                    · obtain rfl : j = 6 := by omega
                      have d3 : ¬ ((6 : Nat) : Int) < 6 := by omega
                      have cl := dloose_yes HD.out
                      have co := doff_yes HD.out
                      rw [show (([] : List WrV).length : Int) = 0 from rfl] at cl
                      go_wp2_with (first
                        | (go_at_call 16; ((with_reducible refine cl.mono ?_); clear cl; rintro e w' ⟨rfl, rfl⟩; skip))
                        | (go_at_call 17; ((with_reducible refine co.mono ?_); clear co; rintro e w' ⟨rfl, rfl⟩; skip)))
                      go_ret
                      exact ⟨rfl, by rw [HB.out]; exact HXW.out⟩

set_option maxRecDepth 100000 in
theorem lifted (os : Os) (started : os.Started) (H : Type) (enc : TypeId × Value → H) :
    ReturnsInHanded {} Try.checked os 5 .any (Rows.diskStaysSpec.pre6 enc Try.prog Try.f5 Rows.diskStaysRow.domain false) (Rows.diskStaysSpec.post enc Try.prog Try.f5 false true false false) := by
  refine returnsInHanded_of_change (C := Try.checked) own_ started (by kernel_rfl) Try.func5
    (ChangeSpec.witness6 (enc := enc) (C := Try.checked) false ⟨#[], #[.slice none 0 0, .slice none 0 0, .slice none 0 0], []⟩ 8 (by kernel_rfl) (by kernel_rfl) (by kernel_rfl) (by kernel_rfl)) ?_
  intro W base args ds gs before hval0 hW hcnd _
  have hval : ∀ (j : Nat) t v, Try.f5.params[j]? = some t → args[j]? = some v → Value.okWide Try.prog W .any base t v := hval0
  have hW' := hW
  obtain ⟨p, q, hA0, hV, rfl, hfz, hnd⟩ := hW
  have hA : DataW.TrodAll enc Try.prog W 0 (fun _ => true) true Try.f5.params.toList args.toList ds p := hA0
  rw [Try.params5] at hA hval
  obtain ⟨v0, vs0, d0, ds0, p0, q0, hargs, rfl, rfl, h0, r0⟩ := trodAll_cons hA
  obtain ⟨v1, vs1, d1, ds1, p1, q1, rfl, rfl, rfl, h1, r1⟩ := trodAll_cons r0
  obtain ⟨v2, vs2, d2, ds2, p2, q2, rfl, rfl, rfl, h2, r2⟩ := trodAll_cons r1
  obtain ⟨rfl, rfl, rfl⟩ := trodAll_nil r2
  obtain rfl : args = #[v0, v1, v2] := by cases args; simp_all
  obtain ⟨rfl, rfl⟩ := trodVars_none hV
  obtain ⟨A0, l0, c0, rfl, hr0, hlc0, hcm0⟩ := open_bytes Try.underlying36 Try.underlying5 (by kernel_rfl) (hval 0 36 v0 rfl rfl) h0
  obtain ⟨A1, l1, c1, rfl, hp1, hl1, hm1⟩ := open_actsK Try.underlying41 Try.underlying50 ⟨rfl, rfl⟩ ⟨rfl, rfl⟩ ⟨rfl, rfl⟩ ⟨rfl, rfl⟩ ⟨rfl, rfl⟩ Try.underlying3 (by kernel_rfl) Try.underlying5 (by kernel_rfl) Try.underlying48 (by kernel_rfl) Try.underlying4 (by kernel_rfl) (by kernel_rfl) (hval 1 41 v1 rfl rfl) h1
  obtain ⟨A2, l2, c2, rfl, hp2, hl2, hm2⟩ := open_boolK Try.underlying48 Try.underlying4 (by kernel_rfl) (hval 2 48 v2 rfl rfl) h2
  refine (walk W A0 l0.length c0 l0 rfl hr0 (by unfold maxLen at hcm0; omega) A1 l1.length c1 l1 rfl hp1 (by unfold maxLen at hm1; omega) A2 l2.length c2 l2 rfl hp2).mono fun e W' ⟨he, hg⟩ => ⟨_, he, ?_⟩
  exact law_post laidOut_ (of_decide_eq_true (by kernel_rfl)) rfl rfl Try.underlying4 rfl hW' hg

theorem over : Rows.diskStaysRow.holds Try.pinned (OpenSpec.ofChange Rows.diskStaysSpec) :=
  OpenClaim.holds_of_wide 5 Try.f5 rfl rfl rfl rfl rfl rfl rfl ⟨rfl, rfl, rfl, rfl, rfl⟩ rfl rfl rfl rfl rfl (by kernel_rfl) Try.func5 (by kernel_rfl)
    (of_decide_eq_true (by kernel_rfl)) (by unfold Func.isWrapper; first | (rw [if_pos (by decide +kernel)]; kernel_rfl) | (rw [if_neg (by decide +kernel)]; exact ⟨rfl, rfl⟩))
    (fun os started H enc _ => lifted os started H enc)

theorem proved : Rows.DiskStaysSaid := over
#print axioms proved
end Go.Proofs.Ytibnfldddpmafaa.diskStays
