/-
  Proved: for all numbers and all rows of calls DiskActs answers true: in every row of calls a disk answers what the chapter says, fuses and crashes among them. No condition.
-/
import Derived.Test.YtibnfldddpmafaaDkv
namespace Go.Proofs.Ytibnfldddpmafaa.diskActs
open Go.ChangeShapes Go.WideShapes Go.ChangeAt Go.RowKit
set_option linter.unusedVariables false
set_option linter.unusedSimpArgs false

theorem zeroAct (W : World) : (zeroValue 50).run Try.prog W = .ok (.agg (⟨0, 0, 0, 0, [], none, 0⟩ : ActK).row) W := by kernel_rfl
theorem stay_at {w W : World} {B B0 : Nat} {x : ActK} (h : ActOkK w B0 x) (hB : B0 ≤ B) (hb : Below B w W) (k : Nat) (hk : k < x.st.length) : ∃ blk o, x.at_ = some ⟨blk, o, none⟩ ∧ W.cell? ⟨blk, o + k, none⟩ = some (.bool (x.st.getD k false)) := by
  obtain ⟨b, o, e, hlt, hc⟩ := h.rd (by omega)
  exact ⟨b, o, e, (hb.cell (p := ⟨b, o + k, none⟩) (by show b < B; omega)).trans (hc k hk)⟩
def W17R (p p2 ga : Nat) (x : ActK) (zw : Int) : Nat → Value → Prop
  | 0, v => v = .pointer (some ⟨p, 0, none⟩)
  | 1, v => v = .pointer (some ⟨ga, 1, none⟩)
  | 2, v => v = .int .i64 x.at1
  | 3, v => v = .pointer (some ⟨ga, 2, none⟩)
  | 4, v => v = .int .u8 ((x.by_.toNat : Nat) : Int)
  | 5, v => v = .agg (rowOf (secB x.by_))
  | 6, v => v = .int .i64 zw
  | 7, v => v = .pointer (some ⟨p2, 0, none⟩)
  | 8, v => v = .pointer (some ⟨ga, 1, none⟩)
  | 9, v => v = .int .i64 x.at1
  | 10, v => v = .pointer (some ⟨ga, 2, none⟩)
  | 11, v => v = .int .u8 ((x.by_.toNat : Nat) : Int)
  | 12, v => v = .agg (rowOf (secB x.by_))
  | 13, v => v = .int .i64 zw
  | 14, v => v = .bool false
  | _, _ => True
def dpsA : Nat → List Nat
  | 2 => [1]
  | 4 => [3]
  | 5 => [4]
  | 6 => [0, 2, 5]
  | 9 => [8]
  | 11 => [10]
  | 12 => [11, 6]
  | 13 => [7, 9, 12]
  | 14 => [6, 13]
  | _ => []
def C28R (p p2 N r9 : Nat) (o9 : Bool) (AF : Option Addr) (cF : Nat) (Z : List UInt8) (base : Nat) : Nat → Value → World → Prop
  | 0, v, _ => v = .pointer (some ⟨p, 0, none⟩)
  | 1, v, _ => v = .bool o9
  | 2, v, _ => v = .pointer (some ⟨p2, 0, none⟩)
  | 3, v, _ => v = .pointer (some ⟨p2, 0, none⟩)
  | 4, v, _ => v = .pointer (some ⟨p2, 3, none⟩)
  | 5, v, _ => v = .bool o9
  | 6, v, _ => v = .bool false
  | 7, v, _ => v = .bool false
  | 8, v, _ => v = .pointer (some ⟨p, 0, none⟩)
  | 9, v, _ => v = .int .i64 (r9 : Int)
  | 10, v, _ => v = .pointer (some ⟨p2, 0, none⟩)
  | 11, v, _ => v = .pointer (some ⟨p2, 0, none⟩)
  | 12, v, _ => v = .pointer (some ⟨p2, 1, none⟩)
  | 13, v, _ => v = .slice AF r9 cF
  | 14, v, _ => v = .int .i64 (r9 : Int)
  | 15, v, _ => v = .bool false
  | 16, v, _ => v = .bool false
  | 17, v, _ => v = .bool false
  | 18, v, _ => v = .pointer (some ⟨p, 0, none⟩)
  | 20, v, _ => v = .string (strOf Z)
  | 21, v, _ => v = .pointer (some ⟨p2, 0, none⟩)
  | 22, v, _ => v = .string (strOf Z)
  | 23, v, _ => v = .bool false
  | 24, v, _ => v = .bool false
  | 19, v, W => ∃ A c, v = .slice A (N * 64) c ∧ Own8 W base (.slice A (N * 64) c) Z
  | _, _, _ => True
theorem C28R.stable {p p2 N r9 : Nat} {o9 : Bool} {AF : Option Addr} {cF : Nat} {Z : List UInt8} {base : Nat} {W W' : World} (hT : Below W.heap.size W W') : ∀ (j : Nat) (u : Value), C28R p p2 N r9 o9 AF cF Z base j u W → C28R p p2 N r9 o9 AF cF Z base j u W'
  | 0, _, h => h
  | 1, _, h => h
  | 2, _, h => h
  | 3, _, h => h
  | 4, _, h => h
  | 5, _, h => h
  | 6, _, h => h
  | 7, _, h => h
  | 8, _, h => h
  | 9, _, h => h
  | 10, _, h => h
  | 11, _, h => h
  | 12, _, h => h
  | 13, _, h => h
  | 14, _, h => h
  | 15, _, h => h
  | 16, _, h => h
  | 17, _, h => h
  | 18, _, h => h
  | 19, _, ⟨A, c, e, h⟩ => ⟨A, c, e, h.below hT (Nat.le_refl _)⟩
  | 20, _, h => h
  | 21, _, h => h
  | 22, _, h => h
  | 23, _, h => h
  | 24, _, h => h
  | _ + 25, _, _ => trivial
set_option maxRecDepth 100000 in
set_option maxHeartbeats 32000000 in
theorem walk (w : World) (n : Int) (A0 : Option Addr) (r c0 : Nat) (ls : List ActK) (hn : ls.length = r) (hp : RdK w w.heap.size A0 ls) (hr7 : r ≤ 9223372036854775807) : Calls Try.prog 4 #[.int .i64 n, .slice A0 r c0] w fun e w' => e = .returned (.bool true) ∧ Below w.heap.size w w' := by
  obtain ⟨B, hB⟩ : ∃ B, w.heap.size = B := ⟨_, rfl⟩
  obtain ⟨x0, m, hm⟩ := restK n 6 (by omega) (by omega)
  obtain ⟨N, hN⟩ : ∃ N, 1 + m = N := ⟨_, rfl⟩
  have r1 := hm.u
  have r2 := hm.t
  have r3 := hm.r
  have r4 := hm.wu
  have r5 := hm.wi
  have hmlt := hm.lt
  have r6 : IntKind.i64.wrap (1 + (m : Int)) = (N : Int) := by rw [IntWalk.i64_in _ (by omega)]; omega
  simp only [show ((6 : Nat) : Int) = 6 from rfl] at r2 r3
  have cn := dnew_yes w N (by omega) (by omega)
  rw [hB] at cn
  have cd := disks_any
  have HP := hidD_ hp
  have HN := hidD_ hn
  have HB := hidD_ hB
  have hN1 : 1 ≤ N := by omega
  have hN2 : N ≤ 6 := by omega
  clear hm hp hn hB hN hmlt
  go_enter Try.func4, Try.ntmps4
  go_upto_region 3 with (go_at_call 19; ((with_reducible refine cn.mono ?_); clear cn; rintro e w1 ⟨p, q, rfl, h1, h2⟩; have H1 := hidD_ (show DkJ B w1 p q N ⟨zsecs N, [], 0, false⟩ from h1); have X1 := hidD_ h2; clear h1 h2))
  clear r1 r2 r3 r4 r5 r6
  have hmk := mk64K N (by omega) w1
  have F1 := (rf_new w1 N hN1 (by omega)).lower (b1 := B) (by have := X1.out.size; have := HB.out; omega)
  obtain ⟨q2, hq2⟩ : ∃ g, w1.heap.size = g := ⟨_, rfl⟩
  have HQ2 := hidD_ hq2
  generalize (flatC rowOf (zsecs N)).toArray = cz at hmk F1
  obtain ⟨w2, hw2⟩ : ∃ W, w1.alloc (.cells cz 26) = W := ⟨_, rfl⟩
  rw [hq2, hw2] at hmk F1
  have s2 : w2.heap.size = q2 + 1 := by rw [← hw2, ← hq2]; simp
  obtain ⟨p2, hp2⟩ : ∃ p2, q2 + 1 = p2 := ⟨_, rfl⟩
  rw [hp2] at s2 F1
  obtain ⟨w3, hw3⟩ : ∃ W, w2.alloc (.cells #[.slice (some ⟨q2, 0, none⟩) N N, .slice none 0 0, .int .i64 0, .bool false] 47) = W := ⟨_, rfl⟩
  rw [hw3] at F1
  have b3 : Below w1.heap.size w1 w3 := by rw [← hw3, ← hw2]; exact ((Below.refl _ _).alloc (Nat.le_refl _) _).alloc (by simp) _
  have HF3 := hidD_ F1
  have HD3 := hidD_ (H1.out.below b3)
  have X3 := hidD_ (X1.out.trans (b3.mono (by have := X1.out.size; have := HB.out; omega)))
  clear F1 b3 hp2 hq2
  go_upto_region 6 with (go_at_call 11; ((with_reducible refine (cd _).mono ?_); clear cd; rintro e w4 ⟨rfl, hb⟩; have HD4 := hidD_ (HD3.out.below hb); have HF4 := hidD_ (HF3.out.below hb); have X4 := hidD_ (X3.out.trans (hb.mono (by have := X3.out.size; have := HB.out; omega))); clear hb))
  clear hmk hw2 hw3 s2
  go_wp2
  go_loopw [8] (fun i wr => ∃ (j : Nat) (s : DkS), j ≤ r ∧ j ≤ 50 ∧ i = .int .i64 j ∧ Hid (s.R.length ≤ j) ∧ Hid (DkJ B wr p q N s) ∧ Hid (RfJ B wr p2 q2 N s) ∧ Hid (Below B w wr)) (fun i _ => 50 - (intOf i).toNat)
  case atStart => exact ⟨0, ⟨zsecs N, [], 0, false⟩, Nat.zero_le _, by omega, rfl, hidD_ (Nat.le_refl _), HD4, HF4, X4⟩
  case round =>
    obtain ⟨j, s, hjr, hj50, rfl, HRJ, HD, HF, HXW⟩ := hrel
    by_cases hlt : j < r ∧ j < 50
    · obtain ⟨hltr, hlt2⟩ := hlt
      obtain ⟨b, o, rfl, hbl, hcx⟩ := HP.out (by rw [HN.out]; omega)
      have hjl : j < ls.length := by rw [HN.out]; exact hltr
      obtain ⟨hcx1, hok⟩ := hcx j hjl
      generalize ls[j] = x at hcx1 hok
      have HOK := hidD_ hok
      have HCX := hidD_ (fun i (hi : i < x.row.size) => (HXW.out.cell (p := ⟨b, o + j * 5 + i, none⟩) (by have := HB.out; show b < B; omega)).trans (hcx1 i hi))
      obtain ⟨U, m5, hrk⟩ := restK x.what 5 (by omega) (by omega)
      have r1 := hrk.u
      have r2 := hrk.t
      have r3 := hrk.r
      have r4 := hrk.wu
      have r5 := hrk.wi
      have hm5 := hrk.lt
      simp only [show ((5 : Nat) : Int) = 5 from rfl] at r2 r3
      obtain ⟨ga, hga⟩ : ∃ g, wr.heap.size = g := ⟨_, rfl⟩
      have HGA := hidD_ hga
      obtain ⟨wa, hwa⟩ : ∃ W, wr.alloc (.cells (⟨0, 0, 0, 0, [], none, 0⟩ : ActK).row 50) = W := ⟨_, rfl⟩
      have BA := hidD_ (show Below wr.heap.size wr wa by rw [← hwa]; exact (Below.refl _ _).alloc (Nat.le_refl _) _)
      have KA := hidD_ (show Bk wa ga 50 (⟨0, 0, 0, 0, [], none, 0⟩ : ActK).row by rw [← hwa, ← hga]; exact Bk.new wr _ _)
      have za := zeroAct wr
      have t0 : (0 : Int) ≤ (j : Int) := by omega
      have tn : (j : Int) < (r : Int) := by omega
      have t50 : (j : Int) < 50 := by omega
      have d1 : decide ((j : Int) < (r : Int)) = true := decide_eq_true tn
      have d2 : decide ((j : Int) < 50) = true := decide_eq_true t50
      clear hrk hcx hcx1 hok
      go_upto_region 10 with (first
        | (refine wpList_load_sub rfl 50 (.tmp 46) rfl b (o + j * 5) rfl x.row HCX.out _ Try.underlying50 rfl (iActK x) ?_)
        | (refine wpList_put_row rfl 50 (.tmp 9) (.tmp 47) rfl ga x.row rfl rfl 50 (⟨0, 0, 0, 0, [], none, 0⟩ : ActK).row KA.out (iActK x) rfl x.row_one ?_; intro wb kb gb sb; have KAA := hidD_ kb; have BB := hidD_ (BA.out.grown gb BA.out.size (fun k e => by injection e with e; have := HGA.out; omega)); clear kb gb sb))
      clear hwa za d1 d2
      have HDA := hidD_ (HD.out.below BB.out)
      have HFA := hidD_ (HF.out.below BB.out)
      have XA := hidD_ (HXW.out.trans (BB.out.mono (by have := HXW.out.size; have := HB.out; omega)))
      have ca := KAA.out.cell 0
      have cb := KAA.out.cell 1
      have cn3 := KAA.out.cell 3
      have cs4 := KAA.out.cell 4
      simp only [ActK.row, List.getElem?_toArray, List.getElem?_cons_zero, List.getElem?_cons_succ] at ca cb cn3 cs4
      have HBA := hidD_ (show B ≤ wb.heap.size by have := XA.out.size; have := HB.out; omega)
      have hcases : m5 = 0 ∨ m5 = 1 ∨ m5 = 2 ∨ m5 = 3 ∨ m5 = 4 := by omega
      clear hm5
      rcases hcases with rfl | rfl | rfl | rfl | rfl
      · have cr := dread_any HDA.out x.at1
        have h64 := readD_len HDA.out x.at1
        obtain ⟨er, her⟩ : ∃ z, hasE N s.off x.at1 = z := ⟨_, rfl⟩
        rw [her] at cr
        have HE := hidD_ her
        obtain ⟨D, hD⟩ : ∃ D, readD N s.F s.R s.off x.at1 = D := ⟨_, rfl⟩
        rw [hD] at cr h64
        have HD0 := hidD_ hD
        have H64 := hidD_ h64
        have zs := zeroSec
        have z64 := zero64K
        have hq := fun W => eqSec D D h64 h64 W
        have hqq : (D == D) = true := beq_self_eq_true _
        clear her hD h64
        go_upto_region 13 with (first
          | (go_at_call 10; ((with_reducible refine cr.mono ?_); clear cr; rintro e w5 ⟨rfl, hb⟩; have HD5 := hidD_ (HDA.out.below hb); have HF5 := hidD_ (HFA.out.below hb); have KA5 := hidD_ (KAA.out.below hb KAA.out.lt); have X5 := hidD_ (XA.out.trans (hb.mono HBA.out)); clear hb; (obtain ⟨g10, hg10⟩ : ∃ g, w5.heap.size = g := ⟨_, rfl⟩); (obtain ⟨w6, hw6⟩ : ∃ W, w5.alloc (.cells (rowOf zsec) 27) = W := ⟨_, rfl⟩); have B6 := hidD_ (show Below w5.heap.size w5 w6 by rw [← hw6]; exact (Below.refl _ _).alloc (Nat.le_refl _) _); have K6 := hidD_ (show Bk w6 g10 27 (rowOf zsec) by rw [← hw6, ← hg10]; exact Bk.new w5 _ _); have HG10 := hidD_ hg10))
          | (refine wpList_put_row rfl 27 (.tmp 10) (.tmp 60) rfl g10 (rowOf D) rfl rfl 27 (rowOf zsec) K6.out (iSec _ H64.out) (by rw [rowOf_size, rowOf_size, H64.out, zsec_len]) (bytes_one _) ?_; intro w7 k7 g7 s7; have K7 := hidD_ k7; have B7 := hidD_ (B6.out.grown g7 B6.out.size (fun k e => by injection e with e; have := HG10.out; omega)); clear k7 g7 s7))
        have HD7 := hidD_ (HD5.out.below B7.out)
        have HF7 := hidD_ (HF5.out.below B7.out)
        have KA7 := hidD_ (KA5.out.below B7.out KA5.out.lt)
        have X7 := hidD_ (X5.out.trans (B7.out.mono (by have := X5.out.size; have := HB.out; omega)))
        have cb7 := KA7.out.cell 1
        simp only [ActK.row, List.getElem?_toArray, List.getElem?_cons_zero, List.getElem?_cons_succ] at cb7
        have cr2 := rread_disk HF7.out (by have := HRJ.out; omega) x.at1
        rw [HE.out, HD0.out] at cr2
        clear hw6 hg10 ca cb cn3 cs4
        go_upto_region 14 with (first
          | (go_at_call 20; ((with_reducible refine cr2.mono ?_); clear cr2; rintro e w8 ⟨rfl, hb⟩; have HD8 := hidD_ (HD7.out.below hb); have HF8 := hidD_ (HF7.out.below hb); have K8 := hidD_ (K7.out.below hb K7.out.lt); have X8 := hidD_ (X7.out.trans (hb.mono (by have := X7.out.size; have := HB.out; omega))); clear hb; (obtain ⟨g12, hg12⟩ : ∃ g, w8.heap.size = g := ⟨_, rfl⟩); (obtain ⟨wc, hwc⟩ : ∃ W, w8.alloc (.cells (rowOf zsec) 26) = W := ⟨_, rfl⟩); have BC := hidD_ (show Below w8.heap.size w8 wc by rw [← hwc]; exact (Below.refl _ _).alloc (Nat.le_refl _) _); have KC := hidD_ (show Bk wc g12 26 (rowOf zsec) by rw [← hwc, ← hg12]; exact Bk.new w8 _ _); have HG12 := hidD_ hg12))
          | (refine wpList_put_row rfl 26 (.tmp 12) (.tmp 67) rfl g12 (rowOf D) rfl rfl 26 (rowOf zsec) KC.out (i64K _ H64.out) (by rw [rowOf_size, rowOf_size, H64.out, zsec_len]) (bytes_one _) ?_; intro w9 k9 g9 s9; have K9 := hidD_ k9; have B9 := hidD_ (BC.out.grown g9 BC.out.size (fun k e => by injection e with e; have := HG12.out; omega)); clear k9 g9 s9))
        have HD9 := hidD_ (HD8.out.below B9.out)
        have HF9 := hidD_ (HF8.out.below B9.out)
        have K10 := hidD_ (K8.out.below B9.out K8.out.lt)
        have X9 := hidD_ (X8.out.trans (B9.out.mono (by have := X8.out.size; have := HB.out; omega)))
        have HR9 := hidD_ (show s.R.length ≤ j + 1 by have := HRJ.out; omega)
        obtain ⟨s9, hs9⟩ : ∃ s9, s = s9 := ⟨_, rfl⟩
        rw [hs9] at HD9 HF9 HR9
        clear hwc hg12 cb7
        go_upto_region 28 with (first
          | (refine wpList_load_sub rfl 27 (.tmp 10) rfl g10 0 rfl (rowOf D) (fun i hi => by rw [Nat.zero_add]; exact K10.out.cell i) _ Try.underlying27 rfl (iSec _ H64.out) ?_)
          | (refine wpList_load_sub rfl 26 (.tmp 12) rfl g12 0 rfl (rowOf D) (fun i hi => by rw [Nat.zero_add]; exact K9.out.cell i) _ Try.underlying26 rfl (i64K _ H64.out) ?_))
        clear hq hqq
        obtain ⟨o9, ho9⟩ : ∃ o, s9.off = o := ⟨_, rfl⟩
        have HO9 := hidD_ ho9
        obtain ⟨r9, hr9⟩ : ∃ r, s9.R.length = r := ⟨_, rfl⟩
        have HL9 := hidD_ hr9
        obtain ⟨Z, hZ⟩ : ∃ Z, (appl s9.F s9.R).flatten = Z := ⟨_, rfl⟩
        have HZ9 := hidD_ hZ
        have HZL := hidD_ (show Z.length = N * 64 by
          obtain ⟨v, hv⟩ := HD9.out
          rw [← hZ, flat_len hv.app64, appl_len, hv.hF])
        obtain ⟨vF, hvF⟩ := HF9.out
        obtain ⟨AF, cF, hfo⟩ := hvF.form
        rw [hr9] at hfo
        subst hfo
        rw [ho9] at hvF
        have HFV := hidD_ hvF
        clear hvF ho9 hr9 hZ
        refine region_byF [123, 124, 125, 126, 127, 128, 129, 130, 131, 132, 133, 134, 135, 136, 137, 138, 139, 140, 141, 142, 143, 144, 145, 146, 147] (fun W => Below w9.heap.size w9 W) (fun W W' => Below W.heap.size W W') (C28R p p2 N r9 o9 AF cF Z w9.heap.size) (by kernel_rfl) (by kernel_rfl) (by kernel_rfl) (by kernel_rfl) (fun j v w w' hT hr => ?_) (fun j v w hlt hj _ => ?_) ((Below.refl _ _).drew) ?_ ?_
        · exact C28R.stable hT j v hr
        · rcases j with _ | _ | _ | _ | _ | _ | _ | _ | _ | _ | _ | _ | _ | _ | _ | _ | _ | _ | _ | _ | _ | _ | _ | _ | _ | j
          all_goals first
            | (exfalso; simp [dstOf] at hj; done)
            | trivial
        · refine ⟨fun a W hC hd hf hv K hK => ?_, fun a W hC hd hf hv K hK => ?_, fun a W hC hd hf hv K hK => ?_, fun a W hC hd hf hv K hK => ?_, fun a W hC hd hf hv K hK => ?_, fun a W hC hd hf hv K hK => ?_, fun a W hC hd hf hv K hK => ?_, fun a W hC hd hf hv K hK => ?_, fun a W hC hd hf hv K hK => ?_, fun a W hC hd hf hv K hK => ?_, fun a W hC hd hf hv K hK => ?_, fun a W hC hd hf hv K hK => ?_, fun a W hC hd hf hv K hK => ?_, fun a W hC hd hf hv K hK => ?_, fun a W hC hd hf hv K hK => ?_, fun a W hC hd hf hv K hK => ?_, fun a W hC hd hf hv K hK => ?_, fun a W hC hd hf hv K hK => ?_, fun a W hC hd hf hv K hK => ?_, fun a W hC hd hf hv K hK => ?_, fun a W hC hd hf hv K hK => ?_, fun a W hC hd hf hv K hK => ?_, fun a W hC hd hf hv K hK => ?_, fun a W hC hd hf hv K hK => ?_, fun a W hC hd hf hv K hK => ?_, trivial⟩
          · have e1 := slot_of (a := a) (s := 5) (v := .pointer (some ⟨p, 0, none⟩)) (hf 5 (by kernel_rfl))
            refine step_run (wanted_none rfl) (v := .pointer (some ⟨p, 0, none⟩)) (w' := W) ?_ (hK _ _ hC (Below.refl _ _) rfl)
            go_simp
          · have e1 := slot_of (a := a) (s := 123) (v := .pointer (some ⟨p, 0, none⟩)) (hv 0 (by kernel_rfl))
            refine step_callx 17 #[.pointer (some ⟨p, 0, none⟩)] (wanted_none rfl) (w' := W) ?_ ((doff_yes (HD9.out.below hC)).mono fun e W2 hh => ?_)
            · go_simp
            · obtain ⟨rfl, rfl⟩ := hh
              exact ⟨_, rfl, hK _ _ hC (Below.refl _ _) (by rw [HO9.out]; rfl)⟩
          · have e1 := slot_of (a := a) (s := 7) (v := .pointer (some ⟨p2, 0, none⟩)) (hf 7 (by kernel_rfl))
            refine step_run (wanted_none rfl) (v := .pointer (some ⟨p2, 0, none⟩)) (w' := W) ?_ (hK _ _ hC (Below.refl _ _) rfl)
            go_simp
          · have e1 := slot_of (a := a) (s := 125) (v := .pointer (some ⟨p2, 0, none⟩)) (hv 2 (by kernel_rfl))
            refine step_run (wanted_none rfl) (v := .pointer (some ⟨p2, 0, none⟩)) (w' := W) ?_ (hK _ _ hC (Below.refl _ _) rfl)
            go_simp
          · have e1 := slot_of (a := a) (s := 126) (v := .pointer (some ⟨p2, 0, none⟩)) (hv 3 (by kernel_rfl))
            refine step_run (wanted_none rfl) (v := .pointer (some ⟨p2, 3, none⟩)) (w' := W) ?_ (hK _ _ hC (Below.refl _ _) rfl)
            go_simp
          · have e1 := slot_of (a := a) (s := 127) (v := .pointer (some ⟨p2, 3, none⟩)) (hv 4 (by kernel_rfl))
            have cc := (HFV.out.below hC).cells
            obtain ⟨_, cc1, _, cc3⟩ := cc
            refine step_run (wanted_none rfl) (v := .bool o9) (w' := W) ?_ (hK _ _ hC (Below.refl _ _) rfl)
            go_simp
          · have e1 := slot_of (a := a) (s := 124) (v := .bool o9) (hv 1 (by kernel_rfl))
            have e2 := slot_of (a := a) (s := 128) (v := .bool o9) (hv 5 (by kernel_rfl))
            refine step_run (wanted_none rfl) (v := .bool false) (w' := W) ?_ (hK _ _ hC (Below.refl _ _) rfl)
            go_simp
          · have e1 := slot_of (a := a) (s := 129) (v := .bool false) (hv 6 (by kernel_rfl))
            refine step_run (wanted_none rfl) (v := .bool false) (w' := W) ?_ (hK _ _ hC (Below.refl _ _) rfl)
            go_simp
          · have e1 := slot_of (a := a) (s := 5) (v := .pointer (some ⟨p, 0, none⟩)) (hf 5 (by kernel_rfl))
            refine step_run (wanted_at (j := 7) (s := 130) (b := false) rfl (by kernel_rfl) (hv 7 (by kernel_rfl))) (v := .pointer (some ⟨p, 0, none⟩)) (w' := W) ?_ (hK _ _ hC (Below.refl _ _) rfl)
            go_simp
          · have e1 := slot_of (a := a) (s := 131) (v := .pointer (some ⟨p, 0, none⟩)) (hv 8 (by kernel_rfl))
            refine step_callx 16 #[.pointer (some ⟨p, 0, none⟩)] (wanted_at (j := 7) (s := 130) (b := false) rfl (by kernel_rfl) (hv 7 (by kernel_rfl))) (w' := W) ?_ ((dloose_yes (HD9.out.below hC)).mono fun e W2 hh => ?_)
            · go_simp
            · obtain ⟨rfl, rfl⟩ := hh
              exact ⟨_, rfl, hK _ _ hC (Below.refl _ _) (by rw [HL9.out]; rfl)⟩
          · have e1 := slot_of (a := a) (s := 7) (v := .pointer (some ⟨p2, 0, none⟩)) (hf 7 (by kernel_rfl))
            refine step_run (wanted_at (j := 7) (s := 130) (b := false) rfl (by kernel_rfl) (hv 7 (by kernel_rfl))) (v := .pointer (some ⟨p2, 0, none⟩)) (w' := W) ?_ (hK _ _ hC (Below.refl _ _) rfl)
            go_simp
          · have e1 := slot_of (a := a) (s := 133) (v := .pointer (some ⟨p2, 0, none⟩)) (hv 10 (by kernel_rfl))
            refine step_run (wanted_at (j := 7) (s := 130) (b := false) rfl (by kernel_rfl) (hv 7 (by kernel_rfl))) (v := .pointer (some ⟨p2, 0, none⟩)) (w' := W) ?_ (hK _ _ hC (Below.refl _ _) rfl)
            go_simp
          · have e1 := slot_of (a := a) (s := 134) (v := .pointer (some ⟨p2, 0, none⟩)) (hv 11 (by kernel_rfl))
            refine step_run (wanted_at (j := 7) (s := 130) (b := false) rfl (by kernel_rfl) (hv 7 (by kernel_rfl))) (v := .pointer (some ⟨p2, 1, none⟩)) (w' := W) ?_ (hK _ _ hC (Below.refl _ _) rfl)
            go_simp
          · have e1 := slot_of (a := a) (s := 135) (v := .pointer (some ⟨p2, 1, none⟩)) (hv 12 (by kernel_rfl))
            have cc := (HFV.out.below hC).cells
            obtain ⟨_, cc1, _, cc3⟩ := cc
            refine step_run (wanted_at (j := 7) (s := 130) (b := false) rfl (by kernel_rfl) (hv 7 (by kernel_rfl))) (v := .slice AF r9 cF) (w' := W) ?_ (hK _ _ hC (Below.refl _ _) rfl)
            go_simp
          · have e1 := slot_of (a := a) (s := 136) (v := .slice AF r9 cF) (hv 13 (by kernel_rfl))
            refine step_run (wanted_at (j := 7) (s := 130) (b := false) rfl (by kernel_rfl) (hv 7 (by kernel_rfl))) (v := .int .i64 (r9 : Int)) (w' := W) ?_ (hK _ _ hC (Below.refl _ _) rfl)
            go_simp
          · have e1 := slot_of (a := a) (s := 132) (v := .int .i64 (r9 : Int)) (hv 9 (by kernel_rfl))
            have e2 := slot_of (a := a) (s := 137) (v := .int .i64 (r9 : Int)) (hv 14 (by kernel_rfl))
            refine step_run (wanted_at (j := 7) (s := 130) (b := false) rfl (by kernel_rfl) (hv 7 (by kernel_rfl))) (v := .bool false) (w' := W) ?_ (hK _ _ hC (Below.refl _ _) rfl)
            go_simp
          · have e1 := slot_of (a := a) (s := 130) (v := .bool false) (hv 7 (by kernel_rfl))
            have e2 := slot_of (a := a) (s := 138) (v := .bool false) (hv 15 (by kernel_rfl))
            refine step_run (wanted_none rfl) (v := .bool false) (w' := W) ?_ (hK _ _ hC (Below.refl _ _) rfl)
            go_simp
          · have e1 := slot_of (a := a) (s := 139) (v := .bool false) (hv 16 (by kernel_rfl))
            refine step_run (wanted_none rfl) (v := .bool false) (w' := W) ?_ (hK _ _ hC (Below.refl _ _) rfl)
            go_simp
          · have e1 := slot_of (a := a) (s := 5) (v := .pointer (some ⟨p, 0, none⟩)) (hf 5 (by kernel_rfl))
            refine step_run (wanted_at (j := 17) (s := 140) (b := false) rfl (by kernel_rfl) (hv 17 (by kernel_rfl))) (v := .pointer (some ⟨p, 0, none⟩)) (w' := W) ?_ (hK _ _ hC (Below.refl _ _) rfl)
            go_simp
          · have e1 := slot_of (a := a) (s := 141) (v := .pointer (some ⟨p, 0, none⟩)) (hv 18 (by kernel_rfl))
            refine step_callx 18 #[.pointer (some ⟨p, 0, none⟩)] (wanted_at (j := 17) (s := 140) (b := false) rfl (by kernel_rfl) (hv 17 (by kernel_rfl))) (w' := W) ?_ ((dimage_any (HD9.out.below hC)).mono fun e W2 hh => ?_)
            · go_simp
            · obtain ⟨A, c, rfl, ho, hb⟩ := hh
              exact ⟨_, rfl, hK _ _ (hC.trans (hb.mono hC.size)) hb ⟨A, c, rfl, by rw [HZ9.out] at ho; exact ho.lower hC.size⟩⟩
          · obtain ⟨A, c, e0, ho⟩ : ∃ A c, a.tmps.getD 142 undef = .slice A (N * 64) c ∧ Own8 W w9.heap.size (.slice A (N * 64) c) Z := hv 19 (by kernel_rfl)
            have e1 := slot_of e0
            have hcv : (convert 36 9 (.slice A (N * 64) c)).run Try.prog W = .ok (.string (strOf Z)) W := conv_strn ho.rd.1 (N * 64) c HZL.out
            refine step_run (wanted_at (j := 17) (s := 140) (b := false) rfl (by kernel_rfl) (hv 17 (by kernel_rfl))) (v := .string (strOf Z)) (w' := W) ?_ (hK _ _ hC (Below.refl _ _) rfl)
            go_simp
          · have e1 := slot_of (a := a) (s := 7) (v := .pointer (some ⟨p2, 0, none⟩)) (hf 7 (by kernel_rfl))
            refine step_run (wanted_at (j := 17) (s := 140) (b := false) rfl (by kernel_rfl) (hv 17 (by kernel_rfl))) (v := .pointer (some ⟨p2, 0, none⟩)) (w' := W) ?_ (hK _ _ hC (Below.refl _ _) rfl)
            go_simp
          · have e1 := slot_of (a := a) (s := 144) (v := .pointer (some ⟨p2, 0, none⟩)) (hv 21 (by kernel_rfl))
            refine step_callx 24 #[.pointer (some ⟨p2, 0, none⟩)] (wanted_at (j := 17) (s := 140) (b := false) rfl (by kernel_rfl) (hv 17 (by kernel_rfl))) (w' := W) ?_ ((rimage_any (HF9.out.below hC) (by have := HR9.out; omega)).mono fun e W2 hh => ?_)
            · go_simp
            · obtain ⟨rfl, hb⟩ := hh
              exact ⟨_, rfl, hK _ _ (hC.trans (hb.mono hC.size)) hb (by rw [HZ9.out]; rfl)⟩
          · have e1 := slot_of (a := a) (s := 143) (v := .string (strOf Z)) (hv 20 (by kernel_rfl))
            have e2 := slot_of (a := a) (s := 145) (v := .string (strOf Z)) (hv 22 (by kernel_rfl))
            refine step_run (wanted_at (j := 17) (s := 140) (b := false) rfl (by kernel_rfl) (hv 17 (by kernel_rfl))) (v := .bool false) (w' := W) ?_ (hK _ _ hC (Below.refl _ _) rfl)
            go_simp
          · have e1 := slot_of (a := a) (s := 140) (v := .bool false) (hv 17 (by kernel_rfl))
            have e2 := slot_of (a := a) (s := 146) (v := .bool false) (hv 23 (by kernel_rfl))
            refine step_run (wanted_none rfl) (v := .bool false) (w' := W) ?_ (hK _ _ hC (Below.refl _ _) rfl)
            go_simp
        · intro f wy hC2 hv2
          have f0 : f 147 = .bool false := hv2 24 (by decide)
          have HD8 := hidD_ (HD9.out.below hC2)
          have HF8 := hidD_ (HF9.out.below hC2)
          have X8 := hidD_ (X9.out.trans (hC2.mono (by have := X9.out.size; have := HB.out; omega)))
          simp only [framed, List.foldl_cons, List.foldl_nil, List.setIfInBounds_toArray, List.set_cons_succ, List.set_cons_zero]
          rw [f0]
          clear hv2 hC2 f0
          rename_i Kd2 hKd2
          refine hKd2 _ _ ?_
          go_wp2
          go_roundw
          case rel => exact ⟨j + 1, s9, by omega, by omega, by go_num, HR9, HD8, HF8, X8⟩
          case measure => simp [intOf]; omega
      · obtain ⟨zw, hzw⟩ : ∃ z, wrZ N s x.at1 = z := ⟨_, rfl⟩
        have HZW := hidD_ hzw
        clear hzw
        go_upto_region 17 with fail
        clear ca cb cn3 cs4 r1 r2 r3 r4 r5
        refine region_byJF [79, 80, 81, 82, 83, 84, 85, 86, 87, 88, 89, 90, 91, 92, 93] (fun _ => True) (fun _ _ => True) (fun jj v _ => W17R p p2 ga x zw jj v) (fun D2 a W => TwJ dpsA 6 13 (fun W => DkJ B W p q N s ∧ RfJ B W p2 q2 N s) (fun W => DkJ B W p q N (wrS N s x.at1 (secB x.by_)) ∧ RfJ B W p2 q2 N s) (fun W => DkJ B W p q N (wrS N s x.at1 (secB x.by_)) ∧ RfJ B W p2 q2 N (wrS N s x.at1 (secB x.by_))) (fun W => Bk W ga 50 x.row ∧ Below B w W) D2 W) (by kernel_rfl) (by kernel_rfl) (by kernel_rfl) (by kernel_rfl) (fun j v w w' hT hr => ?_) (fun j v w hlt hj _ => ?_) trivial ?_ (TwJ.start ⟨HDA.out.below (Below.refl _ _).drew, HFA.out.below (Below.refl _ _).drew⟩ ⟨KAA.out.drew, XA.out.trans ((Below.refl _ _).drew)⟩) ?_
        · exact hr
        · rcases j with _ | _ | _ | _ | _ | _ | _ | _ | _ | _ | _ | _ | _ | _ | _ | j
          all_goals first
            | (exfalso; simp [dstOf] at hj; done)
            | trivial
        · refine ⟨fun D2 a W hC hd hsz hf hv hJ hL hW K hK => ?_, fun D2 a W hC hd hsz hf hv hJ hL hW K hK => ?_, fun D2 a W hC hd hsz hf hv hJ hL hW K hK => ?_, fun D2 a W hC hd hsz hf hv hJ hL hW K hK => ?_, fun D2 a W hC hd hsz hf hv hJ hL hW K hK => ?_, fun D2 a W hC hd hsz hf hv hJ hL hW K hK => ?_, fun D2 a W hC hd hsz hf hv hJ hL hW K hK => ?_, fun D2 a W hC hd hsz hf hv hJ hL hW K hK => ?_, fun D2 a W hC hd hsz hf hv hJ hL hW K hK => ?_, fun D2 a W hC hd hsz hf hv hJ hL hW K hK => ?_, fun D2 a W hC hd hsz hf hv hJ hL hW K hK => ?_, fun D2 a W hC hd hsz hf hv hJ hL hW K hK => ?_, fun D2 a W hC hd hsz hf hv hJ hL hW K hK => ?_, fun D2 a W hC hd hsz hf hv hJ hL hW K hK => ?_, fun D2 a W hC hd hsz hf hv hJ hL hW K hK => ?_, trivial⟩
          · clear hsz
            have e1 := slot_of (a := a) (s := 5) (v := .pointer (some ⟨p, 0, none⟩)) (hf 5 (by kernel_rfl))
            refine step_run (wanted_none rfl) (v := .pointer (some ⟨p, 0, none⟩)) (w' := W) ?_ (hK _ _ trivial trivial rfl (hJ.same 0 (by decide) ls0))
            go_simp
          · clear hsz
            have e1 := slot_of (a := a) (s := 9) (v := .pointer (some ⟨ga, 0, none⟩)) (hf 9 (by kernel_rfl))
            refine step_run (wanted_none rfl) (v := .pointer (some ⟨ga, 1, none⟩)) (w' := W) ?_ (hK _ _ trivial trivial rfl (hJ.same 1 (by decide) ls0))
            go_simp
          · clear hsz
            have e1 := slot_of (a := a) (s := 80) (v := .pointer (some ⟨ga, 1, none⟩)) (hv 1 (by kernel_rfl))
            have cc := hJ.al.1.cell 1
            simp only [ActK.row, List.getElem?_toArray, List.getElem?_cons_zero, List.getElem?_cons_succ] at cc
            refine step_run (wanted_none rfl) (v := .int .i64 x.at1) (w' := W) ?_ (hK _ _ trivial trivial rfl (hJ.same 2 (by decide) (ls1 (hW 1 (by kernel_rfl)))))
            go_simp
          · clear hsz
            have e1 := slot_of (a := a) (s := 9) (v := .pointer (some ⟨ga, 0, none⟩)) (hf 9 (by kernel_rfl))
            refine step_run (wanted_none rfl) (v := .pointer (some ⟨ga, 2, none⟩)) (w' := W) ?_ (hK _ _ trivial trivial rfl (hJ.same 3 (by decide) ls0))
            go_simp
          · clear hsz
            have e1 := slot_of (a := a) (s := 82) (v := .pointer (some ⟨ga, 2, none⟩)) (hv 3 (by kernel_rfl))
            have cc := hJ.al.1.cell 2
            simp only [ActK.row, List.getElem?_toArray, List.getElem?_cons_zero, List.getElem?_cons_succ] at cc
            refine step_run (wanted_none rfl) (v := .int .u8 ((x.by_.toNat : Nat) : Int)) (w' := W) ?_ (hK _ _ trivial trivial rfl (hJ.same 4 (by decide) (ls1 (hW 3 (by kernel_rfl)))))
            go_simp
          · clear hsz
            have e1 := slot_of (a := a) (s := 83) (v := .int .u8 ((x.by_.toNat : Nat) : Int)) (hv 4 (by kernel_rfl))
            refine step_callx 13 #[.int .u8 ((x.by_.toNat : Nat) : Int)] (wanted_none rfl) (w' := W) ?_ ((sector_any W x.by_ _ rfl).mono fun e W2 hh => ?_)
            · go_simp
            · obtain ⟨rfl, hb⟩ := hh
              have hs := hJ.al.2.size
              exact ⟨_, rfl, hK _ _ trivial trivial rfl (hJ.turn 5 (by decide) (ls1 (hW 4 (by kernel_rfl))) (fun h => ⟨h.1.below hb h.1.lt, h.2.trans (hb.mono (by have := HB.out; omega))⟩) (fun h => ⟨h.1.below hb, h.2.below hb⟩) (fun h => ⟨h.1.below hb, h.2.below hb⟩) (fun h => ⟨h.1.below hb, h.2.below hb⟩))⟩
          · clear hsz
            have e1 := slot_of (a := a) (s := 79) (v := .pointer (some ⟨p, 0, none⟩)) (hv 0 (by kernel_rfl))
            have e2 := slot_of (a := a) (s := 81) (v := .int .i64 x.at1) (hv 2 (by kernel_rfl))
            have e3 := slot_of (a := a) (s := 84) (v := .agg (rowOf (secB x.by_))) (hv 5 (by kernel_rfl))
            have hO := hJ.t hL
            have hs := hJ.al.2.size
            have h4 := way_down hJ.cl [12, 13] 6 13 rfl rfl hL
            have cw := dk_write hO.1 (by have := HB.out; omega) (by have := HRJ.out; omega) x.at1 (secB x.by_) (secB_len _)
            rw [HZW.out] at cw
            refine step_callx 12 #[.pointer (some ⟨p, 0, none⟩), .int .i64 x.at1, .agg (rowOf (secB x.by_))] (wanted_none rfl) (w' := W) ?_ (cw.mono fun e W2 hh => ?_)
            · go_simp
            · obtain ⟨rfl, k1, k2, k3⟩ := hh
              exact ⟨_, rfl, hK _ _ trivial trivial rfl (hJ.first hL (by decide) h4 (ls3 (hW 0 (by kernel_rfl)) (hW 2 (by kernel_rfl)) (hW 5 (by kernel_rfl))) ⟨hJ.al.1.unt k3 (by decide), hJ.al.2.trans k2⟩ ⟨k1, hO.2.unt k3⟩)⟩
          · clear hsz
            have e1 := slot_of (a := a) (s := 7) (v := .pointer (some ⟨p2, 0, none⟩)) (hf 7 (by kernel_rfl))
            refine step_run (wanted_none rfl) (v := .pointer (some ⟨p2, 0, none⟩)) (w' := W) ?_ (hK _ _ trivial trivial rfl (hJ.same 7 (by decide) ls0))
            go_simp
          · clear hsz
            have e1 := slot_of (a := a) (s := 9) (v := .pointer (some ⟨ga, 0, none⟩)) (hf 9 (by kernel_rfl))
            refine step_run (wanted_none rfl) (v := .pointer (some ⟨ga, 1, none⟩)) (w' := W) ?_ (hK _ _ trivial trivial rfl (hJ.same 8 (by decide) ls0))
            go_simp
          · clear hsz
            have e1 := slot_of (a := a) (s := 87) (v := .pointer (some ⟨ga, 1, none⟩)) (hv 8 (by kernel_rfl))
            have cc := hJ.al.1.cell 1
            simp only [ActK.row, List.getElem?_toArray, List.getElem?_cons_zero, List.getElem?_cons_succ] at cc
            refine step_run (wanted_none rfl) (v := .int .i64 x.at1) (w' := W) ?_ (hK _ _ trivial trivial rfl (hJ.same 9 (by decide) (ls1 (hW 8 (by kernel_rfl)))))
            go_simp
          · clear hsz
            have e1 := slot_of (a := a) (s := 9) (v := .pointer (some ⟨ga, 0, none⟩)) (hf 9 (by kernel_rfl))
            refine step_run (wanted_none rfl) (v := .pointer (some ⟨ga, 2, none⟩)) (w' := W) ?_ (hK _ _ trivial trivial rfl (hJ.same 10 (by decide) ls0))
            go_simp
          · clear hsz
            have e1 := slot_of (a := a) (s := 89) (v := .pointer (some ⟨ga, 2, none⟩)) (hv 10 (by kernel_rfl))
            have cc := hJ.al.1.cell 2
            simp only [ActK.row, List.getElem?_toArray, List.getElem?_cons_zero, List.getElem?_cons_succ] at cc
            refine step_run (wanted_none rfl) (v := .int .u8 ((x.by_.toNat : Nat) : Int)) (w' := W) ?_ (hK _ _ trivial trivial rfl (hJ.same 11 (by decide) (ls1 (hW 10 (by kernel_rfl)))))
            go_simp
          · clear hsz
            have e1 := slot_of (a := a) (s := 90) (v := .int .u8 ((x.by_.toNat : Nat) : Int)) (hv 11 (by kernel_rfl))
            refine step_callx 13 #[.int .u8 ((x.by_.toNat : Nat) : Int)] (wanted_none rfl) (w' := W) ?_ ((sector_any W x.by_ _ rfl).mono fun e W2 hh => ?_)
            · go_simp
            · obtain ⟨rfl, hb⟩ := hh
              have hs := hJ.al.2.size
              exact ⟨_, rfl, hK _ _ trivial trivial rfl (hJ.turn 12 (by decide) (ls2 (hW 11 (by kernel_rfl)) (hW 6 (by kernel_rfl))) (fun h => ⟨h.1.below hb h.1.lt, h.2.trans (hb.mono (by have := HB.out; omega))⟩) (fun h => ⟨h.1.below hb, h.2.below hb⟩) (fun h => ⟨h.1.below hb, h.2.below hb⟩) (fun h => ⟨h.1.below hb, h.2.below hb⟩))⟩
          · clear hsz
            have e1 := slot_of (a := a) (s := 86) (v := .pointer (some ⟨p2, 0, none⟩)) (hv 7 (by kernel_rfl))
            have e2 := slot_of (a := a) (s := 88) (v := .int .i64 x.at1) (hv 9 (by kernel_rfl))
            have e3 := slot_of (a := a) (s := 91) (v := .agg (rowOf (secB x.by_))) (hv 12 (by kernel_rfl))
            have h2 : D2 6 = true := hJ.cl 12 (hW 12 (by kernel_rfl)) 6 (by simp [dpsA])
            have hO := hJ.m h2 hL
            have hs := hJ.al.2.size
            have cw := rf_write hO.2 (by have := HB.out; omega) (by have := HRJ.out; omega) x.at1 (secB x.by_) (secB_len _)
            rw [HZW.out] at cw
            refine step_callx 21 #[.pointer (some ⟨p2, 0, none⟩), .int .i64 x.at1, .agg (rowOf (secB x.by_))] (wanted_none rfl) (w' := W) ?_ (cw.mono fun e W2 hh => ?_)
            · go_simp
            · obtain ⟨rfl, k1, k2, k3⟩ := hh
              exact ⟨_, rfl, hK _ _ trivial trivial rfl (hJ.second (by decide) h2 (ls3 (hW 7 (by kernel_rfl)) (hW 9 (by kernel_rfl)) (hW 12 (by kernel_rfl))) ⟨hJ.al.1.unt k3 (by decide), hJ.al.2.trans k2⟩ ⟨hO.1.unt k3, k1⟩)⟩
          · clear hsz
            have e1 := slot_of (a := a) (s := 85) (v := .int .i64 zw) (hv 6 (by kernel_rfl))
            have e2 := slot_of (a := a) (s := 92) (v := .int .i64 zw) (hv 13 (by kernel_rfl))
            refine step_run (wanted_none rfl) (v := .bool false) (w' := W) ?_ (hK _ _ trivial trivial rfl (hJ.same 14 (by decide) (ls2 (hW 6 (by kernel_rfl)) (hW 13 (by kernel_rfl)))))
            go_simp
        · intro f w9 hC2 hv2 L3 hL3 hJ3
          obtain ⟨aE, hJ, hfr⟩ := hJ3
          have k0 := hJ.f (hL3 13 (by decide))
          have HD9 := hidD_ k0.1
          have HF9 := hidD_ k0.2
          have X9 := hidD_ hJ.al.2
          have f0 : f 93 = .bool false := hv2 14 (by decide)
          simp only [framed, List.foldl_cons, List.foldl_nil, List.setIfInBounds_toArray, List.set_cons_succ, List.set_cons_zero]
          rw [f0]
          clear hv2 hC2 f0 hJ hfr hL3 k0
          rename_i Kd hKd
          refine hKd _ _ ?_
          have HR9 := hidD_ (show (wrS N s x.at1 (secB x.by_)).R.length ≤ j + 1 from Nat.le_trans (wrS_len _ _ _ _) (by have := HRJ.out; omega))
          generalize wrS N s x.at1 (secB x.by_) = s9 at *
          go_upto_region 28 with fail
          obtain ⟨o9, ho9⟩ : ∃ o, s9.off = o := ⟨_, rfl⟩
          have HO9 := hidD_ ho9
          obtain ⟨r9, hr9⟩ : ∃ r, s9.R.length = r := ⟨_, rfl⟩
          have HL9 := hidD_ hr9
          obtain ⟨Z, hZ⟩ : ∃ Z, (appl s9.F s9.R).flatten = Z := ⟨_, rfl⟩
          have HZ9 := hidD_ hZ
          have HZL := hidD_ (show Z.length = N * 64 by
            obtain ⟨v, hv⟩ := HD9.out
            rw [← hZ, flat_len hv.app64, appl_len, hv.hF])
          obtain ⟨vF, hvF⟩ := HF9.out
          obtain ⟨AF, cF, hfo⟩ := hvF.form
          rw [hr9] at hfo
          subst hfo
          rw [ho9] at hvF
          have HFV := hidD_ hvF
          clear hvF ho9 hr9 hZ
          refine region_byF [123, 124, 125, 126, 127, 128, 129, 130, 131, 132, 133, 134, 135, 136, 137, 138, 139, 140, 141, 142, 143, 144, 145, 146, 147] (fun W => Below w9.heap.size w9 W) (fun W W' => Below W.heap.size W W') (C28R p p2 N r9 o9 AF cF Z w9.heap.size) (by kernel_rfl) (by kernel_rfl) (by kernel_rfl) (by kernel_rfl) (fun j v w w' hT hr => ?_) (fun j v w hlt hj _ => ?_) ((Below.refl _ _).drew) ?_ ?_
          · exact C28R.stable hT j v hr
          · rcases j with _ | _ | _ | _ | _ | _ | _ | _ | _ | _ | _ | _ | _ | _ | _ | _ | _ | _ | _ | _ | _ | _ | _ | _ | _ | j
            all_goals first
              | (exfalso; simp [dstOf] at hj; done)
              | trivial
          · refine ⟨fun a W hC hd hf hv K hK => ?_, fun a W hC hd hf hv K hK => ?_, fun a W hC hd hf hv K hK => ?_, fun a W hC hd hf hv K hK => ?_, fun a W hC hd hf hv K hK => ?_, fun a W hC hd hf hv K hK => ?_, fun a W hC hd hf hv K hK => ?_, fun a W hC hd hf hv K hK => ?_, fun a W hC hd hf hv K hK => ?_, fun a W hC hd hf hv K hK => ?_, fun a W hC hd hf hv K hK => ?_, fun a W hC hd hf hv K hK => ?_, fun a W hC hd hf hv K hK => ?_, fun a W hC hd hf hv K hK => ?_, fun a W hC hd hf hv K hK => ?_, fun a W hC hd hf hv K hK => ?_, fun a W hC hd hf hv K hK => ?_, fun a W hC hd hf hv K hK => ?_, fun a W hC hd hf hv K hK => ?_, fun a W hC hd hf hv K hK => ?_, fun a W hC hd hf hv K hK => ?_, fun a W hC hd hf hv K hK => ?_, fun a W hC hd hf hv K hK => ?_, fun a W hC hd hf hv K hK => ?_, fun a W hC hd hf hv K hK => ?_, trivial⟩
            · have e1 := slot_of (a := a) (s := 5) (v := .pointer (some ⟨p, 0, none⟩)) (hf 5 (by kernel_rfl))
              refine step_run (wanted_none rfl) (v := .pointer (some ⟨p, 0, none⟩)) (w' := W) ?_ (hK _ _ hC (Below.refl _ _) rfl)
              go_simp
            · have e1 := slot_of (a := a) (s := 123) (v := .pointer (some ⟨p, 0, none⟩)) (hv 0 (by kernel_rfl))
              refine step_callx 17 #[.pointer (some ⟨p, 0, none⟩)] (wanted_none rfl) (w' := W) ?_ ((doff_yes (HD9.out.below hC)).mono fun e W2 hh => ?_)
              · go_simp
              · obtain ⟨rfl, rfl⟩ := hh
                exact ⟨_, rfl, hK _ _ hC (Below.refl _ _) (by rw [HO9.out]; rfl)⟩
            · have e1 := slot_of (a := a) (s := 7) (v := .pointer (some ⟨p2, 0, none⟩)) (hf 7 (by kernel_rfl))
              refine step_run (wanted_none rfl) (v := .pointer (some ⟨p2, 0, none⟩)) (w' := W) ?_ (hK _ _ hC (Below.refl _ _) rfl)
              go_simp
            · have e1 := slot_of (a := a) (s := 125) (v := .pointer (some ⟨p2, 0, none⟩)) (hv 2 (by kernel_rfl))
              refine step_run (wanted_none rfl) (v := .pointer (some ⟨p2, 0, none⟩)) (w' := W) ?_ (hK _ _ hC (Below.refl _ _) rfl)
              go_simp
            · have e1 := slot_of (a := a) (s := 126) (v := .pointer (some ⟨p2, 0, none⟩)) (hv 3 (by kernel_rfl))
              refine step_run (wanted_none rfl) (v := .pointer (some ⟨p2, 3, none⟩)) (w' := W) ?_ (hK _ _ hC (Below.refl _ _) rfl)
              go_simp
            · have e1 := slot_of (a := a) (s := 127) (v := .pointer (some ⟨p2, 3, none⟩)) (hv 4 (by kernel_rfl))
              have cc := (HFV.out.below hC).cells
              obtain ⟨_, cc1, _, cc3⟩ := cc
              refine step_run (wanted_none rfl) (v := .bool o9) (w' := W) ?_ (hK _ _ hC (Below.refl _ _) rfl)
              go_simp
            · have e1 := slot_of (a := a) (s := 124) (v := .bool o9) (hv 1 (by kernel_rfl))
              have e2 := slot_of (a := a) (s := 128) (v := .bool o9) (hv 5 (by kernel_rfl))
              refine step_run (wanted_none rfl) (v := .bool false) (w' := W) ?_ (hK _ _ hC (Below.refl _ _) rfl)
              go_simp
            · have e1 := slot_of (a := a) (s := 129) (v := .bool false) (hv 6 (by kernel_rfl))
              refine step_run (wanted_none rfl) (v := .bool false) (w' := W) ?_ (hK _ _ hC (Below.refl _ _) rfl)
              go_simp
            · have e1 := slot_of (a := a) (s := 5) (v := .pointer (some ⟨p, 0, none⟩)) (hf 5 (by kernel_rfl))
              refine step_run (wanted_at (j := 7) (s := 130) (b := false) rfl (by kernel_rfl) (hv 7 (by kernel_rfl))) (v := .pointer (some ⟨p, 0, none⟩)) (w' := W) ?_ (hK _ _ hC (Below.refl _ _) rfl)
              go_simp
            · have e1 := slot_of (a := a) (s := 131) (v := .pointer (some ⟨p, 0, none⟩)) (hv 8 (by kernel_rfl))
              refine step_callx 16 #[.pointer (some ⟨p, 0, none⟩)] (wanted_at (j := 7) (s := 130) (b := false) rfl (by kernel_rfl) (hv 7 (by kernel_rfl))) (w' := W) ?_ ((dloose_yes (HD9.out.below hC)).mono fun e W2 hh => ?_)
              · go_simp
              · obtain ⟨rfl, rfl⟩ := hh
                exact ⟨_, rfl, hK _ _ hC (Below.refl _ _) (by rw [HL9.out]; rfl)⟩
            · have e1 := slot_of (a := a) (s := 7) (v := .pointer (some ⟨p2, 0, none⟩)) (hf 7 (by kernel_rfl))
              refine step_run (wanted_at (j := 7) (s := 130) (b := false) rfl (by kernel_rfl) (hv 7 (by kernel_rfl))) (v := .pointer (some ⟨p2, 0, none⟩)) (w' := W) ?_ (hK _ _ hC (Below.refl _ _) rfl)
              go_simp
            · have e1 := slot_of (a := a) (s := 133) (v := .pointer (some ⟨p2, 0, none⟩)) (hv 10 (by kernel_rfl))
              refine step_run (wanted_at (j := 7) (s := 130) (b := false) rfl (by kernel_rfl) (hv 7 (by kernel_rfl))) (v := .pointer (some ⟨p2, 0, none⟩)) (w' := W) ?_ (hK _ _ hC (Below.refl _ _) rfl)
              go_simp
            · have e1 := slot_of (a := a) (s := 134) (v := .pointer (some ⟨p2, 0, none⟩)) (hv 11 (by kernel_rfl))
              refine step_run (wanted_at (j := 7) (s := 130) (b := false) rfl (by kernel_rfl) (hv 7 (by kernel_rfl))) (v := .pointer (some ⟨p2, 1, none⟩)) (w' := W) ?_ (hK _ _ hC (Below.refl _ _) rfl)
              go_simp
            · have e1 := slot_of (a := a) (s := 135) (v := .pointer (some ⟨p2, 1, none⟩)) (hv 12 (by kernel_rfl))
              have cc := (HFV.out.below hC).cells
              obtain ⟨_, cc1, _, cc3⟩ := cc
              refine step_run (wanted_at (j := 7) (s := 130) (b := false) rfl (by kernel_rfl) (hv 7 (by kernel_rfl))) (v := .slice AF r9 cF) (w' := W) ?_ (hK _ _ hC (Below.refl _ _) rfl)
              go_simp
            · have e1 := slot_of (a := a) (s := 136) (v := .slice AF r9 cF) (hv 13 (by kernel_rfl))
              refine step_run (wanted_at (j := 7) (s := 130) (b := false) rfl (by kernel_rfl) (hv 7 (by kernel_rfl))) (v := .int .i64 (r9 : Int)) (w' := W) ?_ (hK _ _ hC (Below.refl _ _) rfl)
              go_simp
            · have e1 := slot_of (a := a) (s := 132) (v := .int .i64 (r9 : Int)) (hv 9 (by kernel_rfl))
              have e2 := slot_of (a := a) (s := 137) (v := .int .i64 (r9 : Int)) (hv 14 (by kernel_rfl))
              refine step_run (wanted_at (j := 7) (s := 130) (b := false) rfl (by kernel_rfl) (hv 7 (by kernel_rfl))) (v := .bool false) (w' := W) ?_ (hK _ _ hC (Below.refl _ _) rfl)
              go_simp
            · have e1 := slot_of (a := a) (s := 130) (v := .bool false) (hv 7 (by kernel_rfl))
              have e2 := slot_of (a := a) (s := 138) (v := .bool false) (hv 15 (by kernel_rfl))
              refine step_run (wanted_none rfl) (v := .bool false) (w' := W) ?_ (hK _ _ hC (Below.refl _ _) rfl)
              go_simp
            · have e1 := slot_of (a := a) (s := 139) (v := .bool false) (hv 16 (by kernel_rfl))
              refine step_run (wanted_none rfl) (v := .bool false) (w' := W) ?_ (hK _ _ hC (Below.refl _ _) rfl)
              go_simp
            · have e1 := slot_of (a := a) (s := 5) (v := .pointer (some ⟨p, 0, none⟩)) (hf 5 (by kernel_rfl))
              refine step_run (wanted_at (j := 17) (s := 140) (b := false) rfl (by kernel_rfl) (hv 17 (by kernel_rfl))) (v := .pointer (some ⟨p, 0, none⟩)) (w' := W) ?_ (hK _ _ hC (Below.refl _ _) rfl)
              go_simp
            · have e1 := slot_of (a := a) (s := 141) (v := .pointer (some ⟨p, 0, none⟩)) (hv 18 (by kernel_rfl))
              refine step_callx 18 #[.pointer (some ⟨p, 0, none⟩)] (wanted_at (j := 17) (s := 140) (b := false) rfl (by kernel_rfl) (hv 17 (by kernel_rfl))) (w' := W) ?_ ((dimage_any (HD9.out.below hC)).mono fun e W2 hh => ?_)
              · go_simp
              · obtain ⟨A, c, rfl, ho, hb⟩ := hh
                exact ⟨_, rfl, hK _ _ (hC.trans (hb.mono hC.size)) hb ⟨A, c, rfl, by rw [HZ9.out] at ho; exact ho.lower hC.size⟩⟩
            · obtain ⟨A, c, e0, ho⟩ : ∃ A c, a.tmps.getD 142 undef = .slice A (N * 64) c ∧ Own8 W w9.heap.size (.slice A (N * 64) c) Z := hv 19 (by kernel_rfl)
              have e1 := slot_of e0
              have hcv : (convert 36 9 (.slice A (N * 64) c)).run Try.prog W = .ok (.string (strOf Z)) W := conv_strn ho.rd.1 (N * 64) c HZL.out
              refine step_run (wanted_at (j := 17) (s := 140) (b := false) rfl (by kernel_rfl) (hv 17 (by kernel_rfl))) (v := .string (strOf Z)) (w' := W) ?_ (hK _ _ hC (Below.refl _ _) rfl)
              go_simp
            · have e1 := slot_of (a := a) (s := 7) (v := .pointer (some ⟨p2, 0, none⟩)) (hf 7 (by kernel_rfl))
              refine step_run (wanted_at (j := 17) (s := 140) (b := false) rfl (by kernel_rfl) (hv 17 (by kernel_rfl))) (v := .pointer (some ⟨p2, 0, none⟩)) (w' := W) ?_ (hK _ _ hC (Below.refl _ _) rfl)
              go_simp
            · have e1 := slot_of (a := a) (s := 144) (v := .pointer (some ⟨p2, 0, none⟩)) (hv 21 (by kernel_rfl))
              refine step_callx 24 #[.pointer (some ⟨p2, 0, none⟩)] (wanted_at (j := 17) (s := 140) (b := false) rfl (by kernel_rfl) (hv 17 (by kernel_rfl))) (w' := W) ?_ ((rimage_any (HF9.out.below hC) (by have := HR9.out; omega)).mono fun e W2 hh => ?_)
              · go_simp
              · obtain ⟨rfl, hb⟩ := hh
                exact ⟨_, rfl, hK _ _ (hC.trans (hb.mono hC.size)) hb (by rw [HZ9.out]; rfl)⟩
            · have e1 := slot_of (a := a) (s := 143) (v := .string (strOf Z)) (hv 20 (by kernel_rfl))
              have e2 := slot_of (a := a) (s := 145) (v := .string (strOf Z)) (hv 22 (by kernel_rfl))
              refine step_run (wanted_at (j := 17) (s := 140) (b := false) rfl (by kernel_rfl) (hv 17 (by kernel_rfl))) (v := .bool false) (w' := W) ?_ (hK _ _ hC (Below.refl _ _) rfl)
              go_simp
            · have e1 := slot_of (a := a) (s := 140) (v := .bool false) (hv 17 (by kernel_rfl))
              have e2 := slot_of (a := a) (s := 146) (v := .bool false) (hv 23 (by kernel_rfl))
              refine step_run (wanted_none rfl) (v := .bool false) (w' := W) ?_ (hK _ _ hC (Below.refl _ _) rfl)
              go_simp
          · intro f wy hC2 hv2
            have f0 : f 147 = .bool false := hv2 24 (by decide)
            have HD8 := hidD_ (HD9.out.below hC2)
            have HF8 := hidD_ (HF9.out.below hC2)
            have X8 := hidD_ (X9.out.trans (hC2.mono (by have := X9.out.size; have := HB.out; omega)))
            simp only [framed, List.foldl_cons, List.foldl_nil, List.setIfInBounds_toArray, List.set_cons_succ, List.set_cons_zero]
            rw [f0]
            clear hv2 hC2 f0
            rename_i Kd2 hKd2
            refine hKd2 _ _ ?_
            go_wp2
            go_roundw
            case rel => exact ⟨j + 1, s9, by omega, by omega, by go_num, HR9, HD8, HF8, X8⟩
            case measure => simp [intOf]; omega
      · have cs := dk_sync HDA.out
        obtain ⟨zs, hzs⟩ : ∃ z, syZ s = z := ⟨_, rfl⟩
        rw [hzs] at cs
        have HZS := hidD_ hzs
        clear hzs
        go_upto_region 28 with (first
          | (go_at_call 14; ((with_reducible refine cs.mono ?_); clear cs; rintro e w5 ⟨rfl, h1, h2, h3⟩; have HD5 := hidD_ h1; have HF5 := hidD_ (HFA.out.unt h3); have X5 := hidD_ (XA.out.trans h2); clear h1 h2 h3; have cs2 := rf_sync HF5.out (by have := X5.out.size; have := HB.out; omega) (by have := HRJ.out; omega); rw [HZS.out] at cs2))
          | (go_at_call 22; ((with_reducible refine cs2.mono ?_); clear cs2; rintro e w9 ⟨rfl, h1, h2, h3⟩; have HF9 := hidD_ h1; have HD9 := hidD_ (HD5.out.unt h3); have X9 := hidD_ (X5.out.trans h2); clear h1 h2 h3)))
        have HR9 := hidD_ (show (syS s).R.length ≤ j + 1 from Nat.le_trans (syS_len _) (by have := HRJ.out; omega))
        generalize syS s = s9 at *
        obtain ⟨o9, ho9⟩ : ∃ o, s9.off = o := ⟨_, rfl⟩
        have HO9 := hidD_ ho9
        obtain ⟨r9, hr9⟩ : ∃ r, s9.R.length = r := ⟨_, rfl⟩
        have HL9 := hidD_ hr9
        obtain ⟨Z, hZ⟩ : ∃ Z, (appl s9.F s9.R).flatten = Z := ⟨_, rfl⟩
        have HZ9 := hidD_ hZ
        have HZL := hidD_ (show Z.length = N * 64 by
          obtain ⟨v, hv⟩ := HD9.out
          rw [← hZ, flat_len hv.app64, appl_len, hv.hF])
        obtain ⟨vF, hvF⟩ := HF9.out
        obtain ⟨AF, cF, hfo⟩ := hvF.form
        rw [hr9] at hfo
        subst hfo
        rw [ho9] at hvF
        have HFV := hidD_ hvF
        clear hvF ho9 hr9 hZ
        refine region_byF [123, 124, 125, 126, 127, 128, 129, 130, 131, 132, 133, 134, 135, 136, 137, 138, 139, 140, 141, 142, 143, 144, 145, 146, 147] (fun W => Below w9.heap.size w9 W) (fun W W' => Below W.heap.size W W') (C28R p p2 N r9 o9 AF cF Z w9.heap.size) (by kernel_rfl) (by kernel_rfl) (by kernel_rfl) (by kernel_rfl) (fun j v w w' hT hr => ?_) (fun j v w hlt hj _ => ?_) ((Below.refl _ _).drew) ?_ ?_
        · exact C28R.stable hT j v hr
        · rcases j with _ | _ | _ | _ | _ | _ | _ | _ | _ | _ | _ | _ | _ | _ | _ | _ | _ | _ | _ | _ | _ | _ | _ | _ | _ | j
          all_goals first
            | (exfalso; simp [dstOf] at hj; done)
            | trivial
        · refine ⟨fun a W hC hd hf hv K hK => ?_, fun a W hC hd hf hv K hK => ?_, fun a W hC hd hf hv K hK => ?_, fun a W hC hd hf hv K hK => ?_, fun a W hC hd hf hv K hK => ?_, fun a W hC hd hf hv K hK => ?_, fun a W hC hd hf hv K hK => ?_, fun a W hC hd hf hv K hK => ?_, fun a W hC hd hf hv K hK => ?_, fun a W hC hd hf hv K hK => ?_, fun a W hC hd hf hv K hK => ?_, fun a W hC hd hf hv K hK => ?_, fun a W hC hd hf hv K hK => ?_, fun a W hC hd hf hv K hK => ?_, fun a W hC hd hf hv K hK => ?_, fun a W hC hd hf hv K hK => ?_, fun a W hC hd hf hv K hK => ?_, fun a W hC hd hf hv K hK => ?_, fun a W hC hd hf hv K hK => ?_, fun a W hC hd hf hv K hK => ?_, fun a W hC hd hf hv K hK => ?_, fun a W hC hd hf hv K hK => ?_, fun a W hC hd hf hv K hK => ?_, fun a W hC hd hf hv K hK => ?_, fun a W hC hd hf hv K hK => ?_, trivial⟩
          · have e1 := slot_of (a := a) (s := 5) (v := .pointer (some ⟨p, 0, none⟩)) (hf 5 (by kernel_rfl))
            refine step_run (wanted_none rfl) (v := .pointer (some ⟨p, 0, none⟩)) (w' := W) ?_ (hK _ _ hC (Below.refl _ _) rfl)
            go_simp
          · have e1 := slot_of (a := a) (s := 123) (v := .pointer (some ⟨p, 0, none⟩)) (hv 0 (by kernel_rfl))
            refine step_callx 17 #[.pointer (some ⟨p, 0, none⟩)] (wanted_none rfl) (w' := W) ?_ ((doff_yes (HD9.out.below hC)).mono fun e W2 hh => ?_)
            · go_simp
            · obtain ⟨rfl, rfl⟩ := hh
              exact ⟨_, rfl, hK _ _ hC (Below.refl _ _) (by rw [HO9.out]; rfl)⟩
          · have e1 := slot_of (a := a) (s := 7) (v := .pointer (some ⟨p2, 0, none⟩)) (hf 7 (by kernel_rfl))
            refine step_run (wanted_none rfl) (v := .pointer (some ⟨p2, 0, none⟩)) (w' := W) ?_ (hK _ _ hC (Below.refl _ _) rfl)
            go_simp
          · have e1 := slot_of (a := a) (s := 125) (v := .pointer (some ⟨p2, 0, none⟩)) (hv 2 (by kernel_rfl))
            refine step_run (wanted_none rfl) (v := .pointer (some ⟨p2, 0, none⟩)) (w' := W) ?_ (hK _ _ hC (Below.refl _ _) rfl)
            go_simp
          · have e1 := slot_of (a := a) (s := 126) (v := .pointer (some ⟨p2, 0, none⟩)) (hv 3 (by kernel_rfl))
            refine step_run (wanted_none rfl) (v := .pointer (some ⟨p2, 3, none⟩)) (w' := W) ?_ (hK _ _ hC (Below.refl _ _) rfl)
            go_simp
          · have e1 := slot_of (a := a) (s := 127) (v := .pointer (some ⟨p2, 3, none⟩)) (hv 4 (by kernel_rfl))
            have cc := (HFV.out.below hC).cells
            obtain ⟨_, cc1, _, cc3⟩ := cc
            refine step_run (wanted_none rfl) (v := .bool o9) (w' := W) ?_ (hK _ _ hC (Below.refl _ _) rfl)
            go_simp
          · have e1 := slot_of (a := a) (s := 124) (v := .bool o9) (hv 1 (by kernel_rfl))
            have e2 := slot_of (a := a) (s := 128) (v := .bool o9) (hv 5 (by kernel_rfl))
            refine step_run (wanted_none rfl) (v := .bool false) (w' := W) ?_ (hK _ _ hC (Below.refl _ _) rfl)
            go_simp
          · have e1 := slot_of (a := a) (s := 129) (v := .bool false) (hv 6 (by kernel_rfl))
            refine step_run (wanted_none rfl) (v := .bool false) (w' := W) ?_ (hK _ _ hC (Below.refl _ _) rfl)
            go_simp
          · have e1 := slot_of (a := a) (s := 5) (v := .pointer (some ⟨p, 0, none⟩)) (hf 5 (by kernel_rfl))
            refine step_run (wanted_at (j := 7) (s := 130) (b := false) rfl (by kernel_rfl) (hv 7 (by kernel_rfl))) (v := .pointer (some ⟨p, 0, none⟩)) (w' := W) ?_ (hK _ _ hC (Below.refl _ _) rfl)
            go_simp
          · have e1 := slot_of (a := a) (s := 131) (v := .pointer (some ⟨p, 0, none⟩)) (hv 8 (by kernel_rfl))
            refine step_callx 16 #[.pointer (some ⟨p, 0, none⟩)] (wanted_at (j := 7) (s := 130) (b := false) rfl (by kernel_rfl) (hv 7 (by kernel_rfl))) (w' := W) ?_ ((dloose_yes (HD9.out.below hC)).mono fun e W2 hh => ?_)
            · go_simp
            · obtain ⟨rfl, rfl⟩ := hh
              exact ⟨_, rfl, hK _ _ hC (Below.refl _ _) (by rw [HL9.out]; rfl)⟩
          · have e1 := slot_of (a := a) (s := 7) (v := .pointer (some ⟨p2, 0, none⟩)) (hf 7 (by kernel_rfl))
            refine step_run (wanted_at (j := 7) (s := 130) (b := false) rfl (by kernel_rfl) (hv 7 (by kernel_rfl))) (v := .pointer (some ⟨p2, 0, none⟩)) (w' := W) ?_ (hK _ _ hC (Below.refl _ _) rfl)
            go_simp
          · have e1 := slot_of (a := a) (s := 133) (v := .pointer (some ⟨p2, 0, none⟩)) (hv 10 (by kernel_rfl))
            refine step_run (wanted_at (j := 7) (s := 130) (b := false) rfl (by kernel_rfl) (hv 7 (by kernel_rfl))) (v := .pointer (some ⟨p2, 0, none⟩)) (w' := W) ?_ (hK _ _ hC (Below.refl _ _) rfl)
            go_simp
          · have e1 := slot_of (a := a) (s := 134) (v := .pointer (some ⟨p2, 0, none⟩)) (hv 11 (by kernel_rfl))
            refine step_run (wanted_at (j := 7) (s := 130) (b := false) rfl (by kernel_rfl) (hv 7 (by kernel_rfl))) (v := .pointer (some ⟨p2, 1, none⟩)) (w' := W) ?_ (hK _ _ hC (Below.refl _ _) rfl)
            go_simp
          · have e1 := slot_of (a := a) (s := 135) (v := .pointer (some ⟨p2, 1, none⟩)) (hv 12 (by kernel_rfl))
            have cc := (HFV.out.below hC).cells
            obtain ⟨_, cc1, _, cc3⟩ := cc
            refine step_run (wanted_at (j := 7) (s := 130) (b := false) rfl (by kernel_rfl) (hv 7 (by kernel_rfl))) (v := .slice AF r9 cF) (w' := W) ?_ (hK _ _ hC (Below.refl _ _) rfl)
            go_simp
          · have e1 := slot_of (a := a) (s := 136) (v := .slice AF r9 cF) (hv 13 (by kernel_rfl))
            refine step_run (wanted_at (j := 7) (s := 130) (b := false) rfl (by kernel_rfl) (hv 7 (by kernel_rfl))) (v := .int .i64 (r9 : Int)) (w' := W) ?_ (hK _ _ hC (Below.refl _ _) rfl)
            go_simp
          · have e1 := slot_of (a := a) (s := 132) (v := .int .i64 (r9 : Int)) (hv 9 (by kernel_rfl))
            have e2 := slot_of (a := a) (s := 137) (v := .int .i64 (r9 : Int)) (hv 14 (by kernel_rfl))
            refine step_run (wanted_at (j := 7) (s := 130) (b := false) rfl (by kernel_rfl) (hv 7 (by kernel_rfl))) (v := .bool false) (w' := W) ?_ (hK _ _ hC (Below.refl _ _) rfl)
            go_simp
          · have e1 := slot_of (a := a) (s := 130) (v := .bool false) (hv 7 (by kernel_rfl))
            have e2 := slot_of (a := a) (s := 138) (v := .bool false) (hv 15 (by kernel_rfl))
            refine step_run (wanted_none rfl) (v := .bool false) (w' := W) ?_ (hK _ _ hC (Below.refl _ _) rfl)
            go_simp
          · have e1 := slot_of (a := a) (s := 139) (v := .bool false) (hv 16 (by kernel_rfl))
            refine step_run (wanted_none rfl) (v := .bool false) (w' := W) ?_ (hK _ _ hC (Below.refl _ _) rfl)
            go_simp
          · have e1 := slot_of (a := a) (s := 5) (v := .pointer (some ⟨p, 0, none⟩)) (hf 5 (by kernel_rfl))
            refine step_run (wanted_at (j := 17) (s := 140) (b := false) rfl (by kernel_rfl) (hv 17 (by kernel_rfl))) (v := .pointer (some ⟨p, 0, none⟩)) (w' := W) ?_ (hK _ _ hC (Below.refl _ _) rfl)
            go_simp
          · have e1 := slot_of (a := a) (s := 141) (v := .pointer (some ⟨p, 0, none⟩)) (hv 18 (by kernel_rfl))
            refine step_callx 18 #[.pointer (some ⟨p, 0, none⟩)] (wanted_at (j := 17) (s := 140) (b := false) rfl (by kernel_rfl) (hv 17 (by kernel_rfl))) (w' := W) ?_ ((dimage_any (HD9.out.below hC)).mono fun e W2 hh => ?_)
            · go_simp
            · obtain ⟨A, c, rfl, ho, hb⟩ := hh
              exact ⟨_, rfl, hK _ _ (hC.trans (hb.mono hC.size)) hb ⟨A, c, rfl, by rw [HZ9.out] at ho; exact ho.lower hC.size⟩⟩
          · obtain ⟨A, c, e0, ho⟩ : ∃ A c, a.tmps.getD 142 undef = .slice A (N * 64) c ∧ Own8 W w9.heap.size (.slice A (N * 64) c) Z := hv 19 (by kernel_rfl)
            have e1 := slot_of e0
            have hcv : (convert 36 9 (.slice A (N * 64) c)).run Try.prog W = .ok (.string (strOf Z)) W := conv_strn ho.rd.1 (N * 64) c HZL.out
            refine step_run (wanted_at (j := 17) (s := 140) (b := false) rfl (by kernel_rfl) (hv 17 (by kernel_rfl))) (v := .string (strOf Z)) (w' := W) ?_ (hK _ _ hC (Below.refl _ _) rfl)
            go_simp
          · have e1 := slot_of (a := a) (s := 7) (v := .pointer (some ⟨p2, 0, none⟩)) (hf 7 (by kernel_rfl))
            refine step_run (wanted_at (j := 17) (s := 140) (b := false) rfl (by kernel_rfl) (hv 17 (by kernel_rfl))) (v := .pointer (some ⟨p2, 0, none⟩)) (w' := W) ?_ (hK _ _ hC (Below.refl _ _) rfl)
            go_simp
          · have e1 := slot_of (a := a) (s := 144) (v := .pointer (some ⟨p2, 0, none⟩)) (hv 21 (by kernel_rfl))
            refine step_callx 24 #[.pointer (some ⟨p2, 0, none⟩)] (wanted_at (j := 17) (s := 140) (b := false) rfl (by kernel_rfl) (hv 17 (by kernel_rfl))) (w' := W) ?_ ((rimage_any (HF9.out.below hC) (by have := HR9.out; omega)).mono fun e W2 hh => ?_)
            · go_simp
            · obtain ⟨rfl, hb⟩ := hh
              exact ⟨_, rfl, hK _ _ (hC.trans (hb.mono hC.size)) hb (by rw [HZ9.out]; rfl)⟩
          · have e1 := slot_of (a := a) (s := 143) (v := .string (strOf Z)) (hv 20 (by kernel_rfl))
            have e2 := slot_of (a := a) (s := 145) (v := .string (strOf Z)) (hv 22 (by kernel_rfl))
            refine step_run (wanted_at (j := 17) (s := 140) (b := false) rfl (by kernel_rfl) (hv 17 (by kernel_rfl))) (v := .bool false) (w' := W) ?_ (hK _ _ hC (Below.refl _ _) rfl)
            go_simp
          · have e1 := slot_of (a := a) (s := 140) (v := .bool false) (hv 17 (by kernel_rfl))
            have e2 := slot_of (a := a) (s := 146) (v := .bool false) (hv 23 (by kernel_rfl))
            refine step_run (wanted_none rfl) (v := .bool false) (w' := W) ?_ (hK _ _ hC (Below.refl _ _) rfl)
            go_simp
        · intro f wy hC2 hv2
          have f0 : f 147 = .bool false := hv2 24 (by decide)
          have HD8 := hidD_ (HD9.out.below hC2)
          have HF8 := hidD_ (HF9.out.below hC2)
          have X8 := hidD_ (X9.out.trans (hC2.mono (by have := X9.out.size; have := HB.out; omega)))
          simp only [framed, List.foldl_cons, List.foldl_nil, List.setIfInBounds_toArray, List.set_cons_succ, List.set_cons_zero]
          rw [f0]
          clear hv2 hC2 f0
          rename_i Kd2 hKd2
          refine hKd2 _ _ ?_
          go_wp2
          go_roundw
          case rel => exact ⟨j + 1, s9, by omega, by omega, by go_num, HR9, HD8, HF8, X8⟩
          case measure => simp [intOf]; omega
      · obtain ⟨f, hf⟩ : ∃ f : Nat, (f : Int) = max x.n 0 := ⟨(max x.n 0).toNat, by omega⟩
        have hfm : f ≤ 9223372036854775807 := by have := HOK.out.n1; omega
        have HFM := hidD_ hfm
        have HFX := hidD_ hf
        have cf := dfuse_yes HDA.out x.n f hf hfm
        go_upto_region 24 with (go_at_call 8; ((with_reducible refine cf.mono ?_); clear cf; rintro e w5 ⟨rfl, h1, h2, h3⟩; have HD5 := hidD_ (show DkJ B w5 p q N (fuS s f) from h1); have HF5 := hidD_ (HFA.out.unt h3); have KA5 := hidD_ (KAA.out.unt h3 (by decide)); have X5 := hidD_ (XA.out.trans h2); clear h1 h2 h3))
        clear ca cb cn3 cs4
        have cn5 := KA5.out.cell 3
        simp only [ActK.row, List.getElem?_toArray, List.getElem?_cons_zero, List.getElem?_cons_succ] at cn5
        obtain ⟨vF, hvF⟩ := HF5.out
        obtain ⟨_, _, c2F, _⟩ := hvF.cells
        have f2F := hvF.bp.frozen 2
        have hm := fun W ts t => run_maxk x.n 0 (f : Int) hf W ts t
        have Z9 := hidD_ (hvF.fuse_ f hfm)
        have PZ := hidD_ (Bk.putD (b0 := B) (T := rfT) hvF.bp hvF.hp (by simp [rfT]) 2 (.int .i64 (f : Int)))
        clear hvF hf hfm
        go_upto_region 28 with fail
        try rw [← HFX.out]
        have HF9 := hidD_ (show RfJ B (w5.setCell ⟨p2, 2, none⟩ (.int .i64 (f : Int))) p2 q2 N (fuS s f) from ⟨_, Z9.out⟩)
        have HD9 := hidD_ (HD5.out.unt PZ.out.2)
        have X9 := hidD_ (X5.out.trans PZ.out.1)
        have HR9 := hidD_ (show (fuS s f).R.length ≤ j + 1 from Nat.le_trans HRJ.out (by omega))
        generalize fuS s f = s9 at *
        generalize w5.setCell ⟨p2, 2, none⟩ (.int .i64 (f : Int)) = w9 at *
        clear hm cn5 c2F f2F
        obtain ⟨o9, ho9⟩ : ∃ o, s9.off = o := ⟨_, rfl⟩
        have HO9 := hidD_ ho9
        obtain ⟨r9, hr9⟩ : ∃ r, s9.R.length = r := ⟨_, rfl⟩
        have HL9 := hidD_ hr9
        obtain ⟨Z, hZ⟩ : ∃ Z, (appl s9.F s9.R).flatten = Z := ⟨_, rfl⟩
        have HZ9 := hidD_ hZ
        have HZL := hidD_ (show Z.length = N * 64 by
          obtain ⟨v, hv⟩ := HD9.out
          rw [← hZ, flat_len hv.app64, appl_len, hv.hF])
        obtain ⟨vF, hvF⟩ := HF9.out
        obtain ⟨AF, cF, hfo⟩ := hvF.form
        rw [hr9] at hfo
        subst hfo
        rw [ho9] at hvF
        have HFV := hidD_ hvF
        clear hvF ho9 hr9 hZ
        refine region_byF [123, 124, 125, 126, 127, 128, 129, 130, 131, 132, 133, 134, 135, 136, 137, 138, 139, 140, 141, 142, 143, 144, 145, 146, 147] (fun W => Below w9.heap.size w9 W) (fun W W' => Below W.heap.size W W') (C28R p p2 N r9 o9 AF cF Z w9.heap.size) (by kernel_rfl) (by kernel_rfl) (by kernel_rfl) (by kernel_rfl) (fun j v w w' hT hr => ?_) (fun j v w hlt hj _ => ?_) ((Below.refl _ _).drew) ?_ ?_
        · exact C28R.stable hT j v hr
        · rcases j with _ | _ | _ | _ | _ | _ | _ | _ | _ | _ | _ | _ | _ | _ | _ | _ | _ | _ | _ | _ | _ | _ | _ | _ | _ | j
          all_goals first
            | (exfalso; simp [dstOf] at hj; done)
            | trivial
        · refine ⟨fun a W hC hd hf hv K hK => ?_, fun a W hC hd hf hv K hK => ?_, fun a W hC hd hf hv K hK => ?_, fun a W hC hd hf hv K hK => ?_, fun a W hC hd hf hv K hK => ?_, fun a W hC hd hf hv K hK => ?_, fun a W hC hd hf hv K hK => ?_, fun a W hC hd hf hv K hK => ?_, fun a W hC hd hf hv K hK => ?_, fun a W hC hd hf hv K hK => ?_, fun a W hC hd hf hv K hK => ?_, fun a W hC hd hf hv K hK => ?_, fun a W hC hd hf hv K hK => ?_, fun a W hC hd hf hv K hK => ?_, fun a W hC hd hf hv K hK => ?_, fun a W hC hd hf hv K hK => ?_, fun a W hC hd hf hv K hK => ?_, fun a W hC hd hf hv K hK => ?_, fun a W hC hd hf hv K hK => ?_, fun a W hC hd hf hv K hK => ?_, fun a W hC hd hf hv K hK => ?_, fun a W hC hd hf hv K hK => ?_, fun a W hC hd hf hv K hK => ?_, fun a W hC hd hf hv K hK => ?_, fun a W hC hd hf hv K hK => ?_, trivial⟩
          · have e1 := slot_of (a := a) (s := 5) (v := .pointer (some ⟨p, 0, none⟩)) (hf 5 (by kernel_rfl))
            refine step_run (wanted_none rfl) (v := .pointer (some ⟨p, 0, none⟩)) (w' := W) ?_ (hK _ _ hC (Below.refl _ _) rfl)
            go_simp
          · have e1 := slot_of (a := a) (s := 123) (v := .pointer (some ⟨p, 0, none⟩)) (hv 0 (by kernel_rfl))
            refine step_callx 17 #[.pointer (some ⟨p, 0, none⟩)] (wanted_none rfl) (w' := W) ?_ ((doff_yes (HD9.out.below hC)).mono fun e W2 hh => ?_)
            · go_simp
            · obtain ⟨rfl, rfl⟩ := hh
              exact ⟨_, rfl, hK _ _ hC (Below.refl _ _) (by rw [HO9.out]; rfl)⟩
          · have e1 := slot_of (a := a) (s := 7) (v := .pointer (some ⟨p2, 0, none⟩)) (hf 7 (by kernel_rfl))
            refine step_run (wanted_none rfl) (v := .pointer (some ⟨p2, 0, none⟩)) (w' := W) ?_ (hK _ _ hC (Below.refl _ _) rfl)
            go_simp
          · have e1 := slot_of (a := a) (s := 125) (v := .pointer (some ⟨p2, 0, none⟩)) (hv 2 (by kernel_rfl))
            refine step_run (wanted_none rfl) (v := .pointer (some ⟨p2, 0, none⟩)) (w' := W) ?_ (hK _ _ hC (Below.refl _ _) rfl)
            go_simp
          · have e1 := slot_of (a := a) (s := 126) (v := .pointer (some ⟨p2, 0, none⟩)) (hv 3 (by kernel_rfl))
            refine step_run (wanted_none rfl) (v := .pointer (some ⟨p2, 3, none⟩)) (w' := W) ?_ (hK _ _ hC (Below.refl _ _) rfl)
            go_simp
          · have e1 := slot_of (a := a) (s := 127) (v := .pointer (some ⟨p2, 3, none⟩)) (hv 4 (by kernel_rfl))
            have cc := (HFV.out.below hC).cells
            obtain ⟨_, cc1, _, cc3⟩ := cc
            refine step_run (wanted_none rfl) (v := .bool o9) (w' := W) ?_ (hK _ _ hC (Below.refl _ _) rfl)
            go_simp
          · have e1 := slot_of (a := a) (s := 124) (v := .bool o9) (hv 1 (by kernel_rfl))
            have e2 := slot_of (a := a) (s := 128) (v := .bool o9) (hv 5 (by kernel_rfl))
            refine step_run (wanted_none rfl) (v := .bool false) (w' := W) ?_ (hK _ _ hC (Below.refl _ _) rfl)
            go_simp
          · have e1 := slot_of (a := a) (s := 129) (v := .bool false) (hv 6 (by kernel_rfl))
            refine step_run (wanted_none rfl) (v := .bool false) (w' := W) ?_ (hK _ _ hC (Below.refl _ _) rfl)
            go_simp
          · have e1 := slot_of (a := a) (s := 5) (v := .pointer (some ⟨p, 0, none⟩)) (hf 5 (by kernel_rfl))
            refine step_run (wanted_at (j := 7) (s := 130) (b := false) rfl (by kernel_rfl) (hv 7 (by kernel_rfl))) (v := .pointer (some ⟨p, 0, none⟩)) (w' := W) ?_ (hK _ _ hC (Below.refl _ _) rfl)
            go_simp
          · have e1 := slot_of (a := a) (s := 131) (v := .pointer (some ⟨p, 0, none⟩)) (hv 8 (by kernel_rfl))
            refine step_callx 16 #[.pointer (some ⟨p, 0, none⟩)] (wanted_at (j := 7) (s := 130) (b := false) rfl (by kernel_rfl) (hv 7 (by kernel_rfl))) (w' := W) ?_ ((dloose_yes (HD9.out.below hC)).mono fun e W2 hh => ?_)
            · go_simp
            · obtain ⟨rfl, rfl⟩ := hh
              exact ⟨_, rfl, hK _ _ hC (Below.refl _ _) (by rw [HL9.out]; rfl)⟩
          · have e1 := slot_of (a := a) (s := 7) (v := .pointer (some ⟨p2, 0, none⟩)) (hf 7 (by kernel_rfl))
            refine step_run (wanted_at (j := 7) (s := 130) (b := false) rfl (by kernel_rfl) (hv 7 (by kernel_rfl))) (v := .pointer (some ⟨p2, 0, none⟩)) (w' := W) ?_ (hK _ _ hC (Below.refl _ _) rfl)
            go_simp
          · have e1 := slot_of (a := a) (s := 133) (v := .pointer (some ⟨p2, 0, none⟩)) (hv 10 (by kernel_rfl))
            refine step_run (wanted_at (j := 7) (s := 130) (b := false) rfl (by kernel_rfl) (hv 7 (by kernel_rfl))) (v := .pointer (some ⟨p2, 0, none⟩)) (w' := W) ?_ (hK _ _ hC (Below.refl _ _) rfl)
            go_simp
          · have e1 := slot_of (a := a) (s := 134) (v := .pointer (some ⟨p2, 0, none⟩)) (hv 11 (by kernel_rfl))
            refine step_run (wanted_at (j := 7) (s := 130) (b := false) rfl (by kernel_rfl) (hv 7 (by kernel_rfl))) (v := .pointer (some ⟨p2, 1, none⟩)) (w' := W) ?_ (hK _ _ hC (Below.refl _ _) rfl)
            go_simp
          · have e1 := slot_of (a := a) (s := 135) (v := .pointer (some ⟨p2, 1, none⟩)) (hv 12 (by kernel_rfl))
            have cc := (HFV.out.below hC).cells
            obtain ⟨_, cc1, _, cc3⟩ := cc
            refine step_run (wanted_at (j := 7) (s := 130) (b := false) rfl (by kernel_rfl) (hv 7 (by kernel_rfl))) (v := .slice AF r9 cF) (w' := W) ?_ (hK _ _ hC (Below.refl _ _) rfl)
            go_simp
          · have e1 := slot_of (a := a) (s := 136) (v := .slice AF r9 cF) (hv 13 (by kernel_rfl))
            refine step_run (wanted_at (j := 7) (s := 130) (b := false) rfl (by kernel_rfl) (hv 7 (by kernel_rfl))) (v := .int .i64 (r9 : Int)) (w' := W) ?_ (hK _ _ hC (Below.refl _ _) rfl)
            go_simp
          · have e1 := slot_of (a := a) (s := 132) (v := .int .i64 (r9 : Int)) (hv 9 (by kernel_rfl))
            have e2 := slot_of (a := a) (s := 137) (v := .int .i64 (r9 : Int)) (hv 14 (by kernel_rfl))
            refine step_run (wanted_at (j := 7) (s := 130) (b := false) rfl (by kernel_rfl) (hv 7 (by kernel_rfl))) (v := .bool false) (w' := W) ?_ (hK _ _ hC (Below.refl _ _) rfl)
            go_simp
          · have e1 := slot_of (a := a) (s := 130) (v := .bool false) (hv 7 (by kernel_rfl))
            have e2 := slot_of (a := a) (s := 138) (v := .bool false) (hv 15 (by kernel_rfl))
            refine step_run (wanted_none rfl) (v := .bool false) (w' := W) ?_ (hK _ _ hC (Below.refl _ _) rfl)
            go_simp
          · have e1 := slot_of (a := a) (s := 139) (v := .bool false) (hv 16 (by kernel_rfl))
            refine step_run (wanted_none rfl) (v := .bool false) (w' := W) ?_ (hK _ _ hC (Below.refl _ _) rfl)
            go_simp
          · have e1 := slot_of (a := a) (s := 5) (v := .pointer (some ⟨p, 0, none⟩)) (hf 5 (by kernel_rfl))
            refine step_run (wanted_at (j := 17) (s := 140) (b := false) rfl (by kernel_rfl) (hv 17 (by kernel_rfl))) (v := .pointer (some ⟨p, 0, none⟩)) (w' := W) ?_ (hK _ _ hC (Below.refl _ _) rfl)
            go_simp
          · have e1 := slot_of (a := a) (s := 141) (v := .pointer (some ⟨p, 0, none⟩)) (hv 18 (by kernel_rfl))
            refine step_callx 18 #[.pointer (some ⟨p, 0, none⟩)] (wanted_at (j := 17) (s := 140) (b := false) rfl (by kernel_rfl) (hv 17 (by kernel_rfl))) (w' := W) ?_ ((dimage_any (HD9.out.below hC)).mono fun e W2 hh => ?_)
            · go_simp
            · obtain ⟨A, c, rfl, ho, hb⟩ := hh
              exact ⟨_, rfl, hK _ _ (hC.trans (hb.mono hC.size)) hb ⟨A, c, rfl, by rw [HZ9.out] at ho; exact ho.lower hC.size⟩⟩
          · obtain ⟨A, c, e0, ho⟩ : ∃ A c, a.tmps.getD 142 undef = .slice A (N * 64) c ∧ Own8 W w9.heap.size (.slice A (N * 64) c) Z := hv 19 (by kernel_rfl)
            have e1 := slot_of e0
            have hcv : (convert 36 9 (.slice A (N * 64) c)).run Try.prog W = .ok (.string (strOf Z)) W := conv_strn ho.rd.1 (N * 64) c HZL.out
            refine step_run (wanted_at (j := 17) (s := 140) (b := false) rfl (by kernel_rfl) (hv 17 (by kernel_rfl))) (v := .string (strOf Z)) (w' := W) ?_ (hK _ _ hC (Below.refl _ _) rfl)
            go_simp
          · have e1 := slot_of (a := a) (s := 7) (v := .pointer (some ⟨p2, 0, none⟩)) (hf 7 (by kernel_rfl))
            refine step_run (wanted_at (j := 17) (s := 140) (b := false) rfl (by kernel_rfl) (hv 17 (by kernel_rfl))) (v := .pointer (some ⟨p2, 0, none⟩)) (w' := W) ?_ (hK _ _ hC (Below.refl _ _) rfl)
            go_simp
          · have e1 := slot_of (a := a) (s := 144) (v := .pointer (some ⟨p2, 0, none⟩)) (hv 21 (by kernel_rfl))
            refine step_callx 24 #[.pointer (some ⟨p2, 0, none⟩)] (wanted_at (j := 17) (s := 140) (b := false) rfl (by kernel_rfl) (hv 17 (by kernel_rfl))) (w' := W) ?_ ((rimage_any (HF9.out.below hC) (by have := HR9.out; omega)).mono fun e W2 hh => ?_)
            · go_simp
            · obtain ⟨rfl, hb⟩ := hh
              exact ⟨_, rfl, hK _ _ (hC.trans (hb.mono hC.size)) hb (by rw [HZ9.out]; rfl)⟩
          · have e1 := slot_of (a := a) (s := 143) (v := .string (strOf Z)) (hv 20 (by kernel_rfl))
            have e2 := slot_of (a := a) (s := 145) (v := .string (strOf Z)) (hv 22 (by kernel_rfl))
            refine step_run (wanted_at (j := 17) (s := 140) (b := false) rfl (by kernel_rfl) (hv 17 (by kernel_rfl))) (v := .bool false) (w' := W) ?_ (hK _ _ hC (Below.refl _ _) rfl)
            go_simp
          · have e1 := slot_of (a := a) (s := 140) (v := .bool false) (hv 17 (by kernel_rfl))
            have e2 := slot_of (a := a) (s := 146) (v := .bool false) (hv 23 (by kernel_rfl))
            refine step_run (wanted_none rfl) (v := .bool false) (w' := W) ?_ (hK _ _ hC (Below.refl _ _) rfl)
            go_simp
        · intro f wy hC2 hv2
          have f0 : f 147 = .bool false := hv2 24 (by decide)
          have HD8 := hidD_ (HD9.out.below hC2)
          have HF8 := hidD_ (HF9.out.below hC2)
          have X8 := hidD_ (X9.out.trans (hC2.mono (by have := X9.out.size; have := HB.out; omega)))
          simp only [framed, List.foldl_cons, List.foldl_nil, List.setIfInBounds_toArray, List.set_cons_succ, List.set_cons_zero]
          rw [f0]
          clear hv2 hC2 f0
          rename_i Kd2 hKd2
          refine hKd2 _ _ ?_
          go_wp2
          go_roundw
          case rel => exact ⟨j + 1, s9, by omega, by omega, by go_num, HR9, HD8, HF8, X8⟩
          case measure => simp [intOf]; omega
      · have cc := dcrash_any HDA.out HBA.out (by have := HRJ.out; omega) x.at_ x.st.length x.cap x.st rfl (fun W hx _ k hk => stay_at HOK.out (by have := HB.out; omega) (XA.out.trans hx) k hk)
        go_upto_region 27 with (go_at_call 9; ((with_reducible refine cc.mono ?_); clear cc; rintro e w5 ⟨rfl, h1, h2, h3⟩; have HD5 := hidD_ (show DkJ B w5 p q N (crS s x.st) from h1); have HF5 := hidD_ (HFA.out.unt h3); have KA5 := hidD_ (KAA.out.unt h3 (by decide)); have X5 := hidD_ (XA.out.trans h2); clear h1 h2 h3))
        clear ca cb cn3 cs4
        have cs5 := KA5.out.cell 4
        simp only [ActK.row, List.getElem?_toArray, List.getElem?_cons_zero, List.getElem?_cons_succ] at cs5
        have cc2 := rcrash_any HF5.out (by have := X5.out.size; have := HB.out; omega) (by have := HRJ.out; omega) x.at_ x.st.length x.cap x.st rfl (fun W hx _ k hk => stay_at HOK.out (by have := HB.out; omega) (X5.out.trans hx) k hk)
        go_upto_region 28 with (go_at_call 23; ((with_reducible refine cc2.mono ?_); clear cc2; rintro e w9 ⟨rfl, h1, h2, h3⟩; have HF9 := hidD_ (show RfJ B w9 p2 q2 N (crS s x.st) from h1); have HD9 := hidD_ (HD5.out.unt h3); have X9 := hidD_ (X5.out.trans h2); clear h1 h2 h3))
        have HR9 := hidD_ (show (crS s x.st).R.length ≤ j + 1 from Nat.zero_le _)
        generalize crS s x.st = s9 at *
        clear cs5
        obtain ⟨o9, ho9⟩ : ∃ o, s9.off = o := ⟨_, rfl⟩
        have HO9 := hidD_ ho9
        obtain ⟨r9, hr9⟩ : ∃ r, s9.R.length = r := ⟨_, rfl⟩
        have HL9 := hidD_ hr9
        obtain ⟨Z, hZ⟩ : ∃ Z, (appl s9.F s9.R).flatten = Z := ⟨_, rfl⟩
        have HZ9 := hidD_ hZ
        have HZL := hidD_ (show Z.length = N * 64 by
          obtain ⟨v, hv⟩ := HD9.out
          rw [← hZ, flat_len hv.app64, appl_len, hv.hF])
        obtain ⟨vF, hvF⟩ := HF9.out
        obtain ⟨AF, cF, hfo⟩ := hvF.form
        rw [hr9] at hfo
        subst hfo
        rw [ho9] at hvF
        have HFV := hidD_ hvF
        clear hvF ho9 hr9 hZ
        refine region_byF [123, 124, 125, 126, 127, 128, 129, 130, 131, 132, 133, 134, 135, 136, 137, 138, 139, 140, 141, 142, 143, 144, 145, 146, 147] (fun W => Below w9.heap.size w9 W) (fun W W' => Below W.heap.size W W') (C28R p p2 N r9 o9 AF cF Z w9.heap.size) (by kernel_rfl) (by kernel_rfl) (by kernel_rfl) (by kernel_rfl) (fun j v w w' hT hr => ?_) (fun j v w hlt hj _ => ?_) ((Below.refl _ _).drew) ?_ ?_
        · exact C28R.stable hT j v hr
        · rcases j with _ | _ | _ | _ | _ | _ | _ | _ | _ | _ | _ | _ | _ | _ | _ | _ | _ | _ | _ | _ | _ | _ | _ | _ | _ | j
          all_goals first
            | (exfalso; simp [dstOf] at hj; done)
            | trivial
        · refine ⟨fun a W hC hd hf hv K hK => ?_, fun a W hC hd hf hv K hK => ?_, fun a W hC hd hf hv K hK => ?_, fun a W hC hd hf hv K hK => ?_, fun a W hC hd hf hv K hK => ?_, fun a W hC hd hf hv K hK => ?_, fun a W hC hd hf hv K hK => ?_, fun a W hC hd hf hv K hK => ?_, fun a W hC hd hf hv K hK => ?_, fun a W hC hd hf hv K hK => ?_, fun a W hC hd hf hv K hK => ?_, fun a W hC hd hf hv K hK => ?_, fun a W hC hd hf hv K hK => ?_, fun a W hC hd hf hv K hK => ?_, fun a W hC hd hf hv K hK => ?_, fun a W hC hd hf hv K hK => ?_, fun a W hC hd hf hv K hK => ?_, fun a W hC hd hf hv K hK => ?_, fun a W hC hd hf hv K hK => ?_, fun a W hC hd hf hv K hK => ?_, fun a W hC hd hf hv K hK => ?_, fun a W hC hd hf hv K hK => ?_, fun a W hC hd hf hv K hK => ?_, fun a W hC hd hf hv K hK => ?_, fun a W hC hd hf hv K hK => ?_, trivial⟩
          · have e1 := slot_of (a := a) (s := 5) (v := .pointer (some ⟨p, 0, none⟩)) (hf 5 (by kernel_rfl))
            refine step_run (wanted_none rfl) (v := .pointer (some ⟨p, 0, none⟩)) (w' := W) ?_ (hK _ _ hC (Below.refl _ _) rfl)
            go_simp
          · have e1 := slot_of (a := a) (s := 123) (v := .pointer (some ⟨p, 0, none⟩)) (hv 0 (by kernel_rfl))
            refine step_callx 17 #[.pointer (some ⟨p, 0, none⟩)] (wanted_none rfl) (w' := W) ?_ ((doff_yes (HD9.out.below hC)).mono fun e W2 hh => ?_)
            · go_simp
            · obtain ⟨rfl, rfl⟩ := hh
              exact ⟨_, rfl, hK _ _ hC (Below.refl _ _) (by rw [HO9.out]; rfl)⟩
          · have e1 := slot_of (a := a) (s := 7) (v := .pointer (some ⟨p2, 0, none⟩)) (hf 7 (by kernel_rfl))
            refine step_run (wanted_none rfl) (v := .pointer (some ⟨p2, 0, none⟩)) (w' := W) ?_ (hK _ _ hC (Below.refl _ _) rfl)
            go_simp
          · have e1 := slot_of (a := a) (s := 125) (v := .pointer (some ⟨p2, 0, none⟩)) (hv 2 (by kernel_rfl))
            refine step_run (wanted_none rfl) (v := .pointer (some ⟨p2, 0, none⟩)) (w' := W) ?_ (hK _ _ hC (Below.refl _ _) rfl)
            go_simp
          · have e1 := slot_of (a := a) (s := 126) (v := .pointer (some ⟨p2, 0, none⟩)) (hv 3 (by kernel_rfl))
            refine step_run (wanted_none rfl) (v := .pointer (some ⟨p2, 3, none⟩)) (w' := W) ?_ (hK _ _ hC (Below.refl _ _) rfl)
            go_simp
          · have e1 := slot_of (a := a) (s := 127) (v := .pointer (some ⟨p2, 3, none⟩)) (hv 4 (by kernel_rfl))
            have cc := (HFV.out.below hC).cells
            obtain ⟨_, cc1, _, cc3⟩ := cc
            refine step_run (wanted_none rfl) (v := .bool o9) (w' := W) ?_ (hK _ _ hC (Below.refl _ _) rfl)
            go_simp
          · have e1 := slot_of (a := a) (s := 124) (v := .bool o9) (hv 1 (by kernel_rfl))
            have e2 := slot_of (a := a) (s := 128) (v := .bool o9) (hv 5 (by kernel_rfl))
            refine step_run (wanted_none rfl) (v := .bool false) (w' := W) ?_ (hK _ _ hC (Below.refl _ _) rfl)
            go_simp
          · have e1 := slot_of (a := a) (s := 129) (v := .bool false) (hv 6 (by kernel_rfl))
            refine step_run (wanted_none rfl) (v := .bool false) (w' := W) ?_ (hK _ _ hC (Below.refl _ _) rfl)
            go_simp
          · have e1 := slot_of (a := a) (s := 5) (v := .pointer (some ⟨p, 0, none⟩)) (hf 5 (by kernel_rfl))
            refine step_run (wanted_at (j := 7) (s := 130) (b := false) rfl (by kernel_rfl) (hv 7 (by kernel_rfl))) (v := .pointer (some ⟨p, 0, none⟩)) (w' := W) ?_ (hK _ _ hC (Below.refl _ _) rfl)
            go_simp
          · have e1 := slot_of (a := a) (s := 131) (v := .pointer (some ⟨p, 0, none⟩)) (hv 8 (by kernel_rfl))
            refine step_callx 16 #[.pointer (some ⟨p, 0, none⟩)] (wanted_at (j := 7) (s := 130) (b := false) rfl (by kernel_rfl) (hv 7 (by kernel_rfl))) (w' := W) ?_ ((dloose_yes (HD9.out.below hC)).mono fun e W2 hh => ?_)
            · go_simp
            · obtain ⟨rfl, rfl⟩ := hh
              exact ⟨_, rfl, hK _ _ hC (Below.refl _ _) (by rw [HL9.out]; rfl)⟩
          · have e1 := slot_of (a := a) (s := 7) (v := .pointer (some ⟨p2, 0, none⟩)) (hf 7 (by kernel_rfl))
            refine step_run (wanted_at (j := 7) (s := 130) (b := false) rfl (by kernel_rfl) (hv 7 (by kernel_rfl))) (v := .pointer (some ⟨p2, 0, none⟩)) (w' := W) ?_ (hK _ _ hC (Below.refl _ _) rfl)
            go_simp
          · have e1 := slot_of (a := a) (s := 133) (v := .pointer (some ⟨p2, 0, none⟩)) (hv 10 (by kernel_rfl))
            refine step_run (wanted_at (j := 7) (s := 130) (b := false) rfl (by kernel_rfl) (hv 7 (by kernel_rfl))) (v := .pointer (some ⟨p2, 0, none⟩)) (w' := W) ?_ (hK _ _ hC (Below.refl _ _) rfl)
            go_simp
          · have e1 := slot_of (a := a) (s := 134) (v := .pointer (some ⟨p2, 0, none⟩)) (hv 11 (by kernel_rfl))
            refine step_run (wanted_at (j := 7) (s := 130) (b := false) rfl (by kernel_rfl) (hv 7 (by kernel_rfl))) (v := .pointer (some ⟨p2, 1, none⟩)) (w' := W) ?_ (hK _ _ hC (Below.refl _ _) rfl)
            go_simp
          · have e1 := slot_of (a := a) (s := 135) (v := .pointer (some ⟨p2, 1, none⟩)) (hv 12 (by kernel_rfl))
            have cc := (HFV.out.below hC).cells
            obtain ⟨_, cc1, _, cc3⟩ := cc
            refine step_run (wanted_at (j := 7) (s := 130) (b := false) rfl (by kernel_rfl) (hv 7 (by kernel_rfl))) (v := .slice AF r9 cF) (w' := W) ?_ (hK _ _ hC (Below.refl _ _) rfl)
            go_simp
          · have e1 := slot_of (a := a) (s := 136) (v := .slice AF r9 cF) (hv 13 (by kernel_rfl))
            refine step_run (wanted_at (j := 7) (s := 130) (b := false) rfl (by kernel_rfl) (hv 7 (by kernel_rfl))) (v := .int .i64 (r9 : Int)) (w' := W) ?_ (hK _ _ hC (Below.refl _ _) rfl)
            go_simp
          · have e1 := slot_of (a := a) (s := 132) (v := .int .i64 (r9 : Int)) (hv 9 (by kernel_rfl))
            have e2 := slot_of (a := a) (s := 137) (v := .int .i64 (r9 : Int)) (hv 14 (by kernel_rfl))
            refine step_run (wanted_at (j := 7) (s := 130) (b := false) rfl (by kernel_rfl) (hv 7 (by kernel_rfl))) (v := .bool false) (w' := W) ?_ (hK _ _ hC (Below.refl _ _) rfl)
            go_simp
          · have e1 := slot_of (a := a) (s := 130) (v := .bool false) (hv 7 (by kernel_rfl))
            have e2 := slot_of (a := a) (s := 138) (v := .bool false) (hv 15 (by kernel_rfl))
            refine step_run (wanted_none rfl) (v := .bool false) (w' := W) ?_ (hK _ _ hC (Below.refl _ _) rfl)
            go_simp
          · have e1 := slot_of (a := a) (s := 139) (v := .bool false) (hv 16 (by kernel_rfl))
            refine step_run (wanted_none rfl) (v := .bool false) (w' := W) ?_ (hK _ _ hC (Below.refl _ _) rfl)
            go_simp
          · have e1 := slot_of (a := a) (s := 5) (v := .pointer (some ⟨p, 0, none⟩)) (hf 5 (by kernel_rfl))
            refine step_run (wanted_at (j := 17) (s := 140) (b := false) rfl (by kernel_rfl) (hv 17 (by kernel_rfl))) (v := .pointer (some ⟨p, 0, none⟩)) (w' := W) ?_ (hK _ _ hC (Below.refl _ _) rfl)
            go_simp
          · have e1 := slot_of (a := a) (s := 141) (v := .pointer (some ⟨p, 0, none⟩)) (hv 18 (by kernel_rfl))
            refine step_callx 18 #[.pointer (some ⟨p, 0, none⟩)] (wanted_at (j := 17) (s := 140) (b := false) rfl (by kernel_rfl) (hv 17 (by kernel_rfl))) (w' := W) ?_ ((dimage_any (HD9.out.below hC)).mono fun e W2 hh => ?_)
            · go_simp
            · obtain ⟨A, c, rfl, ho, hb⟩ := hh
              exact ⟨_, rfl, hK _ _ (hC.trans (hb.mono hC.size)) hb ⟨A, c, rfl, by rw [HZ9.out] at ho; exact ho.lower hC.size⟩⟩
          · obtain ⟨A, c, e0, ho⟩ : ∃ A c, a.tmps.getD 142 undef = .slice A (N * 64) c ∧ Own8 W w9.heap.size (.slice A (N * 64) c) Z := hv 19 (by kernel_rfl)
            have e1 := slot_of e0
            have hcv : (convert 36 9 (.slice A (N * 64) c)).run Try.prog W = .ok (.string (strOf Z)) W := conv_strn ho.rd.1 (N * 64) c HZL.out
            refine step_run (wanted_at (j := 17) (s := 140) (b := false) rfl (by kernel_rfl) (hv 17 (by kernel_rfl))) (v := .string (strOf Z)) (w' := W) ?_ (hK _ _ hC (Below.refl _ _) rfl)
            go_simp
          · have e1 := slot_of (a := a) (s := 7) (v := .pointer (some ⟨p2, 0, none⟩)) (hf 7 (by kernel_rfl))
            refine step_run (wanted_at (j := 17) (s := 140) (b := false) rfl (by kernel_rfl) (hv 17 (by kernel_rfl))) (v := .pointer (some ⟨p2, 0, none⟩)) (w' := W) ?_ (hK _ _ hC (Below.refl _ _) rfl)
            go_simp
          · have e1 := slot_of (a := a) (s := 144) (v := .pointer (some ⟨p2, 0, none⟩)) (hv 21 (by kernel_rfl))
            refine step_callx 24 #[.pointer (some ⟨p2, 0, none⟩)] (wanted_at (j := 17) (s := 140) (b := false) rfl (by kernel_rfl) (hv 17 (by kernel_rfl))) (w' := W) ?_ ((rimage_any (HF9.out.below hC) (by have := HR9.out; omega)).mono fun e W2 hh => ?_)
            · go_simp
            · obtain ⟨rfl, hb⟩ := hh
              exact ⟨_, rfl, hK _ _ (hC.trans (hb.mono hC.size)) hb (by rw [HZ9.out]; rfl)⟩
          · have e1 := slot_of (a := a) (s := 143) (v := .string (strOf Z)) (hv 20 (by kernel_rfl))
            have e2 := slot_of (a := a) (s := 145) (v := .string (strOf Z)) (hv 22 (by kernel_rfl))
            refine step_run (wanted_at (j := 17) (s := 140) (b := false) rfl (by kernel_rfl) (hv 17 (by kernel_rfl))) (v := .bool false) (w' := W) ?_ (hK _ _ hC (Below.refl _ _) rfl)
            go_simp
          · have e1 := slot_of (a := a) (s := 140) (v := .bool false) (hv 17 (by kernel_rfl))
            have e2 := slot_of (a := a) (s := 146) (v := .bool false) (hv 23 (by kernel_rfl))
            refine step_run (wanted_none rfl) (v := .bool false) (w' := W) ?_ (hK _ _ hC (Below.refl _ _) rfl)
            go_simp
        · intro f wy hC2 hv2
          have f0 : f 147 = .bool false := hv2 24 (by decide)
          have HD8 := hidD_ (HD9.out.below hC2)
          have HF8 := hidD_ (HF9.out.below hC2)
          have X8 := hidD_ (X9.out.trans (hC2.mono (by have := X9.out.size; have := HB.out; omega)))
          simp only [framed, List.foldl_cons, List.foldl_nil, List.setIfInBounds_toArray, List.set_cons_succ, List.set_cons_zero]
          rw [f0]
          clear hv2 hC2 f0
          rename_i Kd2 hKd2
          refine hKd2 _ _ ?_
          go_wp2
          go_roundw
          case rel => exact ⟨j + 1, s9, by omega, by omega, by go_num, HR9, HD8, HF8, X8⟩
          case measure => simp [intOf]; omega
    · by_cases hltr : j < r
      · have d1 : decide ((j : Int) < (r : Int)) = true := decide_eq_true (by omega)
        have d2 : decide ((j : Int) < 50) = false := decide_eq_false (by omega)
        have d3 : ¬ (j : Int) < 50 := by omega
        clear hlt
        go_wp2
        go_ret
        exact ⟨rfl, by rw [HB.out]; exact HXW.out⟩
      · have d1 : decide ((j : Int) < (r : Int)) = false := decide_eq_false (by omega)
        have d3 : ¬ (j : Int) < (r : Int) := by omega
        clear hlt
        go_wp2
        go_ret
        exact ⟨rfl, by rw [HB.out]; exact HXW.out⟩

set_option maxRecDepth 100000 in
theorem lifted (os : Os) (started : os.Started) (H : Type) (enc : TypeId × Value → H) :
    ReturnsInHanded {} Try.checked os 4 .any (Rows.diskActsSpec.pre6 enc Try.prog Try.f4 Rows.diskActsRow.domain false) (Rows.diskActsSpec.post enc Try.prog Try.f4 false true false false) := by
  refine returnsInHanded_of_change (C := Try.checked) own_ started (by kernel_rfl) Try.func4
    (ChangeSpec.witness6 (enc := enc) (C := Try.checked) false ⟨#[], #[.int .i64 0, .slice none 0 0], []⟩ 8 (by kernel_rfl) (by kernel_rfl) (by kernel_rfl) (by kernel_rfl)) ?_
  intro W base args ds gs before hval0 hW hcnd _
  have hval : ∀ (j : Nat) t v, Try.f4.params[j]? = some t → args[j]? = some v → Value.okWide Try.prog W .any base t v := hval0
  have hW' := hW
  obtain ⟨p, q, hA0, hV, rfl, hfz, hnd⟩ := hW
  have hA : DataW.TrodAll enc Try.prog W 0 (fun _ => true) true Try.f4.params.toList args.toList ds p := hA0
  rw [Try.params4] at hA hval
  obtain ⟨v0, vs0, d0, ds0, p0, q0, hargs, rfl, rfl, h0, r0⟩ := trodAll_cons hA
  obtain ⟨v1, vs1, d1, ds1, p1, q1, rfl, rfl, rfl, h1, r1⟩ := trodAll_cons r0
  obtain ⟨rfl, rfl, rfl⟩ := trodAll_nil r1
  obtain rfl : args = #[v0, v1] := by cases args; simp_all
  obtain ⟨rfl, rfl⟩ := trodVars_none hV
  obtain ⟨a0, rfl, rfl, rfl, w0⟩ := open_int Try.underlying3 (hval 0 3 v0 rfl rfl) h0
  obtain ⟨A1, l1, c1, rfl, hp1, hl1, hm1⟩ := open_actsK Try.underlying41 Try.underlying50 ⟨rfl, rfl⟩ ⟨rfl, rfl⟩ ⟨rfl, rfl⟩ ⟨rfl, rfl⟩ ⟨rfl, rfl⟩ Try.underlying3 (by kernel_rfl) Try.underlying5 (by kernel_rfl) Try.underlying48 (by kernel_rfl) Try.underlying4 (by kernel_rfl) (by kernel_rfl) (hval 1 41 v1 rfl rfl) h1
  refine (walk W a0 A1 l1.length c1 l1 rfl hp1 (by unfold maxLen at hm1; omega)).mono fun e W' ⟨he, hg⟩ => ⟨_, he, ?_⟩
  exact law_post laidOut_ (of_decide_eq_true (by kernel_rfl)) rfl rfl Try.underlying4 rfl hW' hg

theorem over : Rows.diskActsRow.holds Try.pinned (OpenSpec.ofChange Rows.diskActsSpec) :=
  OpenClaim.holds_of_wide 4 Try.f4 rfl rfl rfl rfl rfl rfl rfl ⟨rfl, rfl, rfl, rfl, rfl⟩ rfl rfl rfl rfl rfl (by kernel_rfl) Try.func4 (by kernel_rfl)
    (of_decide_eq_true (by kernel_rfl)) (by unfold Func.isWrapper; first | (rw [if_pos (by decide +kernel)]; kernel_rfl) | (rw [if_neg (by decide +kernel)]; exact ⟨rfl, rfl⟩))
    (fun os started H enc _ => lifted os started H enc)

theorem proved : Rows.DiskActsSaid := over
#print axioms proved
end Go.Proofs.Ytibnfldddpmafaa.diskActs
