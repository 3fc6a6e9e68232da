/-
  Proved: for all numbers and records LogFills answers true: records are appended as long as there is room, and not one more; what was refused leaves all as it was; a Replace makes room. No condition.
-/
import Derived.Test.YtdlciehboimciaaLha
import Derived.Test.YtdlciehboimciaaLp
import Derived.Test.YtdlciehboimciaaDkn
namespace Go.Proofs.Ytdlciehboimciaa.logFills
set_option maxRecDepth 100000
open Go.ChangeShapes Go.WideShapes Go.ChangeAt Go.RowKit
set_option linter.unusedVariables false
set_option linter.unusedSimpArgs false

theorem allB_rep (r : List UInt8) (size : Nat) (h : (recB r).length = size) : ∀ k, (allB (List.replicate k r)).length = k * size
  | 0 => by simp [allB]
  | k + 1 => by
    rw [List.replicate_succ, allB_cons, List.length_append, allB_rep r size h k, h, Nat.succ_mul]
    omega
theorem rep_snoc (r : List UInt8) (k : Nat) : List.replicate k r ++ [r] = List.replicate (k + 1) r := by rw [List.replicate_succ']
/-- What the loop keeps. -/
structure FlS (w W : World) (g p q n j : Nat) (r : List UInt8) : Prop where
  lv : ∃ s, s.fu = 0 ∧ LogV w.heap.size W g p q n (1 + j) 0 (List.replicate j r) s
  be : Below w.heap.size w W
set_option maxRecDepth 100000 in
set_option maxHeartbeats 16000000 in
theorem walk (w : World) (b : Int) (A0 : Option Addr) (n0 c0 : Nat) (l : List UInt8) (hn : l.length = n0) (hr : Rd w w.heap.size A0 l) (hc0 : n0 ≤ c0) (hc9 : c0 ≤ 9223372036854775807) : Calls Try.prog 6 #[.int .i64 b, .slice A0 n0 c0] w fun e w' => e = .returned (.bool true) ∧ Below w.heap.size w w' := by
  obtain ⟨y, hy, hyb⟩ := u64_natK b
  obtain ⟨k, hk⟩ : ∃ k, y % 16 = k := ⟨_, rfl⟩
  have s3 : (y : Int).tmod 16 = (k : Int) := by rw [Int.tmod_eq_emod_of_nonneg (by omega)]; omega
  have s4 : IntKind.u64.wrap (k : Int) = (k : Int) := IntWalk.u64_in _ (by omega)
  have s5 : IntKind.i64.wrap (k : Int) = (k : Int) := IntWalk.i64_in _ (by omega)
  obtain ⟨n, hnk⟩ : ∃ n, 4 + k = n := ⟨_, rfl⟩
  have s6 : (4 : Int) + (k : Int) = (n : Int) := by omega
  have hk16 : k < 16 := by omega
  have h4 : 4 ≤ n := by omega
  have h9 : n ≤ 8192 := by omega
  obtain ⟨m, hm⟩ : ∃ m, min n0 100 = m := ⟨_, rfl⟩
  have hmin := fun W ts t => run_minI (n0 : Int) 100 (m : Int) (by omega) W ts t
  have hsl := fun W => slice_to A0 n0 c0 (m : Int) m rfl (by omega) W
  obtain ⟨r, hrr⟩ : ∃ r, l.take m = r := ⟨_, rfl⟩
  have hrl : r.length = m := by rw [← hrr, List.length_take, hn]; omega
  have hm100 : m ≤ 100 := by omega
  have RD := hidg_ (show Rd w w.heap.size A0 r by rw [← hrr]; exact hr.take m)
  obtain ⟨size, hsz⟩ : ∃ x, m + 8 = x := ⟨_, rfl⟩
  have hrs : (recB r).length = size := by rw [recB_len, hrl, hsz]
  have hrs2 : (strOf (recB r)).size = size := by rw [strOf_size, hrs]
  obtain ⟨room, hroom⟩ : ∃ x, roomN n = x := ⟨_, rfl⟩
  obtain ⟨most, hmost⟩ : ∃ x, room / size = x := ⟨_, rfl⟩
  have hroom6 : room ≤ 1000000 := by rw [← hroom]; unfold roomN secsA; omega
  have hsz8 : 8 ≤ size := by omega
  have hsz108 : size ≤ 108 := by omega
  have hle : most * size ≤ room := by rw [← hmost]; exact Nat.div_mul_le_self _ _
  have hgt : room < most * size + size := by rw [← hmost]; have := Nat.lt_div_mul_add (a := room) (show 0 < size by omega); omega
  have hmo : most ≤ room := by rw [← hmost]; exact Nat.div_le_self _ _
  have hmo6 : most ≤ 1000000 := by omega
  have hq1 : (room : Int) / (size : Int) = (most : Int) := by rw [← hmost]; omega
  have hq2 : IntKind.i64.wrap ((room : Int).tdiv (size : Int)) = (most : Int) := by rw [Int.tdiv_eq_ediv_of_nonneg (by omega), hq1, IntWalk.i64_in _ (by omega)]
  have hz1 : ((size : Int) == 0) = false := by simp; omega
  have hz2 : ¬ (size : Int) = 0 := by omega
  have cn := dnew_yes w n (by omega) h9
  have HM := hidg_ hrl
  have HS := hidg_ hsz
  have HRS := hidg_ hrs
  have HRM := hidg_ hroom
  have HLE := hidg_ hle
  have HGT := hidg_ hgt
  have HMO := hidg_ hmo
  clear hk hyb hnk hm hrr hrl hsz hrs hroom hmost hn hr hle hgt hmo
  go_enter Try.func6, Try.ntmps6
  go_upto_region 9 with (first
    | (go_at_call 7; ((with_reducible refine cn.mono ?_); clear cn; rintro e w1 ⟨p, q, rfl, h1, hb⟩; have D1 := hidg_ (show DkJ w.heap.size w1 p q n ⟨zsecs n, [], 0, false⟩ from h1); have B1 := hidg_ hb; clear h1 hb))
    | (go_at_call 8; have cp := format_v D1.out B1.out.size h4 h9; ((with_reducible refine cp.mono ?_); clear cp; rintro e w2 ⟨g, rfl, hL, hb⟩; have L2 := hidg_ hL; have B2 := hidg_ (B1.out.trans hb); clear hL hb))
    | (go_at_call 9; have cp := logs_any w2; ((with_reducible refine cp.mono ?_); clear cp; rintro e w3 ⟨rfl, hb⟩; have L3 := hidg_ (L2.out.below hb); have B3 := hidg_ (B2.out.trans (hb.mono B2.out.size)); clear hb; have cv : (convert 39 9 (.slice A0 m c0)).run Try.prog w3 = .ok (.string (strOf r)) w3 := conv_strn (RD.out.below B3.out) m c0 HM.out))
    | (go_at_call 15; have cp := refRecL_any w3 r m HM.out (by omega); ((with_reducible refine cp.mono ?_); clear cp; rintro e w4 ⟨rfl, hb⟩; have L4 := hidg_ (L3.out.below hb); have B4 := hidg_ (B3.out.trans (hb.mono B3.out.size)); clear hb))
    | (go_at_call 13; have cp := refRoomL_any n h4 h9 w4; rw [HRM.out] at cp; ((with_reducible refine cp.mono ?_); clear cp; rintro e w' ⟨rfl, rfl⟩)))
  have FS := hidg_ (show FlS w w4 g p q n 0 r from ⟨⟨_, rfl, L4.out⟩, B4.out⟩)
  clear s3 s4 s5 s6 hy hmin hsl hq1 hq2 hz1 hz2 cv hrs2 D1 L2 L3 L4
  have HB4 := hidg_ B4.out.size
  go_wp2
  go_loopw [12] (fun i wr => ∃ j : Nat, j ≤ most ∧ i = .int .i64 j ∧ Hid (FlS w wr g p q n j r)) (fun i _ => most - (intOf i).toNat)
  case atStart => exact ⟨0, Nat.zero_le _, rfl, FS⟩
  case round =>
    obtain ⟨j, hj, rfl, HI⟩ := hrel
    obtain ⟨c, hc⟩ : ∃ x, j * size = x := ⟨_, rfl⟩
    have HC := hidg_ (show (allB (List.replicate j r)).length = c by rw [allB_rep r size HRS.out j, hc])
    by_cases hlt : j < most
    · have d1 : decide ((j : Int) < (most : Int)) = true := decide_eq_true (by omega)
      have d2 : decide (j < most) = true := decide_eq_true hlt
      obtain ⟨j1, hj1⟩ : ∃ x, j + 1 = x := ⟨_, rfl⟩
      obtain ⟨c1, hc1⟩ : ∃ x, j1 * size = x := ⟨_, rfl⟩
      have hcc : c1 = c + size := by rw [← hc1, ← hc, ← hj1, Nat.succ_mul]
      have hc1r : c1 ≤ room := by
        have h1 : j1 * size ≤ most * size := Nat.mul_le_mul_right _ (by omega)
        have h2 := HLE.out
        omega
      have HC1 := hidg_ (show (allB (List.replicate j1 r)).length = c1 by rw [allB_rep r size HRS.out j1, hc1])
      obtain ⟨lf, hlf⟩ : ∃ x, room - c1 = x := ⟨_, rfl⟩
      have hc16 : c1 ≤ 1000000 := by omega
      have hlf6 : lf ≤ 1000000 := by omega
      have ht9 : 1 + j + 1 ≤ 9223372036854775807 := by omega
      have e1 : (j : Int) + 1 = (j1 : Int) := by omega
      have e3 : (room : Int) - (c1 : Int) = (lf : Int) := by omega
      obtain ⟨s, hsf, hLV⟩ := HI.out.lv
      have hB := HI.out.be
      have ca := append_v0 hLV hsf hB.size h4 h9 ht9 r m A0 c0 HM.out ((RD.out.below hB).more hB.size) (by rw [HC.out, HRM.out]; have := HS.out; omega)
      rw [rep_snoc, hj1, show 1 + j + 1 = 1 + j1 by omega] at ca
      have X := hidg_ hB
      have e2 : (j1 : Int) * (size : Int) = (c1 : Int) := by rw [← hc1]; simp
      have HJ1 := hidg_ hj1
      have HCR := hidg_ hc1r
      have HLF := hidg_ hlf
      clear hLV hsf hB hj1 hc1 hcc hc1r hlf hc HC HI
      go_wp2_with (first
        | (go_at_call 14; ((with_reducible refine ca.mono ?_); clear ca; rintro e w5 ⟨rfl, s5, hf5, hL5, hb5, hu5⟩; have F5 := hidg_ hf5; have L5 := hidg_ hL5; have X5 := hidg_ (X.out.trans hb5); clear hf5 hL5 hb5 hu5))
        | (go_at_call 19; have cl := lleft_any L5.out.lg L5.out.dk h4 h9 (by rw [HC1.out, HRM.out]; exact HCR.out); rw [HC1.out, HRM.out, HLF.out] at cl; ((with_reducible refine cl.mono ?_); clear cl; rintro e w6 ⟨rfl, hb6⟩; have L6 := hidg_ (L5.out.below hb6); have X6 := hidg_ (X5.out.trans (hb6.mono X5.out.size)); clear hb6))
        | (go_at_call 13; have cp := refRoomL_any n h4 h9 w6; rw [HRM.out] at cp; ((with_reducible refine cp.mono ?_); clear cp; rintro e w' ⟨rfl, rfl⟩)))
      go_roundw
      case rel => exact ⟨j1, by have := HJ1.out; omega, rfl, hidg_ ⟨⟨_, F5.out, L6.out⟩, X6.out⟩⟩
      case measure => simp [intOf]; have := HJ1.out; omega
    · have hjm : j = most := by omega
      have d1 : decide ((j : Int) < (most : Int)) = false := decide_eq_false (by omega)
      have d2 : decide (j < most) = false := decide_eq_false hlt
      obtain ⟨s, hsf, hLV⟩ := HI.out.lv
      have hB := HI.out.be
      have hcm : c = most * size := by rw [← hc, hjm]
      have hcr : c ≤ room := by rw [hcm]; exact HLE.out
      have hno : ¬ c + (m + 8) ≤ room := by rw [hcm]; have := HGT.out; have := HS.out; omega
      obtain ⟨tm, htm⟩ : ∃ x, 1 + j = x := ⟨_, rfl⟩
      have htm2 : (1 : Int) + (most : Int) = (tm : Int) := by omega
      have htm6 : tm ≤ 1000001 := by omega
      obtain ⟨lf, hlf⟩ : ∃ x, room - c = x := ⟨_, rfl⟩
      rw [htm] at hLV
      have ct := lturn_any hLV.lg
      have cl := lleft_any hLV.lg hLV.dk h4 h9 (by rw [HC.out, HRM.out]; exact hcr)
      rw [HC.out, HRM.out, hlf] at cl
      have HF := hidg_ hsf
      have L := hidg_ hLV
      have X := hidg_ hB
      have hc6 : c ≤ 1000000 := by omega
      have HNO := hidg_ hno
      have HCR := hidg_ hcr
      have HLF := hidg_ hlf
      have HJM := hidg_ hjm
      have hkl : (List.replicate j r).length = most := by rw [List.length_replicate, hjm]
      have HKL := hidg_ hkl
      generalize List.replicate j r = RR at *
      clear hsf hLV hB hcm hcr hno hc hlf htm hkl HI hlt hjm
      go_upto_region 15 with (first
        | (go_at_call 18; ((with_reducible refine ct.mono ?_); clear ct; rintro e w' ⟨rfl, rfl⟩))
        | (go_at_call 19; ((with_reducible refine cl.mono ?_); clear cl; rintro e w5 ⟨rfl, hb5⟩; have L5 := hidg_ (L.out.below hb5); have X5 := hidg_ (X.out.trans (hb5.mono X.out.size)); clear hb5)))
      go_upto_region 17 with (first
        | (go_at_call 14; have ca := append_full L5.out.lg L5.out.dk h4 h9 (by omega) (by rw [HC.out]; exact hc6) m A0 c0 (by omega) (by rw [HC.out, HRM.out]; exact HNO.out); ((with_reducible refine ca.mono ?_); clear ca; rintro e w6 ⟨rfl, hb6⟩; have L6 := hidg_ (L5.out.below hb6); have X6 := hidg_ (X5.out.trans (hb6.mono X5.out.size)); clear hb6))
        | (go_at_call 18; have ct := lturn_any L6.out.lg; ((with_reducible refine ct.mono ?_); clear ct; rintro e w' ⟨rfl, rfl⟩))
        | (go_at_call 19; have cl := lleft_any L6.out.lg L6.out.dk h4 h9 (by rw [HC.out, HRM.out]; exact HCR.out); rw [HC.out, HRM.out, HLF.out] at cl; ((with_reducible refine cl.mono ?_); clear cl; rintro e w7 ⟨rfl, hb7⟩; have L7 := hidg_ (L6.out.below hb7); have X7 := hidg_ (X6.out.trans (hb7.mono X6.out.size)); clear hb7)))
      go_wp2_with (first
        | (go_at_call 21; have cp := open_v (t := tm) (a := 0) (R := RR) L7.out.dk L7.out.on h4 h9 (by omega) (by rw [L7.out.sR]; exact L7.out.ho); ((with_reducible refine cp.mono ?_); clear cp; rintro e w8 ⟨g8, A8, k8, c8, rfl, hk8, hg8, hR8, hl8, hb8⟩; obtain rfl : most = k8 := HKL.out.symm.trans hk8; have L8 := hidg_ (L7.out.below hb8); have X8 := hidg_ (X7.out.trans (hb8.mono X7.out.size)); clear hg8 hR8 hl8 hb8 hk8))
        | (go_at_call 11; have cp := replace_v0 L8.out HF.out X8.out.size h4 h9 (by omega) [] 0 none 0 rfl (fun j hj => absurd hj (Nat.not_lt_zero _)) (by simp [allB]); ((with_reducible refine cp.mono ?_); clear cp; rintro e w9 ⟨rfl, s9, hf9, hL9, hb9, hu9⟩; have L9 := hidg_ hL9; have X9 := hidg_ (X8.out.trans hb9); clear hf9 hL9 hb9 hu9))
        | (go_at_call 19; have cl : Calls _ _ _ _ (fun e w' => e = .returned (.int .i64 (room : Int)) ∧ Below w9.heap.size w9 w') := (by have h := lleft_any L9.out.lg L9.out.dk h4 h9 (by simp [allB]); rw [HRM.out, show room - (allB []).length = room by simp [allB]] at h; exact h); ((with_reducible refine cl.mono ?_); clear cl; rintro e wa ⟨rfl, hba⟩; have Xa := hidg_ (X9.out.trans (hba.mono X9.out.size)); clear hba))
        | (go_at_call 13; have cp := refRoomL_any n h4 h9 wa; rw [HRM.out] at cp; ((with_reducible refine cp.mono ?_); clear cp; rintro e w' ⟨rfl, rfl⟩)))
      go_ret
      exact ⟨rfl, Xa.out⟩

set_option maxRecDepth 100000 in
theorem lifted (os : Os) (started : os.Started) (H : Type) (enc : TypeId × Value → H) :
    ReturnsInHanded {} Try.checked os 6 .any (Rows.logFillsSpec.pre6 enc Try.prog Try.f6 Rows.logFillsRow.domain false) (Rows.logFillsSpec.post enc Try.prog Try.f6 false true false false) := by
  refine returnsInHanded_of_change (C := Try.checked) own_ started (by kernel_rfl) Try.func6
    (ChangeSpec.witness6 (enc := enc) (C := Try.checked) false ⟨#[], #[.int .i64 0, .slice none 0 0], []⟩ 8 (by kernel_rfl) (by kernel_rfl) (by kernel_rfl) (by kernel_rfl)) ?_
  intro W base args ds gs before hval0 hW hcnd _
  have hval : ∀ (j : Nat) t v, Try.f6.params[j]? = some t → args[j]? = some v → Value.okWide Try.prog W .any base t v := hval0
  have hW' := hW
  obtain ⟨p, q, hA0, hV, rfl, hfz, hnd⟩ := hW
  have hA : DataW.TrodAll enc Try.prog W 0 (fun _ => true) true Try.f6.params.toList args.toList ds p := hA0
  rw [Try.params6] at hA hval
  obtain ⟨v0, vs0, d0, ds0, p0, q0, hargs, rfl, rfl, h0, r0⟩ := trodAll_cons hA
  obtain ⟨v1, vs1, d1, ds1, p1, q1, rfl, rfl, rfl, h1, r1⟩ := trodAll_cons r0
  obtain ⟨rfl, rfl, rfl⟩ := trodAll_nil r1
  obtain rfl : args = #[v0, v1] := by cases args; simp_all
  obtain ⟨rfl, rfl⟩ := trodVars_none hV
  obtain ⟨z0, rfl, rfl, rfl, w0⟩ := open_int Try.underlying3 (hval 0 3 v0 rfl rfl) h0
  obtain ⟨A1, l1, c1, rfl, hr1, hlc1, hcm1⟩ := open_bytes Try.underlying39 Try.underlying5 (by kernel_rfl) (hval 1 39 v1 rfl rfl) h1
  refine (walk W z0 A1 l1.length c1 l1 rfl hr1 hlc1 (by unfold maxLen at hcm1; omega)).mono fun e W' ⟨he, hg⟩ => ⟨_, he, ?_⟩
  exact law_post laidOut_ (of_decide_eq_true (by kernel_rfl)) rfl rfl Try.underlying4 rfl hW' hg

theorem over : Rows.logFillsRow.holds Try.pinned (OpenSpec.ofChange Rows.logFillsSpec) :=
  OpenClaim.holds_of_wide 6 Try.f6 rfl rfl rfl rfl rfl rfl rfl ⟨rfl, rfl, rfl, rfl, rfl⟩ rfl rfl rfl rfl rfl (by kernel_rfl) Try.func6 (by kernel_rfl)
    (of_decide_eq_true (by kernel_rfl)) (by unfold Func.isWrapper; first | (rw [if_pos (by decide +kernel)]; kernel_rfl) | (rw [if_neg (by decide +kernel)]; exact ⟨rfl, rfl⟩))
    (fun os started H enc _ => lifted os started H enc)

theorem proved : Rows.LogFillsSaid := over
#print axioms proved
end Go.Proofs.Ytdlciehboimciaa.logFills
