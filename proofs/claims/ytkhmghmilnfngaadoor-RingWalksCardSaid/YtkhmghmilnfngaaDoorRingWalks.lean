/-
  Proved: for all numbers and keys RingWalks answers true: the order of replicas is told, and the first ones; of none nothing is. No condition.
-/
import Derived.Test.YtkhmghmilnfngaaDoorRgs
namespace Go.Proofs.YtkhmghmilnfngaaDoor.ringWalks
set_option maxRecDepth 100000
open Go.ChangeShapes Go.WideShapes Go.ChangeAt Go.RowKit
set_option linter.unusedVariables false
set_option linter.unusedSimpArgs false

def PrfN (w : World) (e : Ending) (w' : World) : Prop := ∃ A c, e = .returned (.tuple #[.slice A 0 c, .int .i64 1]) ∧ Below w.heap.size w w'
theorem prefer_bad (w : World) (g : Nat) (L : List PtV) (hr : RingIs w g L) (hs : Srt ltP L) (hm : L.length ≤ 1000000) (K : List UInt8) (hK : K.length = 32) (ws : List Nat) (hws : walkV (plB K) L = ws) (z : Int) (hz : ¬ (1 ≤ z ∧ z ≤ (ws.length : Int))) (h6 : ws.length ≤ 1000000) :
    Calls Tryd.prog 8 #[.pointer (some ⟨g, 0, none⟩), .agg (rowOf K), .int .i64 z] w (PrfN w) := by
  subst hws
  refine (prefer_any w g L hr hs hm K hK z h6).mono ?_
  rintro e w' ⟨A, n, c, rfl, hn, hrd, hb⟩
  rw [if_neg hz] at hn ⊢
  have e0 : n = 0 := hn
  subst e0
  exact ⟨A, c, rfl, hb⟩
set_option maxRecDepth 100000 in
set_option maxHeartbeats 16000000 in
theorem walk (w : World) (z1 z2 : Int) (K : List UInt8) (hK : K.length = 32) (ht : Tab w) (hg1 : 0 < w.heap.size) :
    Calls Tryd.prog 3 #[.int .i64 z1, .int .i64 z2, .agg (rowOf K)] w fun e w' => e = .returned (.bool true) ∧ Below w.heap.size w w' := by
  obtain ⟨gk, hgk⟩ : ∃ g, w.heap.size = g := ⟨_, rfl⟩
  obtain ⟨w1, hw1⟩ : ∃ W, w.alloc (.cells (rowOf K) 23) = W := ⟨_, rfl⟩
  have X1 := hidrg_ (show Below w.heap.size w w1 by rw [← hw1]; exact (Below.refl _ _).alloc (Nat.le_refl _) _)
  have K1 := hidrg_ (show Bk w1 gk 23 (rowOf K) by rw [← hw1, ← hgk]; exact Bk.new w _ _)
  have T1 := hidrg_ (show Tab w1 from fun t h => (X1.out.cell hg1).trans (ht t h))
  have G1 := hidrg_ (show 0 < w1.heap.size from Nat.lt_of_lt_of_le hg1 X1.out.size)
  have KL := hidrg_ (iBlind K hK)
  have HK := hidrg_ hK
  clear hK ht
  go_enter Tryd.func3, Tryd.ntmps3
  go_upto_region 1 with fail
  have ZK := hidrg_ (show ∀ W, Below w1.heap.size w1 W → Bk W gk 23 (rowOf K) from fun W hW => K1.out.below hW K1.out.lt)
  have ZN := hidrg_ (show ∀ W, Below w1.heap.size w1 W → Calls Tryd.prog 7 #[] W fun e w' => e = .returned (.pointer none) ∧ Below w1.heap.size w1 w' from fun W hW => (none_any W).mono fun e w' ⟨a, b⟩ => ⟨a, b ▸ hW⟩)
  have ZP := hidrg_ (show ∀ W, Below w1.heap.size w1 W → Calls Tryd.prog 8 #[.pointer none, .agg (rowOf K), .int .i64 1] W fun e w' => e = .returned (.tuple #[.slice none 0 0, .int .i64 1]) ∧ Below w1.heap.size w1 w' from fun W hW => (prefer_nil W K HK.out).mono fun e w' ⟨a, b⟩ => ⟨a, hW.trans (b.mono hW.size)⟩)
  rename_i KK hKK
  refine region_quiet_in (C := fun W => Below w1.heap.size w1 W) (by kernel_rfl) (by kernel_rfl) ((Below.refl _ _).drew) ?_
  repeat (first | go_big_quiet_skip | (go_big_quiet_want; (first
    | (refine BigFrame.quiet_move _ rfl ?_; go_simp)
    | (refine BigFrame.quiet_assign _ rfl ?_; go_simp)
    | (refine quiet_load_row 23 (.tmp 5) rfl gk rfl 23 (rowOf K) _ Tryd.underlying23 rfl KL.out ZK.out ?_; go_simp)
    | (refine quiet_call (.pointer none) 7 #[] ?_ ZN.out ?_; (focus (intro W; go_simp; done)); go_simp)
    | (refine quiet_call (.tuple #[.slice none 0 0, .int .i64 1]) 8 #[.pointer none, .agg (rowOf K), .int .i64 1] ?_ ZP.out ?_; (focus (intro W; go_simp; done)); go_simp)
    | (refine quiet_run (.slice none 0 0) ?_ ?_; (focus (intro W hW; go_simp; done)); go_simp)
    | (refine quiet_run (.int .i64 1) ?_ ?_; (focus (intro W hW; go_simp; done)); go_simp)); go_big_quiet_on))
  refine wpQuiet_nil ?_
  intro w2 hw
  have B2 := hidrg_ (show Below w1.heap.size w1 w2 from hw)
  clear hw
  refine hKK _ _ ?_
  clear ZP ZN
  go_upto_region 2 with fail
  have ZN := hidrg_ (show ∀ W, Below w1.heap.size w1 W → Calls Tryd.prog 7 #[] W fun e w' => e = .returned (.pointer none) ∧ Below w1.heap.size w1 w' from fun W hW => (none_any W).mono fun e w' ⟨a, b⟩ => ⟨a, b ▸ hW⟩)
  have ZP := hidrg_ (show ∀ W, Below w1.heap.size w1 W → Calls Tryd.prog 9 #[.pointer none, .agg (rowOf K), .int .i64 1, .slice none 0 0] W fun e w' => e = .returned (.tuple #[.slice none 0 0, .int .i64 1]) ∧ Below w1.heap.size w1 w' from fun W hW => (stand_nil W K HK.out).mono fun e w' ⟨a, b⟩ => ⟨a, hW.trans (b.mono hW.size)⟩)
  rename_i KK hKK
  refine region_quiet_in (C := fun W => Below w1.heap.size w1 W) (by kernel_rfl) (by kernel_rfl) B2.out.drew ?_
  repeat (first | go_big_quiet_skip | (go_big_quiet_want; (first
    | (refine BigFrame.quiet_move _ rfl ?_; go_simp)
    | (refine BigFrame.quiet_assign _ rfl ?_; go_simp)
    | (refine quiet_load_row 23 (.tmp 5) rfl gk rfl 23 (rowOf K) _ Tryd.underlying23 rfl KL.out ZK.out ?_; go_simp)
    | (refine quiet_call (.pointer none) 7 #[] ?_ ZN.out ?_; (focus (intro W; go_simp; done)); go_simp)
    | (refine quiet_call (.tuple #[.slice none 0 0, .int .i64 1]) 9 #[.pointer none, .agg (rowOf K), .int .i64 1, .slice none 0 0] ?_ ZP.out ?_; (focus (intro W; go_simp; done)); go_simp)
    | (refine quiet_run (.slice none 0 0) ?_ ?_; (focus (intro W hW; go_simp; done)); go_simp)
    | (refine quiet_run (.int .i64 1) ?_ ?_; (focus (intro W hW; go_simp; done)); go_simp)); go_big_quiet_on))
  refine wpQuiet_nil ?_
  intro w3 hw
  have B3 := hidrg_ (show Below w1.heap.size w1 w3 from hw)
  clear hw
  refine hKK _ _ ?_
  clear ZP ZN B2
  have T3 := hidrg_ (show Tab w3 from fun t h => (B3.out.cell G1.out).trans (T1.out t h))
  have cn := new_both w3 z1 z2 T3.out (Nat.lt_of_lt_of_le G1.out B3.out.size)
  go_upto_region 4 with (go_at_call 10; ((with_reducible refine cn.mono ?_); clear cn; rintro e w4 ⟨P, er, rfl, hb, hor⟩; have B4 := hidrg_ (B3.out.trans (hb.mono B3.out.size)); have HOR := hidrg_ hor; clear hb hor))
  clear B3 T3
  have ZK4 := hidrg_ (show ∀ W, Below w4.heap.size w4 W → Bk W gk 23 (rowOf K) from fun W hW => ZK.out W (B4.out.trans (hW.mono B4.out.size)))
  clear ZK
  have ZK := ZK4
  clear ZK4
  have ZN := hidrg_ (show ∀ W, Below w4.heap.size w4 W → Calls Tryd.prog 7 #[] W fun e w' => e = .returned (.pointer none) ∧ Below w4.heap.size w4 w' from fun W hW => (none_any W).mono fun e w' ⟨a, b⟩ => ⟨a, b ▸ hW⟩)
  have ZR := hidrg_ (show ∀ W, Below w4.heap.size w4 W → Calls Tryd.prog 11 #[] W fun e w' => e = .returned (.bool true) ∧ Below w4.heap.size w4 w' from fun W hW => (rings_any W (fun t h => ((B4.out.trans (hW.mono B4.out.size)).cell G1.out).trans (T1.out t h)) (Nat.lt_of_lt_of_le G1.out (Nat.le_trans B4.out.size hW.size))).mono fun e w' ⟨a, b⟩ => ⟨a, hW.trans (b.mono hW.size)⟩)
  have ZP := hidrg_ (show ∀ W, Below w4.heap.size w4 W → Calls Tryd.prog 12 #[.pointer none, .agg (rowOf K)] W fun e w' => e = .returned (.slice none 0 0) ∧ Below w4.heap.size w4 w' from fun W hW => (walk_nil W K).mono fun e w' ⟨a, b⟩ => ⟨a, hW.trans (b.mono hW.size)⟩)
  rename_i KK hKK
  refine region_quiet_in (C := fun W => Below w4.heap.size w4 W) (by kernel_rfl) (by kernel_rfl) ((Below.refl _ _).drew) ?_
  repeat (first | go_big_quiet_skip | (go_big_quiet_want; (first
    | (refine BigFrame.quiet_move _ rfl ?_; go_simp)
    | (refine BigFrame.quiet_assign _ rfl ?_; go_simp)
    | (refine quiet_load_row 23 (.tmp 5) rfl gk rfl 23 (rowOf K) _ Tryd.underlying23 rfl KL.out ZK.out ?_; go_simp)
    | (refine quiet_call (.bool true) 11 #[] ?_ ZR.out ?_; (focus (intro W; go_simp; done)); go_simp)
    | (refine quiet_call (.pointer none) 7 #[] ?_ ZN.out ?_; (focus (intro W; go_simp; done)); go_simp)
    | (refine quiet_call (.slice none 0 0) 12 #[.pointer none, .agg (rowOf K)] ?_ ZP.out ?_; (focus (intro W; go_simp; done)); go_simp)
    | (refine quiet_run (.bool false) ?_ ?_; (focus (intro W hW; go_simp; done)); go_simp)
    | (refine quiet_run (.int .i64 0) ?_ ?_; (focus (intro W hW; go_simp; done)); go_simp)); go_big_quiet_on))
  refine wpQuiet_nil ?_
  intro w5 hw
  have B5 := hidrg_ (show Below w4.heap.size w4 w5 from hw)
  clear hw
  refine hKK _ _ ?_
  clear ZP ZN ZR
  have K5 := hidrg_ (ZK.out w5 B5.out)
  have X5 := hidrg_ (X1.out.trans ((B4.out.trans (B5.out.mono B4.out.size)).mono X1.out.size))
  clear ZK T1 G1 K1 X1 B4
  go_upto_region 6 with fail
  rcases HOR.out with ⟨hbad, rfl, rfl⟩ | ⟨hok, rfl, g, rfl, hri⟩
  · clear HOR
    unfold okR at hbad
    by_cases h1 : z1 < 1
    · have t1 : z1 < 1 := h1
      clear hbad h1
      go_wp2
      go_ret
      exact ⟨rfl, by first | exact X5.out | (rw [← hgk]; exact X5.out)⟩
    by_cases h2 : 8 < z1
    · have t1 : ¬ z1 < 1 := h1
      have t2 : 8 < z1 := h2
      clear hbad h1 h2
      go_wp2
      go_ret
      exact ⟨rfl, by first | exact X5.out | (rw [← hgk]; exact X5.out)⟩
    by_cases h3 : z2 < 1
    · have t1 : ¬ z1 < 1 := h1
      have t2 : ¬ 8 < z1 := h2
      have t3 : z2 < 1 := h3
      clear hbad h1 h2 h3
      go_wp2
      go_ret
      exact ⟨rfl, by first | exact X5.out | (rw [← hgk]; exact X5.out)⟩
    have t1 : ¬ z1 < 1 := h1
    have t2 : ¬ 8 < z1 := h2
    have t3 : ¬ z2 < 1 := h3
    have t4 : 64 < z2 := by omega
    clear hbad h1 h2 h3
    go_wp2
    go_ret
    exact ⟨rfl, by first | exact X5.out | (rw [← hgk]; exact X5.out)⟩
  · obtain ⟨q1, q2, q3, q4⟩ := hok
    obtain ⟨n, rfl⟩ : ∃ n : Nat, z1 = (n : Int) := ⟨z1.toNat, by omega⟩
    obtain ⟨k, rfl⟩ : ∃ k : Nat, z2 = (k : Int) := ⟨z2.toNat, by omega⟩
    rw [Int.toNat_natCast, Int.toNat_natCast] at hri
    have n8 : n ≤ 8 := by omega
    have k64 : k ≤ 64 := by omega
    have t1 : ¬ (n : Int) < 1 := by omega
    have t2 : ¬ 8 < (n : Int) := by omega
    have t3 : ¬ (k : Int) < 1 := by omega
    have t4 : ¬ 64 < (k : Int) := by omega
    have HS := hidrg_ (show Srt ltP (ringL plcS n k) from ringL_srt _ _ _)
    have HL6 := hidrg_ (show (ringL plcS n k).length ≤ 1000000 by
      rw [ringL_len]
      have : n * k ≤ 8 * 64 := Nat.mul_le_mul n8 k64
      omega)
    have HWL := hidrg_ (show (walkV (plB K) (ringL plcS n k)).length = n from walk_len (plc := plcS) _ (by omega))
    have HRF := hidrg_ (show walkV (plB K) (ringL plcS n k) = refW (nearK K k) n from walk_ref (by omega) (plB_lt _) plcS_lt)
    have RI5 := hidrg_ (hri.below B5.out)
    have cr := refwalk_any w5 K HK.out n k n8 k64
    rw [← HRF.out] at cr
    obtain ⟨L, hL⟩ : ∃ L, ringL plcS n k = L := ⟨_, rfl⟩
    rw [hL] at HS HL6 HWL RI5 cr
    obtain ⟨ws, hws⟩ : ∃ x, walkV (plB K) L = x := ⟨_, rfl⟩
    rw [hws] at HWL cr
    unfold NewZ at cr
    rw [HWL.out] at cr
    have HWS := hidrg_ hws
    have sl := fun W => slice_allB gk W
    have hcv := conv_strn (rd_bk K5.out) 32 32 HK.out
    have N1 := hidrg_ (show 1 ≤ n by omega)
    clear HOR hri hL hws HRF q1 q2 q3 q4
    go_upto_region 12 with (first
      | (go_at_call 13; ((with_reducible refine cr.mono ?_); clear cr; rintro e w6 ⟨A6, c6, rfl, ho, hb⟩; have CAP := OwnZ.cap ho; have X6 := hidrg_ (X5.out.trans (hb.mono X5.out.size)); have K6 := hidrg_ (K5.out.below hb K5.out.lt); have R6 := hidrg_ (RI5.out.below hb); have Z6 := hidrg_ ho.rd.1; have cw := walk_any w6 g L R6.out HS.out HL6.out K HK.out; rw [HWS.out] at cw; unfold NewZ at cw; rw [HWL.out] at cw; clear ho hb hcv))
      | (refine wpList_load_rowWr (by go_simp) 23 (.tmp 5) rfl gk rfl 23 (rowOf K) K6.out _ Tryd.underlying23 rfl KL.out ?_)
      | (go_at_call 12; ((with_reducible refine cw.mono ?_); clear cw; rintro e w7 ⟨A7, c7, rfl, ho, hb⟩; have B7 := hidrg_ hb; have cs : Calls Tryd.prog 14 #[.slice A7 n c7, .slice A6 n c6] w7 (SaZ w7 true) := (by have h := sameZ_any w7 A7 A6 n c7 n c6 ws ws HWL.out HWL.out ho.rd.1 ((Z6.out.below hb).more hb.size) (by omega); rw [show decide (ws = ws) = true from decide_eq_true rfl] at h; exact h); clear ho hb))
      | (go_at_call 14; ((with_reducible refine cs.mono ?_); clear cs; rintro e w8 ⟨rfl, hb⟩; have B8 := hidrg_ (B7.out.trans (hb.mono B7.out.size)); clear hb)))
    clear t1 t2 t3 t4 sl B5 K5 RI5 B7
    go_loopw [14] (fun i wr => ∃ z : Int, i = .int .i64 z ∧ -1 ≤ z ∧ z ≤ 10 ∧ Hid (Below w6.heap.size w6 wr)) (fun i _ => (10 - intOf i).toNat)
    case atStart => exact ⟨-1, rfl, by omega, by omega, B8⟩
    case round =>
      clear B8
      obtain ⟨z, rfl, hz1, hz2, HB⟩ := hrel
      by_cases hlt : z ≤ 9
      · have tl : z ≤ 9 := hlt
        have K9 := hidrg_ (K6.out.below HB.out K6.out.lt)
        have R9 := hidrg_ (R6.out.below HB.out)
        have wz : IntKind.i64.wrap (z + 1) = z + 1 := IntWalk.i64_in _ (by omega)
        by_cases hg : 1 ≤ z ∧ z ≤ (n : Int)
        · obtain ⟨hga, hgb⟩ := hg
          have ta : ¬ z < 1 := by omega
          have tb : ¬ (n : Int) < z := by omega
          obtain ⟨q, hq⟩ : ∃ q : Nat, z = (q : Int) := ⟨z.toNat, by omega⟩
          have cp := prefer_ok wr g L R9.out HS.out HL6.out K HK.out ws HWS.out q z hq (by omega) (by rw [HWL.out]; omega) (by rw [HWL.out]; omega)
          have so := fun W => sliceZ_to A6 n c6 z q hq (by omega) W
          have Z9 := hidrg_ ((Z6.out.below HB.out).more HB.out.size)
          have q0 : 0 ≤ z := by omega
          have qn : q ≤ n := by omega
          clear hq
          go_wp2_with (first
            | (refine wpList_load_row rfl 23 (.tmp 5) rfl gk rfl 23 (rowOf K) (0, 0) _ K9.out Tryd.underlying23 rfl KL.out ?_)
            | (go_at_call 8; ((with_reducible refine cp.mono ?_); clear cp; rintro e wa ⟨Aa, ca, rfl, hrd, hb⟩; have Ba := hidrg_ (HB.out.trans (hb.mono HB.out.size)); have cs : Calls Tryd.prog 14 #[.slice Aa q ca, .slice A6 q c6] wa (SaZ wa true) := (by have h := sameZ_any wa Aa A6 q ca q c6 (ws.take q) (ws.take q) (by rw [List.length_take, HWL.out]; omega) (by rw [List.length_take, HWL.out]; omega) hrd (((Z9.out.below hb).more hb.size).take _) (by omega); rw [show decide (ws.take q = ws.take q) = true from decide_eq_true rfl] at h; exact h); clear hb hrd))
            | (go_at_call 14; ((with_reducible refine cs.mono ?_); clear cs; rintro e wb ⟨rfl, hb⟩; have Bb := hidrg_ (Ba.out.trans (hb.mono Ba.out.size)); clear hb)))
          go_roundw
          case rel => exact ⟨z + 1, by go_num, by omega, by omega, Bb⟩
          case measure => simp [intOf]; omega
        · have cp := prefer_bad wr g L R9.out HS.out HL6.out K HK.out ws HWS.out z (by rw [HWL.out]; exact hg) (by rw [HWL.out]; omega)
          by_cases ha : z < 1
          · have ta : z < 1 := ha
            clear hg ha
            go_wp2_with (first
              | (refine wpList_load_row rfl 23 (.tmp 5) rfl gk rfl 23 (rowOf K) (0, 0) _ K9.out Tryd.underlying23 rfl KL.out ?_)
              | (go_at_call 8; ((with_reducible refine cp.mono ?_); clear cp; rintro e wa ⟨Aa, ca, rfl, hb⟩; have Ba := hidrg_ (HB.out.trans (hb.mono HB.out.size)); clear hb)))
            go_roundw
            case rel => exact ⟨z + 1, by go_num, by omega, by omega, Ba⟩
            case measure => simp [intOf]; omega
          · have ta : ¬ z < 1 := ha
            have tb : (n : Int) < z := by omega
            clear hg ha
            go_wp2_with (first
              | (refine wpList_load_row rfl 23 (.tmp 5) rfl gk rfl 23 (rowOf K) (0, 0) _ K9.out Tryd.underlying23 rfl KL.out ?_)
              | (go_at_call 8; ((with_reducible refine cp.mono ?_); clear cp; rintro e wa ⟨Aa, ca, rfl, hb⟩; have Ba := hidrg_ (HB.out.trans (hb.mono HB.out.size)); clear hb)))
            go_roundw
            case rel => exact ⟨z + 1, by go_num, by omega, by omega, Ba⟩
            case measure => simp [intOf]; omega
      · have tl : ¬ z ≤ 9 := hlt
        go_wp2
        go_ret
        exact ⟨rfl, by first | exact X6.out.trans (HB.out.mono X6.out.size) | (rw [← hgk]; exact X6.out.trans (HB.out.mono X6.out.size))⟩

theorem laid_met3 (os : Os) : laidMet Tryd.prog [("casket/sha2.roundWords", Rows.laid_casket_sha2_roundWords)] ((laidWorld os).forCall (fun _ _ => 0) ⟨#[], #[.int .i64 0, .int .i64 0, .agg (rowOf (List.replicate 32 0))], []⟩).memory :=
  laidMet_of_run' 8 (by kernel_rfl) (by kernel_rfl)

/-- What the walk gives, for every argument and every world in which the constants lie. -/
theorem contract (H : Type) (enc : TypeId × Value → H) (W : World) (base : Nat) (args : Array Value) (ds gs : List (DataW H)) (before : List MemPlace)
    (hval : ∀ (j : Nat) t v, Tryd.f3.params[j]? = some t → args[j]? = some v → Value.okWide Tryd.prog W .any base t v)
    (hW : DataW.Whole enc Tryd.prog Tryd.f3.params.toList Rows.ringWalksSpec.vars false W args.toList ds gs before) (hL : laidMetH Tryd.prog Rows.ringWalksRow.laid W) :
    Calls Tryd.prog 3 args W fun e W' => ∃ v, e = .returned v ∧ Rows.ringWalksSpec.post enc Tryd.prog Tryd.f3 false true false false W args v W' := by
  obtain ⟨ht, hg1⟩ := tab_of hL
  have hW' := hW
  obtain ⟨p, q, hA0, hV, rfl, hfz, hnd⟩ := hW
  have hA : DataW.TrodAll enc Tryd.prog W 0 (fun _ => true) true Tryd.f3.params.toList args.toList ds p := hA0
  rw [Tryd.params3] at hA hval
  obtain ⟨v0, vs0, d0, ds0, p0, q0, hargs, rfl, rfl, h0, r0⟩ := trodAll_cons hA
  obtain ⟨v1, vs1, d1, ds1, p1, q1, rfl, rfl, rfl, h1, r1⟩ := trodAll_cons r0
  obtain ⟨v2, vs2, d2, ds2, p2, q2, rfl, rfl, rfl, h2, r2⟩ := trodAll_cons r1
  obtain ⟨rfl, rfl, rfl⟩ := trodAll_nil r2
  obtain rfl : args = #[v0, v1, v2] := by cases args; simp_all
  obtain ⟨rfl, rfl⟩ := trodVars_none hV
  obtain ⟨a0, rfl, rfl, rfl, y0⟩ := open_int Tryd.underlying3 (hval 0 3 v0 rfl rfl) h0
  obtain ⟨a1, rfl, rfl, rfl, y1⟩ := open_int Tryd.underlying3 (hval 1 3 v1 rfl rfl) h1
  obtain ⟨K, rfl, hK⟩ := open_arr8 Tryd.underlying23 Tryd.underlying5 (by kernel_rfl) (by kernel_rfl) (hval 2 23 v2 rfl rfl) h2
  refine (walk W a0 a1 K hK ht hg1).mono fun e W' ⟨he, hg⟩ => ⟨_, he, ?_⟩
  exact law_post laidOut_ (of_decide_eq_true (by kernel_rfl)) rfl rfl Tryd.underlying4 rfl hW' hg

theorem reads (os : Os) {H : Type} (enc : TypeId × Value → H) : ∃ places, DataW.whole enc Tryd.prog ((laidWorld os).forCall (fun _ _ => 0) ⟨#[], #[.int .i64 0, .int .i64 0, .agg (rowOf (List.replicate 32 0))], []⟩).memory Tryd.f3.params.toList Rows.ringWalksSpec.vars false #[Value.int .i64 0, .int .i64 0, .agg (rowOf (List.replicate 32 0))].toList 8 = some ([.lit (.int .i64 0), .lit (.int .i64 0), .agg [.lit (.int .u8 0), .lit (.int .u8 0), .lit (.int .u8 0), .lit (.int .u8 0), .lit (.int .u8 0), .lit (.int .u8 0), .lit (.int .u8 0), .lit (.int .u8 0), .lit (.int .u8 0), .lit (.int .u8 0), .lit (.int .u8 0), .lit (.int .u8 0), .lit (.int .u8 0), .lit (.int .u8 0), .lit (.int .u8 0), .lit (.int .u8 0), .lit (.int .u8 0), .lit (.int .u8 0), .lit (.int .u8 0), .lit (.int .u8 0), .lit (.int .u8 0), .lit (.int .u8 0), .lit (.int .u8 0), .lit (.int .u8 0), .lit (.int .u8 0), .lit (.int .u8 0), .lit (.int .u8 0), .lit (.int .u8 0), .lit (.int .u8 0), .lit (.int .u8 0), .lit (.int .u8 0), .lit (.int .u8 0)]], [], places) :=
  ⟨[], by kernel_rfl⟩

set_option maxRecDepth 100000 in
theorem lifted (os : Os) (started : os.Started) (H : Type) (enc : TypeId × Value → H) (F : Stop.Interp) :
    ReturnsInHanded {} Tryd.checked os 3 .any ((OpenSpec.ofChange Rows.ringWalksSpec).preRow enc Tryd.prog Tryd.f3 Rows.ringWalksRow.domain false Rows.ringWalksRow.laid) (((OpenSpec.ofChange Rows.ringWalksSpec).at F).post enc Tryd.prog Tryd.f3 false true false false) := by
  obtain ⟨places, hx⟩ := reads os enc
  refine returnsInHanded_of_row (C := Tryd.checked) (s := OpenSpec.ofChange Rows.ringWalksSpec) own_ started (by kernel_rfl) Tryd.func3
    (witness_row_at (enc := enc) (C := Tryd.checked) false (laidWorld os) #[.int .i64 0, .int .i64 0, .agg (rowOf (List.replicate 32 0))] rfl (by kernel_rfl) (by kernel_rfl) (by kernel_rfl)
      (OpenSpec.preRow_of_cond 8 hx (by kernel_rfl) (fun k hk => by cases hk) (by kernel_rfl) (laid_met3 os))) ?_
  intro W base args ds gs before hval hW _ _ _ hL _ _
  exact contract H enc W base args ds gs before hval hW hL

theorem said : Rows.RingWalksSaid :=
  OpenClaim.holds_of_cond 3 Tryd.f3 rfl rfl rfl rfl rfl rfl rfl ⟨rfl, rfl, rfl, rfl, rfl⟩ rfl rfl rfl rfl rfl (by kernel_rfl) Tryd.func3 (by kernel_rfl)
    (of_decide_eq_true (by kernel_rfl)) (by unfold Func.isWrapper; first | (rw [if_pos (by decide +kernel)]; kernel_rfl) | (rw [if_neg (by decide +kernel)]; exact ⟨rfl, rfl⟩))
    (fun os started H enc _ F => by rw [OpenClaim.pre_eq_preRow]; exact lifted os started H enc F)

/-- No parameter wants a stand-in; the program's own looks are off: what the card asks. -/
theorem plain (f : FuncId) (fn : Func) (hf : Tryd.pinned.checked.prog.funcNamed "casket/casketlaw21.RingWalks" = some f) (hfn : Tryd.pinned.checked.prog.funcs[f]? = some fn) :
    false = Tryd.pinned.checked.prog.looks [] ∧ ∀ (j : Nat) t, fn.params[j]? = some t → Tryd.pinned.checked.prog.wantsStandIn t = false := by
  obtain rfl : f = 3 := Option.some.inj ((show Tryd.prog.funcNamed "casket/casketlaw21.RingWalks" = some 3 by kernel_rfl).symm.trans hf) |>.symm
  obtain rfl : fn = Tryd.f3 := (Option.some.inj (Tryd.func3.symm.trans hfn)).symm
  refine ⟨by kernel_rfl, fun j t ht => ?_⟩
  rw [Tryd.params3] at ht
  have hm := Array.mem_of_getElem? ht
  simp only [List.mem_toArray, List.mem_cons, List.not_mem_nil, or_false] at hm
  rcases hm with rfl | rfl | rfl
  · exact (show Tryd.prog.wantsStandIn 3 = false by kernel_rfl)
  · exact (show Tryd.prog.wantsStandIn 3 = false by kernel_rfl)
  · exact (show Tryd.prog.wantsStandIn 23 = false by kernel_rfl)

/-- The card. -/
theorem proved : Rows.RingWalksCardSaid :=
  Claim7.holds_tied_plain_at .later [] _ _ _ _ said (fun _ h => by cases h) (by kernel_rfl) (fun _ h => by cases h) ringWalks_row_tie rfl ⟨rfl, rfl⟩ (by kernel_rfl) rfl plain (by kernel_rfl)
#print axioms proved
end Go.Proofs.YtkhmghmilnfngaaDoor.ringWalks
