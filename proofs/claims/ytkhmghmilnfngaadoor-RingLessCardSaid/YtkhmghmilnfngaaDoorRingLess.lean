/-
  Proved: for all numbers and keys RingLess answers true: without the last replica the order of the others is the same. No condition.
-/
import Derived.Test.YtkhmghmilnfngaaDoorRi
namespace Go.Proofs.YtkhmghmilnfngaaDoor.ringLess
set_option maxRecDepth 100000
open Go.ChangeShapes Go.WideShapes Go.ChangeAt Go.RowKit
set_option linter.unusedVariables false
set_option linter.unusedSimpArgs false

theorem hidrg_ {p : Prop} (h : p) : Hid p := h
def flK (ws : List Nat) (m k : Nat) : List Nat := (ws.take k).filter (fun z => decide (z ≠ m))
theorem flK_yes {ws : List Nat} {m k z : Nat} (h : ws.take (k + 1) = ws.take k ++ [z]) (hz : z ≠ m) : flK ws m (k + 1) = flK ws m k ++ [z] := by
  unfold flK
  rw [h, List.filter_append]
  simp [hz]
theorem flK_no {ws : List Nat} {m k z : Nat} (h : ws.take (k + 1) = ws.take k ++ [z]) (hz : z = m) : flK ws m (k + 1) = flK ws m k := by
  unfold flK
  rw [h, List.filter_append]
  simp [hz]
set_option maxRecDepth 100000 in
set_option maxHeartbeats 8000000 in
theorem walk (w : World) (z1 z2 : Int) (K : List UInt8) (hK : K.length = 32) (ht : Tab w) (hg1 : 0 < w.heap.size) :
    Calls Tryd.prog 5 #[.int .i64 z1, .int .i64 z2, .agg (rowOf K)] w fun e w' => e = .returned (.bool true) ∧ Below w.heap.size w w' := by
  obtain ⟨U1, R1, H1⟩ := restY z1 7 (by omega) (by omega)
  obtain ⟨U2, R2, H2⟩ := restY z2 64 (by omega) (by omega)
  obtain ⟨m, hm⟩ : ∃ m, R1 + 1 = m := ⟨_, rfl⟩
  obtain ⟨n, hn⟩ : ∃ n, m + 1 = n := ⟨_, rfl⟩
  obtain ⟨k, hk⟩ : ∃ k, R2 + 1 = k := ⟨_, rfl⟩
  have u1 := H1.u
  have t1 : (U1 : Int) % 7 = (R1 : Int) := H1.r
  have i1 := H1.wi
  have u2 := H2.u
  have t2 : (U2 : Int) % 64 = (R2 : Int) := H2.r
  have i2 := H2.wi
  have n8 : n ≤ 8 := by have := H1.lt; omega
  have wn : IntKind.i64.wrap (2 + (R1 : Int)) = (n : Int) := by rw [IntKind.wrap_i64]; omega
  have wk : IntKind.i64.wrap (1 + (R2 : Int)) = (k : Int) := by have := H2.lt; rw [IntKind.wrap_i64]; omega
  have wm : IntKind.i64.wrap ((n : Int) - 1) = (m : Int) := by rw [IntKind.wrap_i64]; omega
  have wn' : 2 + (R1 : Int) = (n : Int) := by omega
  have wk' : 1 + (R2 : Int) = (k : Int) := by omega
  have wm' : (n : Int) - 1 = (m : Int) := by omega
  obtain ⟨gk, hgk⟩ : ∃ g, w.heap.size = g := ⟨_, rfl⟩
  obtain ⟨w1, hw1⟩ : ∃ W, w.alloc (.cells (rowOf K) 23) = W := ⟨_, rfl⟩
  have B1 := hidrg_ (show Below w.heap.size w w1 by rw [← hw1]; exact (Below.refl _ _).alloc (Nat.le_refl _) _)
  have K1 := hidrg_ (show Bk w1 gk 23 (rowOf K) by rw [← hw1, ← hgk]; exact Bk.new w _ _)
  have T1 := hidrg_ (show Tab w1 from fun t h => (B1.out.cell hg1).trans (ht t h))
  have G1 := hidrg_ (show 0 < w1.heap.size from Nat.lt_of_lt_of_le hg1 B1.out.size)
  have KL := hidrg_ (iBlind K hK)
  have HK := hidrg_ hK
  have cn := new_any w1 n k (by omega) n8 (by omega) (by have := H2.lt; omega) T1.out G1.out
  have cm := fun W (ht : Tab W) hg => new_any W m k (by omega) (by omega) (by omega) (by have := H2.lt; omega) ht hg
  unfold NewRP at cn cm
  have HS := hidrg_ (show Srt ltP (ringL plcS n k) from ringL_srt _ _ _)
  have HS2 := hidrg_ (show Srt ltP (ringL plcS m k) from ringL_srt _ _ _)
  have HL6 := hidrg_ (show (ringL plcS n k).length ≤ 1000000 by
    rw [ringL_len]
    have : n * k ≤ 8 * 64 := Nat.mul_le_mul n8 (by have := H2.lt; omega)
    omega)
  have HL62 := hidrg_ (show (ringL plcS m k).length ≤ 1000000 by
    rw [ringL_len]
    have : m * k ≤ 8 * 64 := Nat.mul_le_mul (by omega) (by have := H2.lt; omega)
    omega)
  have HWL := hidrg_ (show (walkV (plB K) (ringL plcS n k)).length = n from walk_len (plc := plcS) _ (by omega))
  have HWM := hidrg_ (show (walkV (plB K) (ringL plcS m k)).length = m from walk_len (plc := plcS) _ (by omega))
  have HFL := hidrg_ (show (walkV (plB K) (ringL plcS n k)).filter (fun z => decide (z ≠ m)) = walkV (plB K) (ringL plcS m k) by rw [← hn]; exact walk_less plcS m k _)
  obtain ⟨L, hL⟩ : ∃ L, ringL plcS n k = L := ⟨_, rfl⟩
  obtain ⟨M, hM⟩ : ∃ L, ringL plcS m k = L := ⟨_, rfl⟩
  rw [hL] at HS HL6 HWL HFL cn
  rw [hM] at HS2 HL62 HWM HFL
  simp only [hM] at cm
  obtain ⟨ws, hws⟩ : ∃ x, walkV (plB K) L = x := ⟨_, rfl⟩
  obtain ⟨vs, hvs⟩ : ∃ x, walkV (plB K) M = x := ⟨_, rfl⟩
  rw [hws] at HWL HFL
  rw [hvs] at HWM HFL
  have HWS := hidrg_ hws
  have HVS := hidrg_ hvs
  have HMN := hidrg_ hn
  clear hK ht hm hn hk H1 H2 hL hM hws hvs
  go_enter Tryd.func5, Tryd.ntmps5
  go_upto_region 8 with (first
    | (go_at_call 10; (first
      | ((with_reducible refine cn.mono ?_); clear cn; rintro e w2 ⟨g, rfl, hri, hb⟩; have B2 := hidrg_ (B1.out.trans (hb.mono B1.out.size)); have K2 := hidrg_ (K1.out.below hb K1.out.lt); have R2 := hidrg_ hri; have T2 := hidrg_ (show Tab w2 from fun t h => (hb.cell G1.out).trans (T1.out t h)); have G2 := hidrg_ (Nat.lt_of_lt_of_le G1.out hb.size); have cm2 := cm w2 T2.out G2.out; clear cm hri hb)
      | ((with_reducible refine cm2.mono ?_); clear cm2; rintro e w3 ⟨g2, rfl, hri, hb⟩; have B3 := hidrg_ (B2.out.trans (hb.mono B2.out.size)); have K3 := hidrg_ (K2.out.below hb K2.out.lt); have R3 := hidrg_ (R2.out.below hb); have Q3 := hidrg_ hri; have T3 := (show Tab w3 from fun t h => (hb.cell G2.out).trans (T2.out t h)); have cr := rings_any w3 T3 (Nat.lt_of_lt_of_le G2.out hb.size); clear hri hb T3)))
    | (go_at_call 11; ((with_reducible refine cr.mono ?_); clear cr; rintro e w4 ⟨rfl, hb⟩; have B4 := hidrg_ (B3.out.trans (hb.mono B3.out.size)); have K4 := hidrg_ (K3.out.below hb K3.out.lt); have R4 := hidrg_ (R3.out.below hb); have Q4 := hidrg_ (Q3.out.below hb); have cw := walk_any w4 g L R4.out HS.out HL6.out K HK.out; rw [HWS.out] at cw; unfold NewZ at cw; rw [HWL.out] at cw; clear hb))
    | (refine wpList_load_row rfl 23 (.tmp 5) rfl gk rfl 23 (rowOf K) (0, 0) _ K4.out Tryd.underlying23 rfl KL.out ?_)
    | (go_at_call 12; ((with_reducible refine cw.mono ?_); clear cw; rintro e w5 ⟨A, c, rfl, ho, hb⟩; have B5 := hidrg_ (B4.out.trans (hb.mono B4.out.size)); have K5 := hidrg_ (K4.out.below hb K4.out.lt); have Q5 := hidrg_ (Q4.out.below hb); have Z5 := hidrg_ ho.rd.1; clear ho hb)))
  clear B1 B2 B3 B4 K1 K2 K3 K4 R2 R3 R4 Q3 Q4 T1 T2 G1 G2 u1 t1 i1 u2 t2 i2 wn wk wn' wk' hgk
  go_wp2
  go_loopw [14, 13] (fun i o wr => ∃ (k : Nat) (A5 : Option Addr) (c5 l : Nat), i = .int .i64 k ∧ k ≤ n ∧ o = .slice A5 l c5 ∧ l ≤ k ∧ Hid ((flK ws m k).length = l) ∧ Hid (OwnZ wr w5.heap.size (.slice A5 l c5) (flK ws m k)) ∧ Hid (Below w5.heap.size w5 wr)) (fun i _ _ => n - (intOf i).toNat)
  case atStart => exact ⟨0, none, 0, 0, rfl, Nat.zero_le _, rfl, Nat.le_refl _, hidrg_ rfl, hidrg_ (OwnZ.nil_ _ _), hidrg_ (Below.refl _ _)⟩
  case round =>
    obtain ⟨k, A5, c5, l, rfl, hk, rfl, hlk, HFK, HO, HB⟩ := hrel
    by_cases hlt : k < n
    · have tl : (k : Int) < (n : Int) := by omega
      obtain ⟨z, hz, hzm, hzt⟩ := getD_of (l := ws) (k := k) (by rw [HWL.out]; exact hlt)
      obtain ⟨b, off, rfl, hbl, hc⟩ := (Z5.out.below HB.out).at_ (k := k) (by rw [HWL.out]; exact hlt)
      rw [hz] at hc
      by_cases hzz : z = m
      · have te : ((z : Int) == (m : Int)) = true := by simp; omega
        have te2 : ((z : Int) != (m : Int)) = false := by simp; omega
        have HF2 := hidrg_ (flK_no hzt hzz)
        clear hz hzm hzt hzz
        go_wp2
        go_roundw
        case rel => exact ⟨k + 1, A5, c5, l, by go_num, by omega, rfl, by omega, hidrg_ (by rw [HF2.out]; exact HFK.out), hidrg_ (by rw [HF2.out]; exact HO.out), HB⟩
        case measure => simp [intOf]; omega
      · have te : ((z : Int) == (m : Int)) = false := by simp; omega
        have te2 : ((z : Int) != (m : Int)) = true := by simp; omega
        have HF2 := hidrg_ (flK_yes hzt hzz)
        have O5 := hidrg_ (HO.out.alloc (.cells #[.int .i64 (z : Int)] 3))
        have RY := hidrg_ (rdz_one wr z)
        have hl1 : (flK ws m k).length + 1 ≤ 1000000 := by rw [HFK.out]; omega
        have hb1 : w5.heap.size ≤ (wr.alloc (.cells #[.int .i64 (z : Int)] 3)).heap.size := by simp; have := HB.out.size; omega
        clear hz hzm hzt hzz
        go_wp2_with (at_builtin; refine wpList_appZ rfl (.tmp 64) (.tmp 69) rfl O5.out rfl 1 1 rfl RY.out rfl hl1 hb1 ?_; intro A6 c6 w6 h1 h2 h3; rw [HFK.out] at h1 h3 ⊢; have O6 := hidrg_ h1; have BA := HB.out.alloc HB.out.size (.cells #[.int .i64 (z : Int)] 3); have B6 := hidrg_ (BA.grown h2 BA.size (fun k hk => (World.ownsRow.lt O5.out k hk).1)); clear h1 h2 h3 BA)
        go_roundw
        case rel => exact ⟨k + 1, A6, c6, l + 1, by go_num, by omega, rfl, by omega, hidrg_ (by rw [HF2.out, List.length_append, HFK.out]; rfl), hidrg_ (by rw [HF2.out]; exact O6.out), B6⟩
        case measure => simp [intOf]; omega
    · have tl : ¬ (k : Int) < (n : Int) := by omega
      have HE := hidrg_ (show flK ws m k = vs by unfold flK; rw [List.take_of_length_le (by rw [HWL.out]; omega)]; exact HFL.out)
      have K7 := hidrg_ (K5.out.below HB.out K5.out.lt)
      have cw := walk_any wr g2 M (Q5.out.below HB.out) HS2.out HL62.out K HK.out
      rw [HVS.out] at cw
      unfold NewZ at cw
      rw [HWM.out] at cw
      go_wp2_with (first
        | (refine wpList_load_rowWr (by go_simp) 23 (.tmp 5) rfl gk rfl 23 (rowOf K) K7.out _ Tryd.underlying23 rfl KL.out ?_)
        | (go_at_call 12; (go_loud (refine cw.mono ?_; clear cw; rintro e w8 ⟨A8, c8, rfl, ho, hb⟩; have B8 := hidrg_ (HB.out.trans (hb.mono HB.out.size)); have hv := HFK.out; rw [HE.out] at hv; have cs : Calls Tryd.prog 14 #[.slice A5 l c5, .slice A8 m c8] w8 (SaZ w8 true) := (by have h := sameZ_any w8 A5 A8 l c5 m c8 vs vs hv HWM.out (by have h2 := (HO.out.rd.1.below hb).more hb.size; rw [HE.out] at h2; exact h2) ho.rd.1 (by omega); rw [show decide (vs = vs) = true from decide_eq_true rfl] at h; exact h); clear hb ho hv)))
        | (go_at_call 14; (go_loud (refine cs.mono ?_; clear cs; rintro e w9 ⟨rfl, hb⟩; have B9 := hidrg_ (B8.out.trans (hb.mono B8.out.size)); clear hb))))
      go_ret
      exact ⟨rfl, B5.out.trans (B9.out.mono B5.out.size)⟩

theorem laid_met3 (os : Os) : laidMet Tryd.prog [("casket/sha2.roundWords", Rows.laid_casket_sha2_roundWords)] ((laidWorld os).forCall (fun _ _ => 0) ⟨#[], #[.int .i64 0, .int .i64 0, .agg (rowOf (List.replicate 32 0))], []⟩).memory :=
  laidMet_of_run' 8 (by kernel_rfl) (by kernel_rfl)

/-- What the walk gives, for every argument and every world in which the constants lie. -/
theorem contract (H : Type) (enc : TypeId × Value → H) (W : World) (base : Nat) (args : Array Value) (ds gs : List (DataW H)) (before : List MemPlace)
    (hval : ∀ (j : Nat) t v, Tryd.f5.params[j]? = some t → args[j]? = some v → Value.okWide Tryd.prog W .any base t v)
    (hW : DataW.Whole enc Tryd.prog Tryd.f5.params.toList Rows.ringLessSpec.vars false W args.toList ds gs before) (hL : laidMetH Tryd.prog Rows.ringLessRow.laid W) :
    Calls Tryd.prog 5 args W fun e W' => ∃ v, e = .returned v ∧ Rows.ringLessSpec.post enc Tryd.prog Tryd.f5 false true false false W args v W' := by
  obtain ⟨ht, hg1⟩ := tab_of hL
  have hW' := hW
  obtain ⟨p, q, hA0, hV, rfl, hfz, hnd⟩ := hW
  have hA : DataW.TrodAll enc Tryd.prog W 0 (fun _ => true) true Tryd.f5.params.toList args.toList ds p := hA0
  rw [Tryd.params5] at hA hval
  obtain ⟨v0, vs0, d0, ds0, p0, q0, hargs, rfl, rfl, h0, r0⟩ := trodAll_cons hA
  obtain ⟨v1, vs1, d1, ds1, p1, q1, rfl, rfl, rfl, h1, r1⟩ := trodAll_cons r0
  obtain ⟨v2, vs2, d2, ds2, p2, q2, rfl, rfl, rfl, h2, r2⟩ := trodAll_cons r1
  obtain ⟨rfl, rfl, rfl⟩ := trodAll_nil r2
  obtain rfl : args = #[v0, v1, v2] := by cases args; simp_all
  obtain ⟨rfl, rfl⟩ := trodVars_none hV
  obtain ⟨a0, rfl, rfl, rfl, y0⟩ := open_int Tryd.underlying3 (hval 0 3 v0 rfl rfl) h0
  obtain ⟨a1, rfl, rfl, rfl, y1⟩ := open_int Tryd.underlying3 (hval 1 3 v1 rfl rfl) h1
  obtain ⟨K, rfl, hK⟩ := open_arr8 Tryd.underlying23 Tryd.underlying5 (by kernel_rfl) (by kernel_rfl) (hval 2 23 v2 rfl rfl) h2
  refine (walk W a0 a1 K hK ht hg1).mono fun e W' ⟨he, hg⟩ => ⟨_, he, ?_⟩
  exact law_post laidOut_ (of_decide_eq_true (by kernel_rfl)) rfl rfl Tryd.underlying4 rfl hW' hg

theorem reads (os : Os) {H : Type} (enc : TypeId × Value → H) : ∃ places, DataW.whole enc Tryd.prog ((laidWorld os).forCall (fun _ _ => 0) ⟨#[], #[.int .i64 0, .int .i64 0, .agg (rowOf (List.replicate 32 0))], []⟩).memory Tryd.f5.params.toList Rows.ringLessSpec.vars false #[Value.int .i64 0, .int .i64 0, .agg (rowOf (List.replicate 32 0))].toList 8 = some ([.lit (.int .i64 0), .lit (.int .i64 0), .agg [.lit (.int .u8 0), .lit (.int .u8 0), .lit (.int .u8 0), .lit (.int .u8 0), .lit (.int .u8 0), .lit (.int .u8 0), .lit (.int .u8 0), .lit (.int .u8 0), .lit (.int .u8 0), .lit (.int .u8 0), .lit (.int .u8 0), .lit (.int .u8 0), .lit (.int .u8 0), .lit (.int .u8 0), .lit (.int .u8 0), .lit (.int .u8 0), .lit (.int .u8 0), .lit (.int .u8 0), .lit (.int .u8 0), .lit (.int .u8 0), .lit (.int .u8 0), .lit (.int .u8 0), .lit (.int .u8 0), .lit (.int .u8 0), .lit (.int .u8 0), .lit (.int .u8 0), .lit (.int .u8 0), .lit (.int .u8 0), .lit (.int .u8 0), .lit (.int .u8 0), .lit (.int .u8 0), .lit (.int .u8 0)]], [], places) :=
  ⟨[], by kernel_rfl⟩

set_option maxRecDepth 100000 in
theorem lifted (os : Os) (started : os.Started) (H : Type) (enc : TypeId × Value → H) (F : Stop.Interp) :
    ReturnsInHanded {} Tryd.checked os 5 .any ((OpenSpec.ofChange Rows.ringLessSpec).preRow enc Tryd.prog Tryd.f5 Rows.ringLessRow.domain false Rows.ringLessRow.laid) (((OpenSpec.ofChange Rows.ringLessSpec).at F).post enc Tryd.prog Tryd.f5 false true false false) := by
  obtain ⟨places, hx⟩ := reads os enc
  refine returnsInHanded_of_row (C := Tryd.checked) (s := OpenSpec.ofChange Rows.ringLessSpec) own_ started (by kernel_rfl) Tryd.func5
    (witness_row_at (enc := enc) (C := Tryd.checked) false (laidWorld os) #[.int .i64 0, .int .i64 0, .agg (rowOf (List.replicate 32 0))] rfl (by kernel_rfl) (by kernel_rfl) (by kernel_rfl)
      (OpenSpec.preRow_of_cond 8 hx (by kernel_rfl) (fun k hk => by cases hk) (by kernel_rfl) (laid_met3 os))) ?_
  intro W base args ds gs before hval hW _ _ _ hL _ _
  exact contract H enc W base args ds gs before hval hW hL

theorem said : Rows.RingLessSaid :=
  OpenClaim.holds_of_cond 5 Tryd.f5 rfl rfl rfl rfl rfl rfl rfl ⟨rfl, rfl, rfl, rfl, rfl⟩ rfl rfl rfl rfl rfl (by kernel_rfl) Tryd.func5 (by kernel_rfl)
    (of_decide_eq_true (by kernel_rfl)) (by unfold Func.isWrapper; first | (rw [if_pos (by decide +kernel)]; kernel_rfl) | (rw [if_neg (by decide +kernel)]; exact ⟨rfl, rfl⟩))
    (fun os started H enc _ F => by rw [OpenClaim.pre_eq_preRow]; exact lifted os started H enc F)

/-- No parameter wants a stand-in; the program's own looks are off: what the card asks. -/
theorem plain (f : FuncId) (fn : Func) (hf : Tryd.pinned.checked.prog.funcNamed "casket/casketlaw21.RingLess" = some f) (hfn : Tryd.pinned.checked.prog.funcs[f]? = some fn) :
    false = Tryd.pinned.checked.prog.looks [] ∧ ∀ (j : Nat) t, fn.params[j]? = some t → Tryd.pinned.checked.prog.wantsStandIn t = false := by
  obtain rfl : f = 5 := Option.some.inj ((show Tryd.prog.funcNamed "casket/casketlaw21.RingLess" = some 5 by kernel_rfl).symm.trans hf) |>.symm
  obtain rfl : fn = Tryd.f5 := (Option.some.inj (Tryd.func5.symm.trans hfn)).symm
  refine ⟨by kernel_rfl, fun j t ht => ?_⟩
  rw [Tryd.params5] at ht
  have hm := Array.mem_of_getElem? ht
  simp only [List.mem_toArray, List.mem_cons, List.not_mem_nil, or_false] at hm
  rcases hm with rfl | rfl | rfl
  · exact (show Tryd.prog.wantsStandIn 3 = false by kernel_rfl)
  · exact (show Tryd.prog.wantsStandIn 3 = false by kernel_rfl)
  · exact (show Tryd.prog.wantsStandIn 23 = false by kernel_rfl)

/-- The card. -/
theorem proved : Rows.RingLessCardSaid :=
  Claim7.holds_tied_plain_at .later [] _ _ _ _ said (fun _ h => by cases h) (by kernel_rfl) (fun _ h => by cases h) ringLess_row_tie rfl ⟨rfl, rfl⟩ (by kernel_rfl) rfl plain (by kernel_rfl)
#print axioms proved
end Go.Proofs.YtkhmghmilnfngaaDoor.ringLess
