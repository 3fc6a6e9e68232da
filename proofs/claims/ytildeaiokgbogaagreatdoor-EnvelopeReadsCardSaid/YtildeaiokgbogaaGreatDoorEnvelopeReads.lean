/-
  Proved: for all bytes EnvelopeReads answers true: the envelope is told, or that they are none's; what is taken has just its bytes. No condition.
-/
import Derived.Test.YtildeaiokgbogaaGreatDoorXX
namespace Go.Proofs.YtildeaiokgbogaaGreatDoor.envelopeReads
set_option maxRecDepth 100000
open Go.ChangeShapes Go.WideShapes Go.ChangeAt Go.RowKit
set_option linter.unusedVariables false
set_option linter.unusedSimpArgs false

theorem hid_ {p : Prop} (h : p) : Hid p := h

set_option maxRecDepth 100000 in
set_option maxHeartbeats 16000000 in
theorem walk (w : World) (A0 : Option Addr) (l0 : List UInt8) (c0 : Nat) (hr : Rd w w.heap.size A0 l0) (hlc : l0.length ≤ c0) (hcm : c0 ≤ 9223372036854775807) (ht : Tab w) (hg1 : 2 < w.heap.size) (hpt : PTab w) (hg2 : 0 < w.heap.size) :
    Calls Tryz.prog 3 #[.slice A0 l0.length c0] w fun e w' => e = .returned (.bool true) ∧ Below w.heap.size w w' := by
  obtain ⟨m, hm⟩ : ∃ m, m = min l0.length 600 := ⟨_, rfl⟩
  have hm1 := fun W => run_min2 l0.length 600 m hm W
  rw [show ((600 : Nat) : Int) = 600 from rfl] at hm1
  have hs1 := fun W => slice_to A0 l0.length c0 (m : Int) m rfl (by omega) W
  have HM0 : (l0.take 600).length = m := by rw [List.length_take, hm, Nat.min_comm]
  have HRT := hid_ (hr.take 600)
  have m600 : m ≤ 600 := by omega
  generalize l0.take 600 = t at *
  have HM := hid_ HM0
  have cr := readE_any w A0 m c0 t HM0 HRT.out (by omega)
  have HT := hid_ ht
  have HP := hid_ hpt
  have hzE := zeroE
  have hzR := zeroR
  clear hr hm HM0 ht hpt
  go_enter Tryz.func3, Tryz.ntmps3
  go_upto_region 4 with (first
    | (go_at_call 4; ((with_reducible refine cr.mono ?_); clear cr; rintro e w2 ⟨K, h, sa, sn, sc, s, ok, rfl, hK, rfl, hsc, hscm, hsr, hpr, hy, hn, hB⟩; have X2 := hid_ hB; have KL := hid_ hK; have SR2 := hid_ hsr; have PR2 := hid_ hpr; have HY := hid_ hy; have HN := hid_ hn; have HG := hid_ hB.size; clear hB hK hsr hpr hy hn hsc hscm))
    | (refine wpList_put_row rfl 30 (.tmp 3) (.tmp 17) rfl w2.heap.size (eRow K h sa s.length sc) rfl rfl 30 eRow0 (Bk.new w2 _ _) (iE _ KL.out _ _ _ _) (by rw [eRow_size _ KL.out]; exact eRow_z) (eRow_one _ _ _ _ _) ?_; intro w3 k3 g3 s3; have B3 := mark_putx w2 w3 w2.heap.size 30 eRow0 _ g3; have X3 := hid_ (X2.out.trans (B3.mono X2.out.size)); have E3 := hid_ k3; have SR3 := hid_ ((SR2.out.below B3).more B3.size); have PR3 := hid_ ((PR2.out.below B3).more B3.size); have cv := conv_strn (HRT.out.below X3.out) m c0 HM.out; have crr := refReadE_any w3 t (by rw [HM.out]; omega); clear k3 g3 s3 B3)
    | (go_at_call 5; ((with_reducible refine crr.mono ?_); clear crr cv; rintro e w4 ⟨K', h', s', ok', rfl, hy, hn, hB⟩; have X4 := hid_ (X3.out.trans (hB.mono X3.out.size)); have E4 := hid_ (E3.out.below hB E3.out.lt); have SR4 := hid_ ((SR3.out.below hB).more hB.size); have PR4 := hid_ ((PR3.out.below hB).more hB.size); have HY2 := hid_ hy; have HN2 := hid_ hn; clear hB hy hn))
    | (refine wpList_put_row rfl 35 (.tmp 5) (.tmp 23) rfl w4.heap.size (rRow K' h' s') rfl rfl 35 (rRow [] hd0 []) (Bk.new w4 _ _) (iRr _ _ _) rfl (rRow_one _ _ _) ?_; intro w5 k5 g5 s5; have B5 := mark_putx w4 w5 w4.heap.size 35 (rRow [] hd0 []) _ g5; have X5 := hid_ (X4.out.trans (B5.mono X4.out.size)); have E5 := hid_ (E4.out.below B5 E4.out.lt); have R5 := hid_ k5; have SR5 := hid_ ((SR4.out.below B5).more B5.size); have PR5 := hid_ ((PR4.out.below B5).more B5.size); clear k5 g5 s5 B5))
  clear X2 X3 X4 E3 E4 SR2 SR3 SR4 PR2 PR3 PR4 hzE hzR hm1 hs1
  obtain ⟨gE, hgE⟩ : ∃ x, w2.heap.size = x := ⟨_, rfl⟩
  obtain ⟨gR, hgR⟩ : ∃ x, w4.heap.size = x := ⟨_, rfl⟩
  rw [hgE] at E5
  rw [hgR] at R5
  simp only [hgE, hgR]
  clear hgE hgR HG
  have g15 : 2 < w5.heap.size := Nat.lt_of_lt_of_le hg1 X5.out.size
  have g25 : 0 < w5.heap.size := Nat.lt_of_lt_of_le hg2 X5.out.size
  have cs := seals_env w5 (tab_un (F := []) HT.out (Untouched.of_below X5.out) hg1 (fun hm => by cases hm)) g15 (ptab_un (F := []) HP.out (Untouched.of_below X5.out) hg2 (fun hm => by cases hm)) g25
  clear HT HP
  have hoo : ok = ok' := by
    cases ok <;> cases ok'
    · rfl
    · exact absurd (HY2.out rfl) ((HN.out rfl).2 _ _ _)
    · exact absurd (HY.out rfl) (HN2.out rfl _ _ _)
    · rfl
  subst hoo
  cases ok
  case false =>
    have hs0 := (HN.out rfl).1
    rw [hs0] at E5
    clear HY HY2 HN HN2 hs0
    go_wp2_with (go_at_call 6; ((with_reducible refine cs.mono ?_); clear cs; rintro e w6 ⟨rfl, hB⟩; have X6 := hid_ (X5.out.trans (hB.mono X5.out.size)); have k6 := (env_cells KL.out (E5.out.below hB E5.out.lt)).2.2.2.2; clear hB))
    go_ret
    exact ⟨rfl, X6.out⟩
  case true =>
    have EV := hid_ (HY.out rfl)
    have RR := evok_one (HY.out rfl) (HY2.out rfl)
    rw [RR] at R5
    clear HY HY2 HN HN2 RR
    go_upto_region 9 with (first
      | (go_at_call 6; ((with_reducible refine cs.mono ?_); clear cs; rintro e w6 ⟨rfl, hB⟩; have X6 := hid_ (X5.out.trans (hB.mono X5.out.size)); have E6 := hid_ (E5.out.below hB E5.out.lt); have R6 := hid_ (R5.out.below hB R5.out.lt); have SR6 := hid_ ((SR5.out.below hB).more hB.size); have PR6 := hid_ ((PR5.out.below hB).more hB.size); have cw := writeE_any w6 K KL.out h sa sc s EV.out.2.1 PR6.out SR6.out; rw [← EV.out.2.2, HM.out] at cw; clear hB))
      | (refine wpList_load_rowW (by go_simp) 30 (.tmp 3) rfl gE rfl 30 (eRow K h sa s.length sc) E6.out _ Tryz.underlying30 rfl (iE _ KL.out _ _ _ _) ?_)
      | (go_at_call 7; ((with_reducible refine cw.mono ?_); clear cw; rintro e w7 ⟨A7, c7, rfl, hO, hB⟩; have X7 := hid_ (X6.out.trans (hB.mono X6.out.size)); have E7 := hid_ (E6.out.below hB E6.out.lt); have R7 := hid_ (R6.out.below hB R6.out.lt); have SR7 := hid_ ((SR6.out.below hB).more hB.size); have PR7 := hid_ ((PR6.out.below hB).more hB.size); have O7 := hid_ hO.rd.1; clear hB hO)))
    clear X5 X6 E5 E6 R5 R6 SR5 SR6 PR5 PR6
    rename_i K9 hK9
    have Z1 := hid_ (show ∀ W, Below w7.heap.size w7 W → Bk W gE 30 (eRow K h sa s.length sc) from fun W hW => E7.out.below hW E7.out.lt)
    have Z2 := hid_ (show ∀ W, Below w7.heap.size w7 W → Bk W gR 35 (rRow K h s) from fun W hW => R7.out.below hW R7.out.lt)
    have Z3 := hid_ (show ∀ W, Below w7.heap.size w7 W → Calls Tryz.prog 8 #[.agg (eRow K h sa s.length sc)] W fun e w' => e = .returned (.agg (rRow K h s)) ∧ Below w7.heap.size w7 w' from fun W hW => (from_any W K KL.out h sa s sc ((PR7.out.below hW).more hW.size) ((SR7.out.below hW).more hW.size)).mono fun e w' ⟨a, b⟩ => ⟨a, hW.trans (b.mono hW.size)⟩)
    have Z4 := hid_ (show ∀ W, Below w7.heap.size w7 W → (convert 22 9 (.slice A7 m c7)).run Tryz.prog W = .ok (.string (strOf t)) W from fun W hW => conv_strn (O7.out.below hW) m c7 HM.out)
    have Z5 := hid_ (show ∀ W, Below w7.heap.size w7 W → (convert 22 9 (.slice A0 m c0)).run Tryz.prog W = .ok (.string (strOf t)) W from fun W hW => conv_strn (HRT.out.below (X7.out.trans (hW.mono X7.out.size))) m c0 HM.out)
    refine region_quiet_in (C := fun W => Below w7.heap.size w7 W) (by kernel_rfl) (by kernel_rfl) ((Below.refl _ _).drew) ?_
    repeat (first | go_big_quiet_skip | (go_big_quiet_want; (first
      | (refine BigFrame.quiet_move _ rfl ?_; go_simp)
      | (refine BigFrame.quiet_assign _ rfl ?_; go_simp)
      | (refine quiet_load_row 30 (.tmp 3) rfl gE rfl 30 (eRow K h sa s.length sc) _ Tryz.underlying30 rfl (iE _ KL.out _ _ _ _) Z1.out ?_; go_simp)
      | (refine quiet_load_row 35 (.tmp 5) rfl gR rfl 35 (rRow K h s) _ Tryz.underlying35 rfl (iRr _ _ _) Z2.out ?_; go_simp)
      | (refine quiet_call (.agg (rRow K h s)) 8 #[.agg (eRow K h sa s.length sc)] ?_ Z3.out ?_; (focus (intro W; go_simp; done)); go_simp)
      | (refine quiet_eqlRR (.tmp 49) (.tmp 50) _ rfl K h s rfl rfl ?_; go_simp)
      | (refine quiet_run (.string (strOf t)) ?_ ?_; (focus (intro W hW; have h4 := Z4.out W hW; go_simp; done)); go_simp)
      | (refine quiet_run (.string (strOf t)) ?_ ?_; (focus (intro W hW; have h5 := Z5.out W hW; go_simp; done)); go_simp)
      | (refine quiet_run (.bool true) ?_ ?_; (focus (intro W hW; go_simp; done)); go_simp)); go_big_quiet_on))
    refine wpQuiet_nil ?_
    intro w8 hw8
    have X8 := hid_ (X7.out.trans (hw8.mono X7.out.size))
    clear hw8 Z1 Z2 Z3 Z4 Z5
    refine hK9 _ _ ?_
    go_wp2
    go_ret
    exact ⟨rfl, X8.out⟩

theorem laid_metE (os : Os) : laidMet Tryz.prog [("casket/pad.sizes", Rows.laid_casket_pad_sizes), ("casket/sha2.roundWords", Rows.laid_casket_sha2_roundWords)] ((laidWorldE os).forCall (fun _ _ => 0) ⟨#[], #[.slice none 0 0], []⟩).memory :=
  laidMet_of_run' 8 (by kernel_rfl) (by kernel_rfl)

/-- What the walk gives, for every argument and every world in which the constants lie. -/
theorem contract (H : Type) (enc : TypeId × Value → H) (W : World) (base : Nat) (args : Array Value) (ds gs : List (DataW H)) (before : List MemPlace)
    (hval : ∀ (j : Nat) t v, Tryz.f3.params[j]? = some t → args[j]? = some v → Value.okWide Tryz.prog W .any base t v)
    (hW : DataW.Whole enc Tryz.prog Tryz.f3.params.toList Rows.envelopeReadsSpec.vars false W args.toList ds gs before) (hL : laidMetH Tryz.prog Rows.envelopeReadsRow.laid W) :
    Calls Tryz.prog 3 args W fun e W' => ∃ v, e = .returned v ∧ Rows.envelopeReadsSpec.post enc Tryz.prog Tryz.f3 false true false false W args v W' := by
  obtain ⟨⟨hpt, hg2⟩, ht, hg1⟩ := two_of hL
  have hW' := hW
  obtain ⟨p, q, hA0, hV, rfl, hfz, hnd⟩ := hW
  have hA : DataW.TrodAll enc Tryz.prog W 0 (fun _ => true) true Tryz.f3.params.toList args.toList ds p := hA0
  rw [Tryz.params3] at hA hval
  obtain ⟨v0, vs0, d0, ds0, p0, q0, hargs, rfl, rfl, h0, r0⟩ := trodAll_cons hA
  obtain ⟨rfl, rfl, rfl⟩ := trodAll_nil r0
  obtain rfl : args = #[v0] := by cases args; simp_all
  obtain ⟨rfl, rfl⟩ := trodVars_none hV
  obtain ⟨A0, l0, c0, rfl, hr0, hlc0, hcm0⟩ := open_bytes Tryz.underlying22 Tryz.underlying5 (by kernel_rfl) (hval 0 22 v0 rfl rfl) h0
  refine (walk W A0 l0 c0 hr0 hlc0 (by unfold maxLen at hcm0; omega) ht hg1 hpt hg2).mono fun e W' ⟨he, hg⟩ => ⟨_, he, ?_⟩
  exact law_post laidOut_ (of_decide_eq_true (by kernel_rfl)) rfl rfl Tryz.underlying4 rfl hW' hg

theorem reads (os : Os) {H : Type} (enc : TypeId × Value → H) : ∃ places, DataW.whole enc Tryz.prog ((laidWorldE os).forCall (fun _ _ => 0) ⟨#[], #[.slice none 0 0], []⟩).memory Tryz.f3.params.toList Rows.envelopeReadsSpec.vars false (#[.slice none 0 0] : Array Value).toList 8 = some ([.nil], [], places) :=
  ⟨[], by kernel_rfl⟩

set_option maxRecDepth 100000 in
theorem lifted (os : Os) (started : os.Started) (H : Type) (enc : TypeId × Value → H) (F : Stop.Interp) :
    ReturnsInHanded {} Tryz.checked os 3 .any ((OpenSpec.ofChange Rows.envelopeReadsSpec).preRow enc Tryz.prog Tryz.f3 Rows.envelopeReadsRow.domain false Rows.envelopeReadsRow.laid) (((OpenSpec.ofChange Rows.envelopeReadsSpec).at F).post enc Tryz.prog Tryz.f3 false true false false) := by
  obtain ⟨places, hx⟩ := reads os enc
  refine returnsInHanded_of_row (C := Tryz.checked) (s := OpenSpec.ofChange Rows.envelopeReadsSpec) own_ started (by kernel_rfl) Tryz.func3
    (witness_row_at (enc := enc) (C := Tryz.checked) false (laidWorldE os) #[.slice none 0 0] rfl (by kernel_rfl) (by kernel_rfl) (by kernel_rfl)
      (OpenSpec.preRow_of_cond 8 hx (by kernel_rfl) (fun k hk => by cases hk) (by kernel_rfl) (laid_metE os))) ?_
  intro W base args ds gs before hval hW _ _ _ hL _ _
  exact contract H enc W base args ds gs before hval hW hL

theorem said : Rows.EnvelopeReadsSaid :=
  OpenClaim.holds_of_cond 3 Tryz.f3 rfl rfl rfl rfl rfl rfl rfl ⟨rfl, rfl, rfl, rfl, rfl⟩ rfl rfl rfl rfl rfl (by kernel_rfl) Tryz.func3 (by kernel_rfl)
    (of_decide_eq_true (by kernel_rfl)) (by unfold Func.isWrapper; first | (rw [if_pos (by decide +kernel)]; kernel_rfl) | (rw [if_neg (by decide +kernel)]; exact ⟨rfl, rfl⟩))
    (fun os started H enc _ F => by rw [OpenClaim.pre_eq_preRow]; exact lifted os started H enc F)

/-- No parameter wants a stand-in; the program's own looks are off: what the card asks. -/
theorem plain (f : FuncId) (fn : Func) (hf : Tryz.pinned.checked.prog.funcNamed "casket/casketlaw13.EnvelopeReads" = some f) (hfn : Tryz.pinned.checked.prog.funcs[f]? = some fn) :
    false = Tryz.pinned.checked.prog.looks [] ∧ ∀ (j : Nat) t, fn.params[j]? = some t → Tryz.pinned.checked.prog.wantsStandIn t = false := by
  obtain rfl : f = 3 := Option.some.inj ((show Tryz.prog.funcNamed "casket/casketlaw13.EnvelopeReads" = some 3 by kernel_rfl).symm.trans hf) |>.symm
  obtain rfl : fn = Tryz.f3 := (Option.some.inj (Tryz.func3.symm.trans hfn)).symm
  refine ⟨by kernel_rfl, fun j t ht => ?_⟩
  rw [Tryz.params3] at ht
  have hm := Array.mem_of_getElem? ht
  simp only [List.mem_toArray, List.mem_cons, List.not_mem_nil, or_false] at hm
  obtain rfl := hm
  exact (show Tryz.prog.wantsStandIn 22 = false by kernel_rfl)

/-- The card. -/
theorem proved : Rows.EnvelopeReadsCardSaid :=
  Claim7.holds_tied_plain_at .later [] _ _ _ _ said (fun _ h => by cases h) (by kernel_rfl) (fun _ h => by cases h) envelopeReads_row_tie rfl ⟨rfl, rfl⟩ (by kernel_rfl) rfl plain (by kernel_rfl)
#print axioms proved
end Go.Proofs.YtildeaiokgbogaaGreatDoor.envelopeReads
