/-
  Proved: for all bytes PadCuts answers true: it is told what they are cut to, or that they are none's. No condition.
-/
import Derived.Test.YteijlgifcmlkoabDoorNc
import Derived.Test.YteijlgifcmlkoabDoorQc
import Derived.BigQuiet
namespace Go.Proofs.YteijlgifcmlkoabDoor.padCuts
open Go.ChangeShapes Go.WideShapes Go.ChangeAt Go.RowKit
set_option linter.unusedVariables false
set_option linter.unusedSimpArgs false

theorem hid_ {p : Prop} (h : p) : Hid p := h

set_option maxRecDepth 100000 in
set_option maxHeartbeats 4000000 in
theorem walk (w : World) (A : Option Addr) (l1 : List UInt8) (c : Nat) (hr1 : Rd w w.heap.size A l1) (hlc : l1.length ≤ c) (hcm : c ≤ 9223372036854775807) (ht : PTab w) (hg1 : 0 < w.heap.size) :
    Calls Tryd.prog 5 #[.slice A l1.length c] w fun e w' => e = .returned (.bool true) ∧ Below w.heap.size w w' := by
  obtain ⟨n, hn⟩ : ∃ m, m = min l1.length 1100 := ⟨_, rfl⟩
  have hmn := fun W => run_min2 l1.length 1100 n hn W
  rw [show ((1100 : Nat) : Int) = 1100 from rfl] at hmn
  have hs9 := fun W => slice_to A l1.length c (n : Int) n rfl (by omega) W
  have LN := hid_ (show (l1.take 1100).length = n by rw [List.length_take, hn, Nat.min_comm])
  have HR := hid_ (hr1.take 1100)
  have hb : n ≤ 1100 := by omega
  clear hr1 hlc hn
  generalize l1.take 1100 = s at *
  generalize l1.length = n1 at *
  have cc := cut_any w A n c s LN.out (by omega) HR.out ht hg1
  have cr := fun W => refCut_any W n s LN.out (by omega)
  have HT := hid_ ht
  have q1 := strOf_eq (cutB s) (cutB s) rfl
  clear ht
  obtain ⟨code, hcode⟩ : ∃ code, (if padB (valB s) = s then (0 : Int) else 2) = code := ⟨_, rfl⟩
  obtain ⟨ok, hok⟩ : ∃ ok, decide (padB (valB s) = s) = ok := ⟨_, rfl⟩
  rw [hcode] at cc
  rw [hok] at cr
  have hcases : (code = 0 ∧ ok = true) ∨ (code = 2 ∧ ok = false) := by
    by_cases h : padB (valB s) = s
    · exact .inl ⟨by rw [← hcode, if_pos h], by rw [← hok]; exact decide_eq_true h⟩
    · exact .inr ⟨by rw [← hcode, if_neg h], by rw [← hok]; exact decide_eq_false h⟩
  clear hcode hok
  rcases hcases with ⟨rfl, rfl⟩ | ⟨rfl, rfl⟩
  all_goals
    go_enter Tryd.func5, Tryd.ntmps5
    go_wp2_with (first
      | (go_at_call 11; ((with_reducible refine cc.mono ?_); clear cc; rintro e w2 ⟨A2, m2, c2, rfl, hm2, hO2, hB2⟩; have O2 := hid_ hO2; have M2 := hid_ hm2; have X2 := hid_ hB2; have hcv := conv_strn (HR.out.below hB2) n c LN.out; clear hO2 hB2 hm2))
      | (go_at_call 13; ((with_reducible refine (cr _).mono ?_); rintro e w3 ⟨rfl, hb⟩; have O3 := hid_ (O2.out.below hb (Nat.le_refl _)); have X3 := hid_ (X2.out.trans (hb.mono X2.out.size)); clear hb))
      | (go_at_call 9; have cp := pads_any w3 (HT.out.below X3.out hg1) (Nat.lt_of_lt_of_le hg1 X3.out.size); ((with_reducible refine cp.mono ?_); clear cp; rintro e w4 ⟨rfl, hb⟩; have O4 := hid_ (O3.out.below hb (Nat.le_refl _)); have X4 := hid_ (X3.out.trans (hb.mono X3.out.size)); have hcv4 := conv_strn O4.out.rd.1 m2 c2 M2.out.symm; clear hb)))
    go_ret
    exact ⟨rfl, X4.out⟩

theorem laid_met3 (os : Os) : laidMet Tryd.prog [("casket/pad.sizes", Rows.laid_casket_pad_sizes)] ((laidWorld os).forCall (fun _ _ => 0) ⟨#[], #[.slice none 0 0], []⟩).memory :=
  laidMet_of_run' 8 (by kernel_rfl) (by kernel_rfl)

/-- What the walk gives, for every argument and every world in which the constants lie. -/
theorem contract (H : Type) (enc : TypeId × Value → H) (W : World) (base : Nat) (args : Array Value) (ds gs : List (DataW H)) (before : List MemPlace)
    (hval : ∀ (j : Nat) t v, Tryd.f5.params[j]? = some t → args[j]? = some v → Value.okWide Tryd.prog W .any base t v)
    (hW : DataW.Whole enc Tryd.prog Tryd.f5.params.toList Rows.padCutsSpec.vars false W args.toList ds gs before) (hL : laidMetH Tryd.prog Rows.padCutsRow.laid W) :
    Calls Tryd.prog 5 args W fun e W' => ∃ v, e = .returned v ∧ Rows.padCutsSpec.post enc Tryd.prog Tryd.f5 false true false false W args v W' := by
  obtain ⟨ht, hg1⟩ := sizes_of hL
  have hW' := hW
  obtain ⟨p, q, hA0, hV, rfl, hfz, hnd⟩ := hW
  have hA : DataW.TrodAll enc Tryd.prog W 0 (fun _ => true) true Tryd.f5.params.toList args.toList ds p := hA0
  rw [Tryd.params5] at hA hval
  obtain ⟨v0, vs0, d0, ds0, p0, q0, hargs, rfl, rfl, h0, r0⟩ := trodAll_cons hA
  obtain ⟨rfl, rfl, rfl⟩ := trodAll_nil r0
  obtain rfl : args = #[v0] := by cases args; simp_all
  obtain ⟨rfl, rfl⟩ := trodVars_none hV
  obtain ⟨A0, l0, c0, rfl, hr0, hlc0, hcm0⟩ := open_bytes Tryd.underlying27 Tryd.underlying5 (by kernel_rfl) (hval 0 27 v0 rfl rfl) h0
  refine (walk W A0 l0 c0 hr0 hlc0 (by unfold maxLen at hcm0; omega) ht hg1).mono fun e W' ⟨he, hg⟩ => ⟨_, he, ?_⟩
  exact law_post laidOut_ (of_decide_eq_true (by kernel_rfl)) rfl rfl Tryd.underlying4 rfl hW' hg

theorem reads (os : Os) {H : Type} (enc : TypeId × Value → H) : ∃ places, DataW.whole enc Tryd.prog ((laidWorld os).forCall (fun _ _ => 0) ⟨#[], #[.slice none 0 0], []⟩).memory Tryd.f5.params.toList Rows.padCutsSpec.vars false #[Value.slice none 0 0].toList 8 = some ([.nil], [], places) :=
  ⟨[], by kernel_rfl⟩

set_option maxRecDepth 100000 in
theorem lifted (os : Os) (started : os.Started) (H : Type) (enc : TypeId × Value → H) (F : Stop.Interp) :
    ReturnsInHanded {} Tryd.checked os 5 .any ((OpenSpec.ofChange Rows.padCutsSpec).preRow enc Tryd.prog Tryd.f5 Rows.padCutsRow.domain false Rows.padCutsRow.laid) (((OpenSpec.ofChange Rows.padCutsSpec).at F).post enc Tryd.prog Tryd.f5 false true false false) := by
  obtain ⟨places, hx⟩ := reads os enc
  refine returnsInHanded_of_row (C := Tryd.checked) (s := OpenSpec.ofChange Rows.padCutsSpec) own_ started (by kernel_rfl) Tryd.func5
    (witness_row_at (enc := enc) (C := Tryd.checked) false (laidWorld os) #[.slice none 0 0] rfl (by kernel_rfl) (by kernel_rfl) (by kernel_rfl)
      (OpenSpec.preRow_of_cond 8 hx (by kernel_rfl) (fun k hk => by cases hk) (by kernel_rfl) (laid_met3 os))) ?_
  intro W base args ds gs before hval hW _ _ _ hL _ _
  exact contract H enc W base args ds gs before hval hW hL

theorem said : Rows.PadCutsSaid :=
  OpenClaim.holds_of_cond 5 Tryd.f5 rfl rfl rfl rfl rfl rfl rfl ⟨rfl, rfl, rfl, rfl, rfl⟩ rfl rfl rfl rfl rfl (by kernel_rfl) Tryd.func5 (by kernel_rfl)
    (of_decide_eq_true (by kernel_rfl)) (by unfold Func.isWrapper; first | (rw [if_pos (by decide +kernel)]; kernel_rfl) | (rw [if_neg (by decide +kernel)]; exact ⟨rfl, rfl⟩))
    (fun os started H enc _ F => by rw [OpenClaim.pre_eq_preRow]; exact lifted os started H enc F)

/-- No parameter wants a stand-in; the program's own looks are off: what the card asks. -/
theorem plain (f : FuncId) (fn : Func) (hf : Tryd.pinned.checked.prog.funcNamed "casket/casketlaw10.PadCuts" = some f) (hfn : Tryd.pinned.checked.prog.funcs[f]? = some fn) :
    false = Tryd.pinned.checked.prog.looks [] ∧ ∀ (j : Nat) t, fn.params[j]? = some t → Tryd.pinned.checked.prog.wantsStandIn t = false := by
  obtain rfl : f = 5 := Option.some.inj ((show Tryd.prog.funcNamed "casket/casketlaw10.PadCuts" = some 5 by kernel_rfl).symm.trans hf) |>.symm
  obtain rfl : fn = Tryd.f5 := (Option.some.inj (Tryd.func5.symm.trans hfn)).symm
  refine ⟨by kernel_rfl, fun j t ht => ?_⟩
  rw [Tryd.params5] at ht
  have hm := Array.mem_of_getElem? ht
  simp only [List.mem_toArray, List.mem_cons, List.not_mem_nil, or_false] at hm
  obtain rfl := hm
  exact (show Tryd.prog.wantsStandIn 27 = false by kernel_rfl)

/-- The card. -/
theorem proved : Rows.PadCutsCardSaid :=
  Claim7.holds_tied_plain_at .later [] _ _ _ _ said (fun _ h => by cases h) (by kernel_rfl) (fun _ h => by cases h) padCuts_row_tie rfl ⟨rfl, rfl⟩ (by kernel_rfl) rfl plain (by kernel_rfl)
#print axioms proved
end Go.Proofs.YteijlgifcmlkoabDoor.padCuts
