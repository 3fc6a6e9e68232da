/-
  Proved: for all pairs of bytes PadSizes answers true: how long padded bytes are hangs on their class alone. No condition.
-/
import Derived.Test.YteijlgifcmlkoabDoorNc
import Derived.Test.YteijlgifcmlkoabDoorQc
import Derived.BigQuiet
namespace Go.Proofs.YteijlgifcmlkoabDoor.padSizes
open Go.ChangeShapes Go.WideShapes Go.ChangeAt Go.RowKit
set_option linter.unusedVariables false
set_option linter.unusedSimpArgs false

theorem hid_ {p : Prop} (h : p) : Hid p := h

set_option maxRecDepth 100000 in
set_option maxHeartbeats 8000000 in
theorem walk (w : World) (A9 : Option Addr) (l9 : List UInt8) (c9 : Nat) (hr9 : Rd w w.heap.size A9 l9) (hlc9 : l9.length ≤ c9) (hcm9 : c9 ≤ 9223372036854775807)
    (A8 : Option Addr) (l8 : List UInt8) (c8 : Nat) (hr8 : Rd w w.heap.size A8 l8) (hlc8 : l8.length ≤ c8) (hcm8 : c8 ≤ 9223372036854775807) (ht : PTab w) (hg1 : 0 < w.heap.size) :
    Calls Tryd.prog 6 #[.slice A9 l9.length c9, .slice A8 l8.length c8] w fun e w' => e = .returned (.bool true) ∧ Below w.heap.size w w' := by
  obtain ⟨m9, hm9⟩ : ∃ m, m = min l9.length 600 := ⟨_, rfl⟩
  have hmn9 := fun W => run_min2 l9.length 600 m9 hm9 W
  rw [show ((600 : Nat) : Int) = 600 from rfl] at hmn9
  have hs9 := fun W => slice_to A9 l9.length c9 (m9 : Int) m9 rfl (by omega) W
  have M9 := hid_ (show (l9.take 600).length = m9 by rw [List.length_take, hm9, Nat.min_comm])
  have R9 := hid_ (hr9.take 600)
  obtain ⟨m8, hm8⟩ : ∃ m, m = min l8.length 600 := ⟨_, rfl⟩
  have hmn8 := fun W => run_min2 l8.length 600 m8 hm8 W
  rw [show ((600 : Nat) : Int) = 600 from rfl] at hmn8
  have hs8 := fun W => slice_to A8 l8.length c8 (m8 : Int) m8 rfl (by omega) W
  have M8 := hid_ (show (l8.take 600).length = m8 by rw [List.length_take, hm8, Nat.min_comm])
  have R8 := hid_ (hr8.take 600)
  have hb9 : m9 ≤ 600 := by omega
  have hb8 : m8 ≤ 600 := by omega
  generalize l9.take 600 = t at *
  generalize l8.take 600 = b at *
  generalize l9.length = n9 at *
  generalize l8.length = n8 at *
  have HT := hid_ ht
  clear hr9 hr8 hlc9 hlc8 hm9 hm8 ht
  go_enter Tryd.func6, Tryd.ntmps6
  go_upto_region 1 with fail
  refine region_quiet_in (C := fun W => Below w.heap.size w W) (by kernel_rfl) (by kernel_rfl) ((Below.refl _ _).drew) ?_
  repeat (first | go_big_quiet_skip | (go_big_quiet_want; (first
    | (refine BigFrame.quiet_move _ rfl ?_; go_simp)
    | (refine BigFrame.quiet_assign _ rfl ?_; go_simp)
    | (refine quiet_run (.int .i64 (n9 : Int)) ?_ ?_; (focus (intro W hW; go_simp; done)); go_simp)
    | (refine quiet_run (.int .i64 (n8 : Int)) ?_ ?_; (focus (intro W hW; go_simp; done)); go_simp)
    | (refine quiet_run (.int .i64 (m9 : Int)) ?_ ?_; (focus (intro W hW; go_simp; done)); go_simp)
    | (refine quiet_run (.int .i64 (m8 : Int)) ?_ ?_; (focus (intro W hW; go_simp; done)); go_simp)
    | (refine quiet_run (.slice A9 m9 c9) ?_ ?_; (focus (intro W hW; go_simp; done)); go_simp)
    | (refine quiet_run (.slice A8 m8 c8) ?_ ?_; (focus (intro W hW; go_simp; done)); go_simp)); go_big_quiet_on))
  refine wpQuiet_nil ?_
  intro w1 hw1
  have X1 := hid_ hw1
  clear hw1 hmn9 hmn8 hs9 hs8
  have cx := pad_any w1 A9 m9 c9 t M9.out (by omega) ((R9.out.below X1.out).more X1.out.size) (HT.out.below X1.out hg1)
  have r9 := fun W => refClass_any W (m9 : Int)
  have r8 := fun W => refClass_any W (m8 : Int)
  rw [show clsR (m9 : Int) = ((sizeK (clsK m9) : Int), (clsK m9 : Int), 0) by unfold clsR; rw [if_neg (by omega), if_neg (by omega)]; rfl] at r9
  rw [show clsR (m8 : Int) = ((sizeK (clsK m8) : Int), (clsK m8 : Int), 0) by unfold clsR; rw [if_neg (by omega), if_neg (by omega)]; rfl] at r8
  have hcy := fun W hr ht => pad_any W A8 m8 c8 b M8.out (by omega) hr ht
  rw [show clsS m9 = sizeK (clsK m9) from rfl] at cx
  rw [show clsS m8 = sizeK (clsK m8) from rfl] at hcy
  have hk9 := clsK_le m9
  have hk8 := clsK_le m8
  generalize clsK m9 = K9 at *
  generalize clsK m8 = K8 at *
  obtain ⟨N9, hN9⟩ : ∃ N, sizeK K9 = N := ⟨_, rfl⟩
  obtain ⟨N8, hN8⟩ : ∃ N, sizeK K8 = N := ⟨_, rfl⟩
  rw [hN9] at cx r9
  rw [hN8] at hcy r8
  have H9 := hid_ hN9
  have H8 := hid_ hN8
  clear hN9 hN8
  go_upto_region 6 with (first
    | (go_at_call 10; ((with_reducible refine cx.mono ?_); clear cx; rintro e w2 ⟨A2, c2, rfl, hO2, hB2⟩; have X2 := hid_ (X1.out.trans (hB2.mono X1.out.size)); have cy := hcy w2 ((R8.out.below X2.out).more X2.out.size) (HT.out.below X2.out hg1); clear hO2 hB2))
    | (go_at_call 10; ((with_reducible refine cy.mono ?_); clear cy hcy; rintro e w3 ⟨A3, c3, rfl, hO3, hB3⟩; have X3 := hid_ (X2.out.trans (hB3.mono X2.out.size)); clear hO3 hB3))
    | (go_at_call 8; ((with_reducible refine (r9 _).mono ?_); clear r9; rintro e w4 ⟨rfl, rfl⟩))
    | (go_at_call 8; ((with_reducible refine (r8 _).mono ?_); clear r8; rintro e w4 ⟨rfl, rfl⟩)))
  have cp := pads_any w3 (HT.out.below X3.out hg1) (Nat.lt_of_lt_of_le hg1 X3.out.size)
  rcases (by omega : K9 = 0 ∨ K9 = 1 ∨ K9 = 2 ∨ K9 = 3) with rfl | rfl | rfl | rfl <;> rcases (by omega : K8 = 0 ∨ K8 = 1 ∨ K8 = 2 ∨ K8 = 3) with rfl | rfl | rfl | rfl
  all_goals
    obtain rfl := H9.out
    obtain rfl := H8.out
    clear H9 H8
    simp only [show sizeK 0 = 64 from rfl, show sizeK 1 = 256 from rfl, show sizeK 2 = 1024 from rfl, show sizeK 3 = 4096 from rfl]
    go_wp2_with (go_at_call 9; ((with_reducible refine cp.mono ?_); clear cp; rintro e w5 ⟨rfl, hb⟩; have X5 := hid_ (X3.out.trans (hb.mono X3.out.size)); clear hb))
    go_ret
    exact ⟨rfl, X5.out⟩

theorem laid_met3 (os : Os) : laidMet Tryd.prog [("casket/pad.sizes", Rows.laid_casket_pad_sizes)] ((laidWorld os).forCall (fun _ _ => 0) ⟨#[], #[.slice none 0 0, .slice none 0 0], []⟩).memory :=
  laidMet_of_run' 8 (by kernel_rfl) (by kernel_rfl)

/-- What the walk gives, for every argument and every world in which the constants lie. -/
theorem contract (H : Type) (enc : TypeId × Value → H) (W : World) (base : Nat) (args : Array Value) (ds gs : List (DataW H)) (before : List MemPlace)
    (hval : ∀ (j : Nat) t v, Tryd.f6.params[j]? = some t → args[j]? = some v → Value.okWide Tryd.prog W .any base t v)
    (hW : DataW.Whole enc Tryd.prog Tryd.f6.params.toList Rows.padSizesSpec.vars false W args.toList ds gs before) (hL : laidMetH Tryd.prog Rows.padSizesRow.laid W) :
    Calls Tryd.prog 6 args W fun e W' => ∃ v, e = .returned v ∧ Rows.padSizesSpec.post enc Tryd.prog Tryd.f6 false true false false W args v W' := by
  obtain ⟨ht, hg1⟩ := sizes_of hL
  have hW' := hW
  obtain ⟨p, q, hA0, hV, rfl, hfz, hnd⟩ := hW
  have hA : DataW.TrodAll enc Tryd.prog W 0 (fun _ => true) true Tryd.f6.params.toList args.toList ds p := hA0
  rw [Tryd.params6] at hA hval
  obtain ⟨v0, vs0, d0, ds0, p0, q0, hargs, rfl, rfl, h0, r0⟩ := trodAll_cons hA
  obtain ⟨v1, vs1, d1, ds1, p1, q1, rfl, rfl, rfl, h1, r1⟩ := trodAll_cons r0
  obtain ⟨rfl, rfl, rfl⟩ := trodAll_nil r1
  obtain rfl : args = #[v0, v1] := by cases args; simp_all
  obtain ⟨rfl, rfl⟩ := trodVars_none hV
  obtain ⟨A0, l0, c0, rfl, hr0, hlc0, hcm0⟩ := open_bytes Tryd.underlying27 Tryd.underlying5 (by kernel_rfl) (hval 0 27 v0 rfl rfl) h0
  obtain ⟨A1, l1, c1, rfl, hr1, hlc1, hcm1⟩ := open_bytes Tryd.underlying27 Tryd.underlying5 (by kernel_rfl) (hval 1 27 v1 rfl rfl) h1
  refine (walk W A0 l0 c0 hr0 hlc0 (by unfold maxLen at hcm0; omega) A1 l1 c1 hr1 hlc1 (by unfold maxLen at hcm1; omega) ht hg1).mono fun e W' ⟨he, hg⟩ => ⟨_, he, ?_⟩
  exact law_post laidOut_ (of_decide_eq_true (by kernel_rfl)) rfl rfl Tryd.underlying4 rfl hW' hg

theorem reads (os : Os) {H : Type} (enc : TypeId × Value → H) : ∃ places, DataW.whole enc Tryd.prog ((laidWorld os).forCall (fun _ _ => 0) ⟨#[], #[.slice none 0 0, .slice none 0 0], []⟩).memory Tryd.f6.params.toList Rows.padSizesSpec.vars false #[Value.slice none 0 0, Value.slice none 0 0].toList 8 = some ([.nil, .nil], [], places) :=
  ⟨[], by kernel_rfl⟩

set_option maxRecDepth 100000 in
theorem lifted (os : Os) (started : os.Started) (H : Type) (enc : TypeId × Value → H) (F : Stop.Interp) :
    ReturnsInHanded {} Tryd.checked os 6 .any ((OpenSpec.ofChange Rows.padSizesSpec).preRow enc Tryd.prog Tryd.f6 Rows.padSizesRow.domain false Rows.padSizesRow.laid) (((OpenSpec.ofChange Rows.padSizesSpec).at F).post enc Tryd.prog Tryd.f6 false true false false) := by
  obtain ⟨places, hx⟩ := reads os enc
  refine returnsInHanded_of_row (C := Tryd.checked) (s := OpenSpec.ofChange Rows.padSizesSpec) own_ started (by kernel_rfl) Tryd.func6
    (witness_row_at (enc := enc) (C := Tryd.checked) false (laidWorld os) #[.slice none 0 0, .slice none 0 0] rfl (by kernel_rfl) (by kernel_rfl) (by kernel_rfl)
      (OpenSpec.preRow_of_cond 8 hx (by kernel_rfl) (fun k hk => by cases hk) (by kernel_rfl) (laid_met3 os))) ?_
  intro W base args ds gs before hval hW _ _ _ hL _ _
  exact contract H enc W base args ds gs before hval hW hL

theorem said : Rows.PadSizesSaid :=
  OpenClaim.holds_of_cond 6 Tryd.f6 rfl rfl rfl rfl rfl rfl rfl ⟨rfl, rfl, rfl, rfl, rfl⟩ rfl rfl rfl rfl rfl (by kernel_rfl) Tryd.func6 (by kernel_rfl)
    (of_decide_eq_true (by kernel_rfl)) (by unfold Func.isWrapper; first | (rw [if_pos (by decide +kernel)]; kernel_rfl) | (rw [if_neg (by decide +kernel)]; exact ⟨rfl, rfl⟩))
    (fun os started H enc _ F => by rw [OpenClaim.pre_eq_preRow]; exact lifted os started H enc F)

/-- No parameter wants a stand-in; the program's own looks are off: what the card asks. -/
theorem plain (f : FuncId) (fn : Func) (hf : Tryd.pinned.checked.prog.funcNamed "casket/casketlaw10.PadSizes" = some f) (hfn : Tryd.pinned.checked.prog.funcs[f]? = some fn) :
    false = Tryd.pinned.checked.prog.looks [] ∧ ∀ (j : Nat) t, fn.params[j]? = some t → Tryd.pinned.checked.prog.wantsStandIn t = false := by
  obtain rfl : f = 6 := Option.some.inj ((show Tryd.prog.funcNamed "casket/casketlaw10.PadSizes" = some 6 by kernel_rfl).symm.trans hf) |>.symm
  obtain rfl : fn = Tryd.f6 := (Option.some.inj (Tryd.func6.symm.trans hfn)).symm
  refine ⟨by kernel_rfl, fun j t ht => ?_⟩
  rw [Tryd.params6] at ht
  have hm := Array.mem_of_getElem? ht
  simp only [List.mem_toArray, List.mem_cons, List.not_mem_nil, or_false] at hm
  rcases hm with rfl | rfl
  · exact (show Tryd.prog.wantsStandIn 27 = false by kernel_rfl)
  · exact (show Tryd.prog.wantsStandIn 27 = false by kernel_rfl)

/-- The card. -/
theorem proved : Rows.PadSizesCardSaid :=
  Claim7.holds_tied_plain_at .later [] _ _ _ _ said (fun _ h => by cases h) (by kernel_rfl) (fun _ h => by cases h) padSizes_row_tie rfl ⟨rfl, rfl⟩ (by kernel_rfl) rfl plain (by kernel_rfl)
#print axioms proved
end Go.Proofs.YteijlgifcmlkoabDoor.padSizes
