/-
  Proved: for all bytes and counts PadBack answers true: the padded bytes are told, or that they are too many; they are cut again; what is handed in stays. No condition.
-/
import Derived.Test.YteijlgifcmlkoabDoorNc
import Derived.Test.YteijlgifcmlkoabDoorAz
import Derived.Test.YteijlgifcmlkoabDoorQc
import Derived.BigQuiet
namespace Go.Proofs.YteijlgifcmlkoabDoor.padBack
open Go.ChangeShapes Go.WideShapes Go.ChangeAt Go.RowKit
set_option linter.unusedVariables false
set_option linter.unusedSimpArgs false

theorem hid_ {p : Prop} (h : p) : Hid p := h
theorem u64_nat (z : Int) : ∃ x : Nat, IntKind.u64.wrap z = (x : Int) ∧ x ≤ 18446744073709551615 := by
  have h : IntKind.u64.wrap z = z % 18446744073709551616 := by simp [IntKind.wrap, IntKind.signed, IntKind.bits]
  rw [h]
  exact ⟨(z % 18446744073709551616).toNat, by omega, by omega⟩
/-- The bytes that are padded, a slice of the call's own. -/
structure PbS (w : World) (A : Option Addr) (n c : Nat) (l : List UInt8) (W : World) : Prop where
  own : Own8 W w.heap.size (.slice A n c) l
  len : l.length = n
  most : n ≤ 4600
  tab : PTab W
  low : 0 < W.heap.size
  below : Below w.heap.size w W
theorem PbS.keep {w : World} {A : Option Addr} {n c : Nat} {l : List UInt8} {W W' : World} (h : PbS w A n c l W) (hb : Below W.heap.size W W') : PbS w A n c l W' :=
  ⟨h.own.below hb (Nat.le_refl _), h.len, h.most, h.tab.below hb h.low, Nat.lt_of_lt_of_le h.low hb.size, h.below.trans (hb.mono h.below.size)⟩

set_option maxRecDepth 100000 in
set_option maxHeartbeats 8000000 in
theorem walk (w : World) (A9 : Option Addr) (l9 : List UInt8) (c9 : Nat) (hr9 : Rd w w.heap.size A9 l9) (hlc9 : l9.length ≤ c9) (hcm9 : c9 ≤ 9223372036854775807) (z : Int) (ht : PTab w) (hg1 : 0 < w.heap.size) :
    Calls Tryd.prog 4 #[.slice A9 l9.length c9, .int .i64 z] w fun e w' => e = .returned (.bool true) ∧ Below w.heap.size w w' := by
  obtain ⟨m9, hm9⟩ : ∃ m, m = min l9.length 300 := ⟨_, rfl⟩
  have hmn9 := fun W => run_min2 l9.length 300 m9 hm9 W
  rw [show ((300 : Nat) : Int) = 300 from rfl] at hmn9
  have hs9 := fun W => slice_to A9 l9.length c9 (m9 : Int) m9 rfl (by omega) W
  have M9 := hid_ (show (l9.take 300).length = m9 by rw [List.length_take, hm9, Nat.min_comm])
  have hb80 : m9 ≤ 300 := by omega
  obtain ⟨w1, hw1⟩ : ∃ w1, w.alloc (.cells #[] 5) = w1 := ⟨_, rfl⟩
  have b1 : Below w.heap.size w w1 := by rw [← hw1]; exact (Below.refl _ _).alloc (Nat.le_refl _) _
  have hown : Own8 w1 w.heap.size (.slice (some ⟨w.heap.size, 0, none⟩) 0 0) [] := by
    have h := Own8.lit w w.heap.size [] (Nat.le_refl _) (Nat.zero_le _)
    rw [show rowOf [] = #[] from rfl, hw1] at h
    exact h
  have hwal := hid_ b1
  have s1 : w1.heap.size = w.heap.size + 1 := by rw [← hw1]; simp
  have hrt : Rd w1 w.heap.size A9 (l9.take 300) := (hr9.take 300).below b1
  have hle0 : ([] : List UInt8).length + m9 ≤ 140737488355328 := by simp; omega
  have hsz0 : w.heap.size ≤ w1.heap.size := by omega
  have HT := hid_ ht
  obtain ⟨x0, hx0, hxb⟩ := u64_nat z
  obtain ⟨k, hk⟩ : ∃ a, x0 % 4200 = a := ⟨_, rfl⟩
  have k4200 : k < 4200 := by omega
  have r1 : (x0 : Int).tmod 4200 = (k : Int) := by rw [Int.tmod_eq_emod_of_nonneg (by omega)]; omega
  have r1b : (x0 : Int) % 4200 = (k : Int) := by omega
  have r3 : IntKind.u64.wrap (k : Int) = (k : Int) := IntWalk.u64_in _ (by omega)
  have r5 : IntKind.i64.wrap (k : Int) = (k : Int) := IntWalk.i64_in _ (by omega)
  obtain ⟨t3, ht3⟩ : ∃ t, z.tmod 3 = t := ⟨_, rfl⟩
  have ht3b : -3 < t3 ∧ t3 < 3 := by
    have h1 := Int.tmod_lt_of_pos z (show (0 : Int) < 3 by omega)
    have h2 := Int.lt_tmod_of_pos z (show (0 : Int) < 3 by omega)
    omega
  have r6 : IntKind.i64.wrap t3 = t3 := IntWalk.i64_in _ (by omega)
  clear ht hr9 hlc9 hm9 b1 hk
  generalize l9.take 300 = t at *
  generalize l9.length = n9 at *
  go_enter Tryd.func4, Tryd.ntmps4
  go_upto_region 2 with (at_builtin; refine wpList_app rfl (.tmp 13) (.tmp 18) rfl hown rfl m9 c9 rfl hrt M9.out hle0 hsz0 ?_; (intro A0 c0 w2 k1 k2 k3; have O2 := hid_ (show Own8 w2 w.heap.size (.slice A0 m9 c0) t by simpa using k1); have X2 := hid_ (hwal.out.grown k2 hsz0 (fun k hk => by simp [Value.ownBlock] at hk; omega)); clear k1 k2 k3 hrt hown))
  clear hle0 hsz0 hmn9 hs9 hw1 s1 hwal
  have S2 : Hid (PbS w A0 m9 c0 t w2) := hid_ ⟨O2.out, M9.out, by omega, HT.out.below X2.out hg1, Nat.lt_of_lt_of_le hg1 X2.out.size, X2.out⟩
  clear HT X2
  obtain ⟨bb, hbb⟩ : ∃ b, (t3 == 0) = b := ⟨_, rfl⟩
  go_upto_if 22 with fail
  go_cut [0] (fun s0 wx => ∃ A n c l, s0 = .slice A n c ∧ Hid (PbS w A n c l wx))
  case first =>
    cases bb
    · go_wp2
      go_meet
      exact ⟨A0, m9, c0, t, rfl, S2⟩
    · go_wp2_with (at_builtin; go_loud (refine wpList_appZ rfl (.tmp 23) (.tmp 27) rfl O2.out rfl k rfl (by rw [M9.out]; omega) S2.out.below.size ?_; (intro A1 c1 w3 k1 k2 k3; rw [M9.out] at k1 ⊢; have O3 := hid_ k1; have X3 := hid_ (S2.out.below.grown k2 S2.out.below.size (fun k hk => (World.ownsRow.lt O2.out k hk).1)); have PT := hid_ (show PTab w3 from fun j hj => (World.cell?_of_block (k2.block _ S2.out.low (fun e => absurd (World.ownsRow.lt O2.out _ e.symm).1 (by show ¬ (w.heap.size ≤ 0); omega)))).trans (S2.out.tab j hj)); clear k1 k2 k3)))
      go_meet
      exact ⟨A1, m9 + k, c1, t ++ List.replicate k 0, rfl, hid_ ⟨O3.out, by rw [List.length_append, List.length_replicate, M9.out], by omega, PT.out, Nat.lt_of_lt_of_le hg1 X3.out.size, X3.out⟩⟩
  case rest =>
    obtain ⟨A, n, c, l, rfl, S3⟩ := hcut
    clear S2 O2 hbb ht3 ht3b r1 r1b r3 r5 r6 M9 hx0
    have LN := hid_ S3.out.len
    have hnm : n ≤ 4600 := S3.out.most
    have hcv := conv_strn S3.out.own.rd.1 n c LN.out
    have rc := fun W => refClass_any W (n : Int)
    have ql := strOf_eq l l rfl
    by_cases hbig : 4000 < n
    · have cp := pad_big wc A n c hbig S3.out.tab
      rw [show clsR (n : Int) = (0, 0, 5) by unfold clsR; rw [if_neg (by omega), if_pos (by omega)]] at rc
      have cq := pads_any wc S3.out.tab S3.out.low
      clear hbig
      go_wp2_with (first
        | (go_at_call 10; ((with_reducible refine cp.mono ?_); clear cp; rintro e w4 ⟨rfl, rfl⟩))
        | (go_at_call 8; ((with_reducible refine (rc _).mono ?_); clear rc; rintro e w5 ⟨rfl, rfl⟩))
        | (go_at_call 9; ((with_reducible refine cq.mono ?_); clear cq; rintro e w6 ⟨rfl, hb⟩; have S6 := hid_ (S3.out.keep hb); have hcv6 := conv_strn S6.out.own.rd.1 n c LN.out; clear hb)))
      go_ret
      exact ⟨rfl, S6.out.below⟩
    · have hn4 : n ≤ 4000 := by omega
      have cp := pad_any wc A n c l LN.out hn4 S3.out.own.rd.1 S3.out.tab
      rw [show clsR (n : Int) = ((clsS n : Int), (clsK n : Int), 0) by unfold clsR; rw [if_neg (by omega), if_neg (by omega)]; rfl] at rc
      have hPL := padB_len l (by rw [LN.out]; exact hn4)
      rw [LN.out] at hPL
      have hNle := clsS_le n
      have hCB := cutB_pad l (by rw [LN.out]; exact hn4)
      have HRP := hid_ (fun W => refPad_any W n l LN.out hn4)
      generalize clsS n = N at *
      generalize clsK n = K at *
      generalize padB l = P at *
      have HPL := hid_ hPL
      have HCB := hid_ hCB
      clear hbig hPL hCB
      go_upto_region 12 with (first
        | (go_at_call 10; ((with_reducible refine cp.mono ?_); clear cp; rintro e w4 ⟨A4, c4, rfl, hO4, hB4⟩; have O4 := hid_ hO4; have S4 := hid_ (S3.out.keep hB4); clear hO4 hB4))
        | (go_at_call 8; ((with_reducible refine (rc _).mono ?_); clear rc; rintro e w5 ⟨rfl, rfl⟩))
        | (go_at_call 9; have cq := pads_any w4 S4.out.tab S4.out.low; ((with_reducible refine cq.mono ?_); clear cq; rintro e w6 ⟨rfl, hb⟩; have S6 := hid_ (S4.out.keep hb); have O6 := hid_ (O4.out.below hb (Nat.le_refl _)); have hcv6 := conv_strn S6.out.own.rd.1 n c LN.out; clear hb))
        | (go_at_call 11; have cq := cut_any w6 A4 N c4 P HPL.out (by omega) O6.out.rd.1 S6.out.tab S6.out.low; rw [if_pos HCB.out.2] at cq; ((with_reducible refine cq.mono ?_); clear cq; rintro e w7 ⟨A7, m7, c7, rfl, hm7, hO7, hB7⟩; rw [HCB.out.1] at hm7 hO7; obtain rfl : m7 = n := hm7.trans LN.out; have O7 := hid_ hO7; have S7 := hid_ (S6.out.keep hB7); have O67 := hid_ (O6.out.below hB7 (Nat.le_refl _)); clear hm7 hO7 hB7)))
      have V1 : Hid (∀ W : World, Below w7.heap.size w7 W → (convert 27 9 (.slice A4 N c4)).run Tryd.prog W = .ok (.string (strOf P)) W) := hid_ (fun W h => conv_strn (O67.out.rd.1.below h) N c4 HPL.out)
      have V2 : Hid (∀ W : World, Below w7.heap.size w7 W → (convert 27 9 (.slice A7 m7 c7)).run Tryd.prog W = .ok (.string (strOf l)) W) := hid_ (fun W h => conv_strn (O7.out.rd.1.below h) m7 c7 LN.out)
      have P2 : Hid (∀ W : World, Below w7.heap.size w7 W → Calls Tryd.prog 12 #[.string (strOf l)] W fun e w' => e = .returned (.string (strOf P)) ∧ Below w7.heap.size w7 w') := hid_ (fun W h => (HRP.out W).mono fun e w' hh => ⟨hh.1, h.trans (hh.2.mono h.size)⟩)
      have qP := strOf_eq P P rfl
      clear hcv hcv6
      refine region_quiet_in (C := fun W => Below w7.heap.size w7 W) (by kernel_rfl) (by kernel_rfl) ((Below.refl _ _).drew) ?_
      repeat (first | go_big_quiet_skip | (go_big_quiet_want; (first
        | (refine BigFrame.quiet_move _ rfl ?_; go_simp)
        | (refine BigFrame.quiet_assign _ rfl ?_; go_simp)
        | (refine quiet_call (.string (strOf P)) 12 #[.string (strOf l)] ?_ P2.out ?_; (focus (intro W; go_simp; done)); go_simp)
        | (refine quiet_run (.string (strOf P)) ?_ ?_; (focus (intro W hW; have h := V1.out W hW; go_simp; done)); go_simp)
        | (refine quiet_run (.string (strOf l)) ?_ ?_; (focus (intro W hW; have h := V2.out W hW; go_simp; done)); go_simp)
        | (refine quiet_run (.bool true) ?_ ?_; (focus (intro W hW; go_simp; done)); go_simp)); go_big_quiet_on))
      refine wpQuiet_nil ?_
      intro w8 hw8
      have X8 := hid_ (S7.out.keep hw8).below
      clear hw8 V1 V2 P2
      go_wp2
      go_ret
      exact ⟨rfl, X8.out⟩

theorem laid_met3 (os : Os) : laidMet Tryd.prog [("casket/pad.sizes", Rows.laid_casket_pad_sizes)] ((laidWorld os).forCall (fun _ _ => 0) ⟨#[], #[.slice none 0 0, .int .i64 0], []⟩).memory :=
  laidMet_of_run' 8 (by kernel_rfl) (by kernel_rfl)

/-- What the walk gives, for every argument and every world in which the constants lie. -/
theorem contract (H : Type) (enc : TypeId × Value → H) (W : World) (base : Nat) (args : Array Value) (ds gs : List (DataW H)) (before : List MemPlace)
    (hval : ∀ (j : Nat) t v, Tryd.f4.params[j]? = some t → args[j]? = some v → Value.okWide Tryd.prog W .any base t v)
    (hW : DataW.Whole enc Tryd.prog Tryd.f4.params.toList Rows.padBackSpec.vars false W args.toList ds gs before) (hL : laidMetH Tryd.prog Rows.padBackRow.laid W) :
    Calls Tryd.prog 4 args W fun e W' => ∃ v, e = .returned v ∧ Rows.padBackSpec.post enc Tryd.prog Tryd.f4 false true false false W args v W' := by
  obtain ⟨ht, hg1⟩ := sizes_of hL
  have hW' := hW
  obtain ⟨p, q, hA0, hV, rfl, hfz, hnd⟩ := hW
  have hA : DataW.TrodAll enc Tryd.prog W 0 (fun _ => true) true Tryd.f4.params.toList args.toList ds p := hA0
  rw [Tryd.params4] at hA hval
  obtain ⟨v0, vs0, d0, ds0, p0, q0, hargs, rfl, rfl, h0, r0⟩ := trodAll_cons hA
  obtain ⟨v1, vs1, d1, ds1, p1, q1, rfl, rfl, rfl, h1, r1⟩ := trodAll_cons r0
  obtain ⟨rfl, rfl, rfl⟩ := trodAll_nil r1
  obtain rfl : args = #[v0, v1] := by cases args; simp_all
  obtain ⟨rfl, rfl⟩ := trodVars_none hV
  obtain ⟨A0, l0, c0, rfl, hr0, hlc0, hcm0⟩ := open_bytes Tryd.underlying27 Tryd.underlying5 (by kernel_rfl) (hval 0 27 v0 rfl rfl) h0
  obtain ⟨a1, rfl, rfl, rfl, w1⟩ := open_int Tryd.underlying3 (hval 1 3 v1 rfl rfl) h1
  refine (walk W A0 l0 c0 hr0 hlc0 (by unfold maxLen at hcm0; omega) a1 ht hg1).mono fun e W' ⟨he, hg⟩ => ⟨_, he, ?_⟩
  exact law_post laidOut_ (of_decide_eq_true (by kernel_rfl)) rfl rfl Tryd.underlying4 rfl hW' hg

theorem reads (os : Os) {H : Type} (enc : TypeId × Value → H) : ∃ places, DataW.whole enc Tryd.prog ((laidWorld os).forCall (fun _ _ => 0) ⟨#[], #[.slice none 0 0, .int .i64 0], []⟩).memory Tryd.f4.params.toList Rows.padBackSpec.vars false #[Value.slice none 0 0, Value.int .i64 0].toList 8 = some ([.nil, .lit (.int .i64 0)], [], places) :=
  ⟨[], by kernel_rfl⟩

set_option maxRecDepth 100000 in
theorem lifted (os : Os) (started : os.Started) (H : Type) (enc : TypeId × Value → H) (F : Stop.Interp) :
    ReturnsInHanded {} Tryd.checked os 4 .any ((OpenSpec.ofChange Rows.padBackSpec).preRow enc Tryd.prog Tryd.f4 Rows.padBackRow.domain false Rows.padBackRow.laid) (((OpenSpec.ofChange Rows.padBackSpec).at F).post enc Tryd.prog Tryd.f4 false true false false) := by
  obtain ⟨places, hx⟩ := reads os enc
  refine returnsInHanded_of_row (C := Tryd.checked) (s := OpenSpec.ofChange Rows.padBackSpec) own_ started (by kernel_rfl) Tryd.func4
    (witness_row_at (enc := enc) (C := Tryd.checked) false (laidWorld os) #[.slice none 0 0, .int .i64 0] rfl (by kernel_rfl) (by kernel_rfl) (by kernel_rfl)
      (OpenSpec.preRow_of_cond 8 hx (by kernel_rfl) (fun k hk => by cases hk) (by kernel_rfl) (laid_met3 os))) ?_
  intro W base args ds gs before hval hW _ _ _ hL _ _
  exact contract H enc W base args ds gs before hval hW hL

theorem said : Rows.PadBackSaid :=
  OpenClaim.holds_of_cond 4 Tryd.f4 rfl rfl rfl rfl rfl rfl rfl ⟨rfl, rfl, rfl, rfl, rfl⟩ rfl rfl rfl rfl rfl (by kernel_rfl) Tryd.func4 (by kernel_rfl)
    (of_decide_eq_true (by kernel_rfl)) (by unfold Func.isWrapper; first | (rw [if_pos (by decide +kernel)]; kernel_rfl) | (rw [if_neg (by decide +kernel)]; exact ⟨rfl, rfl⟩))
    (fun os started H enc _ F => by rw [OpenClaim.pre_eq_preRow]; exact lifted os started H enc F)

/-- No parameter wants a stand-in; the program's own looks are off: what the card asks. -/
theorem plain (f : FuncId) (fn : Func) (hf : Tryd.pinned.checked.prog.funcNamed "casket/casketlaw10.PadBack" = some f) (hfn : Tryd.pinned.checked.prog.funcs[f]? = some fn) :
    false = Tryd.pinned.checked.prog.looks [] ∧ ∀ (j : Nat) t, fn.params[j]? = some t → Tryd.pinned.checked.prog.wantsStandIn t = false := by
  obtain rfl : f = 4 := Option.some.inj ((show Tryd.prog.funcNamed "casket/casketlaw10.PadBack" = some 4 by kernel_rfl).symm.trans hf) |>.symm
  obtain rfl : fn = Tryd.f4 := (Option.some.inj (Tryd.func4.symm.trans hfn)).symm
  refine ⟨by kernel_rfl, fun j t ht => ?_⟩
  rw [Tryd.params4] at ht
  have hm := Array.mem_of_getElem? ht
  simp only [List.mem_toArray, List.mem_cons, List.not_mem_nil, or_false] at hm
  rcases hm with rfl | rfl
  · exact (show Tryd.prog.wantsStandIn 27 = false by kernel_rfl)
  · exact (show Tryd.prog.wantsStandIn 3 = false by kernel_rfl)

/-- The card. -/
theorem proved : Rows.PadBackCardSaid :=
  Claim7.holds_tied_plain_at .later [] _ _ _ _ said (fun _ h => by cases h) (by kernel_rfl) (fun _ h => by cases h) padBack_row_tie rfl ⟨rfl, rfl⟩ (by kernel_rfl) rfl plain (by kernel_rfl)
#print axioms proved
end Go.Proofs.YteijlgifcmlkoabDoor.padBack
