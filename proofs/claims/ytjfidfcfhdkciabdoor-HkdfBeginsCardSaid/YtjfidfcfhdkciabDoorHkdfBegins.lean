/-
  Proved: for all keys, uses and counts HkdfBegins answers true: fewer bytes are the beginning of more. No condition.
-/
import Derived.Test.YtjfidfcfhdkciabDoorHl
namespace Go.Proofs.YtjfidfcfhdkciabDoor.hkdfBegins
open Go.ChangeShapes Go.WideShapes Go.ChangeAt Go.RowKit
set_option linter.unusedVariables false
set_option linter.unusedSimpArgs false

theorem hid_ {p : Prop} (h : p) : Hid p := h
theorem expandB_take (key use : List UInt8) (a b : Nat) (h : a ≤ b) : (expandB key use b).take a = expandB key use a := by rw [expandB, expandB, List.take_take, Nat.min_eq_left h]
theorem u64_nat (z : Int) : ∃ x : Nat, IntKind.u64.wrap z = (x : Int) ∧ x ≤ 18446744073709551615 := by
  have h : IntKind.u64.wrap z = z % 18446744073709551616 := by simp [IntKind.wrap, IntKind.signed, IntKind.bits]
  rw [h]
  exact ⟨(z % 18446744073709551616).toNat, by omega, by omega⟩


set_option maxRecDepth 100000 in
set_option maxHeartbeats 8000000 in
theorem walk (w : World) (A9 : Option Addr) (l9 : List UInt8) (c9 : Nat) (hr9 : Rd w w.heap.size A9 l9) (hlc9 : l9.length ≤ c9) (hcm9 : c9 ≤ 9223372036854775807)
    (A8 : Option Addr) (l8 : List UInt8) (c8 : Nat) (hr8 : Rd w w.heap.size A8 l8) (hlc8 : l8.length ≤ c8) (hcm8 : c8 ≤ 9223372036854775807) (z0 z1 : Int) (ht : Tab w) (hg1 : 0 < w.heap.size) :
    Calls Tryd.prog 10 #[.slice A9 l9.length c9, .slice A8 l8.length c8, .agg #[.int .i64 z0, .int .i64 z1]] w fun e w' => e = .returned (.bool true) ∧ Below w.heap.size w w' := by
  obtain ⟨m9, hm9⟩ : ∃ m, m = min l9.length 100 := ⟨_, rfl⟩
  have hmn9 := fun W => run_min2 l9.length 100 m9 hm9 W
  rw [show ((100 : Nat) : Int) = 100 from rfl] at hmn9
  have hs9 := fun W => slice_to A9 l9.length c9 (m9 : Int) m9 rfl (by omega) W
  have M9 := hid_ (show (l9.take 100).length = m9 by rw [List.length_take, hm9, Nat.min_comm])
  have R9 := hid_ (hr9.take 100)
  obtain ⟨m8, hm8⟩ : ∃ m, m = min l8.length 100 := ⟨_, rfl⟩
  have hmn8 := fun W => run_min2 l8.length 100 m8 hm8 W
  rw [show ((100 : Nat) : Int) = 100 from rfl] at hmn8
  have hs8 := fun W => slice_to A8 l8.length c8 (m8 : Int) m8 rfl (by omega) W
  have M8 := hid_ (show (l8.take 100).length = m8 by rw [List.length_take, hm8, Nat.min_comm])
  have R8 := hid_ (hr8.take 100)
  have hb9 : m9 ≤ 100 := by omega
  have hb8 : m8 ≤ 100 := by omega
  have hc9 : m9 ≤ c9 := by omega
  have hc8 : m8 ≤ c8 := by omega
  generalize l9.take 100 = t at *
  generalize l8.take 100 = b at *
  generalize l9.length = n9 at *
  generalize l8.length = n8 at *
  have HT := hid_ ht
  obtain ⟨x0, hx0, _⟩ := u64_nat z0
  obtain ⟨x1, hx1, _⟩ := u64_nat z1
  obtain ⟨ka, hka⟩ : ∃ a, x0 % 200 = a := ⟨_, rfl⟩
  obtain ⟨kd, hkd⟩ : ∃ a, x1 % 200 = a := ⟨_, rfl⟩
  obtain ⟨kb, hkb⟩ : ∃ a, ka + kd = a := ⟨_, rfl⟩
  have a200 : ka < 200 := by omega
  have d200 : kd < 200 := by omega
  have r1 : (x0 : Int).tmod 200 = (ka : Int) := by rw [Int.tmod_eq_emod_of_nonneg (by omega)]; omega
  have r2 : (x1 : Int).tmod 200 = (kd : Int) := by rw [Int.tmod_eq_emod_of_nonneg (by omega)]; omega
  have r3 : IntKind.u64.wrap (ka : Int) = (ka : Int) := IntWalk.u64_in _ (by omega)
  have r4 : IntKind.u64.wrap (kd : Int) = (kd : Int) := IntWalk.u64_in _ (by omega)
  have r5 : IntKind.i64.wrap (ka : Int) = (ka : Int) := IntWalk.i64_in _ (by omega)
  have r6 : IntKind.i64.wrap (kd : Int) = (kd : Int) := IntWalk.i64_in _ (by omega)
  have r7 : IntKind.i64.wrap ((ka : Int) + (kd : Int)) = (kb : Int) := by rw [IntWalk.i64_in _ (by omega)]; omega
  have hab : ka ≤ kb := by omega
  have hb400 : kb ≤ 400 := by omega
  have HTK := hid_ (expandB_take t b ka kb hab)
  have LA := hid_ (expandB_len t b ka (by omega))
  have LB := hid_ (expandB_len t b kb (by omega))
  obtain ⟨w1, hw1⟩ : ∃ w1, w.alloc (.cells #[.int .i64 z0, .int .i64 z1] 22) = w1 := ⟨_, rfl⟩
  have X1 := hid_ (show Below w.heap.size w w1 by rw [← hw1]; exact (Below.refl _ _).alloc (Nat.le_refl _) _)
  have K1 := hid_ (show Bk w1 w.heap.size 22 #[.int .i64 z0, .int .i64 z1] by rw [← hw1]; exact Bk.new w _ _)
  clear hr9 hr8 hlc9 hlc8 hm9 hm8 ht hka hkd hkb
  go_enter Tryd.func10, Tryd.ntmps10
  go_upto_region 1 with fail
  clear hw1
  go_cut [0, 1] (fun s0 s1 wx => s0 = .slice A9 m9 c9 ∧ s1 = .slice A8 m8 c8 ∧ Hid (Below w1.heap.size w1 wx))
  case first =>
    refine region_quiet_in (C := fun W => Below w1.heap.size w1 W) (by kernel_rfl) (by kernel_rfl) ((Below.refl _ _).drew) ?_
    repeat (first | go_big_quiet_skip | (go_big_quiet_want; (first
      | (refine BigFrame.quiet_move _ rfl ?_; go_simp)
      | (refine BigFrame.quiet_assign _ rfl ?_; go_simp)
      | (refine quiet_run (.int .i64 (n9 : Int)) ?_ ?_; (focus (intro W hW; go_simp; done)); go_simp)
      | (refine quiet_run (.int .i64 (n8 : Int)) ?_ ?_; (focus (intro W hW; go_simp; done)); go_simp)
      | (refine quiet_run (.int .i64 (m9 : Int)) ?_ ?_; (focus (intro W hW; go_simp; done)); go_simp)
      | (refine quiet_run (.int .i64 (m8 : Int)) ?_ ?_; (focus (intro W hW; go_simp; done)); go_simp)
      | (refine quiet_run (.slice A9 m9 c9) ?_ ?_; (focus (intro W hW; go_simp; done)); go_simp)
      | (refine quiet_run (.slice A8 m8 c8) ?_ ?_; (focus (intro W hW; go_simp; done)); go_simp)); go_big_quiet_on))
    refine wpQuiet_nil ?_
    intro w3 hw3
    have X3 : Hid (Below w1.heap.size w1 w3) := hid_ hw3
    clear hw3
    go_wp2
    go_meet
    exact ⟨rfl, rfl, X3⟩
  case rest =>
    obtain ⟨rfl, rfl, X3⟩ := hcut
    rename_i K hK
    refine hK _ _ ?_
    clear hK
    have Y3 := hid_ (X1.out.trans (X3.out.mono X1.out.size))
    have K3 := K1.out.below X3.out K1.out.lt
    have hc0 := K3.cell 0
    have hc1 := K3.cell 1
    simp only [List.getElem?_toArray, List.getElem?_cons_zero, List.getElem?_cons_succ] at hc0 hc1
    clear K3
    have RK := hid_ ((R9.out.below Y3.out).more Y3.out.size)
    have RU := hid_ ((R8.out.below Y3.out).more Y3.out.size)
    have T3 := hid_ (show Tab wc from fun t h => (Y3.out.cell (p := ⟨_, t, none⟩) hg1).trans (HT.out t h))
    have g3 : 0 < wc.heap.size := Nat.lt_of_lt_of_le hg1 Y3.out.size
    have cx := expand_any wc A9 m9 c9 t M9.out (by omega) hc9 hcm9 RK.out A8 m8 c8 b M8.out (by omega) hc8 hcm8 RU.out ka (by omega) T3.out g3
    generalize hLA : expandB t b ka = L1 at *
    generalize hLB : expandB t b kb = L2 at *
    go_upto_region 6 with (first
      | (go_at_call 28; ((with_reducible refine cx.mono ?_); rintro e w5 ⟨A1, c1, rfl, ho, hb⟩; rw [LA.out] at ho ⊢; have O5 := hid_ ho; have X5 := hid_ hb; clear hb ho cx))
      | (go_at_call 28; have cy := expand_any w5 A9 m9 c9 t M9.out (by omega) hc9 hcm9 ((RK.out.below X5.out).more X5.out.size) A8 m8 c8 b M8.out (by omega) hc8 hcm8 ((RU.out.below X5.out).more X5.out.size) kb (by omega) (fun t h => (X5.out.cell (p := ⟨_, t, none⟩) g3).trans (T3.out t h)) (Nat.lt_of_lt_of_le g3 X5.out.size); rw [hLB] at cy; ((with_reducible refine cy.mono ?_); clear cy; rintro e w6 ⟨A2, c2, rfl, ho, hb⟩; rw [LB.out] at ho ⊢; have O6 := hid_ ho; have O5b := hid_ (O5.out.below hb (Nat.le_refl _)); have X6 := hid_ (X5.out.trans (hb.mono X5.out.size)); clear hb ho)))
    obtain ⟨p1, p2⟩ := O6.out.cap
    have hsl := fun W => slice_to A2 kb c2 (ka : Int) ka rfl (by omega) W
    have V1 : Hid (∀ W : World, Below w6.heap.size w6 W → (convert 29 9 (.slice A2 ka c2)).run Tryd.prog W = .ok (.string (strOf L1)) W) := hid_ (fun W h => by have hh := conv_strn ((O6.out.rd.1.take ka).below h) ka c2 (by rw [List.length_take, LB.out]; omega); rw [HTK.out] at hh; exact hh)
    have V2 : Hid (∀ W : World, Below w6.heap.size w6 W → (convert 29 9 (.slice A1 ka c1)).run Tryd.prog W = .ok (.string (strOf L1)) W) := hid_ (fun W h => conv_strn (O5b.out.rd.1.below h) ka c1 LA.out)
    have Z6 := hid_ (Y3.out.trans (X6.out.mono Y3.out.size))
    have P1 : Hid (∀ W : World, Below w6.heap.size w6 W → Calls Tryd.prog 29 #[] W fun e w' => e = .returned (.bool true) ∧ Below w6.heap.size w6 w') := hid_ (fun W h => (expands_any W (fun t ht => ((Z6.out.trans (h.mono Z6.out.size)).cell (p := ⟨_, t, none⟩) hg1).trans (HT.out t ht)) (Nat.lt_of_lt_of_le hg1 (Z6.out.trans (h.mono Z6.out.size)).size)).mono fun e w' hh => ⟨hh.1, h.trans (hh.2.mono h.size)⟩)
    have q1 := strOf_eq L1 L1 rfl
    clear hc0 hc1 r1 r2 r3 r4 r5 r6 r7 hLA hLB p1 p2
    refine region_quiet_in (C := fun W => Below w6.heap.size w6 W) (by kernel_rfl) (by kernel_rfl) ((Below.refl _ _).drew) ?_
    repeat (first | go_big_quiet_skip | (go_big_quiet_want; (first
      | (refine BigFrame.quiet_move _ rfl ?_; go_simp)
      | (refine BigFrame.quiet_assign _ rfl ?_; go_simp)
      | (refine quiet_call (.bool true) 29 #[] ?_ P1.out ?_; (focus (intro W; go_simp; done)); go_simp)
      | (refine quiet_run (.int .i64 (ka : Int)) ?_ ?_; (focus (intro W hW; go_simp; done)); go_simp)
      | (refine quiet_run (.int .i64 (kb : Int)) ?_ ?_; (focus (intro W hW; go_simp; done)); go_simp)
      | (refine quiet_run (.slice A2 ka c2) ?_ ?_; (focus (intro W hW; go_simp; done)); go_simp)
      | (refine quiet_run (.string (strOf L1)) ?_ ?_; (focus (intro W hW; have h := V1.out W hW; have h2 := V2.out W hW; go_simp; done)); go_simp)
      | (refine quiet_run (.bool true) ?_ ?_; (focus (intro W hW; go_simp; done)); go_simp)); go_big_quiet_on))
    refine wpQuiet_nil ?_
    intro w7 hw7
    have X7 := hid_ (Z6.out.trans (Below.mono hw7 Z6.out.size))
    clear hw7 V1 V2 P1
    go_wp2
    go_ret
    exact ⟨rfl, X7.out⟩

theorem laid_met3 (os : Os) : laidMet Tryd.prog [("casket/sha2.roundWords", Rows.laid_casket_sha2_roundWords)] ((laidWorld os).forCall (fun _ _ => 0) ⟨#[], #[.slice none 0 0, .slice none 0 0, .agg #[.int .i64 0, .int .i64 0]], []⟩).memory :=
  laidMet_of_run' 8 (by kernel_rfl) (by kernel_rfl)

/-- What the walk gives, for every argument and every world in which the constants lie. -/
theorem contract (H : Type) (enc : TypeId × Value → H) (W : World) (base : Nat) (args : Array Value) (ds gs : List (DataW H)) (before : List MemPlace)
    (hval : ∀ (j : Nat) t v, Tryd.f10.params[j]? = some t → args[j]? = some v → Value.okWide Tryd.prog W .any base t v)
    (hW : DataW.Whole enc Tryd.prog Tryd.f10.params.toList Rows.hkdfBeginsSpec.vars false W args.toList ds gs before) (hL : laidMetH Tryd.prog Rows.hkdfBeginsRow.laid W) :
    Calls Tryd.prog 10 args W fun e W' => ∃ v, e = .returned v ∧ Rows.hkdfBeginsSpec.post enc Tryd.prog Tryd.f10 false true false false W args v W' := by
  obtain ⟨ht, hg1⟩ := tab_of hL
  have hW' := hW
  obtain ⟨p, q, hA0, hV, rfl, hfz, hnd⟩ := hW
  have hA : DataW.TrodAll enc Tryd.prog W 0 (fun _ => true) true Tryd.f10.params.toList args.toList ds p := hA0
  rw [Tryd.params10] at hA hval
  obtain ⟨v0, vs0, d0, ds0, p0, q0, hargs, rfl, rfl, h0, r0⟩ := trodAll_cons hA
  obtain ⟨v1, vs1, d1, ds1, p1, q1, rfl, rfl, rfl, h1, r1⟩ := trodAll_cons r0
  obtain ⟨v2, vs2, d2, ds2, p2, q2, rfl, rfl, rfl, h2, r2⟩ := trodAll_cons r1
  obtain ⟨rfl, rfl, rfl⟩ := trodAll_nil r2
  obtain rfl : args = #[v0, v1, v2] := by cases args; simp_all
  obtain ⟨rfl, rfl⟩ := trodVars_none hV
  obtain ⟨A0, l0, c0, rfl, hr0, hlc0, hcm0⟩ := open_bytes Tryd.underlying29 Tryd.underlying5 (by kernel_rfl) (hval 0 29 v0 rfl rfl) h0
  obtain ⟨A1, l1, c1, rfl, hr1, hlc1, hcm1⟩ := open_bytes Tryd.underlying29 Tryd.underlying5 (by kernel_rfl) (hval 1 29 v1 rfl rfl) h1
  obtain ⟨b0, b1, rfl, _, _⟩ := open_pair Tryd.underlying22 Tryd.underlying3 (by kernel_rfl) (by kernel_rfl) (hval 2 22 v2 rfl rfl) h2
  refine (walk W A0 l0 c0 hr0 hlc0 (by unfold maxLen at hcm0; omega) A1 l1 c1 hr1 hlc1 (by unfold maxLen at hcm1; omega) b0 b1 ht hg1).mono fun e W' ⟨he, hg⟩ => ⟨_, he, ?_⟩
  exact law_post laidOut_ (of_decide_eq_true (by kernel_rfl)) rfl rfl Tryd.underlying4 rfl hW' hg

theorem reads (os : Os) {H : Type} (enc : TypeId × Value → H) : ∃ places, DataW.whole enc Tryd.prog ((laidWorld os).forCall (fun _ _ => 0) ⟨#[], #[.slice none 0 0, .slice none 0 0, .agg #[.int .i64 0, .int .i64 0]], []⟩).memory Tryd.f10.params.toList Rows.hkdfBeginsSpec.vars false #[Value.slice none 0 0, Value.slice none 0 0, Value.agg #[.int .i64 0, .int .i64 0]].toList 8 = some ([.nil, .nil, .agg [.lit (.int .i64 0), .lit (.int .i64 0)]], [], places) :=
  ⟨[], by kernel_rfl⟩

set_option maxRecDepth 100000 in
theorem lifted (os : Os) (started : os.Started) (H : Type) (enc : TypeId × Value → H) (F : Stop.Interp) :
    ReturnsInHanded {} Tryd.checked os 10 .any ((OpenSpec.ofChange Rows.hkdfBeginsSpec).preRow enc Tryd.prog Tryd.f10 Rows.hkdfBeginsRow.domain false Rows.hkdfBeginsRow.laid) (((OpenSpec.ofChange Rows.hkdfBeginsSpec).at F).post enc Tryd.prog Tryd.f10 false true false false) := by
  obtain ⟨places, hx⟩ := reads os enc
  refine returnsInHanded_of_row (C := Tryd.checked) (s := OpenSpec.ofChange Rows.hkdfBeginsSpec) own_ started (by kernel_rfl) Tryd.func10
    (witness_row_at (enc := enc) (C := Tryd.checked) false (laidWorld os) #[.slice none 0 0, .slice none 0 0, .agg #[.int .i64 0, .int .i64 0]] rfl (by kernel_rfl) (by kernel_rfl) (by kernel_rfl)
      (OpenSpec.preRow_of_cond 8 hx (by kernel_rfl) (fun k hk => by cases hk) (by kernel_rfl) (laid_met3 os))) ?_
  intro W base args ds gs before hval hW _ _ _ hL _ _
  exact contract H enc W base args ds gs before hval hW hL

theorem said : Rows.HkdfBeginsSaid :=
  OpenClaim.holds_of_cond 10 Tryd.f10 rfl rfl rfl rfl rfl rfl rfl ⟨rfl, rfl, rfl, rfl, rfl⟩ rfl rfl rfl rfl rfl (by kernel_rfl) Tryd.func10 (by kernel_rfl)
    (of_decide_eq_true (by kernel_rfl)) (by unfold Func.isWrapper; first | (rw [if_pos (by decide +kernel)]; kernel_rfl) | (rw [if_neg (by decide +kernel)]; exact ⟨rfl, rfl⟩))
    (fun os started H enc _ F => by rw [OpenClaim.pre_eq_preRow]; exact lifted os started H enc F)

/-- No parameter wants a stand-in; the program's own looks are off: what the card asks. -/
theorem plain (f : FuncId) (fn : Func) (hf : Tryd.pinned.checked.prog.funcNamed "casket/casketlaw04.HkdfBegins" = some f) (hfn : Tryd.pinned.checked.prog.funcs[f]? = some fn) :
    false = Tryd.pinned.checked.prog.looks [] ∧ ∀ (j : Nat) t, fn.params[j]? = some t → Tryd.pinned.checked.prog.wantsStandIn t = false := by
  obtain rfl : f = 10 := Option.some.inj ((show Tryd.prog.funcNamed "casket/casketlaw04.HkdfBegins" = some 10 by kernel_rfl).symm.trans hf) |>.symm
  obtain rfl : fn = Tryd.f10 := (Option.some.inj (Tryd.func10.symm.trans hfn)).symm
  refine ⟨by kernel_rfl, fun j t ht => ?_⟩
  rw [Tryd.params10] at ht
  have hm := Array.mem_of_getElem? ht
  simp only [List.mem_toArray, List.mem_cons, List.not_mem_nil, or_false] at hm
  rcases hm with rfl | rfl | rfl
  · exact (show Tryd.prog.wantsStandIn 29 = false by kernel_rfl)
  · exact (show Tryd.prog.wantsStandIn 29 = false by kernel_rfl)
  · exact (show Tryd.prog.wantsStandIn 22 = false by kernel_rfl)

/-- The card. -/
theorem proved : Rows.HkdfBeginsCardSaid :=
  Claim7.holds_tied_plain_at .later [] _ _ _ _ said (fun _ h => by cases h) (by kernel_rfl) (fun _ h => by cases h) hkdfBegins_row_tie rfl ⟨rfl, rfl⟩ (by kernel_rfl) rfl plain (by kernel_rfl)
#print axioms proved
end Go.Proofs.YtjfidfcfhdkciabDoor.hkdfBegins
