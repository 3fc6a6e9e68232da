/-
  Proved: for all masters and epochs KeysSeal answers true: the key of an epoch is told, or that there is none. No condition.
-/
import Derived.Test.YteijlgifcmlkoaaDoorHo
import Derived.Test.YteijlgifcmlkoaaDoorOa
namespace Go.Proofs.YteijlgifcmlkoaaDoor.keysSeal
open Go.ChangeShapes Go.WideShapes Go.ChangeAt Go.RowKit
set_option linter.unusedVariables false
set_option linter.unusedSimpArgs false

theorem hid_ {p : Prop} (h : p) : Hid p := h

set_option maxRecDepth 100000 in
set_option maxHeartbeats 8000000 in
theorem walk (w : World) (M : List UInt8) (hm : M.length = 32) (z : Int) (ht : Tab w) (hg1 : 1 < w.heap.size) :
    Calls Tryd.prog 5 #[.agg (rowOf M), .int .i64 z] w fun e w' => e = .returned (.bool true) ∧ Below w.heap.size w w' := by
  have hz := z32
  have hall := dig_all
  obtain ⟨r, hre⟩ : ∃ r, w.heap.size = r := ⟨_, rfl⟩
  obtain ⟨w0, hw0⟩ : ∃ w0, w.alloc (.cells (rowOf M) 23) = w0 := ⟨_, rfl⟩
  have B0 := hid_ (show Below r w w0 by rw [← hw0, ← hre]; exact (Below.refl w.heap.size w).alloc (Nat.le_refl _) _)
  have K0 := hid_ (show Bk w0 r 23 (rowOf M) by rw [← hw0, ← hre]; exact Bk.new w _ _)
  have HRE := hid_ hre
  rw [hre] at hg1
  have HT := hid_ (show Tab w0 from fun t h => (B0.out.cell (p := ⟨_, t, none⟩) hg1).trans (ht t h))
  have IM := hid_ (i32r M hm)
  have ML := hid_ hm
  have hg0 : 1 < w0.heap.size := by have := K0.out.lt; omega
  have hle0 : r ≤ w0.heap.size := Nat.le_of_lt K0.out.lt
  clear ht hm
  by_cases hok : 1 ≤ z ∧ z ≤ 1048576
  · obtain ⟨k, rfl⟩ : ∃ k : Nat, z = (k : Int) := ⟨z.toNat, by omega⟩
    have cs := kseal_yes w0 M ML.out k (by omega) (by omega) HT.out hg0
    have ce := fun W => refEpoch_any W (k : Int) true (decide_eq_true hok).symm
    have LL := hid_ (sealK_len M k)
    have HS : Hid (∀ W : World, Calls Tryd.prog 17 #[.string (strOf M), .int .i64 (k : Int)] W fun e w' => e = .returned (.string (strOf (sealK M k))) ∧ Below W.heap.size W w') := hid_ (fun W => refSealK_any W M ML.out k (by omega))
    generalize sealK M k = L at *
    have IL := hid_ (i32r L LL.out)
    have QL := hid_ (show (rowOf (zbytes 32)).size = (rowOf L).size by rw [rowOf_size, rowOf_size, LL.out, zbytes_len])
    clear hok
    go_enter Tryd.func5, Tryd.ntmps5
    go_upto_region 4 with (first
      | (refine wpList_load_row rfl 23 (.tmp 2) rfl r rfl 23 (rowOf M) (0, 0) _ K0.out Tryd.underlying23 rfl IM.out ?_)
      | (go_at_call 15; ((with_reducible refine cs.mono ?_); rintro e w5 ⟨rfl, hb⟩; have K5 := hid_ (K0.out.below hb K0.out.lt); have B5 := hid_ (B0.out.trans (hb.mono hle0)); clear hb cs))
      | (refine wpList_put_row rfl 23 _ _ rfl w5.heap.size (rowOf L) rfl rfl 23 (rowOf (zbytes 32)) (Bk.new w5 _ _) IL.out QL.out (bytes_one _) ?_; intro w6 k6 g6 s6; have BX : Below w5.heap.size w5 w6 := (((Below.refl w5.heap.size w5).alloc (Nat.le_refl _) (.cells (rowOf (zbytes 32)) 23)).grown g6 (by simp) (fun k hk => by injection hk with hk; omega)); have D6 := hid_ k6; have K6 := hid_ (K5.out.below BX K5.out.lt); have B6 := hid_ (B5.out.trans (BX.mono (by have := K5.out.lt; omega))); clear k6 g6 s6 BX)
      | (go_at_call 16; ((with_reducible refine (ce _).mono ?_); rintro e w7 ⟨rfl, rfl⟩)))
    generalize w5.heap.size = gk at *
    have V1 : Hid (∀ W : World, Below w6.heap.size w6 W → (convert 22 9 (.slice (some ⟨gk, 0, none⟩) 32 32)).run Tryd.prog W = .ok (.string (strOf L)) W) := hid_ (fun W h => conv_strn ((D6.out.rd D6.out.lt).below h) 32 32 LL.out)
    have V2 : Hid (∀ W : World, Below w6.heap.size w6 W → (convert 22 9 (.slice (some ⟨r, 0, none⟩) 32 32)).run Tryd.prog W = .ok (.string (strOf M)) W) := hid_ (fun W h => conv_strn ((K6.out.rd K6.out.lt).below h) 32 32 ML.out)
    have P1 : Hid (∀ W : World, Below w6.heap.size w6 W → Calls Tryd.prog 12 #[] W fun e w' => e = .returned (.bool true) ∧ Below w6.heap.size w6 w') := hid_ (fun W h => (hides_any W).mono fun e w' hh => ⟨hh.1, h.trans (hh.2.mono h.size)⟩)
    have P2 : Hid (∀ W : World, Below w6.heap.size w6 W → Calls Tryd.prog 17 #[.string (strOf M), .int .i64 (k : Int)] W fun e w' => e = .returned (.string (strOf L)) ∧ Below w6.heap.size w6 w') := hid_ (fun W h => (HS.out W).mono fun e w' hh => ⟨hh.1, h.trans (hh.2.mono h.size)⟩)
    have qL := strOf_eq L L rfl
    have hle6 : r ≤ w6.heap.size := Nat.le_of_lt K6.out.lt
    clear hw0 hre
    refine region_quiet_in (C := fun W => Below w6.heap.size w6 W) (by kernel_rfl) (by kernel_rfl) ((Below.refl _ _).drew) ?_
    repeat (first | go_big_quiet_skip | (go_big_quiet_want; (first
      | (refine BigFrame.quiet_move _ rfl ?_; go_simp)
      | (refine BigFrame.quiet_assign _ rfl ?_; go_simp)
      | (refine quiet_call (.bool true) 12 #[] ?_ P1.out ?_; (focus (intro W; go_simp; done)); go_simp)
      | (refine quiet_call (.string (strOf L)) 17 #[.string (strOf M), .int .i64 (k : Int)] ?_ P2.out ?_; (focus (intro W; go_simp; done)); go_simp)
      | (refine quiet_run (.slice (some ⟨gk, 0, none⟩) 32 32) ?_ ?_; (focus (intro W hW; have h := hall gk W; go_simp; done)); go_simp)
      | (refine quiet_run (.slice (some ⟨r, 0, none⟩) 32 32) ?_ ?_; (focus (intro W hW; have h := hall r W; go_simp; done)); go_simp)
      | (refine quiet_run (.string (strOf L)) ?_ ?_; (focus (intro W hW; have h := V1.out W hW; go_simp; done)); go_simp)
      | (refine quiet_run (.string (strOf M)) ?_ ?_; (focus (intro W hW; have h := V2.out W hW; go_simp; done)); go_simp)
      | (refine quiet_run (.int .i64 (k : Int)) ?_ ?_; (focus (intro W hW; go_simp; done)); go_simp)
      | (refine quiet_run (.bool true) ?_ ?_; (focus (intro W hW; go_simp; done)); go_simp)); go_big_quiet_on))
    refine wpQuiet_nil ?_
    intro w8 hw8
    have X8 := hid_ (B6.out.trans (Below.mono hw8 hle6))
    clear hw8 V1 V2 P1 P2
    go_wp2
    go_ret
    exact ⟨rfl, HRE.out ▸ X8.out⟩
  · have cs : Calls Tryd.prog 15 #[.agg (rowOf M), .int .i64 z] w0 fun e w' => e = .returned (.tuple #[.agg (rowOf (zbytes 32)), .int .i64 1]) ∧ Below w0.heap.size w0 w' := by
      by_cases h1 : z < 1
      · exact kseal_no1 w0 M z h1
      · exact kseal_no2 w0 M z (by omega) (by omega)
    have ce := fun W => refEpoch_any W z false (decide_eq_false hok).symm
    have LL := zbytes_len 32
    have hzb : Hid (zbytes 32 = zbytes 32) := hid_ rfl
    have EQ1 := fun W => eql32 (zbytes 32) (zbytes 32) LL LL W
    have EQ2 := fun W => eqIn32 (zbytes 32) (zbytes 32) LL LL W
    have HBL := hid_ (show Tryd.prog.built 23 [] = some (rowOf (zbytes 32)) by kernel_rfl)
    have ch := hides_any
    generalize hLz : zbytes 32 = L at *
    rw [show (L == L) = true by simp] at EQ1 EQ2
    have IL := hid_ (i32r L LL)
    clear hok hzb LL
    go_enter Tryd.func5, Tryd.ntmps5
    go_wp2_with (first
      | (refine wpList_load_row rfl 23 (.tmp 2) rfl r rfl 23 (rowOf M) (0, 0) _ K0.out Tryd.underlying23 rfl IM.out ?_)
      | (go_at_call 15; ((with_reducible refine cs.mono ?_); rintro e w5 ⟨rfl, hb⟩; have K5 := hid_ (K0.out.below hb K0.out.lt); have B5 := hid_ (B0.out.trans (hb.mono hle0)); clear hb cs))
      | (refine wpList_put_row rfl 23 _ _ rfl w5.heap.size (rowOf L) rfl rfl 23 (rowOf L) (Bk.new w5 _ _) IL.out rfl (bytes_one _) ?_; intro w6 k6 g6 s6; have BX : Below w5.heap.size w5 w6 := (((Below.refl w5.heap.size w5).alloc (Nat.le_refl _) (.cells (rowOf L) 23)).grown g6 (by simp) (fun k hk => by injection hk with hk; omega)); have D6 := hid_ k6; have B6 := hid_ (B5.out.trans (BX.mono (by have := K5.out.lt; omega))); have hle6 : r ≤ w6.heap.size := (by have := K5.out.lt; have := BX.size; omega); clear k6 g6 s6 BX)
      | (go_at_call 16; ((with_reducible refine (ce _).mono ?_); rintro e w7 ⟨rfl, rfl⟩))
      | (go_at_call 12; ((with_reducible refine (ch _).mono ?_); rintro e w8 ⟨rfl, hb⟩; have D8 := hid_ (D6.out.below hb D6.out.lt); have X8 := hid_ (B6.out.trans (hb.mono hle6)); clear hb))
      | (refine wpList_load_rowW (by go_simp) 23 (.tmp 5) rfl w5.heap.size rfl 23 (rowOf L) D8.out _ Tryd.underlying23 rfl IL.out ?_)
      | (refine wpList_builtW (by go_simp) 23 _ rfl (rowOf L) HBL.out ?_))
    go_ret
    exact ⟨rfl, HRE.out ▸ X8.out⟩

theorem laid_met3 (os : Os) : laidMet Tryd.prog [("casket/sha2.roundWords", Rows.laid_casket_sha2_roundWords)] ((laidWorld os).forCall (fun _ _ => 0) ⟨#[], #[.agg (rowOf (zbytes 32)), .int .i64 0], []⟩).memory :=
  laidMet_of_run' 8 (by kernel_rfl) (by kernel_rfl)

/-- What the walk gives, for every argument and every world in which the constants lie. -/
theorem contract (H : Type) (enc : TypeId × Value → H) (W : World) (base : Nat) (args : Array Value) (ds gs : List (DataW H)) (before : List MemPlace)
    (hval : ∀ (j : Nat) t v, Tryd.f5.params[j]? = some t → args[j]? = some v → Value.okWide Tryd.prog W .any base t v)
    (hW : DataW.Whole enc Tryd.prog Tryd.f5.params.toList Rows.keysSealSpec.vars false W args.toList ds gs before) (hL : laidMetH Tryd.prog Rows.keysSealRow.laid W) :
    Calls Tryd.prog 5 args W fun e W' => ∃ v, e = .returned v ∧ Rows.keysSealSpec.post enc Tryd.prog Tryd.f5 false true false false W args v W' := by
  obtain ⟨ht, hg1⟩ := tab_of hL
  have hW' := hW
  obtain ⟨p, q, hA0, hV, rfl, hfz, hnd⟩ := hW
  have hA : DataW.TrodAll enc Tryd.prog W 0 (fun _ => true) true Tryd.f5.params.toList args.toList ds p := hA0
  rw [Tryd.params5] at hA hval
  obtain ⟨v0, vs0, d0, ds0, p0, q0, hargs, rfl, rfl, h0, r0⟩ := trodAll_cons hA
  obtain ⟨v1, vs1, d1, ds1, p1, q1, rfl, rfl, rfl, h1, r1⟩ := trodAll_cons r0
  obtain ⟨rfl, rfl, rfl⟩ := trodAll_nil r1
  obtain rfl : args = #[v0, v1] := by cases args; simp_all
  obtain ⟨rfl, rfl⟩ := trodVars_none hV
  obtain ⟨M, rfl, hM⟩ := open_arr8 Tryd.underlying23 Tryd.underlying5 (by kernel_rfl) (by kernel_rfl) (hval 0 23 v0 rfl rfl) h0
  obtain ⟨a1, rfl, rfl, rfl, w1⟩ := open_int Tryd.underlying3 (hval 1 3 v1 rfl rfl) h1
  refine (walk W M hM a1 ht hg1).mono fun e W' ⟨he, hg⟩ => ⟨_, he, ?_⟩
  exact law_post laidOut_ (of_decide_eq_true (by kernel_rfl)) rfl rfl Tryd.underlying4 rfl hW' hg

theorem reads (os : Os) {H : Type} (enc : TypeId × Value → H) : ∃ places, DataW.whole enc Tryd.prog ((laidWorld os).forCall (fun _ _ => 0) ⟨#[], #[.agg (rowOf (zbytes 32)), .int .i64 0], []⟩).memory Tryd.f5.params.toList Rows.keysSealSpec.vars false #[Value.agg (rowOf (zbytes 32)), Value.int .i64 0].toList 8 = some ([.agg [.lit (.int .u8 0), .lit (.int .u8 0), .lit (.int .u8 0), .lit (.int .u8 0), .lit (.int .u8 0), .lit (.int .u8 0), .lit (.int .u8 0), .lit (.int .u8 0), .lit (.int .u8 0), .lit (.int .u8 0), .lit (.int .u8 0), .lit (.int .u8 0), .lit (.int .u8 0), .lit (.int .u8 0), .lit (.int .u8 0), .lit (.int .u8 0), .lit (.int .u8 0), .lit (.int .u8 0), .lit (.int .u8 0), .lit (.int .u8 0), .lit (.int .u8 0), .lit (.int .u8 0), .lit (.int .u8 0), .lit (.int .u8 0), .lit (.int .u8 0), .lit (.int .u8 0), .lit (.int .u8 0), .lit (.int .u8 0), .lit (.int .u8 0), .lit (.int .u8 0), .lit (.int .u8 0), .lit (.int .u8 0)], .lit (.int .i64 0)], [], places) :=
  ⟨[], by kernel_rfl⟩

set_option maxRecDepth 100000 in
theorem lifted (os : Os) (started : os.Started) (H : Type) (enc : TypeId × Value → H) (F : Stop.Interp) :
    ReturnsInHanded {} Tryd.checked os 5 .any ((OpenSpec.ofChange Rows.keysSealSpec).preRow enc Tryd.prog Tryd.f5 Rows.keysSealRow.domain false Rows.keysSealRow.laid) (((OpenSpec.ofChange Rows.keysSealSpec).at F).post enc Tryd.prog Tryd.f5 false true false false) := by
  obtain ⟨places, hx⟩ := reads os enc
  refine returnsInHanded_of_row (C := Tryd.checked) (s := OpenSpec.ofChange Rows.keysSealSpec) own_ started (by kernel_rfl) Tryd.func5
    (witness_row_at (enc := enc) (C := Tryd.checked) false (laidWorld os) #[.agg (rowOf (zbytes 32)), .int .i64 0] rfl (by kernel_rfl) (by kernel_rfl) (by kernel_rfl)
      (OpenSpec.preRow_of_cond 8 hx (by kernel_rfl) (fun k hk => by cases hk) (by kernel_rfl) (laid_met3 os))) ?_
  intro W base args ds gs before hval hW _ _ _ hL _ _
  exact contract H enc W base args ds gs before hval hW hL

theorem said : Rows.KeysSealSaid :=
  OpenClaim.holds_of_cond 5 Tryd.f5 rfl rfl rfl rfl rfl rfl rfl ⟨rfl, rfl, rfl, rfl, rfl⟩ rfl rfl rfl rfl rfl (by kernel_rfl) Tryd.func5 (by kernel_rfl)
    (of_decide_eq_true (by kernel_rfl)) (by unfold Func.isWrapper; first | (rw [if_pos (by decide +kernel)]; kernel_rfl) | (rw [if_neg (by decide +kernel)]; exact ⟨rfl, rfl⟩))
    (fun os started H enc _ F => by rw [OpenClaim.pre_eq_preRow]; exact lifted os started H enc F)

/-- No parameter wants a stand-in; the program's own looks are off: what the card asks. -/
theorem plain (f : FuncId) (fn : Func) (hf : Tryd.pinned.checked.prog.funcNamed "casket/casketlaw11.KeysSeal" = some f) (hfn : Tryd.pinned.checked.prog.funcs[f]? = some fn) :
    false = Tryd.pinned.checked.prog.looks [] ∧ ∀ (j : Nat) t, fn.params[j]? = some t → Tryd.pinned.checked.prog.wantsStandIn t = false := by
  obtain rfl : f = 5 := Option.some.inj ((show Tryd.prog.funcNamed "casket/casketlaw11.KeysSeal" = some 5 by kernel_rfl).symm.trans hf) |>.symm
  obtain rfl : fn = Tryd.f5 := (Option.some.inj (Tryd.func5.symm.trans hfn)).symm
  refine ⟨by kernel_rfl, fun j t ht => ?_⟩
  rw [Tryd.params5] at ht
  have hm := Array.mem_of_getElem? ht
  simp only [List.mem_toArray, List.mem_cons, List.not_mem_nil, or_false] at hm
  rcases hm with rfl | rfl
  · exact (show Tryd.prog.wantsStandIn 23 = false by kernel_rfl)
  · exact (show Tryd.prog.wantsStandIn 3 = false by kernel_rfl)

/-- The card. -/
theorem proved : Rows.KeysSealCardSaid :=
  Claim7.holds_tied_plain_at .later [] _ _ _ _ said (fun _ h => by cases h) (by kernel_rfl) (fun _ h => by cases h) keysSeal_row_tie rfl ⟨rfl, rfl⟩ (by kernel_rfl) rfl plain (by kernel_rfl)
#print axioms proved
end Go.Proofs.YteijlgifcmlkoaaDoor.keysSeal
