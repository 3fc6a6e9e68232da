/-
  Proved: for all masters and names KeysBlind answers true: the blinded name is told, or that there is none; what is handed in stays. No condition.
-/
import Derived.Test.YteijlgifcmlkoaaDoorHo
import Derived.Test.YteijlgifcmlkoaaDoorOa
namespace Go.Proofs.YteijlgifcmlkoaaDoor.keysBlind
open Go.ChangeShapes Go.WideShapes Go.ChangeAt Go.RowKit
set_option linter.unusedVariables false
set_option linter.unusedSimpArgs false

theorem hid_ {p : Prop} (h : p) : Hid p := h
/-- All of a blinded name, as a slice. -/
theorem blind_all (g : Nat) (W : World) :
    (Instr.sliceAt 32 (.pointer (some ⟨g, 0, none⟩)) none none none).run Tryd.prog W = .ok (.slice (some ⟨g, 0, none⟩) 32 32) W := by
  have he : Tryd.prog.elem 32 = 5 := by kernel_rfl
  have hn : Tryd.prog.arrayLen 32 = 32 := by kernel_rfl
  have ht : Tryd.prog.underlying 32 = some (.array (Tryd.prog.arrayLen 32) (Tryd.prog.elem 32)) := by rw [he, hn]; exact Tryd.underlying32
  have hs : (sizeOf (Tryd.prog.elem 32)).run Tryd.prog W = .ok 1 W := by
    rw [he]
    obtain ⟨i, hi, hz, hsize, hby⟩ := info_parts info8
    simp [sizeOf, typeInfo, hi, hsize]
  rw [run_sliceAt_array_all W 32 ⟨g, 0, none⟩ ht, hs, hn]
  simp only [Result.andThen, slicedAt, Nat.mul_one]
  rw [if_neg (by omega)]
  congr 3

set_option maxRecDepth 100000 in
set_option maxHeartbeats 8000000 in
theorem walk (w : World) (M : List UInt8) (hm : M.length = 32) (A9 : Option Addr) (l9 : List UInt8) (c9 : Nat) (hr9 : Rd w w.heap.size A9 l9) (hlc9 : l9.length ≤ c9) (hcm9 : c9 ≤ 9223372036854775807) (ht : Tab w) (hg1 : 1 < w.heap.size) :
    Calls Tryd.prog 4 #[.agg (rowOf M), .slice A9 l9.length c9] w fun e w' => e = .returned (.bool true) ∧ Below w.heap.size w w' := by
  have hz := z32
  have hzB := zB
  have hall := dig_all
  have hallB := blind_all
  obtain ⟨m9, hm9⟩ : ∃ m, m = min l9.length 80 := ⟨_, rfl⟩
  have hmn9 := fun W => run_min2 l9.length 80 m9 hm9 W
  rw [show ((80 : Nat) : Int) = 80 from rfl] at hmn9
  have hs9 := fun W => slice_to A9 l9.length c9 (m9 : Int) m9 rfl (by omega) W
  have M9 := hid_ (show (l9.take 80).length = m9 by rw [List.length_take, hm9, Nat.min_comm])
  have hb80 : m9 ≤ 80 := by omega
  obtain ⟨r, hre⟩ : ∃ r, w.heap.size = r := ⟨_, rfl⟩
  obtain ⟨w0, hw0⟩ : ∃ w0, w.alloc (.cells (rowOf M) 23) = w0 := ⟨_, rfl⟩
  have B0 := hid_ (show Below r w w0 by rw [← hw0, ← hre]; exact (Below.refl w.heap.size w).alloc (Nat.le_refl _) _)
  have K0 := hid_ (show Bk w0 r 23 (rowOf M) by rw [← hw0, ← hre]; exact Bk.new w _ _)
  have S0 : w0.heap.size = r + 1 := by rw [← hw0, ← hre]; simp
  have HRE := hid_ hre
  rw [hre] at hg1 hr9
  obtain ⟨w1, hw1⟩ : ∃ w1, w0.alloc (.cells #[] 5) = w1 := ⟨_, rfl⟩
  have b1 : Below (r + 1) w0 w1 := by rw [← hw1, ← S0]; exact (Below.refl _ _).alloc (Nat.le_refl _) _
  have hown : Own8 w1 (r + 1) (.slice (some ⟨r + 1, 0, none⟩) 0 0) [] := by
    have h := Own8.lit w0 w0.heap.size [] (Nat.le_refl _) (Nat.zero_le _)
    rw [show rowOf [] = #[] from rfl, hw1, S0] at h
    exact h
  have hwal := hid_ b1
  have s1 : w1.heap.size = r + 2 := by rw [← hw1]; simp [S0]
  have hrt : Rd w1 r A9 (l9.take 80) := (((hr9.take 80).below B0.out).below (b1.mono (by omega)))
  have hle0 : ([] : List UInt8).length + m9 ≤ 140737488355328 := by simp; omega
  have hsz0 : r + 1 ≤ w1.heap.size := by omega
  have HT := hid_ ht
  have IM := hid_ (i32r M hm)
  have ML := hid_ hm
  clear ht hm hr9 hlc9 hm9 b1
  generalize l9.take 80 = t at *
  generalize l9.length = n9 at *
  go_enter Tryd.func4, Tryd.ntmps4
  go_upto_region 2 with (at_builtin; refine wpList_app rfl (.tmp 8) (.tmp 13) rfl hown rfl m9 c9 rfl hrt M9.out hle0 hsz0 ?_; (intro A0 c0 w2 k1 k2 k3; have O2 := hid_ (show Own8 w2 (r + 1) (.slice A0 m9 c0) t by simpa using k1); have X2 := hid_ (hwal.out.grown k2 hsz0 (fun k hk => by simp [Value.ownBlock] at hk; omega)); clear k1 k2 k3 hrt hown))
  clear hwal hle0 hsz0 hmn9 hs9 hw1 hw0 s1
  have K2 := hid_ (K0.out.below X2.out (Nat.lt_succ_self r))
  have B2 := hid_ (B0.out.trans (X2.out.mono (by omega)))
  have T2 := hid_ (show Tab w2 from fun t h => (B2.out.cell (p := ⟨_, t, none⟩) hg1).trans (HT.out t h))
  have hg2 : 1 < w2.heap.size := by have := K2.out.lt; omega
  have hle2 : r ≤ w2.heap.size := Nat.le_of_lt K2.out.lt
  have cap0 := O2.out.cap
  have RT := hid_ O2.out.rd.1
  have hcv := conv_strn RT.out m9 c0 M9.out
  have hts : (strOf t).size = m9 := by rw [strOf_size, M9.out]
  have qt := strOf_eq t t rfl
  have ch := hides_any
  clear S0 hre
  by_cases hok : 1 ≤ m9 ∧ m9 ≤ 64
  · have cs := blind_yes w2 M ML.out A0 m9 c0 t M9.out hok.1 hok.2 cap0.1 cap0.2 RT.out T2.out hg2
    have ce := fun W => refName_any W (m9 : Int) true (decide_eq_true (by omega)).symm
    have LL := hid_ (blindK_len M t)
    have HS : Hid (∀ W : World, Calls Tryd.prog 14 #[.string (strOf M), .string (strOf t)] W fun e w' => e = .returned (.string (strOf (blindK M t))) ∧ Below W.heap.size W w') := hid_ (fun W => refBlindK_any W M t ML.out (by rw [M9.out]; omega))
    generalize blindK M t = L at *
    have IL := hid_ (iB L LL.out)
    have QL := hid_ (show (rowOf (zbytes 32)).size = (rowOf L).size by rw [rowOf_size, rowOf_size, LL.out, zbytes_len])
    clear hok
    go_upto_region 8 with (first
      | (refine wpList_load_row rfl 23 (.tmp 2) rfl r rfl 23 (rowOf M) (0, 0) _ K2.out Tryd.underlying23 rfl IM.out ?_)
      | (go_at_call 11; ((with_reducible refine cs.mono ?_); rintro e w5 ⟨rfl, hb⟩; have K5 := hid_ (K2.out.below hb K2.out.lt); have B5 := hid_ (B2.out.trans (hb.mono hle2)); have RT5 := hid_ ((RT.out.below hb).more hb.size); clear hb cs))
      | (refine wpList_put_row rfl 32 _ _ rfl w5.heap.size (rowOf L) rfl rfl 32 (rowOf (zbytes 32)) (Bk.new w5 _ _) IL.out QL.out (bytes_one _) ?_; intro w6 k6 g6 s6; have BX : Below w5.heap.size w5 w6 := (((Below.refl w5.heap.size w5).alloc (Nat.le_refl _) (.cells (rowOf (zbytes 32)) 32)).grown g6 (by simp) (fun k hk => by injection hk with hk; omega)); have D6 := hid_ k6; have K6 := hid_ (K5.out.below BX K5.out.lt); have B6 := hid_ (B5.out.trans (BX.mono (by have := K5.out.lt; omega))); have RT6 := hid_ ((RT5.out.below BX).more BX.size); clear k6 g6 s6 BX)
      | (go_at_call 12; ((with_reducible refine (ch _).mono ?_); rintro e w8 ⟨rfl, hb⟩; have D8 := hid_ (D6.out.below hb D6.out.lt); have K8 := hid_ (K6.out.below hb K6.out.lt); have B8 := hid_ (B6.out.trans (hb.mono (by have := K6.out.lt; omega))); have RT8 := hid_ ((RT6.out.below hb).more hb.size); have hcv8 := conv_strn RT8.out m9 c0 M9.out; clear hb))
      | (go_at_call 13; ((with_reducible refine (ce _).mono ?_); rintro e w7 ⟨rfl, rfl⟩)))
    generalize w5.heap.size = gk at *
    have V1 : Hid (∀ W : World, Below w8.heap.size w8 W → (convert 22 9 (.slice (some ⟨gk, 0, none⟩) 32 32)).run Tryd.prog W = .ok (.string (strOf L)) W) := hid_ (fun W h => conv_strn ((D8.out.rd D8.out.lt).below h) 32 32 LL.out)
    have V2 : Hid (∀ W : World, Below w8.heap.size w8 W → (convert 22 9 (.slice (some ⟨r, 0, none⟩) 32 32)).run Tryd.prog W = .ok (.string (strOf M)) W) := hid_ (fun W h => conv_strn ((K8.out.rd K8.out.lt).below h) 32 32 ML.out)
    have P2 : Hid (∀ W : World, Below w8.heap.size w8 W → Calls Tryd.prog 14 #[.string (strOf M), .string (strOf t)] W fun e w' => e = .returned (.string (strOf L)) ∧ Below w8.heap.size w8 w') := hid_ (fun W h => (HS.out W).mono fun e w' hh => ⟨hh.1, h.trans (hh.2.mono h.size)⟩)
    have qL := strOf_eq L L rfl
    have hle8 : r ≤ w8.heap.size := Nat.le_of_lt K8.out.lt
    clear hcv hcv8
    refine region_quiet_in (C := fun W => Below w8.heap.size w8 W) (by kernel_rfl) (by kernel_rfl) ((Below.refl _ _).drew) ?_
    repeat (first | go_big_quiet_skip | (go_big_quiet_want; (first
      | (refine BigFrame.quiet_move _ rfl ?_; go_simp)
      | (refine BigFrame.quiet_assign _ rfl ?_; go_simp)
      | (refine quiet_call (.string (strOf L)) 14 #[.string (strOf M), .string (strOf t)] ?_ P2.out ?_; (focus (intro W; go_simp; done)); go_simp)
      | (refine quiet_run (.slice (some ⟨gk, 0, none⟩) 32 32) ?_ ?_; (focus (intro W hW; have h := hallB gk W; go_simp; done)); go_simp)
      | (refine quiet_run (.slice (some ⟨r, 0, none⟩) 32 32) ?_ ?_; (focus (intro W hW; have h := hall r W; go_simp; done)); go_simp)
      | (refine quiet_run (.string (strOf L)) ?_ ?_; (focus (intro W hW; have h := V1.out W hW; go_simp; done)); go_simp)
      | (refine quiet_run (.string (strOf M)) ?_ ?_; (focus (intro W hW; have h := V2.out W hW; go_simp; done)); go_simp)
      | (refine quiet_run (.bool true) ?_ ?_; (focus (intro W hW; go_simp; done)); go_simp)); go_big_quiet_on))
    refine wpQuiet_nil ?_
    intro w9 hw9
    have X9 := hid_ (B8.out.trans (Below.mono hw9 hle8))
    clear hw9 V1 V2 P2
    go_wp2
    go_ret
    exact ⟨rfl, HRE.out ▸ X9.out⟩
  · have cs : Calls Tryd.prog 11 #[.agg (rowOf M), .slice A0 m9 c0] w2 fun e w' => e = .returned (.tuple #[.agg (rowOf (zbytes 32)), .int .i64 1]) ∧ Below w2.heap.size w2 w' := by
      by_cases h1 : m9 = 0
      · rw [h1]; exact blind_nil w2 M A0 c0
      · exact blind_big w2 M A0 m9 c0 (by omega)
    have ce := fun W => refName_any W (m9 : Int) false (decide_eq_false (by omega)).symm
    have LL := zbytes_len 32
    have EQ1 := fun W => eqlB32 (zbytes 32) (zbytes 32) LL LL W
    have EQ2 := fun W => eqIB32 (zbytes 32) (zbytes 32) LL LL W
    have HBL := hid_ (show Tryd.prog.built 32 [] = some (rowOf (zbytes 32)) by kernel_rfl)
    generalize hLz : zbytes 32 = L at *
    rw [show (L == L) = true by simp] at EQ1 EQ2
    have IL := hid_ (iB L LL)
    clear hok LL
    go_wp2_with (first
      | (refine wpList_load_row rfl 23 (.tmp 2) rfl r rfl 23 (rowOf M) (0, 0) _ K2.out Tryd.underlying23 rfl IM.out ?_)
      | (go_at_call 11; ((with_reducible refine cs.mono ?_); rintro e w5 ⟨rfl, hb⟩; have K5 := hid_ (K2.out.below hb K2.out.lt); have B5 := hid_ (B2.out.trans (hb.mono hle2)); have RT5 := hid_ ((RT.out.below hb).more hb.size); clear hb cs))
      | (refine wpList_put_row rfl 32 _ _ rfl w5.heap.size (rowOf L) rfl rfl 32 (rowOf L) (Bk.new w5 _ _) IL.out rfl (bytes_one _) ?_; intro w6 k6 g6 s6; have BX : Below w5.heap.size w5 w6 := (((Below.refl w5.heap.size w5).alloc (Nat.le_refl _) (.cells (rowOf L) 32)).grown g6 (by simp) (fun k hk => by injection hk with hk; omega)); have D6 := hid_ k6; have B6 := hid_ (B5.out.trans (BX.mono (by have := K5.out.lt; omega))); have hle6 : r ≤ w6.heap.size := (by have := K5.out.lt; have := BX.size; omega); have RT6 := hid_ ((RT5.out.below BX).more BX.size); clear k6 g6 s6 BX)
      | (go_at_call 12; ((with_reducible refine (ch _).mono ?_); rintro e w8 ⟨rfl, hb⟩; have D8 := hid_ (D6.out.below hb D6.out.lt); have X8 := hid_ (B6.out.trans (hb.mono hle6)); have RT8 := hid_ ((RT6.out.below hb).more hb.size); have hcv8 := conv_strn RT8.out m9 c0 M9.out; clear hb))
      | (go_at_call 13; ((with_reducible refine (ce _).mono ?_); rintro e w7 ⟨rfl, rfl⟩))
      | (refine wpList_load_rowW (by go_simp) 32 (.tmp 6) rfl w5.heap.size rfl 32 (rowOf L) D8.out _ Tryd.underlying32 rfl IL.out ?_)
      | (refine wpList_builtW (by go_simp) 32 _ rfl (rowOf L) HBL.out ?_))
    go_ret
    exact ⟨rfl, HRE.out ▸ X8.out⟩

theorem laid_met3 (os : Os) : laidMet Tryd.prog [("casket/sha2.roundWords", Rows.laid_casket_sha2_roundWords)] ((laidWorld os).forCall (fun _ _ => 0) ⟨#[], #[.agg (rowOf (zbytes 32)), .slice none 0 0], []⟩).memory :=
  laidMet_of_run' 8 (by kernel_rfl) (by kernel_rfl)

/-- What the walk gives, for every argument and every world in which the constants lie. -/
theorem contract (H : Type) (enc : TypeId × Value → H) (W : World) (base : Nat) (args : Array Value) (ds gs : List (DataW H)) (before : List MemPlace)
    (hval : ∀ (j : Nat) t v, Tryd.f4.params[j]? = some t → args[j]? = some v → Value.okWide Tryd.prog W .any base t v)
    (hW : DataW.Whole enc Tryd.prog Tryd.f4.params.toList Rows.keysBlindSpec.vars false W args.toList ds gs before) (hL : laidMetH Tryd.prog Rows.keysBlindRow.laid W) :
    Calls Tryd.prog 4 args W fun e W' => ∃ v, e = .returned v ∧ Rows.keysBlindSpec.post enc Tryd.prog Tryd.f4 false true false false W args v W' := by
  obtain ⟨ht, hg1⟩ := tab_of hL
  have hW' := hW
  obtain ⟨p, q, hA0, hV, rfl, hfz, hnd⟩ := hW
  have hA : DataW.TrodAll enc Tryd.prog W 0 (fun _ => true) true Tryd.f4.params.toList args.toList ds p := hA0
  rw [Tryd.params4] at hA hval
  obtain ⟨v0, vs0, d0, ds0, p0, q0, hargs, rfl, rfl, h0, r0⟩ := trodAll_cons hA
  obtain ⟨v1, vs1, d1, ds1, p1, q1, rfl, rfl, rfl, h1, r1⟩ := trodAll_cons r0
  obtain ⟨rfl, rfl, rfl⟩ := trodAll_nil r1
  obtain rfl : args = #[v0, v1] := by cases args; simp_all
  obtain ⟨rfl, rfl⟩ := trodVars_none hV
  obtain ⟨M, rfl, hM⟩ := open_arr8 Tryd.underlying23 Tryd.underlying5 (by kernel_rfl) (by kernel_rfl) (hval 0 23 v0 rfl rfl) h0
  obtain ⟨A1, l1, c1, rfl, hr1, hlc1, hcm1⟩ := open_bytes Tryd.underlying22 Tryd.underlying5 (by kernel_rfl) (hval 1 22 v1 rfl rfl) h1
  refine (walk W M hM A1 l1 c1 hr1 hlc1 (by unfold maxLen at hcm1; omega) ht hg1).mono fun e W' ⟨he, hg⟩ => ⟨_, he, ?_⟩
  exact law_post laidOut_ (of_decide_eq_true (by kernel_rfl)) rfl rfl Tryd.underlying4 rfl hW' hg

theorem reads (os : Os) {H : Type} (enc : TypeId × Value → H) : ∃ places, DataW.whole enc Tryd.prog ((laidWorld os).forCall (fun _ _ => 0) ⟨#[], #[.agg (rowOf (zbytes 32)), .slice none 0 0], []⟩).memory Tryd.f4.params.toList Rows.keysBlindSpec.vars false #[Value.agg (rowOf (zbytes 32)), Value.slice none 0 0].toList 8 = some ([.agg [.lit (.int .u8 0), .lit (.int .u8 0), .lit (.int .u8 0), .lit (.int .u8 0), .lit (.int .u8 0), .lit (.int .u8 0), .lit (.int .u8 0), .lit (.int .u8 0), .lit (.int .u8 0), .lit (.int .u8 0), .lit (.int .u8 0), .lit (.int .u8 0), .lit (.int .u8 0), .lit (.int .u8 0), .lit (.int .u8 0), .lit (.int .u8 0), .lit (.int .u8 0), .lit (.int .u8 0), .lit (.int .u8 0), .lit (.int .u8 0), .lit (.int .u8 0), .lit (.int .u8 0), .lit (.int .u8 0), .lit (.int .u8 0), .lit (.int .u8 0), .lit (.int .u8 0), .lit (.int .u8 0), .lit (.int .u8 0), .lit (.int .u8 0), .lit (.int .u8 0), .lit (.int .u8 0), .lit (.int .u8 0)], .nil], [], places) :=
  ⟨[], by kernel_rfl⟩

set_option maxRecDepth 100000 in
theorem lifted (os : Os) (started : os.Started) (H : Type) (enc : TypeId × Value → H) (F : Stop.Interp) :
    ReturnsInHanded {} Tryd.checked os 4 .any ((OpenSpec.ofChange Rows.keysBlindSpec).preRow enc Tryd.prog Tryd.f4 Rows.keysBlindRow.domain false Rows.keysBlindRow.laid) (((OpenSpec.ofChange Rows.keysBlindSpec).at F).post enc Tryd.prog Tryd.f4 false true false false) := by
  obtain ⟨places, hx⟩ := reads os enc
  refine returnsInHanded_of_row (C := Tryd.checked) (s := OpenSpec.ofChange Rows.keysBlindSpec) own_ started (by kernel_rfl) Tryd.func4
    (witness_row_at (enc := enc) (C := Tryd.checked) false (laidWorld os) #[.agg (rowOf (zbytes 32)), .slice none 0 0] rfl (by kernel_rfl) (by kernel_rfl) (by kernel_rfl)
      (OpenSpec.preRow_of_cond 8 hx (by kernel_rfl) (fun k hk => by cases hk) (by kernel_rfl) (laid_met3 os))) ?_
  intro W base args ds gs before hval hW _ _ _ hL _ _
  exact contract H enc W base args ds gs before hval hW hL

theorem said : Rows.KeysBlindSaid :=
  OpenClaim.holds_of_cond 4 Tryd.f4 rfl rfl rfl rfl rfl rfl rfl ⟨rfl, rfl, rfl, rfl, rfl⟩ rfl rfl rfl rfl rfl (by kernel_rfl) Tryd.func4 (by kernel_rfl)
    (of_decide_eq_true (by kernel_rfl)) (by unfold Func.isWrapper; first | (rw [if_pos (by decide +kernel)]; kernel_rfl) | (rw [if_neg (by decide +kernel)]; exact ⟨rfl, rfl⟩))
    (fun os started H enc _ F => by rw [OpenClaim.pre_eq_preRow]; exact lifted os started H enc F)

/-- No parameter wants a stand-in; the program's own looks are off: what the card asks. -/
theorem plain (f : FuncId) (fn : Func) (hf : Tryd.pinned.checked.prog.funcNamed "casket/casketlaw11.KeysBlind" = some f) (hfn : Tryd.pinned.checked.prog.funcs[f]? = some fn) :
    false = Tryd.pinned.checked.prog.looks [] ∧ ∀ (j : Nat) t, fn.params[j]? = some t → Tryd.pinned.checked.prog.wantsStandIn t = false := by
  obtain rfl : f = 4 := Option.some.inj ((show Tryd.prog.funcNamed "casket/casketlaw11.KeysBlind" = some 4 by kernel_rfl).symm.trans hf) |>.symm
  obtain rfl : fn = Tryd.f4 := (Option.some.inj (Tryd.func4.symm.trans hfn)).symm
  refine ⟨by kernel_rfl, fun j t ht => ?_⟩
  rw [Tryd.params4] at ht
  have hm := Array.mem_of_getElem? ht
  simp only [List.mem_toArray, List.mem_cons, List.not_mem_nil, or_false] at hm
  rcases hm with rfl | rfl
  · exact (show Tryd.prog.wantsStandIn 23 = false by kernel_rfl)
  · exact (show Tryd.prog.wantsStandIn 22 = false by kernel_rfl)

/-- The card. -/
theorem proved : Rows.KeysBlindCardSaid :=
  Claim7.holds_tied_plain_at .later [] _ _ _ _ said (fun _ h => by cases h) (by kernel_rfl) (fun _ h => by cases h) keysBlind_row_tie rfl ⟨rfl, rfl⟩ (by kernel_rfl) rfl plain (by kernel_rfl)
#print axioms proved
end Go.Proofs.YteijlgifcmlkoaaDoor.keysBlind
