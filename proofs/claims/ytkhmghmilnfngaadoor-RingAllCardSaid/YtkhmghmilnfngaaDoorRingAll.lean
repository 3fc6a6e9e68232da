/-
  Proved: for all numbers and keys RingAll answers true: every order has each replica once; the first ones are the beginning of more. No condition.
-/
import Derived.Test.YtkhmghmilnfngaaDoorRi
namespace Go.Proofs.YtkhmghmilnfngaaDoor.ringAll
set_option maxRecDepth 100000
open Go.ChangeShapes Go.WideShapes Go.ChangeAt Go.RowKit
set_option linter.unusedVariables false
set_option linter.unusedSimpArgs false

set_option maxRecDepth 100000 in
set_option maxHeartbeats 8000000 in
theorem walk (w : World) (z1 z2 : Int) (K : List UInt8) (hK : K.length = 32) (ht : Tab w) (hg1 : 0 < w.heap.size) :
    Calls Tryd.prog 6 #[.int .i64 z1, .int .i64 z2, .agg (rowOf K)] w fun e w' => e = .returned (.bool true) ∧ Below w.heap.size w w' := by
  obtain ⟨U1, R1, H1⟩ := restY z1 8 (by omega) (by omega)
  obtain ⟨U2, R2, H2⟩ := restY z2 64 (by omega) (by omega)
  obtain ⟨n, hn⟩ : ∃ n, R1 + 1 = n := ⟨_, rfl⟩
  obtain ⟨k, hk⟩ : ∃ k, R2 + 1 = k := ⟨_, rfl⟩
  have u1 := H1.u
  have t1 : (U1 : Int) % 8 = (R1 : Int) := H1.r
  have i1 := H1.wi
  have u2 := H2.u
  have t2 : (U2 : Int) % 64 = (R2 : Int) := H2.r
  have i2 := H2.wi
  have n8 : n ≤ 8 := by have := H1.lt; omega
  have wn : IntKind.i64.wrap (1 + (R1 : Int)) = (n : Int) := by rw [IntKind.wrap_i64]; omega
  have wk : IntKind.i64.wrap (1 + (R2 : Int)) = (k : Int) := by have := H2.lt; rw [IntKind.wrap_i64]; omega
  have wn' : 1 + (R1 : Int) = (n : Int) := by omega
  have wk' : 1 + (R2 : Int) = (k : Int) := by omega
  obtain ⟨gk, hgk⟩ : ∃ g, w.heap.size = g := ⟨_, rfl⟩
  obtain ⟨w1, hw1⟩ : ∃ W, w.alloc (.cells (rowOf K) 23) = W := ⟨_, rfl⟩
  have B1 := hidrg_ (show Below w.heap.size w w1 by rw [← hw1]; exact (Below.refl _ _).alloc (Nat.le_refl _) _)
  have K1 := hidrg_ (show Bk w1 gk 23 (rowOf K) by rw [← hw1, ← hgk]; exact Bk.new w _ _)
  have T1 := hidrg_ (show Tab w1 from fun t h => (B1.out.cell hg1).trans (ht t h))
  have G1 := hidrg_ (show 0 < w1.heap.size from Nat.lt_of_lt_of_le hg1 B1.out.size)
  have KL := hidrg_ (iBlind K hK)
  have HK := hidrg_ hK
  have cn := new_any w1 n k (by omega) n8 (by omega) (by have := H2.lt; omega) T1.out G1.out
  unfold NewRP at cn
  have HS := hidrg_ (show Srt ltP (ringL plcS n k) from ringL_srt _ _ _)
  have HL6 := hidrg_ (show (ringL plcS n k).length ≤ 1000000 by
    rw [ringL_len]
    have : n * k ≤ 8 * 64 := Nat.mul_le_mul n8 (by have := H2.lt; omega)
    omega)
  have HWL := hidrg_ (show (walkV (plB K) (ringL plcS n k)).length = n from walk_len (plc := plcS) _ (by omega))
  have HND := hidrg_ (walkV_nodup (plB K) (ringL plcS n k))
  have HLT := hidrg_ (show ∀ z ∈ walkV (plB K) (ringL plcS n k), z < n from fun z h => walk_lt h)
  obtain ⟨L, hL⟩ : ∃ L, ringL plcS n k = L := ⟨_, rfl⟩
  rw [hL] at HS HL6 HWL HND HLT cn
  obtain ⟨ws, hws⟩ : ∃ x, walkV (plB K) L = x := ⟨_, rfl⟩
  rw [hws] at HWL HND HLT
  have HWS := hidrg_ hws
  clear hK ht hn hk H1 H2 hL hws
  go_enter Tryd.func6, Tryd.ntmps6
  go_upto_region 6 with (first
    | (go_at_call 10; go_loud (refine cn.mono ?_; clear cn; rintro e w2 ⟨g, rfl, hri, hb⟩; have B2 := hidrg_ (B1.out.trans (hb.mono B1.out.size)); have K2 := hidrg_ (K1.out.below hb K1.out.lt); have R2 := hidrg_ hri; have T2 := (show Tab w2 from fun t h => (hb.cell G1.out).trans (T1.out t h)); have cr := rings_any w2 T2 (Nat.lt_of_lt_of_le G1.out hb.size); clear hri hb T2))
    | (go_at_call 11; ((with_reducible refine cr.mono ?_); clear cr; rintro e w3 ⟨rfl, hb⟩; have B3 := hidrg_ (B2.out.trans (hb.mono B2.out.size)); have K3 := hidrg_ (K2.out.below hb K2.out.lt); have R3 := hidrg_ (R2.out.below hb); have cw := walk_any w3 g L R3.out HS.out HL6.out K HK.out; rw [HWS.out] at cw; unfold NewZ at cw; rw [HWL.out] at cw; clear hb))
    | (refine wpList_load_row rfl 23 (.tmp 5) rfl gk rfl 23 (rowOf K) (0, 0) _ K3.out Tryd.underlying23 rfl KL.out ?_)
    | (go_at_call 12; ((with_reducible refine cw.mono ?_); clear cw; rintro e w4 ⟨A, c, rfl, ho, hb⟩; have CAP := OwnZ.cap ho; have B4 := hidrg_ (B3.out.trans (hb.mono B3.out.size)); have K4 := hidrg_ (K3.out.below hb K3.out.lt); have R4 := hidrg_ (R3.out.below hb); have Z4 := hidrg_ ho.rd.1; clear ho hb)))
  clear B1 B2 B3 K1 K2 K3 R2 R3 T1 G1 u1 t1 i1 u2 t2 i2 wn wk wn' wk' hgk
  obtain ⟨gs, hgs⟩ : ∃ g, w4.heap.size = g := ⟨_, rfl⟩
  obtain ⟨w5, hw5⟩ : ∃ W, w4.alloc (.cells #[.bool false, .bool false, .bool false, .bool false, .bool false, .bool false, .bool false, .bool false] 45) = W := ⟨_, rfl⟩
  have b5 : Below w4.heap.size w4 w5 := by rw [← hw5]; exact (Below.refl _ _).alloc (Nat.le_refl _) _
  have B5 := hidrg_ (B4.out.trans (b5.mono B4.out.size))
  have K5 := hidrg_ (K4.out.below b5 K4.out.lt)
  have R5 := hidrg_ (R4.out.below b5)
  have Z5 := hidrg_ (Z4.out.below b5)
  have S5 := hidrg_ (show Bk w5 gs 45 (seenA []) by rw [← hw5, ← hgs, seenA_nil]; exact Bk.new w4 _ _)
  have GK := hidrg_ (show gk < gs by rw [← hgs]; exact K4.out.lt)
  have GS := hidrg_ (show gs = w4.heap.size from hgs.symm)
  have BGS := hidrg_ (show w.heap.size ≤ gs by rw [← hgs]; exact B4.out.size)
  obtain ⟨AR, cR, kgR, rdR⟩ := R4.out
  have RR := hidrg_ (show ∀ W, Below gs w5 W → RingIs W g L from fun W hW => ⟨AR, cR, (kgR.below b5 kgR.lt).below hW (by rw [← hgs]; exact kgR.lt), by
    have h := (rdR.below b5).below (w' := W) (by rw [hgs]; exact hW)
    exact h.more (by have := hW.size; have := b5.size; omega)⟩)
  have z8 : (zeroValue 45).run Tryd.prog w4 = .ok (.agg #[.bool false, .bool false, .bool false, .bool false, .bool false, .bool false, .bool false, .bool false]) w4 := by kernel_rfl
  clear B4 K4 R4 Z4 kgR rdR b5
  go_wp2
  clear hw5 z8 hgs
  go_loopw [12] (fun i wr => ∃ (k : Nat), i = .int .i64 k ∧ k ≤ n ∧ Hid (Below gs w5 wr) ∧ Hid (Bk wr gs 45 (seenA (ws.take k)))) (fun i _ => n - (intOf i).toNat)
  case atStart => exact ⟨0, rfl, Nat.zero_le _, hidrg_ (Below.refl _ _), hidrg_ (by rw [List.take_zero]; exact S5.out)⟩
  case round =>
    obtain ⟨k, rfl, hk, HB, HSN⟩ := hrel
    by_cases hlt : k < n
    · have tl : (k : Int) < (n : Int) := by omega
      obtain ⟨z, hz, hzm, hzt⟩ := getD_of (l := ws) (k := k) (by rw [HWL.out]; exact hlt)
      have hzn := HLT.out z hzm
      have ta : ¬ (z : Int) < 0 := by omega
      have tb : ¬ (n : Int) ≤ (z : Int) := by omega
      have tc : (z : Int) < 8 := by omega
      have hZ := (Z5.out.below (w' := wr) (by rw [← GS.out]; exact HB.out))
      obtain ⟨b, off, rfl, hbl, hc⟩ := hZ.at_ (k := k) (by rw [HWL.out]; exact hlt)
      rw [hz] at hc
      have hs := (HSN.out.cell z).trans (seenA_get _ (by omega))
      rw [decide_eq_false (nodup_take HND.out hzt)] at hs
      have hfz := HSN.out.frozen z
      obtain ⟨w6, hw6⟩ : ∃ W, wr.setCell ⟨gs, z, none⟩ (.bool true) = W := ⟨_, rfl⟩
      have B6 := hidrg_ (show Below gs w5 w6 by rw [← hw6]; exact HB.out.setCell (Nat.le_refl _) _)
      have S6 := hidrg_ (show Bk w6 gs 45 (seenA (ws.take (k + 1))) by rw [← hw6, hzt, ← seenA_set _ (show z < 8 by omega)]; exact HSN.out.set_ z _)
      have K6 := hidrg_ (K5.out.below B6.out GK.out)
      have cp := prefer_ok w6 g L (RR.out _ B6.out) HS.out HL6.out K HK.out ws HWS.out (k + 1) ((k : Int) + 1) rfl (by omega) (by rw [HWL.out]; omega) (by rw [HWL.out]; omega)
      have sl := fun W => sliceZ_to (some ⟨b, off, none⟩) n c ((k : Int) + 1) (k + 1) rfl (by omega) W
      have Z6 := hidrg_ (show RdZ w6 w6.heap.size (some ⟨b, off, none⟩) ws from (Z5.out.below (by rw [← GS.out]; exact B6.out)).more (by have := B6.out.size; have := S5.out.lt; have := GS.out; omega))
      clear hz hzm hzt hzn hZ
      go_wp2_with (first
        | (refine wpList_load_row rfl 23 (.tmp 5) rfl gk rfl 23 (rowOf K) (0, 0) _ K6.out Tryd.underlying23 rfl KL.out ?_)
        | (go_at_call 8; go_loud (refine cp.mono ?_; clear cp; rintro e w7 ⟨A7, c7, rfl, hrd, hb⟩; have B7 := hidrg_ (B6.out.trans (hb.mono (by have := S6.out.lt; omega))); have S7 := hidrg_ (S6.out.below hb S6.out.lt); have cs : Calls Tryd.prog 14 #[.slice A7 (k + 1) c7, .slice (some ⟨b, off, none⟩) (k + 1) c] w7 (SaZ w7 true) := (by have h := sameZ_any w7 A7 (some ⟨b, off, none⟩) (k + 1) c7 (k + 1) c (ws.take (k + 1)) (ws.take (k + 1)) (by rw [List.length_take, HWL.out]; omega) (by rw [List.length_take, HWL.out]; omega) hrd (((Z6.out.below hb).more hb.size).take _) (by omega); rw [show decide (ws.take (k + 1) = ws.take (k + 1)) = true from decide_eq_true rfl] at h; exact h); clear hb hrd))
        | (go_at_call 14; go_loud (refine cs.mono ?_; clear cs; rintro e w8 ⟨rfl, hb⟩; have B8 := hidrg_ (B7.out.trans (hb.mono (by have := S7.out.lt; omega))); have S8 := hidrg_ (S7.out.below hb S7.out.lt); clear hb)))
      go_roundw
      case rel => exact ⟨k + 1, by go_num, by omega, B8, S8⟩
      case measure => simp [intOf]; omega
    · have tl : ¬ (k : Int) < (n : Int) := by omega
      go_wp2
      go_ret
      exact ⟨rfl, B5.out.trans (HB.out.mono BGS.out)⟩

theorem laid_met3 (os : Os) : laidMet Tryd.prog [("casket/sha2.roundWords", Rows.laid_casket_sha2_roundWords)] ((laidWorld os).forCall (fun _ _ => 0) ⟨#[], #[.int .i64 0, .int .i64 0, .agg (rowOf (List.replicate 32 0))], []⟩).memory :=
  laidMet_of_run' 8 (by kernel_rfl) (by kernel_rfl)

/-- What the walk gives, for every argument and every world in which the constants lie. -/
theorem contract (H : Type) (enc : TypeId × Value → H) (W : World) (base : Nat) (args : Array Value) (ds gs : List (DataW H)) (before : List MemPlace)
    (hval : ∀ (j : Nat) t v, Tryd.f6.params[j]? = some t → args[j]? = some v → Value.okWide Tryd.prog W .any base t v)
    (hW : DataW.Whole enc Tryd.prog Tryd.f6.params.toList Rows.ringAllSpec.vars false W args.toList ds gs before) (hL : laidMetH Tryd.prog Rows.ringAllRow.laid W) :
    Calls Tryd.prog 6 args W fun e W' => ∃ v, e = .returned v ∧ Rows.ringAllSpec.post enc Tryd.prog Tryd.f6 false true false false W args v W' := by
  obtain ⟨ht, hg1⟩ := tab_of hL
  have hW' := hW
  obtain ⟨p, q, hA0, hV, rfl, hfz, hnd⟩ := hW
  have hA : DataW.TrodAll enc Tryd.prog W 0 (fun _ => true) true Tryd.f6.params.toList args.toList ds p := hA0
  rw [Tryd.params6] at hA hval
  obtain ⟨v0, vs0, d0, ds0, p0, q0, hargs, rfl, rfl, h0, r0⟩ := trodAll_cons hA
  obtain ⟨v1, vs1, d1, ds1, p1, q1, rfl, rfl, rfl, h1, r1⟩ := trodAll_cons r0
  obtain ⟨v2, vs2, d2, ds2, p2, q2, rfl, rfl, rfl, h2, r2⟩ := trodAll_cons r1
  obtain ⟨rfl, rfl, rfl⟩ := trodAll_nil r2
  obtain rfl : args = #[v0, v1, v2] := by cases args; simp_all
  obtain ⟨rfl, rfl⟩ := trodVars_none hV
  obtain ⟨a0, rfl, rfl, rfl, y0⟩ := open_int Tryd.underlying3 (hval 0 3 v0 rfl rfl) h0
  obtain ⟨a1, rfl, rfl, rfl, y1⟩ := open_int Tryd.underlying3 (hval 1 3 v1 rfl rfl) h1
  obtain ⟨K, rfl, hK⟩ := open_arr8 Tryd.underlying23 Tryd.underlying5 (by kernel_rfl) (by kernel_rfl) (hval 2 23 v2 rfl rfl) h2
  refine (walk W a0 a1 K hK ht hg1).mono fun e W' ⟨he, hg⟩ => ⟨_, he, ?_⟩
  exact law_post laidOut_ (of_decide_eq_true (by kernel_rfl)) rfl rfl Tryd.underlying4 rfl hW' hg

theorem reads (os : Os) {H : Type} (enc : TypeId × Value → H) : ∃ places, DataW.whole enc Tryd.prog ((laidWorld os).forCall (fun _ _ => 0) ⟨#[], #[.int .i64 0, .int .i64 0, .agg (rowOf (List.replicate 32 0))], []⟩).memory Tryd.f6.params.toList Rows.ringAllSpec.vars false #[Value.int .i64 0, .int .i64 0, .agg (rowOf (List.replicate 32 0))].toList 8 = some ([.lit (.int .i64 0), .lit (.int .i64 0), .agg [.lit (.int .u8 0), .lit (.int .u8 0), .lit (.int .u8 0), .lit (.int .u8 0), .lit (.int .u8 0), .lit (.int .u8 0), .lit (.int .u8 0), .lit (.int .u8 0), .lit (.int .u8 0), .lit (.int .u8 0), .lit (.int .u8 0), .lit (.int .u8 0), .lit (.int .u8 0), .lit (.int .u8 0), .lit (.int .u8 0), .lit (.int .u8 0), .lit (.int .u8 0), .lit (.int .u8 0), .lit (.int .u8 0), .lit (.int .u8 0), .lit (.int .u8 0), .lit (.int .u8 0), .lit (.int .u8 0), .lit (.int .u8 0), .lit (.int .u8 0), .lit (.int .u8 0), .lit (.int .u8 0), .lit (.int .u8 0), .lit (.int .u8 0), .lit (.int .u8 0), .lit (.int .u8 0), .lit (.int .u8 0)]], [], places) :=
  ⟨[], by kernel_rfl⟩

set_option maxRecDepth 100000 in
theorem lifted (os : Os) (started : os.Started) (H : Type) (enc : TypeId × Value → H) (F : Stop.Interp) :
    ReturnsInHanded {} Tryd.checked os 6 .any ((OpenSpec.ofChange Rows.ringAllSpec).preRow enc Tryd.prog Tryd.f6 Rows.ringAllRow.domain false Rows.ringAllRow.laid) (((OpenSpec.ofChange Rows.ringAllSpec).at F).post enc Tryd.prog Tryd.f6 false true false false) := by
  obtain ⟨places, hx⟩ := reads os enc
  refine returnsInHanded_of_row (C := Tryd.checked) (s := OpenSpec.ofChange Rows.ringAllSpec) own_ started (by kernel_rfl) Tryd.func6
    (witness_row_at (enc := enc) (C := Tryd.checked) false (laidWorld os) #[.int .i64 0, .int .i64 0, .agg (rowOf (List.replicate 32 0))] rfl (by kernel_rfl) (by kernel_rfl) (by kernel_rfl)
      (OpenSpec.preRow_of_cond 8 hx (by kernel_rfl) (fun k hk => by cases hk) (by kernel_rfl) (laid_met3 os))) ?_
  intro W base args ds gs before hval hW _ _ _ hL _ _
  exact contract H enc W base args ds gs before hval hW hL

theorem said : Rows.RingAllSaid :=
  OpenClaim.holds_of_cond 6 Tryd.f6 rfl rfl rfl rfl rfl rfl rfl ⟨rfl, rfl, rfl, rfl, rfl⟩ rfl rfl rfl rfl rfl (by kernel_rfl) Tryd.func6 (by kernel_rfl)
    (of_decide_eq_true (by kernel_rfl)) (by unfold Func.isWrapper; first | (rw [if_pos (by decide +kernel)]; kernel_rfl) | (rw [if_neg (by decide +kernel)]; exact ⟨rfl, rfl⟩))
    (fun os started H enc _ F => by rw [OpenClaim.pre_eq_preRow]; exact lifted os started H enc F)

/-- No parameter wants a stand-in; the program's own looks are off: what the card asks. -/
theorem plain (f : FuncId) (fn : Func) (hf : Tryd.pinned.checked.prog.funcNamed "casket/casketlaw21.RingAll" = some f) (hfn : Tryd.pinned.checked.prog.funcs[f]? = some fn) :
    false = Tryd.pinned.checked.prog.looks [] ∧ ∀ (j : Nat) t, fn.params[j]? = some t → Tryd.pinned.checked.prog.wantsStandIn t = false := by
  obtain rfl : f = 6 := Option.some.inj ((show Tryd.prog.funcNamed "casket/casketlaw21.RingAll" = some 6 by kernel_rfl).symm.trans hf) |>.symm
  obtain rfl : fn = Tryd.f6 := (Option.some.inj (Tryd.func6.symm.trans hfn)).symm
  refine ⟨by kernel_rfl, fun j t ht => ?_⟩
  rw [Tryd.params6] at ht
  have hm := Array.mem_of_getElem? ht
  simp only [List.mem_toArray, List.mem_cons, List.not_mem_nil, or_false] at hm
  rcases hm with rfl | rfl | rfl
  · exact (show Tryd.prog.wantsStandIn 3 = false by kernel_rfl)
  · exact (show Tryd.prog.wantsStandIn 3 = false by kernel_rfl)
  · exact (show Tryd.prog.wantsStandIn 23 = false by kernel_rfl)

/-- The card. -/
theorem proved : Rows.RingAllCardSaid :=
  Claim7.holds_tied_plain_at .later [] _ _ _ _ said (fun _ h => by cases h) (by kernel_rfl) (fun _ h => by cases h) ringAll_row_tie rfl ⟨rfl, rfl⟩ (by kernel_rfl) rfl plain (by kernel_rfl)
#print axioms proved
end Go.Proofs.YtkhmghmilnfngaaDoor.ringAll
