/-
  Proved: for all keys, uses and counts HkdfChains answers true: each thirty-two bytes are the digest of those ahead, the use, and their number. No condition.
-/
import Derived.Test.YtjfidfcfhdkciabDoorHl
namespace Go.Proofs.YtjfidfcfhdkciabDoor.hkdfChains
open Go.ChangeShapes Go.WideShapes Go.ChangeAt Go.RowKit
set_option linter.unusedVariables false
set_option linter.unusedSimpArgs false

theorem hid_ {p : Prop} (h : p) : Hid p := h
theorem expandB_mid (key use : List UInt8) (m k : Nat) (hm : m ≤ 255) (h : k < m) : ((expandB key use (32 * m)).drop (32 * k)).take 32 = lastB key use (k + 1) := by
  have h1 := outB_grow key use (k + 1) (255 - (k + 1))
  rw [show k + 1 + (255 - (k + 1)) = 255 by omega] at h1
  have h2 : (expandB key use (32 * m)).take (32 * (k + 1)) = outB key use (k + 1) := by rw [expandB, List.take_take, Nat.min_eq_left (by omega), h1]
  have h3 : ((expandB key use (32 * m)).drop (32 * k)).take 32 = ((expandB key use (32 * m)).take (32 * (k + 1))).drop (32 * k) := by
    rw [List.drop_take, show 32 * (k + 1) - 32 * k = 32 by omega]
  rw [h3, h2, outB, List.drop_append_of_le_length (by rw [outB_len]; exact Nat.le_refl _), List.drop_of_length_le (by rw [outB_len]; exact Nat.le_refl _), List.nil_append]
theorem u64_nat (z : Int) : ∃ x : Nat, IntKind.u64.wrap z = (x : Int) ∧ x ≤ 18446744073709551615 := by
  have h : IntKind.u64.wrap z = z % 18446744073709551616 := by simp [IntKind.wrap, IntKind.signed, IntKind.bits]
  rw [h]
  exact ⟨(z % 18446744073709551616).toNat, by omega, by omega⟩


set_option maxRecDepth 100000 in
set_option maxHeartbeats 8000000 in
theorem walk (w : World) (A9 : Option Addr) (l9 : List UInt8) (c9 : Nat) (hr9 : Rd w w.heap.size A9 l9) (hlc9 : l9.length ≤ c9) (hcm9 : c9 ≤ 9223372036854775807)
    (A8 : Option Addr) (l8 : List UInt8) (c8 : Nat) (hr8 : Rd w w.heap.size A8 l8) (hlc8 : l8.length ≤ c8) (hcm8 : c8 ≤ 9223372036854775807) (z : Int) (ht : Tab w) (hg1 : 0 < w.heap.size) :
    Calls Tryd.prog 11 #[.slice A9 l9.length c9, .slice A8 l8.length c8, .int .i64 z] w fun e w' => e = .returned (.bool true) ∧ Below w.heap.size w w' := by
  obtain ⟨m9, hm9⟩ : ∃ m, m = min l9.length 80 := ⟨_, rfl⟩
  have hmn9 := fun W => run_min2 l9.length 80 m9 hm9 W
  rw [show ((80 : Nat) : Int) = 80 from rfl] at hmn9
  have hs9 := fun W => slice_to A9 l9.length c9 (m9 : Int) m9 rfl (by omega) W
  have M9 := hid_ (show (l9.take 80).length = m9 by rw [List.length_take, hm9, Nat.min_comm])
  have R9 := hid_ (hr9.take 80)
  obtain ⟨m8, hm8⟩ : ∃ m, m = min l8.length 80 := ⟨_, rfl⟩
  have hmn8 := fun W => run_min2 l8.length 80 m8 hm8 W
  rw [show ((80 : Nat) : Int) = 80 from rfl] at hmn8
  have hs8 := fun W => slice_to A8 l8.length c8 (m8 : Int) m8 rfl (by omega) W
  have M8 := hid_ (show (l8.take 80).length = m8 by rw [List.length_take, hm8, Nat.min_comm])
  have R8 := hid_ (hr8.take 80)
  have hb9 : m9 ≤ 80 := by omega
  have hb8 : m8 ≤ 80 := by omega
  have hc9 : m9 ≤ c9 := by omega
  have hc8 : m8 ≤ c8 := by omega
  generalize l9.take 80 = t at *
  generalize l8.take 80 = b at *
  generalize l9.length = n9 at *
  generalize l8.length = n8 at *
  have HT := hid_ ht
  obtain ⟨x0, hx0, _⟩ := u64_nat z
  obtain ⟨kn, hkn⟩ : ∃ a, x0 % 6 = a := ⟨_, rfl⟩
  have k6 : kn < 6 := by omega
  obtain ⟨N, hN⟩ : ∃ a, 32 * kn = a := ⟨_, rfl⟩
  have hN5 : N ≤ 160 := by omega
  have r1 : (x0 : Int).tmod 6 = (kn : Int) := by rw [Int.tmod_eq_emod_of_nonneg (by omega)]; omega
  have r3 : IntKind.u64.wrap (kn : Int) = (kn : Int) := IntWalk.u64_in _ (by omega)
  have r5 : IntKind.i64.wrap (kn : Int) = (kn : Int) := IntWalk.i64_in _ (by omega)
  have r7 : IntKind.i64.wrap (32 * (kn : Int)) = (N : Int) := by rw [IntWalk.i64_in _ (by omega)]; omega
  have HN := hid_ hN
  have LA := hid_ (expandB_len t b N (by omega))
  have HMID := hid_ (fun k (h : k < kn) => expandB_mid t b kn k (by omega) h)
  rw [hN] at HMID
  clear hr9 hr8 hlc9 hlc8 hm9 hm8 ht hkn hN
  go_enter Tryd.func11, Tryd.ntmps11
  go_upto_region 1 with fail
  go_cut [0, 1] (fun s0 s1 wx => s0 = .slice A9 m9 c9 ∧ s1 = .slice A8 m8 c8 ∧ Hid (Below w.heap.size w wx))
  case first =>
    refine region_quiet_in (C := fun W => Below w.heap.size w W) (by kernel_rfl) (by kernel_rfl) ((Below.refl _ _).drew) ?_
    repeat (first | go_big_quiet_skip | (go_big_quiet_want; (first
      | (refine BigFrame.quiet_move _ rfl ?_; go_simp)
      | (refine BigFrame.quiet_assign _ rfl ?_; go_simp)
      | (refine quiet_run (.int .i64 (n9 : Int)) ?_ ?_; (focus (intro W hW; go_simp; done)); go_simp)
      | (refine quiet_run (.int .i64 (n8 : Int)) ?_ ?_; (focus (intro W hW; go_simp; done)); go_simp)
      | (refine quiet_run (.int .i64 (m9 : Int)) ?_ ?_; (focus (intro W hW; go_simp; done)); go_simp)
      | (refine quiet_run (.int .i64 (m8 : Int)) ?_ ?_; (focus (intro W hW; go_simp; done)); go_simp)
      | (refine quiet_run (.slice A9 m9 c9) ?_ ?_; (focus (intro W hW; go_simp; done)); go_simp)
      | (refine quiet_run (.slice A8 m8 c8) ?_ ?_; (focus (intro W hW; go_simp; done)); go_simp)); go_big_quiet_on))
    refine wpQuiet_nil ?_
    intro w3 hw3
    have X3 : Hid (Below w.heap.size w w3) := hid_ hw3
    clear hw3
    go_wp2
    go_meet
    exact ⟨rfl, rfl, X3⟩
  case rest =>
    obtain ⟨rfl, rfl, X3⟩ := hcut
    rename_i K hK
    refine hK _ _ ?_
    clear hK
    have RK := hid_ ((R9.out.below X3.out).more X3.out.size)
    have RU := hid_ ((R8.out.below X3.out).more X3.out.size)
    have T3 := hid_ (show Tab wc from fun t h => (X3.out.cell (p := ⟨_, t, none⟩) hg1).trans (HT.out t h))
    have g3 : 0 < wc.heap.size := Nat.lt_of_lt_of_le hg1 X3.out.size
    have cx := expand_any wc A9 m9 c9 t M9.out (by omega) hc9 hcm9 RK.out A8 m8 c8 b M8.out (by omega) hc8 hcm8 RU.out N (by omega) T3.out g3
    generalize expandB t b N = L1 at *
    go_upto_region 8 with (first
      | (go_at_call 28; ((with_reducible refine cx.mono ?_); rintro e w5 ⟨A1, c1, rfl, ho, hb⟩; rw [LA.out] at ho ⊢; have O5 := hid_ ho; have X5 := hid_ hb; clear hb ho cx))
      | (go_at_call 29; have ce := expands_any w5 (fun t h => (X5.out.cell (p := ⟨_, t, none⟩) g3).trans (T3.out t h)) (Nat.lt_of_lt_of_le g3 X5.out.size); ((with_reducible refine ce.mono ?_); clear ce; rintro e w6 ⟨rfl, hb⟩; have O6 := hid_ (O5.out.below hb (Nat.le_refl _)); have X6 := hid_ (X5.out.trans (hb.mono X5.out.size)); clear hb)))
    obtain ⟨p1, p2⟩ := O6.out.cap
    have Y6 := hid_ (X3.out.trans (X6.out.mono X3.out.size))
    have S0 := hid_ (Below.refl w6.heap.size w6)
    have e0 : (⟨#[]⟩ : ByteArray) = strOf (lastB t b 0) := rfl
    clear r1 r3 r5 r7 O5
    go_loopw [9, 10] (fun v9 i wr => ∃ k : Nat, k ≤ kn ∧ i = .int .i64 k ∧ v9 = .string (strOf (lastB t b k)) ∧ Hid (Below w6.heap.size w6 wr)) (fun _ i _ => kn - (intOf i).toNat)
    case atStart => exact ⟨0, Nat.zero_le _, rfl, rfl, S0⟩
    case round =>
      obtain ⟨k, hk, rfl, rfl, HB⟩ := hrel
      clear S0 e0
      by_cases hlt : k < kn
      · have hd1 : decide ((k : Int) < (kn : Int)) = true := decide_eq_true (by omega)
        have hd2 : decide (k < kn) = true := decide_eq_true hlt
        have Z6 := hid_ (X6.out.trans (HB.out.mono X6.out.size))
        have hcv1 := conv_strn (RK.out.below Z6.out) m9 c9 M9.out
        have hcv2 := conv_strn (RU.out.below Z6.out) m8 c8 M8.out
        have hlb := hid_ (show lastB t b (k + 1) = hmacB t (lastB t b k ++ b ++ [UInt8.ofNat (k + 1)]) from rfl)
        have H9 := lastB_le t b k
        have HM := hid_ (HMID.out k hlt)
        have LJ := hid_ (lastB_len t b k)
        obtain ⟨dg, hdg⟩ : ∃ dg, lastB t b (k + 1) = dg := ⟨_, rfl⟩
        rw [hdg] at hlb HM LJ
        have HDG := hid_ hdg
        clear hdg
        generalize lastB t b k = p at *
        have hcv := conv_one (k + 1) wr
        rw [show (k + 1) % 256 = k + 1 by omega, show ((k + 1 : Nat) : Int) % 256 = (k : Int) + 1 by omega] at hcv
        have hu8 : IntKind.u8.wrap ((k : Int) + 1) = (k : Int) + 1 := by simp [IntKind.wrap, IntKind.signed, IntKind.bits]; omega
        have hu8m : ((k : Int) + 1) % 256 = (k : Int) + 1 := by omega
        have hi64 : IntKind.i64.wrap ((k : Int) + 1) = (k : Int) + 1 := IntWalk.i64_in _ (by omega)
        have hB2 := hid_ ((Below.refl wr.heap.size wr).alloc (Nat.le_refl _) (.cells #[.int .u8 ((k : Int) + 1)] 5))
        have ha1 := strOf_append p b
        have ha2 := strOf_append (p ++ b) [UInt8.ofNat (k + 1)]
        have z1 : (strOf p).size + (strOf b).size ≤ 9223372036854775807 := by rw [strOf_size, strOf_size, M8.out]; omega
        have z2 : (strOf (p ++ b)).size + (strOf [UInt8.ofNat (k + 1)]).size ≤ 9223372036854775807 := by rw [strOf_size, strOf_size, List.length_append, M8.out]; simp; omega
        have cs := fun W => refHmac_any W t (p ++ b ++ [UInt8.ofNat (k + 1)]) (by have := M9.out; omega) (by have := M8.out; simp; omega)
        rw [← hlb.out] at cs
        generalize UInt8.ofNat (k + 1) = bj at *
        simp only [List.append_assoc] at cs
        obtain ⟨q, hq⟩ : ∃ q, 32 * k = q := ⟨_, rfl⟩
        rw [hq] at HM
        have hqN : q + 32 ≤ N := by have := HN.out; omega
        have s1 : IntKind.i64.wrap (32 * (k : Int)) = (q : Int) := by rw [IntWalk.i64_in _ (by omega)]; omega
        have s2 : IntKind.i64.wrap ((q : Int) + 32) = (q : Int) + 32 := IntWalk.i64_in _ (by omega)
        obtain ⟨g, rfl⟩ := O6.out.block_ (by omega)
        have hsl := fun W => slice_mid2 g N c1 q (q + 32) (q : Int) ((q : Int) + 32) rfl (by omega) (by omega) hqN p1 W
        rw [show q + 32 - q = 32 by omega] at hsl
        have OR := hid_ (fun (W : World) (h : Below w6.heap.size w6 W) => (by have h2 := (O6.out.rd.1.below h).drop (off := 0) q; rw [Nat.zero_add] at h2; have h3 := conv_strn (h2.take 32) 32 (c1 - q) (by rw [List.length_take, List.length_drop, LA.out]; omega); rw [HM.out] at h3; exact h3 : (convert 29 9 (.slice (some ⟨g, q, none⟩) 32 (c1 - q))).run Tryd.prog W = .ok (.string (strOf dg)) W))
        have qs := strOf_eq dg dg rfl
        clear hq hlb H9
        go_wp2_with (first
          | (go_at_call 26; ((with_reducible refine (cs _).mono ?_); rintro e w7 ⟨rfl, hb⟩; have X7 := hid_ (HB.out.trans ((hB2.out.trans (hb.mono hB2.out.size)).mono HB.out.size)); have hcw := OR.out w7 X7.out; clear hb)))
        go_roundw
        case rel => exact ⟨k + 1, by omega, by go_num, by rw [HDG.out], X7⟩
        case measure => simp [intOf]; omega
      · have hd1 : decide ((k : Int) < (kn : Int)) = false := decide_eq_false (by omega)
        have hd2 : decide (k < kn) = false := decide_eq_false hlt
        go_wp2
        go_ret
        exact ⟨rfl, Y6.out.trans (HB.out.mono Y6.out.size)⟩

theorem laid_met3 (os : Os) : laidMet Tryd.prog [("casket/sha2.roundWords", Rows.laid_casket_sha2_roundWords)] ((laidWorld os).forCall (fun _ _ => 0) ⟨#[], #[.slice none 0 0, .slice none 0 0, .int .i64 0], []⟩).memory :=
  laidMet_of_run' 8 (by kernel_rfl) (by kernel_rfl)

/-- What the walk gives, for every argument and every world in which the constants lie. -/
theorem contract (H : Type) (enc : TypeId × Value → H) (W : World) (base : Nat) (args : Array Value) (ds gs : List (DataW H)) (before : List MemPlace)
    (hval : ∀ (j : Nat) t v, Tryd.f11.params[j]? = some t → args[j]? = some v → Value.okWide Tryd.prog W .any base t v)
    (hW : DataW.Whole enc Tryd.prog Tryd.f11.params.toList Rows.hkdfChainsSpec.vars false W args.toList ds gs before) (hL : laidMetH Tryd.prog Rows.hkdfChainsRow.laid W) :
    Calls Tryd.prog 11 args W fun e W' => ∃ v, e = .returned v ∧ Rows.hkdfChainsSpec.post enc Tryd.prog Tryd.f11 false true false false W args v W' := by
  obtain ⟨ht, hg1⟩ := tab_of hL
  have hW' := hW
  obtain ⟨p, q, hA0, hV, rfl, hfz, hnd⟩ := hW
  have hA : DataW.TrodAll enc Tryd.prog W 0 (fun _ => true) true Tryd.f11.params.toList args.toList ds p := hA0
  rw [Tryd.params11] at hA hval
  obtain ⟨v0, vs0, d0, ds0, p0, q0, hargs, rfl, rfl, h0, r0⟩ := trodAll_cons hA
  obtain ⟨v1, vs1, d1, ds1, p1, q1, rfl, rfl, rfl, h1, r1⟩ := trodAll_cons r0
  obtain ⟨v2, vs2, d2, ds2, p2, q2, rfl, rfl, rfl, h2, r2⟩ := trodAll_cons r1
  obtain ⟨rfl, rfl, rfl⟩ := trodAll_nil r2
  obtain rfl : args = #[v0, v1, v2] := by cases args; simp_all
  obtain ⟨rfl, rfl⟩ := trodVars_none hV
  obtain ⟨A0, l0, c0, rfl, hr0, hlc0, hcm0⟩ := open_bytes Tryd.underlying29 Tryd.underlying5 (by kernel_rfl) (hval 0 29 v0 rfl rfl) h0
  obtain ⟨A1, l1, c1, rfl, hr1, hlc1, hcm1⟩ := open_bytes Tryd.underlying29 Tryd.underlying5 (by kernel_rfl) (hval 1 29 v1 rfl rfl) h1
  obtain ⟨a2, rfl, rfl, rfl, w2⟩ := open_int Tryd.underlying3 (hval 2 3 v2 rfl rfl) h2
  refine (walk W A0 l0 c0 hr0 hlc0 (by unfold maxLen at hcm0; omega) A1 l1 c1 hr1 hlc1 (by unfold maxLen at hcm1; omega) a2 ht hg1).mono fun e W' ⟨he, hg⟩ => ⟨_, he, ?_⟩
  exact law_post laidOut_ (of_decide_eq_true (by kernel_rfl)) rfl rfl Tryd.underlying4 rfl hW' hg

theorem reads (os : Os) {H : Type} (enc : TypeId × Value → H) : ∃ places, DataW.whole enc Tryd.prog ((laidWorld os).forCall (fun _ _ => 0) ⟨#[], #[.slice none 0 0, .slice none 0 0, .int .i64 0], []⟩).memory Tryd.f11.params.toList Rows.hkdfChainsSpec.vars false #[Value.slice none 0 0, Value.slice none 0 0, Value.int .i64 0].toList 8 = some ([.nil, .nil, .lit (.int .i64 0)], [], places) :=
  ⟨[], by kernel_rfl⟩

set_option maxRecDepth 100000 in
theorem lifted (os : Os) (started : os.Started) (H : Type) (enc : TypeId × Value → H) (F : Stop.Interp) :
    ReturnsInHanded {} Tryd.checked os 11 .any ((OpenSpec.ofChange Rows.hkdfChainsSpec).preRow enc Tryd.prog Tryd.f11 Rows.hkdfChainsRow.domain false Rows.hkdfChainsRow.laid) (((OpenSpec.ofChange Rows.hkdfChainsSpec).at F).post enc Tryd.prog Tryd.f11 false true false false) := by
  obtain ⟨places, hx⟩ := reads os enc
  refine returnsInHanded_of_row (C := Tryd.checked) (s := OpenSpec.ofChange Rows.hkdfChainsSpec) own_ started (by kernel_rfl) Tryd.func11
    (witness_row_at (enc := enc) (C := Tryd.checked) false (laidWorld os) #[.slice none 0 0, .slice none 0 0, .int .i64 0] rfl (by kernel_rfl) (by kernel_rfl) (by kernel_rfl)
      (OpenSpec.preRow_of_cond 8 hx (by kernel_rfl) (fun k hk => by cases hk) (by kernel_rfl) (laid_met3 os))) ?_
  intro W base args ds gs before hval hW _ _ _ hL _ _
  exact contract H enc W base args ds gs before hval hW hL

theorem said : Rows.HkdfChainsSaid :=
  OpenClaim.holds_of_cond 11 Tryd.f11 rfl rfl rfl rfl rfl rfl rfl ⟨rfl, rfl, rfl, rfl, rfl⟩ rfl rfl rfl rfl rfl (by kernel_rfl) Tryd.func11 (by kernel_rfl)
    (of_decide_eq_true (by kernel_rfl)) (by unfold Func.isWrapper; first | (rw [if_pos (by decide +kernel)]; kernel_rfl) | (rw [if_neg (by decide +kernel)]; exact ⟨rfl, rfl⟩))
    (fun os started H enc _ F => by rw [OpenClaim.pre_eq_preRow]; exact lifted os started H enc F)

/-- No parameter wants a stand-in; the program's own looks are off: what the card asks. -/
theorem plain (f : FuncId) (fn : Func) (hf : Tryd.pinned.checked.prog.funcNamed "casket/casketlaw04.HkdfChains" = some f) (hfn : Tryd.pinned.checked.prog.funcs[f]? = some fn) :
    false = Tryd.pinned.checked.prog.looks [] ∧ ∀ (j : Nat) t, fn.params[j]? = some t → Tryd.pinned.checked.prog.wantsStandIn t = false := by
  obtain rfl : f = 11 := Option.some.inj ((show Tryd.prog.funcNamed "casket/casketlaw04.HkdfChains" = some 11 by kernel_rfl).symm.trans hf) |>.symm
  obtain rfl : fn = Tryd.f11 := (Option.some.inj (Tryd.func11.symm.trans hfn)).symm
  refine ⟨by kernel_rfl, fun j t ht => ?_⟩
  rw [Tryd.params11] at ht
  have hm := Array.mem_of_getElem? ht
  simp only [List.mem_toArray, List.mem_cons, List.not_mem_nil, or_false] at hm
  rcases hm with rfl | rfl | rfl
  · exact (show Tryd.prog.wantsStandIn 29 = false by kernel_rfl)
  · exact (show Tryd.prog.wantsStandIn 29 = false by kernel_rfl)
  · exact (show Tryd.prog.wantsStandIn 3 = false by kernel_rfl)

/-- The card. -/
theorem proved : Rows.HkdfChainsCardSaid :=
  Claim7.holds_tied_plain_at .later [] _ _ _ _ said (fun _ h => by cases h) (by kernel_rfl) (fun _ h => by cases h) hkdfChains_row_tie rfl ⟨rfl, rfl⟩ (by kernel_rfl) rfl plain (by kernel_rfl)
#print axioms proved
end Go.Proofs.YtjfidfcfhdkciabDoor.hkdfChains
