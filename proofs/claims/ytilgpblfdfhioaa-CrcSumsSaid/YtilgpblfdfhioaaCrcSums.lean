/-
  Proved: for every three slices of bytes CrcSums answers true: of three texts of one length the check of all, byte by byte by exclusive or, is that of their checks. No condition.
-/
import Derived.Test.YtilgpblfdfhioaaC1
import Derived.Test.YtilgpblfdfhioaaBf
import Derived.Test.YtilgpblfdfhioaaAm
import Derived.Test.YtilgpblfdfhioaaLp
import Derived.Test.YtilgpblfdfhioaaQc
import Derived.Deep.DeepCutAuto
import Derived.BigCall
import Derived.WalkLawsBesides
namespace Go.Proofs.Ytilgpblfdfhioaa.crcSums
open Go.ChangeShapes Go.WideShapes Go.ChangeAt Go.RowKit
set_option linter.unusedVariables false

theorem hid_ {p : Prop} (h : p) : Hid p := h
theorem run_min4 (a b c d n : Nat) (hn : n = min (min (min a b) c) d) (w : World) (ts : Array TypeId) (t : TypeId) :
    (Builtin.min_ ts t #[.int .i64 (a : Int), .int .i64 (b : Int), .int .i64 (c : Int), .int .i64 (d : Int)]).run Try.prog w = .ok (.int .i64 (n : Int)) w := by
  simp [Builtin.min_, Builtin.min2]
  repeat' split
  all_goals omega
/-- The worlds of the last line: what came in, and what was laid together, reads as it did. -/
def SumC (w wx : World) (W : World) : Prop := Below wx.heap.size wx W

set_option maxRecDepth 100000 in
set_option maxHeartbeats 4000000 in
theorem walk (w : World) (A B C : Option Addr) (l m o : List UInt8) (c d e : Nat) (h0 : Rd w w.heap.size A l) (h1 : Rd w w.heap.size B m) (h2 : Rd w w.heap.size C o)
    (hc : l.length ≤ c) (hcm : c ≤ 9223372036854775807) (hd : m.length ≤ d) (hdm : d ≤ 9223372036854775807) (he : o.length ≤ e) (hem : e ≤ 9223372036854775807) :
    Calls Try.prog 22 #[.slice A l.length c, .slice B m.length d, .slice C o.length e] w fun e w' => e = .returned (.bool true) ∧ Below w.heap.size w w' := by
  obtain ⟨a, ha⟩ : ∃ a, Hid (l.length = a) := ⟨_, rfl⟩
  obtain ⟨b, hb⟩ : ∃ a, Hid (m.length = a) := ⟨_, rfl⟩
  obtain ⟨f, hf⟩ : ∃ a, Hid (o.length = a) := ⟨_, rfl⟩
  rw [ha.out] at hc ⊢
  rw [hb.out] at hd ⊢
  rw [hf.out] at he ⊢
  obtain ⟨n, hn⟩ : ∃ n, n = min (min (min a b) f) 200 := ⟨_, rfl⟩
  have hmn := run_min4 a b f 200 n hn w
  have hna : n ≤ a := by omega
  have hnb : n ≤ b := by omega
  have hnf : n ≤ f := by omega
  have hn2 : n ≤ 200 := by omega
  have H0 := hid_ h0
  have H1 := hid_ h1
  have H2 := hid_ h2
  have hz : ((200 : Nat) : Int) = 200 := rfl
  rw [hz] at hmn
  clear hn h0 h1 h2 hz
  go_enter Try.func22, Try.ntmps22
  go_wp2
  clear hmn
  go_loopw [8, 9] (fun v i wr => ∃ k : Nat, k ≤ n ∧ i = .int .i64 k ∧ Own8 wr w.heap.size v (mix3 (l.take k) (m.take k) (o.take k)) ∧ Below w.heap.size w wr) (fun _ i _ => n - (intOf i).toNat)
  case atStart => exact ⟨0, Nat.zero_le _, rfl, Own8.nil_ w w.heap.size, Below.refl _ _⟩
  case round =>
    obtain ⟨k, hk, rfl, hv, hbl⟩ := hrel
    obtain ⟨Av, cv, rfl, _⟩ := hv.form
    have HV := hid_ hv
    have HB := hid_ hbl
    have hlen : (mix3 (l.take k) (m.take k) (o.take k)).length = k := by
      have e1 : (l.take k).length = k := by rw [List.length_take, ha.out]; omega
      have e2 : (m.take k).length = k := by rw [List.length_take, hb.out]; omega
      have e3 : (o.take k).length = k := by rw [List.length_take, hf.out]; omega
      rw [mix3_len _ _ _ (by omega) (by omega), e1]
    rw [hlen] at HV ⊢
    clear hv hbl
    by_cases hlt : k < n
    · obtain ⟨b1, o1, z1, rfl, hb1, hc1, hz1, hx1⟩ := (H0.out.below HB.out).atz (k := k) (by rw [ha.out]; omega)
      obtain ⟨b2, o2, z2, rfl, hb2, hc2, hz2, hx2⟩ := (H1.out.below HB.out).atz (k := k) (by rw [hb.out]; omega)
      obtain ⟨b3, o3, z3, rfl, hb3, hc3, hz3, hx3⟩ := (H2.out.below HB.out).atz (k := k) (by rw [hf.out]; omega)
      have HX : Hid (bits .xor .u8 (bits .xor .u8 (z1 : Int) (z2 : Int)) (z3 : Int) = (((l.getD k 0 ^^^ m.getD k 0 ^^^ o.getD k 0).toNat : Nat) : Int)) := hid_ (by rw [← hx1.out, ← hx2.out, ← hx3.out, xor8, xor8])
      have HM : Hid (mix3 (l.take (k + 1)) (m.take (k + 1)) (o.take (k + 1)) = mix3 (l.take k) (m.take k) (o.take k) ++ [l.getD k 0 ^^^ m.getD k 0 ^^^ o.getD k 0]) := hid_ (by
        have e1 : (l.take k).length = k := by rw [List.length_take, ha.out]; omega
        have e2 : (m.take k).length = k := by rw [List.length_take, hb.out]; omega
        have e3 : (o.take k).length = k := by rw [List.length_take, hf.out]; omega
        rw [take_snoc8 l k (by rw [ha.out]; omega), take_snoc8 m k (by rw [hb.out]; omega), take_snoc8 o k (by rw [hf.out]; omega)]
        exact mix3_snoc _ _ _ _ _ _ (by omega) (by omega))
      obtain ⟨mm, hmm⟩ : ∃ mm, Hid (mix3 (l.take k) (m.take k) (o.take k) = mm) := ⟨_, rfl⟩
      rw [hmm.out] at HV HM hlen
      have t0 : (0 : Int) ≤ (k : Int) := by omega
      have ta : (k : Int) < (a : Int) := by omega
      have tb : (k : Int) < (b : Int) := by omega
      have tf : (k : Int) < (f : Int) := by omega
      have tn : (k : Int) < (n : Int) := by omega
      go_wp2
      have HV2 := hid_ HV.out.drew
      have HB2 := hid_ HB.out.drew
      have hlt2 := HV2.out.lt
      have HLT := hid_ hlt2
      clear HV HB hlt2
      go_region_law (refine step_app rfl (.tmp 22) (.tmp 37) rfl (HV2.out.alloc _) rfl 1 1 rfl (rd_byte _ _ _ HX.out) rfl (by rw [hlen]; omega) (by have := HB2.out.size; simp at this ⊢; omega) ?_; intro A' c' w2 k1 k2 k3)
      all_goals
        rw [hlen] at k1
        have HK := hid_ k1
        have HG := hid_ ((HB2.out.alloc HB2.out.size _).grown k2 (by have := HB2.out.size; simp at this ⊢; omega) (fun q hq => (HLT.out q hq).1))
        clear k1 k2 k3
        go_wp2
        go_roundw
        case rel => exact ⟨k + 1, by omega, by go_num, by rw [HM.out]; exact HK.out, HG.out⟩
        case measure => simp [intOf]; omega
    · obtain rfl : k = n := by omega
      clear hlt
      have G0 := hid_ ((H0.out.below HB.out).take k)
      have G1 := hid_ ((H1.out.below HB.out).take k)
      have G2 := hid_ ((H2.out.below HB.out).take k)
      have GV := hid_ HV.out.rd.1
      have e1 : Hid ((l.take k).length = k) := by have := ha.out; exact hid_ (by rw [List.length_take]; omega)
      have e2 : Hid ((m.take k).length = k) := by have := hb.out; exact hid_ (by rw [List.length_take]; omega)
      have e3 : Hid ((o.take k).length = k) := by have := hf.out; exact hid_ (by rw [List.length_take]; omega)
      have HL := hid_ hlen
      clear hlen
      have x := crc_xor3 (l.take k) (m.take k) (o.take k) (by rw [e1.out, e2.out]) (by rw [e2.out, e3.out])
      have hx : bits .xor .u32 (bits .xor .u32 (((crcV (l.take k)).toNat : Nat) : Int) (((crcV (m.take k)).toNat : Nat) : Int)) (((crcV (o.take k)).toNat : Nat) : Int) = (((crcV (mix3 (l.take k) (m.take k) (o.take k))).toNat : Nat) : Int) := by rw [x, bxor32, bxor32]
      clear x
      have C0 : Hid (∀ W : World, SumC w wr W → Calls Try.prog 64 #[.slice A k c] W fun e w' => e = .returned (.int .u32 (((crcV (l.take k)).toNat : Nat) : Int)) ∧ SumC w wr w') := hid_ (fun W h => (check_any A wr.heap.size c k (l.take k) W e1.out ((G0.out.more HB.out.size).below h) (by omega)).mono fun e w' hh => ⟨hh.1, hh.2 ▸ h⟩)
      have C1 : Hid (∀ W : World, SumC w wr W → Calls Try.prog 64 #[.slice B k d] W fun e w' => e = .returned (.int .u32 (((crcV (m.take k)).toNat : Nat) : Int)) ∧ SumC w wr w') := hid_ (fun W h => (check_any B wr.heap.size d k (m.take k) W e2.out ((G1.out.more HB.out.size).below h) (by omega)).mono fun e w' hh => ⟨hh.1, hh.2 ▸ h⟩)
      have C2 : Hid (∀ W : World, SumC w wr W → Calls Try.prog 64 #[.slice C k e] W fun e w' => e = .returned (.int .u32 (((crcV (o.take k)).toNat : Nat) : Int)) ∧ SumC w wr w') := hid_ (fun W h => (check_any C wr.heap.size e k (o.take k) W e3.out ((G2.out.more HB.out.size).below h) (by omega)).mono fun e w' hh => ⟨hh.1, hh.2 ▸ h⟩)
      have C3 : Hid (∀ W : World, SumC w wr W → Calls Try.prog 64 #[.slice Av k cv] W fun e w' => e = .returned (.int .u32 (((crcV (mix3 (l.take k) (m.take k) (o.take k))).toNat : Nat) : Int)) ∧ SumC w wr w') := hid_ (fun W h => (check_any Av wr.heap.size cv k _ W HL.out (GV.out.below h) (by omega)).mono fun e w' hh => ⟨hh.1, hh.2 ▸ h⟩)
      have C4 : Hid (∀ W : World, SumC w wr W → Calls Try.prog 63 #[] W fun e w' => e = .returned (.bool true) ∧ SumC w wr w') := hid_ (fun W h => (checks_any W).mono fun e w' hh => ⟨hh.1, h.trans (hh.2.mono h.size)⟩)
      have hs0 := fun W => slice_to A a c (k : Int) k rfl (by omega) W
      have hs1 := fun W => slice_to B b d (k : Int) k rfl (by omega) W
      have hs2 := fun W => slice_to C f e (k : Int) k rfl (by omega) W
      generalize (((crcV (l.take k)).toNat : Nat) : Int) = x0 at *
      generalize (((crcV (m.take k)).toNat : Nat) : Int) = x1 at *
      generalize (((crcV (o.take k)).toNat : Nat) : Int) = x2 at *
      generalize (((crcV (mix3 (l.take k) (m.take k) (o.take k))).toNat : Nat) : Int) = x3 at *
      clear G0 G1 G2 GV
      go_wp2
      have HC : SumC w wr { wr with drawn := wr.drawn + 1 } := (Below.refl _ wr).drew
      refine region_quiet_in (C := SumC w wr) (by kernel_rfl) (by kernel_rfl) HC ?_
      clear HC
      repeat (go_big_quiet_want; (first
        | (refine BigFrame.quiet_move _ rfl ?_; go_simp)
        | (refine BigFrame.quiet_assign _ rfl ?_; go_simp)
        | (refine quiet_call (.bool true) 63 #[] ?_ C4.out ?_; (focus (intro W; go_simp; done)); go_simp)
        | (refine quiet_call (.int .u32 x3) 64 #[.slice Av k cv] ?_ C3.out ?_; (focus (intro W; go_simp; done)); go_simp)
        | (refine quiet_call (.int .u32 x0) 64 #[.slice A k c] ?_ C0.out ?_; (focus (intro W; go_simp; done)); go_simp)
        | (refine quiet_call (.int .u32 x1) 64 #[.slice B k d] ?_ C1.out ?_; (focus (intro W; go_simp; done)); go_simp)
        | (refine quiet_call (.int .u32 x2) 64 #[.slice C k e] ?_ C2.out ?_; (focus (intro W; go_simp; done)); go_simp)
        | (refine quiet_run (.slice A k c) ?_ ?_; (focus (intro W hW; go_simp; done)); go_simp)
        | (refine quiet_run (.slice B k d) ?_ ?_; (focus (intro W hW; go_simp; done)); go_simp)
        | (refine quiet_run (.slice C k e) ?_ ?_; (focus (intro W hW; go_simp; done)); go_simp)
        | (refine quiet_run (.int .u32 (bits .xor .u32 x0 x1)) ?_ ?_; (focus (intro W hW; go_simp; done)); go_simp)
        | (refine quiet_run (.int .u32 x3) ?_ ?_; (focus (intro W hW; go_simp; done)); go_simp)
        | (refine quiet_run (.bool true) ?_ ?_; (focus (intro W hW; go_simp; done)); go_simp)); go_big_quiet_on)
      refine wpQuiet_nil ?_
      intro W hW
      have HW := hid_ hW
      clear hW
      go_wp2
      go_ret
      exact ⟨rfl, HB.out.trans (HW.out.mono HB.out.size)⟩

set_option maxRecDepth 100000 in
theorem lifted (os : Os) (started : os.Started) (H : Type) (enc : TypeId × Value → H) :
    ReturnsInHanded {} Try.checked os 22 .any (Rows.crcSumsSpec.pre6 enc Try.prog Try.f22 Rows.crcSumsRow.domain false) (Rows.crcSumsSpec.post enc Try.prog Try.f22 false true false false) := by
  refine returnsInHanded_of_change (C := Try.checked) own_ started (by kernel_rfl) Try.func22
    (ChangeSpec.witness6 (enc := enc) (C := Try.checked) false ⟨#[], #[.slice none 0 0, .slice none 0 0, .slice none 0 0], []⟩ 8 (by kernel_rfl) (by kernel_rfl) (by kernel_rfl) (by kernel_rfl)) ?_
  intro W base args ds gs before hval0 hW hcnd _
  have hval : ∀ (j : Nat) t v, Try.f22.params[j]? = some t → args[j]? = some v → Value.okWide Try.prog W .any base t v := hval0
  have hW' := hW
  obtain ⟨p, q, hA0, hV, rfl, hfz, hnd⟩ := hW
  have hA : DataW.TrodAll enc Try.prog W 0 (fun _ => true) true Try.f22.params.toList args.toList ds p := hA0
  rw [Try.params22] at hA hval
  obtain ⟨v0, vs0, d0, ds0, p0, q0, hargs, rfl, rfl, h0, r0⟩ := trodAll_cons hA
  obtain ⟨v1, vs1, d1, ds1, p1, q1, rfl, rfl, rfl, h1, r1⟩ := trodAll_cons r0
  obtain ⟨v2, vs2, d2, ds2, p2, q2, rfl, rfl, rfl, h2, r2⟩ := trodAll_cons r1
  obtain ⟨rfl, rfl, rfl⟩ := trodAll_nil r2
  obtain rfl : args = #[v0, v1, v2] := by cases args; simp_all
  obtain ⟨rfl, rfl⟩ := trodVars_none hV
  obtain ⟨A0, l0, c0, rfl, hr0, hlc0, hcm0⟩ := open_bytes Try.underlying22 Try.underlying5 (by kernel_rfl) (hval 0 22 v0 rfl rfl) h0
  obtain ⟨A1, l1, c1, rfl, hr1, hlc1, hcm1⟩ := open_bytes Try.underlying22 Try.underlying5 (by kernel_rfl) (hval 1 22 v1 rfl rfl) h1
  obtain ⟨A2, l2, c2, rfl, hr2, hlc2, hcm2⟩ := open_bytes Try.underlying22 Try.underlying5 (by kernel_rfl) (hval 2 22 v2 rfl rfl) h2
  refine (walk W A0 A1 A2 l0 l1 l2 c0 c1 c2 hr0 hr1 hr2 hlc0 (by unfold maxLen at hcm0; omega) hlc1 (by unfold maxLen at hcm1; omega) hlc2 (by unfold maxLen at hcm2; omega)).mono fun e W' ⟨he, hg⟩ => ⟨_, he, ?_⟩
  exact law_post laidOut_ (of_decide_eq_true (by kernel_rfl)) rfl rfl Try.underlying4 rfl hW' hg

theorem over : Rows.crcSumsRow.holds Try.pinned (OpenSpec.ofChange Rows.crcSumsSpec) :=
  OpenClaim.holds_of_wide 22 Try.f22 rfl rfl rfl rfl rfl rfl rfl ⟨rfl, rfl, rfl, rfl, rfl⟩ rfl rfl rfl rfl rfl (by kernel_rfl) Try.func22 (by kernel_rfl)
    (of_decide_eq_true (by kernel_rfl)) (by unfold Func.isWrapper; first | (rw [if_pos (by decide +kernel)]; kernel_rfl) | (rw [if_neg (by decide +kernel)]; exact ⟨rfl, rfl⟩))
    (fun os started H enc _ => lifted os started H enc)

theorem proved : Rows.CrcSumsSaid := over
#print axioms proved
end Go.Proofs.Ytilgpblfdfhioaa.crcSums
