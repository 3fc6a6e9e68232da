/-
  Proved: for every slice of bytes, every place and every word CrcBack answers true: what is closed is opened again; with up to 32 bits, one behind the other, changed it isn't. No condition.
-/
import Derived.Test.YtilgpblfdfhioaaC5
import Derived.Test.YtilgpblfdfhioaaLp
import Derived.Test.YtilgpblfdfhioaaQc
import Derived.Deep.DeepCutAuto
import Derived.RegionTactic
namespace Go.Proofs.Ytilgpblfdfhioaa.crcBack
open Go.ChangeShapes Go.WideShapes Go.ChangeAt Go.RowKit
set_option linter.unusedVariables false

theorem hid_ {p : Prop} (h : p) : Hid p := h
theorem u64_nat (z : Int) : ∃ x : Nat, IntKind.u64.wrap z = (x : Int) ∧ x ≤ 18446744073709551615 := by
  have h : IntKind.u64.wrap z = z % 18446744073709551616 := by simp [IntKind.wrap, IntKind.signed, IntKind.bits]
  rw [h]
  exact ⟨(z % 18446744073709551616).toNat, by omega, by omega⟩

set_option maxRecDepth 10000 in
theorem yb_int (y t : Nat) : (((yb y t).toNat : Nat) : Int) = (y : Int) / 2 ^ (8 * t) % 256 := by
  have h : (yb y t).toNat = y / 2 ^ (8 * t) % 256 := by
    unfold yb
    simp
  rw [h, Int.natCast_emod, Int.natCast_ediv, Int.natCast_pow]
  rfl

set_option maxRecDepth 100000 in
set_option maxHeartbeats 4000000 in
theorem walk (w : World) (A : Option Addr) (l : List UInt8) (c : Nat) (z : Int) (y : Nat) (hy : y ≤ 4294967295) (h0 : Rd w w.heap.size A l) (hc : l.length ≤ c) (hcm : c ≤ 9223372036854775807) :
    Calls Try.prog 21 #[.slice A l.length c, .int .i64 z, .int .u32 y] w fun e w' => e = .returned (.bool true) ∧ Below w.heap.size w w' := by
  obtain ⟨k, hk⟩ : ∃ n, n = min l.length 300 := ⟨_, rfl⟩
  have hmn := run_min2 l.length 300 k hk w
  have hz : ((300 : Nat) : Int) = 300 := rfl
  rw [hz] at hmn
  have hs1 := fun W => slice_to A l.length c (k : Int) k rfl (by omega) W
  have hlen : (l.take k).length = k := by rw [List.length_take]; omega
  have hr := h0.take k
  have h300 : k ≤ 300 := by omega
  have hkc : k ≤ c := by omega
  clear hk hz
  generalize l.take k = m at *
  generalize l.length = n at *
  have c1 := close_any A k c m w hlen hr (by omega)
  have q1 := closeB_len m
  rw [hlen] at q1
  have HK := hid_ hlen
  have HR := hid_ hr
  have Q1 := hid_ q1
  clear h0 hr hlen q1
  obtain ⟨x, hx, hxb⟩ := u64_nat z
  go_enter Try.func21, Try.ntmps21
  go_upto_region 3 with (go_at_call 60; ((with_reducible refine c1.mono ?_); rintro e w1 ⟨A1, d1, rfl, g1, g2⟩))
  have HO := hid_ g1
  have HB1 := hid_ g2
  obtain ⟨hd1, hd2⟩ := g1.cap
  obtain ⟨g, rfl⟩ := g1.block_ (by omega)
  clear c1 g1 g2 hs1 hmn
  have c2 := open_any (some ⟨g, 0, none⟩) (k + 4) d1 (closeB m) w1 Q1.out HO.out.rd.1 hd1 (by omega) hd2
  obtain ⟨oc1, oc2⟩ := open_close m
  rw [oc1, oc2, HK.out] at c2
  clear oc1 oc2
  go_upto_region 4 with (go_at_call 61; ((with_reducible refine c2.mono ?_); rintro e w2 ⟨A2, d2, rfl, g1, g2⟩))
  have HD := hid_ g1
  have HB2 := hid_ g2
  clear c2 g1 g2
  have c3 := checks_any w2
  go_upto_region 6 with (go_at_call 63; ((with_reducible refine c3.mono ?_); rintro e w3 ⟨rfl, g2⟩; have HB3 := hid_ g2; clear g2; have b23 := HB3.out; have v1 := conv_strn (HD.out.below HB3.out) k d2 HK.out; have v2 := conv_strn ((HR.out.below (HB1.out.trans (HB2.out.mono HB1.out.size))).below (HB3.out.mono (by have := HB2.out.size; have := HB1.out.size; omega))) k c HK.out))
  have HBB := hid_ (HB1.out.trans ((HB2.out.trans (HB3.out.mono HB2.out.size)).mono HB1.out.size))
  have HO3 := hid_ (HO.out.below (HB2.out.trans (HB3.out.mono HB2.out.size)) (Nat.le_refl _))
  clear v1 v2 b23 HD HO
  by_cases hy0 : y = 0
  · subst hy0
    go_wp2
    go_ret
    exact ⟨rfl, HBB.out⟩
  · have y0 : ((y : Int) == 0) = false := by simp; omega
    have y1 : ¬ (y : Int) = 0 := by omega
    obtain ⟨p, hp⟩ : ∃ p : Nat, p = x % (k + 1) := ⟨_, rfl⟩
    have hp1 : p < k + 1 := by rw [hp]; exact Nat.mod_lt _ (by omega)
    have hp2 : (x : Int) % ((k : Int) + 1) = (p : Int) := by rw [hp]; simp
    have hp3 : (x : Int).tmod ((k : Int) + 1) = (p : Int) := by rw [Int.tmod_eq_emod_of_nonneg (by omega), hp2]
    clear hp
    go_upto_region 9 with fail
    have e10 : wrap64 ((x : Int) % ((k : Int) + 4 - 3)) = (p : Int) := by
      rw [show (k : Int) + 4 - 3 = (k : Int) + 1 by omega, hp2]
      exact IntWalk.wrap64_in _ ⟨by omega, by omega⟩
    rw [e10]
    clear e10 hp2 hp3 hx hxb
    go_wp2
    go_loopw [11] (fun i wr => ∃ t : Nat, t ≤ 4 ∧ i = .int .i64 t ∧ Own8 wr w.heap.size (.slice (some ⟨g, 0, none⟩) (k + 4) d1) (xorAt (closeB m) p y t) ∧ Below w.heap.size w wr) (fun i _ => 4 - (intOf i).toNat)
    case atStart => exact ⟨0, by omega, rfl, HO3.out, HBB.out⟩
    case round =>
      obtain ⟨t, ht, rfl, ho, hb⟩ := hrel
      have HV := hid_ ho
      have HB := hid_ hb
      clear ho hb HO3 HBB
      by_cases hlt : t < 4
      · have hc := HV.out.cellz (p + t) (by omega)
        have hf := HV.out.frozenz (p + t)
        obtain ⟨v, hv⟩ : ∃ v, Hid ((xorAt (closeB m) p y t).getD (p + t) 0 = v) := ⟨_, rfl⟩
        have HX : Hid (bits .xor .u8 ((v.toNat : Nat) : Int) ((y : Int) / 2 ^ (8 * t) % 256) = (((v ^^^ yb y t).toNat : Nat) : Int)) := hid_ (by rw [← yb_int, xor8])
        have HY : Hid (xorAt (closeB m) p y (t + 1) = (xorAt (closeB m) p y t).set (p + t) (v ^^^ yb y t)) := hid_ (by rw [xorAt, hv.out])
        rw [hv.out] at hc
        have t0 : (0 : Int) ≤ (t : Int) := by omega
        have t4 : (t : Int) < 4 := by omega
        have s1 : IntKind.i64.wrap ((p : Int) + (t : Int)) = (p : Int) + (t : Int) := IntWalk.i64_in _ (by omega)
        have s2 : (0 : Int) ≤ (p : Int) + (t : Int) := by omega
        have s3 : ((p : Int) + (t : Int)).toNat = p + t := by omega
        have s4 : IntKind.i64.wrap (8 * (t : Int)) = 8 * (t : Int) := IntWalk.i64_in _ (by omega)
        have s5 : (p : Int) + (t : Int) < (k : Int) + 4 := by omega
        have s6 : (0 : Int) ≤ 8 * (t : Int) := by omega
        have s7 : (8 * (t : Int)).toNat = 8 * t := by omega
        go_wp2
        refine region_quiet_tail_lit 13 (by kernel_rfl) (by kernel_rfl) ?_
        simp only [List.take_succ_cons, List.take_zero]
        repeat (go_big_quiet_step (fail))
        refine wpQuiet_nil ?_
        intro w' hw'
        obtain ⟨nq, rfl⟩ := hw'
        simp only [List.drop_succ_cons, List.drop_zero]
        have hset := (HV.out.drewN nq).put_ (p + t) (v ^^^ yb y t)
        rw [← HY.out, ← HX.out] at hset
        have HS := hid_ hset
        clear hset
        go_wp2
        go_roundw
        case rel => exact ⟨t + 1, by omega, by go_num, HS.out.1, (below_drewN HB.out nq).setCell HS.out.2 _⟩
        case measure => simp [intOf]; omega
      · obtain rfl : t = 4 := by omega
        have hsh := burst_shut m p y (by rw [Q1.out]; omega) (by omega) hy0
        have hD : openD (xorAt (closeB m) p y 4) = [] := by rw [openD, hsh]; rfl
        obtain ⟨M, hM⟩ : ∃ M, Hid (xorAt (closeB m) p y 4 = M) := ⟨_, rfl⟩
        have HM : Hid (M.length = k + 4) := hid_ (by rw [← hM.out, xorAt_len, Q1.out])
        rw [hM.out] at hsh hD
        have HV2 := HV.out
        rw [hM.out] at HV2
        have c4 := open_any (some ⟨g, 0, none⟩) (k + 4) d1 M wr HM.out HV2.rd.1 hd1 (by omega) hd2
        rw [hsh, hD] at c4
        clear hsh hD HV2 hlt
        go_wp2_with (go_at_call 61; ((with_reducible refine c4.mono ?_); rintro e w4 ⟨A4, d4, rfl, g1, g2⟩; have HB4 := hid_ g2; clear g1 g2))
        go_ret
        exact ⟨rfl, HB.out.trans (HB4.out.mono HB.out.size)⟩

set_option maxRecDepth 100000 in
theorem lifted (os : Os) (started : os.Started) (H : Type) (enc : TypeId × Value → H) :
    ReturnsInHanded {} Try.checked os 21 .any (Rows.crcBackSpec.pre6 enc Try.prog Try.f21 Rows.crcBackRow.domain false) (Rows.crcBackSpec.post enc Try.prog Try.f21 false true false false) := by
  refine returnsInHanded_of_change (C := Try.checked) own_ started (by kernel_rfl) Try.func21
    (ChangeSpec.witness6 (enc := enc) (C := Try.checked) false ⟨#[], #[.slice none 0 0, .int .i64 0, .int .u32 0], []⟩ 8 (by kernel_rfl) (by kernel_rfl) (by kernel_rfl) (by kernel_rfl)) ?_
  intro W base args ds gs before hval0 hW hcnd _
  have hval : ∀ (j : Nat) t v, Try.f21.params[j]? = some t → args[j]? = some v → Value.okWide Try.prog W .any base t v := hval0
  have hW' := hW
  obtain ⟨p, q, hA0, hV, rfl, hfz, hnd⟩ := hW
  have hA : DataW.TrodAll enc Try.prog W 0 (fun _ => true) true Try.f21.params.toList args.toList ds p := hA0
  rw [Try.params21] at hA hval
  obtain ⟨v0, vs0, d0, ds0, p0, q0, hargs, rfl, rfl, h0, r0⟩ := trodAll_cons hA
  obtain ⟨v1, vs1, d1, ds1, p1, q1, rfl, rfl, rfl, h1, r1⟩ := trodAll_cons r0
  obtain ⟨v2, vs2, d2, ds2, p2, q2, rfl, rfl, rfl, h2, r2⟩ := trodAll_cons r1
  obtain ⟨rfl, rfl, rfl⟩ := trodAll_nil r2
  obtain rfl : args = #[v0, v1, v2] := by cases args; simp_all
  obtain ⟨rfl, rfl⟩ := trodVars_none hV
  obtain ⟨A0, l0, c0, rfl, hr0, hlc0, hcm0⟩ := open_bytes Try.underlying22 Try.underlying5 (by kernel_rfl) (hval 0 22 v0 rfl rfl) h0
  obtain ⟨a1, rfl, rfl, rfl, w1⟩ := open_int Try.underlying3 (hval 1 3 v1 rfl rfl) h1
  obtain ⟨b1, e1⟩ := bounds_i64 w1
  obtain ⟨a2, rfl, rfl, rfl, w2⟩ := open_int Try.underlying28 (hval 2 28 v2 rfl rfl) h2
  obtain ⟨b2, e2⟩ := bounds_u32 w2
  obtain ⟨y1, rfl⟩ := Int.eq_ofNat_of_zero_le b2
  refine (walk W A0 l0 c0 a1 y1 (by omega) hr0 hlc0 (by unfold maxLen at hcm0; omega)).mono fun e W' ⟨he, hg⟩ => ⟨_, he, ?_⟩
  exact law_post laidOut_ (of_decide_eq_true (by kernel_rfl)) rfl rfl Try.underlying4 rfl hW' hg

theorem over : Rows.crcBackRow.holds Try.pinned (OpenSpec.ofChange Rows.crcBackSpec) :=
  OpenClaim.holds_of_wide 21 Try.f21 rfl rfl rfl rfl rfl rfl rfl ⟨rfl, rfl, rfl, rfl, rfl⟩ rfl rfl rfl rfl rfl (by kernel_rfl) Try.func21 (by kernel_rfl)
    (of_decide_eq_true (by kernel_rfl)) (by unfold Func.isWrapper; first | (rw [if_pos (by decide +kernel)]; kernel_rfl) | (rw [if_neg (by decide +kernel)]; exact ⟨rfl, rfl⟩))
    (fun os started H enc _ => lifted os started H enc)

theorem proved : Rows.CrcBackSaid := over
#print axioms proved
end Go.Proofs.Ytilgpblfdfhioaa.crcBack
