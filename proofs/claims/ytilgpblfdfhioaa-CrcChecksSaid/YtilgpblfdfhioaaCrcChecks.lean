/-
  Proved: for every slice of bytes CrcChecks answers true: of all bytes the check is told, and what they are opened to. No condition.
-/
import Derived.Test.YtilgpblfdfhioaaC4
import Derived.Test.YtilgpblfdfhioaaLp
import Derived.Test.YtilgpblfdfhioaaQc
import Derived.Deep.DeepCutAuto
namespace Go.Proofs.Ytilgpblfdfhioaa.crcChecks
open Go.ChangeShapes Go.WideShapes Go.ChangeAt Go.RowKit
set_option linter.unusedVariables false

theorem hid_ {p : Prop} (h : p) : Hid p := h
/-- The worlds of the last line: behind w, all stands. -/
def CkC (w : World) (W : World) : Prop := Below w.heap.size w W

set_option maxRecDepth 100000 in
set_option maxHeartbeats 4000000 in
theorem walk (w : World) (A : Option Addr) (l : List UInt8) (c : Nat) (h0 : Rd w w.heap.size A l) (hc : l.length ≤ c) (hcm : c ≤ 9223372036854775807) :
    Calls Try.prog 20 #[.slice A l.length c] w fun e w' => e = .returned (.bool true) ∧ Below w.heap.size w w' := by
  have hsl := fun k (h : k ≤ c) W => slice_to A l.length c (k : Int) k rfl h W
  go_enter Try.func20, Try.ntmps20
  go_upto_region 1 with fail
  go_cut [0] (fun s0 wx => ∃ A' c', s0 = .slice A' (l.take 300).length c' ∧ (l.take 300).length ≤ c' ∧ c' ≤ 9223372036854775807 ∧ Rd wx wx.heap.size A' (l.take 300) ∧ Below w.heap.size w wx)
  case first =>
    have hown := Own8.lit w w.heap.size [] (Nat.le_refl _) (Nat.zero_le _)
    have hrd := (h0.take 300).alloc (Nat.le_refl _) (.cells (rowOf []) 5)
    have hlen : (l.take 300).length = min l.length 300 := by rw [List.length_take, Nat.min_comm]
    obtain ⟨n, hn⟩ : ∃ n, n = min l.length 300 := ⟨_, rfl⟩
    have hmn := run_min2 l.length 300 n hn (w.alloc (.cells #[] 5))
    have hz : ((300 : Nat) : Int) = 300 := rfl
    rw [hz] at hmn
    rw [← hn] at hlen
    have hs1 := hsl n (by omega)
    have hn3 : n ≤ 300 := by omega
    clear hsl hz hn
    go_wp2_with (at_builtin; refine wpList_app rfl (.tmp 9) (.tmp 14) rfl hown rfl n c rfl hrd hlen ?_ ?_ ?_; (simp; omega); (simp); intro A' c' w2 k1 k2 k3)
    go_meet
    have k4 := k1.cap
    have k5 := k1.rd.1
    simp only [List.length_nil, Nat.zero_add, List.nil_append] at k4 k5
    exact ⟨A', c', by rw [hlen], by rw [hlen]; exact k4.1, k4.2, k5, ((Below.refl _ _).alloc (Nat.le_refl _) _).grown k2 (by simp) (fun k hk => by simp [Value.ownBlock] at hk; omega)⟩
  case rest =>
    obtain ⟨A', c', rfl, hn1, hn2, hr, hb⟩ := hcut
    have h300 : (l.take 300).length ≤ 300 := by rw [List.length_take]; omega
    clear hsl h0 hc hcm
    generalize l.take 300 = m at *
    obtain ⟨k, hk⟩ : ∃ k, m.length = k := ⟨_, rfl⟩
    rw [hk] at h300 hn1 ⊢
    have hcv := conv_strn hr k c' hk
    have HK := hid_ hk
    have HB := hid_ hb
    have HR := hid_ hr
    clear hk hb hr
    have c1 := close_any A' k c' m wc HK.out HR.out (by omega)
    have q1 := closeB_len m
    rw [HK.out] at q1
    go_upto_region 4 with (go_at_call 60; ((with_reducible refine c1.mono ?_); rintro e w1 ⟨A1, d1, rfl, g1, g2⟩))
    have HC1 := hid_ g1.rd.1
    have HB1 := hid_ g2
    clear c1 g1 g2 hcv
    have c2 := open_any A' k c' m w1 HK.out ((HR.out.below HB1.out).more HB1.out.size) hn1 (by omega) hn2
    obtain ⟨ok, hok⟩ : ∃ ok, Hid (openOk m = ok) := ⟨_, rfl⟩
    obtain ⟨D, hD⟩ : ∃ ok, Hid (openD m = ok) := ⟨_, rfl⟩
    obtain ⟨q, hq⟩ : ∃ ok, Hid (D.length = ok) := ⟨_, rfl⟩
    rw [hok.out, hD.out, hq.out] at c2
    go_upto_region 5 with (go_at_call 61; ((with_reducible refine c2.mono ?_); rintro e w2 ⟨A2, d2, rfl, g1, g2⟩))
    have HC2 := hid_ g1
    have HB2 := hid_ g2
    clear c2 g1 g2
    have c3 := refOpen_any k m w2 HK.out (by omega)
    rw [hok.out, hD.out] at c3
    go_upto_region 6 with (go_at_call 62; ((with_reducible refine c3.mono ?_); rintro e w3 ⟨rfl, g2⟩))
    have HB3 := hid_ g2
    clear c3 g2
    have b13 : Below w1.heap.size w1 w3 := HB2.out.trans (HB3.out.mono HB2.out.size)
    have bc3 : Below wc.heap.size wc w3 := HB1.out.trans (b13.mono HB1.out.size)
    have R1 := (HR.out.below bc3).more bc3.size
    have R2 := (HC1.out.below b13).more b13.size
    have R3 := (HC2.out.below HB3.out).more HB3.out.size
    have HBB := hid_ (HB.out.trans (bc3.mono HB.out.size))
    have V1 : Hid (∀ W : World, CkC w3 W → (convert 22 9 (.slice A' k c')).run Try.prog W = .ok (.string (strOf m)) W) := hid_ (fun W h => conv_strn (R1.below h) k c' HK.out)
    have V2 : Hid (∀ W : World, CkC w3 W → (convert 22 9 (.slice A1 (k + 4) d1)).run Try.prog W = .ok (.string (strOf (closeB m))) W) := hid_ (fun W h => conv_strn (R2.below h) (k + 4) d1 q1)
    have V3 : Hid (∀ W : World, CkC w3 W → (convert 22 9 (.slice A2 q d2)).run Try.prog W = .ok (.string (strOf D)) W) := hid_ (fun W h => conv_strn (R3.below h) q d2 hq.out)
    have P1 : Hid (∀ W : World, CkC w3 W → Calls Try.prog 63 #[] W fun e w' => e = .returned (.bool true) ∧ CkC w3 w') := hid_ (fun W h => (checks_any W).mono fun e w' hh => ⟨hh.1, h.trans (hh.2.mono h.size)⟩)
    have P2 : Hid (∀ W : World, CkC w3 W → Calls Try.prog 64 #[.slice A' k c'] W fun e w' => e = .returned (.int .u32 (((crcV m).toNat : Nat) : Int)) ∧ CkC w3 w') := hid_ (fun W h => (check_any A' w3.heap.size c' k m W HK.out (R1.below h) (by omega)).mono fun e w' hh => ⟨hh.1, hh.2 ▸ h⟩)
    have P3 : Hid (∀ W : World, CkC w3 W → Calls Try.prog 65 #[.string (strOf m)] W fun e w' => e = .returned (.int .u32 (((crcV m).toNat : Nat) : Int)) ∧ CkC w3 w') := hid_ (fun W h => (refCheck_any k m W HK.out (by omega)).mono fun e w' hh => ⟨hh.1, hh.2 ▸ h⟩)
    have P4 : Hid (∀ W : World, CkC w3 W → Calls Try.prog 66 #[.string (strOf m)] W fun e w' => e = .returned (.string (strOf (closeB m))) ∧ CkC w3 w') := hid_ (fun W h => (refClose_any m k W HK.out (by omega)).mono fun e w' hh => ⟨hh.1, h.trans (hh.2.mono h.size)⟩)
    generalize (((crcV m).toNat : Nat) : Int) = x at *
    generalize closeB m = cm at *
    have HC : CkC w3 { w3 with drawn := w3.drawn + 1 } := (Below.refl _ w3).drew
    clear b13 bc3 R1 R2 R3
    refine region_quiet_in (C := CkC w3) (by kernel_rfl) (by kernel_rfl) HC ?_
    clear HC
    repeat (go_big_quiet_want; (first
      | (refine BigFrame.quiet_move _ rfl ?_; go_simp)
      | (refine BigFrame.quiet_assign _ rfl ?_; go_simp)
      | (refine quiet_call (.bool true) 63 #[] ?_ P1.out ?_; (focus (intro W; go_simp; done)); go_simp)
      | (refine quiet_call (.int .u32 x) 64 #[.slice A' k c'] ?_ P2.out ?_; (focus (intro W; go_simp; done)); go_simp)
      | (refine quiet_call (.int .u32 x) 65 #[.string (strOf m)] ?_ P3.out ?_; (focus (intro W; go_simp; done)); go_simp)
      | (refine quiet_call (.string (strOf cm)) 66 #[.string (strOf m)] ?_ P4.out ?_; (focus (intro W; go_simp; done)); go_simp)
      | (refine quiet_run (.bool true) ?_ ?_; (focus (intro W hW; go_simp; done)); go_simp)
      | (refine quiet_run (.string (strOf m)) ?_ ?_; (focus (intro W hW; have h := V1.out W hW; go_simp; done)); go_simp)
      | (refine quiet_run (.string (strOf cm)) ?_ ?_; (focus (intro W hW; have h := V2.out W hW; go_simp; done)); go_simp)
      | (refine quiet_run (.string (strOf D)) ?_ ?_; (focus (intro W hW; have h := V3.out W hW; go_simp; done)); go_simp)); go_big_quiet_on)
    refine wpQuiet_nil ?_
    intro W hW
    have HW := hid_ hW
    clear hW
    go_wp2
    go_ret
    exact ⟨rfl, HBB.out.trans (HW.out.mono HBB.out.size)⟩

set_option maxRecDepth 100000 in
theorem lifted (os : Os) (started : os.Started) (H : Type) (enc : TypeId × Value → H) :
    ReturnsInHanded {} Try.checked os 20 .any (Rows.crcChecksSpec.pre6 enc Try.prog Try.f20 Rows.crcChecksRow.domain false) (Rows.crcChecksSpec.post enc Try.prog Try.f20 false true false false) := by
  refine returnsInHanded_of_change (C := Try.checked) own_ started (by kernel_rfl) Try.func20
    (ChangeSpec.witness6 (enc := enc) (C := Try.checked) false ⟨#[], #[.slice none 0 0], []⟩ 8 (by kernel_rfl) (by kernel_rfl) (by kernel_rfl) (by kernel_rfl)) ?_
  intro W base args ds gs before hval0 hW hcnd _
  have hval : ∀ (j : Nat) t v, Try.f20.params[j]? = some t → args[j]? = some v → Value.okWide Try.prog W .any base t v := hval0
  have hW' := hW
  obtain ⟨p, q, hA0, hV, rfl, hfz, hnd⟩ := hW
  have hA : DataW.TrodAll enc Try.prog W 0 (fun _ => true) true Try.f20.params.toList args.toList ds p := hA0
  rw [Try.params20] at hA hval
  obtain ⟨v0, vs0, d0, ds0, p0, q0, hargs, rfl, rfl, h0, r0⟩ := trodAll_cons hA
  obtain ⟨rfl, rfl, rfl⟩ := trodAll_nil r0
  obtain rfl : args = #[v0] := by cases args; simp_all
  obtain ⟨rfl, rfl⟩ := trodVars_none hV
  obtain ⟨A0, l0, c0, rfl, hr0, hlc0, hcm0⟩ := open_bytes Try.underlying22 Try.underlying5 (by kernel_rfl) (hval 0 22 v0 rfl rfl) h0
  refine (walk W A0 l0 c0 hr0 hlc0 (by unfold maxLen at hcm0; omega)).mono fun e W' ⟨he, hg⟩ => ⟨_, he, ?_⟩
  exact law_post laidOut_ (of_decide_eq_true (by kernel_rfl)) rfl rfl Try.underlying4 rfl hW' hg

theorem over : Rows.crcChecksRow.holds Try.pinned (OpenSpec.ofChange Rows.crcChecksSpec) :=
  OpenClaim.holds_of_wide 20 Try.f20 rfl rfl rfl rfl rfl rfl rfl ⟨rfl, rfl, rfl, rfl, rfl⟩ rfl rfl rfl rfl rfl (by kernel_rfl) Try.func20 (by kernel_rfl)
    (of_decide_eq_true (by kernel_rfl)) (by unfold Func.isWrapper; first | (rw [if_pos (by decide +kernel)]; kernel_rfl) | (rw [if_neg (by decide +kernel)]; exact ⟨rfl, rfl⟩))
    (fun os started H enc _ => lifted os started H enc)

theorem proved : Rows.CrcChecksSaid := over
#print axioms proved
end Go.Proofs.Ytilgpblfdfhioaa.crcChecks
