/-
  Proved: for every key and every slice of bytes PolyTags answers true: of all keys and bytes the tag is told, and what is handed in stays. No condition.
-/
import Derived.Test.YtopmngjaieobnaaU5
import Derived.Test.YtopmngjaieobnaaP7
import Derived.Test.YtopmngjaieobnaaOa
import Derived.Deep.DeepCutAuto
namespace Go.Proofs.Ytopmngjaieobnaa.polyTags
open Go.ChangeShapes Go.WideShapes Go.ChangeAt Go.RowKit
set_option linter.unusedVariables false

theorem hid_ {p : Prop} (h : p) : Hid p := h
/-- The worlds of the last line: behind w, all stands. -/
def PtC (w : World) (W : World) : Prop := Below w.heap.size w W

set_option maxRecDepth 100000 in
set_option maxHeartbeats 4000000 in
theorem walk (w : World) (key : List UInt8) (hk : key.length = 32) (A : Option Addr) (l : List UInt8) (c : Nat) (h0 : Rd w w.heap.size A l) (hc : l.length ≤ c) (hcm : c ≤ 9223372036854775807) :
    Calls Try.prog 3 #[.agg (rowOf key), .slice A l.length c] w fun e w' => e = .returned (.bool true) ∧ Below w.heap.size w w' := by
  have hz16 := z16
  have hsl := fun k (h : k ≤ c) W => slice_to A l.length c (k : Int) k rfl h W
  have e32 : ∀ l : List UInt8, l.length = 32 → (Try.prog.info? 22).map (·.size) = some (rowOf l).size := fun l h => by rw [rowOf_size, h]; exact i32_
  have E32 := hid_ e32
  have e16 : ∀ l : List UInt8, l.length = 16 → (Try.prog.info? 24).map (·.size) = some (rowOf l).size := fun l h => by rw [rowOf_size, h]; exact i16_
  have E16 := hid_ e16
  have HK := hid_ hk
  obtain ⟨g, hg⟩ : ∃ g, Hid (w.heap.size = g) := ⟨_, rfl⟩
  obtain ⟨w0, hw0⟩ : ∃ W, Hid (w.alloc (.cells (rowOf key) 22) = W) := ⟨_, rfl⟩
  have B0 : Hid (Bk w0 g 22 (rowOf key)) := hid_ (by rw [← hw0.out, ← hg.out]; exact Bk.new w _ _)
  have X0 : Hid (Below g w w0) := hid_ (by rw [← hw0.out, ← hg.out]; exact (Below.refl _ _).alloc (Nat.le_refl _) _)
  have R0 : Rd w0 w0.heap.size A l := by
    have h := (h0.alloc (Nat.le_refl _) (.cells (rowOf key) 22)).more (B' := w0.heap.size) (by rw [← hw0.out]; simp)
    rwa [hw0.out] at h
  clear e32 e16 hk h0
  go_enter Try.func3, Try.ntmps3
  go_upto_region 1 with fail
  rw [hg.out, hw0.out]
  go_cut [1] (fun s0 wx => ∃ A' c', s0 = .slice A' (l.take 200).length c' ∧ (l.take 200).length ≤ c' ∧ c' ≤ 9223372036854775807 ∧ Rd wx wx.heap.size A' (l.take 200) ∧ Below w0.heap.size w0 wx)
  case first =>
    have hown := Own8.lit w0 w0.heap.size [] (Nat.le_refl _) (Nat.zero_le _)
    have hrd := (R0.take 200).alloc (Nat.le_refl _) (.cells (rowOf []) 5)
    have hlen : (l.take 200).length = min l.length 200 := by rw [List.length_take, Nat.min_comm]
    obtain ⟨n, hn⟩ : ∃ n, n = min l.length 200 := ⟨_, rfl⟩
    have hmn := run_min2 l.length 200 n hn (w0.alloc (.cells #[] 5))
    have hz : ((200 : Nat) : Int) = 200 := rfl
    rw [hz] at hmn
    rw [← hn] at hlen
    have hs1 := hsl n (by omega)
    have hn3 : n ≤ 200 := by omega
    clear hsl hz hn
    go_wp2_with (at_builtin; refine wpList_app rfl (.tmp 7) (.tmp 12) rfl hown rfl n c rfl hrd hlen ?_ ?_ ?_; (simp; omega); (simp); intro A' c' w2 k1 k2 k3)
    go_meet
    have k4 := k1.cap
    have k5 := k1.rd.1
    simp only [List.length_nil, Nat.zero_add, List.nil_append] at k4 k5
    exact ⟨A', c', by rw [hlen], by rw [hlen]; exact k4.1, k4.2, k5, ((Below.refl _ _).alloc (Nat.le_refl _) _).grown k2 (by simp) (fun k hk => by simp [Value.ownBlock] at hk; omega)⟩
  case rest =>
    obtain ⟨A', c', rfl, hn1, hn2, hr, hb⟩ := hcut
    have h300 : (l.take 200).length ≤ 200 := by rw [List.length_take]; omega
    clear hsl R0 hc hcm
    generalize l.take 200 = m at *
    obtain ⟨k, hk⟩ : ∃ k, m.length = k := ⟨_, rfl⟩
    rw [hk] at h300 hn1 ⊢
    have hcv := conv_strn hr k c' hk
    have HM := hid_ hk
    have B1 := hid_ (B0.out.below hb B0.out.lt)
    have X1 := hid_ (X0.out.trans (hb.mono (Nat.le_of_lt B0.out.lt)))
    have HR := hid_ hr
    clear hk hb hr
    have ct := tag_any key A' k c' m wc HK.out HM.out hn1 hn2 HR.out
    obtain ⟨T, hT⟩ : ∃ T, Hid (polyTag key m = T) := ⟨_, rfl⟩
    have TL : Hid (T.length = 16) := hid_ (by rw [← hT.out]; exact polyTag_len _ _)
    rw [hT.out] at ct
    have K1 := B1.out
    go_upto_region 4 with (first
      | (refine wpList_load_row rfl 22 (.tmp 2) rfl g rfl 22 (rowOf key) (0, 0) _ K1 Try.underlying22 rfl (E32.out _ HK.out) ?_)
      | (go_at_call 14; ((with_reducible refine ct.mono ?_); rintro e w3 ⟨rfl, hb3⟩; have HB3 := hid_ hb3; clear hb3))
      | (refine wpList_put_row rfl 24 (.tmp 6) (.tmp 18) rfl w3.heap.size (rowOf T) rfl rfl 24 (rowOf (zbytes 16)) (Bk.new w3 _ _) (E16.out _ TL.out) (by rw [rowOf_size, rowOf_size, TL.out, zbytes_len]) (bytes_one _) ?_; intro w4 k4 g4 s4))
    rw [put_none]
    have hwl := HB3.out.size
    have Y4 : Below wc.heap.size wc w4 := (HB3.out.alloc hwl (.cells (rowOf (zbytes 16)) 24)).grown g4 (by simp; omega) (fun i hi => by injection hi with hi; omega)
    have HK4 := hid_ k4
    have B4 := hid_ (B1.out.below Y4 B1.out.lt)
    have X4 := hid_ (X1.out.trans (Y4.mono (Nat.le_of_lt B1.out.lt)))
    have R4 := (HR.out.below Y4).more Y4.size
    obtain ⟨G, hG⟩ : ∃ G, Hid (w3.heap.size = G) := ⟨_, rfl⟩
    rw [hG.out] at HK4 ⊢
    have V1 : Hid (∀ W : World, PtC w4 W → (convert 23 9 (.slice (some ⟨G, 0, none⟩) 16 16)).run Try.prog W = .ok (.string (strOf T)) W) := hid_ (fun W h => conv_strn ((HK4.out.below h HK4.out.lt).rd (Nat.lt_succ_self _)) 16 16 TL.out)
    have V2 : Hid (∀ W : World, PtC w4 W → (convert 23 9 (.slice (some ⟨g, 0, none⟩) 32 32)).run Try.prog W = .ok (.string (strOf key)) W) := hid_ (fun W h => conv_strn ((B4.out.below h B4.out.lt).rd (Nat.lt_succ_self _)) 32 32 HK.out)
    have V3 : Hid (∀ W : World, PtC w4 W → (convert 23 9 (.slice A' k c')).run Try.prog W = .ok (.string (strOf m)) W) := hid_ (fun W h => conv_strn (R4.below h) k c' HM.out)
    have P1 : Hid (∀ W : World, PtC w4 W → Calls Try.prog 15 #[] W fun e w' => e = .returned (.bool true) ∧ PtC w4 w') := hid_ (fun W h => (tags_any W).mono fun e w' hh => ⟨hh.1, h.trans (hh.2.mono h.size)⟩)
    have P2 : Hid (∀ W : World, PtC w4 W → Calls Try.prog 16 #[.string (strOf key), .string (strOf m)] W fun e w' => e = .returned (.string (strOf T)) ∧ PtC w4 w') := hid_ (fun W h => (refTag_any key m k W HK.out HM.out (by omega)).mono fun e w' hh => ⟨by rw [← hT.out]; exact hh.1, h.trans (hh.2.mono h.size)⟩)
    have s1 := slice_all16 G
    have s2 := slice_all32 g
    have HC : PtC w4 { w4 with drawn := w4.drawn + 1 } := (Below.refl _ w4).drew
    clear R4 Y4 hwl k4 g4 s4 ct K1 hcv
    refine region_quiet_in (C := PtC w4) (by kernel_rfl) (by kernel_rfl) HC ?_
    clear HC
    repeat (go_big_quiet_want; (first
      | (refine BigFrame.quiet_move _ rfl ?_; go_simp)
      | (refine BigFrame.quiet_assign _ rfl ?_; go_simp)
      | (refine quiet_call (.bool true) 15 #[] ?_ P1.out ?_; (focus (intro W; go_simp; done)); go_simp)
      | (refine quiet_call (.string (strOf T)) 16 #[.string (strOf key), .string (strOf m)] ?_ P2.out ?_; (focus (intro W; go_simp; done)); go_simp)
      | (refine quiet_run (.bool true) ?_ ?_; (focus (intro W hW; go_simp; done)); go_simp)
      | (refine quiet_run (.slice (some ⟨G, 0, none⟩) 16 16) ?_ ?_; (focus (intro W hW; go_simp; done)); go_simp)
      | (refine quiet_run (.slice (some ⟨g, 0, none⟩) 32 32) ?_ ?_; (focus (intro W hW; go_simp; done)); go_simp)
      | (refine quiet_run (.string (strOf T)) ?_ ?_; (focus (intro W hW; have h := V1.out W hW; go_simp; done)); go_simp)
      | (refine quiet_run (.string (strOf key)) ?_ ?_; (focus (intro W hW; have h := V2.out W hW; go_simp; done)); go_simp)
      | (refine quiet_run (.string (strOf m)) ?_ ?_; (focus (intro W hW; have h := V3.out W hW; go_simp; done)); go_simp)); go_big_quiet_on)
    refine wpQuiet_nil ?_
    intro W hW
    have HW := hid_ hW
    clear hW
    go_wp2
    go_ret
    exact ⟨rfl, by rw [hg.out]; exact X4.out.trans (HW.out.mono (Nat.le_of_lt B4.out.lt))⟩

set_option maxRecDepth 100000 in
theorem lifted (os : Os) (started : os.Started) (H : Type) (enc : TypeId × Value → H) :
    ReturnsInHanded {} Try.checked os 3 .any (Rows.polyTagsSpec.pre6 enc Try.prog Try.f3 Rows.polyTagsRow.domain false) (Rows.polyTagsSpec.post enc Try.prog Try.f3 false true false false) := by
  refine returnsInHanded_of_change (C := Try.checked) own_ started (by kernel_rfl) Try.func3
    (ChangeSpec.witness6 (enc := enc) (C := Try.checked) false ⟨#[], #[.agg (rowOf (zbytes 32)), .slice none 0 0], []⟩ 8 (by kernel_rfl) (by kernel_rfl) (by kernel_rfl) (by kernel_rfl)) ?_
  intro W base args ds gs before hval0 hW hcnd _
  have hval : ∀ (j : Nat) t v, Try.f3.params[j]? = some t → args[j]? = some v → Value.okWide Try.prog W .any base t v := hval0
  have hW' := hW
  obtain ⟨p, q, hA0, hV, rfl, hfz, hnd⟩ := hW
  have hA : DataW.TrodAll enc Try.prog W 0 (fun _ => true) true Try.f3.params.toList args.toList ds p := hA0
  rw [Try.params3] at hA hval
  obtain ⟨v0, vs0, d0, ds0, p0, q0, hargs, rfl, rfl, h0, r0⟩ := trodAll_cons hA
  obtain ⟨v1, vs1, d1, ds1, p1, q1, rfl, rfl, rfl, h1, r1⟩ := trodAll_cons r0
  obtain ⟨rfl, rfl, rfl⟩ := trodAll_nil r1
  obtain rfl : args = #[v0, v1] := by cases args; simp_all
  obtain ⟨rfl, rfl⟩ := trodVars_none hV
  obtain ⟨k0, rfl, hk0⟩ := open_arr8 Try.underlying22 Try.underlying5 (by kernel_rfl) (by kernel_rfl) (hval 0 22 v0 rfl rfl) h0
  obtain ⟨A1, l1, c1, rfl, hr1, hlc1, hcm1⟩ := open_bytes Try.underlying23 Try.underlying5 (by kernel_rfl) (hval 1 23 v1 rfl rfl) h1
  refine (walk W k0 hk0 A1 l1 c1 hr1 hlc1 (by unfold maxLen at hcm1; omega)).mono fun e W' ⟨he, hg⟩ => ⟨_, he, ?_⟩
  exact law_post laidOut_ (of_decide_eq_true (by kernel_rfl)) rfl rfl Try.underlying4 rfl hW' hg

theorem over : Rows.polyTagsRow.holds Try.pinned (OpenSpec.ofChange Rows.polyTagsSpec) :=
  OpenClaim.holds_of_wide 3 Try.f3 rfl rfl rfl rfl rfl rfl rfl ⟨rfl, rfl, rfl, rfl, rfl⟩ rfl rfl rfl rfl rfl (by kernel_rfl) Try.func3 (by kernel_rfl)
    (of_decide_eq_true (by kernel_rfl)) (by unfold Func.isWrapper; first | (rw [if_pos (by decide +kernel)]; kernel_rfl) | (rw [if_neg (by decide +kernel)]; exact ⟨rfl, rfl⟩))
    (fun os started H enc _ => lifted os started H enc)

theorem proved : Rows.PolyTagsSaid := over
#print axioms proved
end Go.Proofs.Ytopmngjaieobnaa.polyTags
