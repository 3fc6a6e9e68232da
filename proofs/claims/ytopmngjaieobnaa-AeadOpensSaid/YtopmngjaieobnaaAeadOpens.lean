/-
  Proved: for all inputs AeadOpens answers true: of all bytes it is told what they are opened to, or why not. No condition.
-/
import Derived.Test.YtopmngjaieobnaaEg
import Derived.Test.YtopmngjaieobnaaLp
import Derived.Deep.DeepCutAuto
namespace Go.Proofs.Ytopmngjaieobnaa.aeadOpens
open Go.ChangeShapes Go.WideShapes Go.ChangeAt Go.RowKit
set_option linter.unusedVariables false
set_option linter.unusedSimpArgs false

theorem hid_ {p : Prop} (h : p) : Hid p := h
/-- The worlds of a line: behind w, all stands. -/
def AoC (w : World) (W : World) : Prop := Below w.heap.size w W

set_option maxRecDepth 100000 in
set_option maxHeartbeats 4000000 in
theorem walk (w : World) (key nonce : List UInt8) (hk : key.length = 32) (hn : nonce.length = 12) (A1 : Option Addr) (l1 : List UInt8) (c1 : Nat) (h1 : Rd w w.heap.size A1 l1) (hc1 : l1.length ≤ c1) (hcm1 : c1 ≤ 9223372036854775807)
    (A2 : Option Addr) (l2 : List UInt8) (c2 : Nat) (h2 : Rd w w.heap.size A2 l2) (hc2 : l2.length ≤ c2) (hcm2 : c2 ≤ 9223372036854775807) :
    Calls Try.prog 6 #[.agg (rowOf (key ++ nonce)), .slice A1 l1.length c1, .slice A2 l2.length c2] w fun e w' => e = .returned (.bool true) ∧ Below w.heap.size w w' := by
  obtain ⟨n1, hn1⟩ : ∃ n, n = min l1.length 60 := ⟨_, rfl⟩
  obtain ⟨n2, hn2⟩ : ∃ n, n = min l2.length 150 := ⟨_, rfl⟩
  have hm1 := fun W => run_min2 l1.length 60 n1 hn1 W
  have hm2 := fun W => run_min2 l2.length 150 n2 hn2 W
  rw [show ((60 : Nat) : Int) = 60 from rfl] at hm1
  rw [show ((150 : Nat) : Int) = 150 from rfl] at hm2
  have hs1 := fun W => slice_to A1 l1.length c1 (n1 : Int) n1 rfl (by omega) W
  have hs2 := fun W => slice_to A2 l2.length c2 (n2 : Int) n2 rfl (by omega) W
  have L1 : Hid ((l1.take 60).length = n1) := hid_ (by rw [List.length_take, hn1, Nat.min_comm])
  have L2 : Hid ((l2.take 150).length = n2) := hid_ (by rw [List.length_take, hn2, Nat.min_comm])
  have b1 : n1 ≤ 60 := by omega
  have b2 : n2 ≤ 150 := by omega
  have d1 : n1 ≤ c1 := by omega
  have d2 : n2 ≤ c2 := by omega
  obtain ⟨g, hg⟩ : ∃ g, Hid (w.heap.size = g) := ⟨_, rfl⟩
  obtain ⟨w0, hw0⟩ : ∃ W, Hid (w.alloc (.cells (rowOf (key ++ nonce)) 34) = W) := ⟨_, rfl⟩
  have B0 : Hid (Bk w0 g 34 (rowOf (key ++ nonce))) := hid_ (by rw [← hw0.out, ← hg.out]; exact Bk.new w _ _)
  have X0 : Hid (Below g w w0) := hid_ (by rw [← hw0.out, ← hg.out]; exact (Below.refl _ _).alloc (Nat.le_refl _) _)
  have R1 : Hid (Rd w0 w0.heap.size A1 (l1.take 60)) := hid_ (by
    have h := ((h1.take 60).alloc (Nat.le_refl _) (.cells (rowOf (key ++ nonce)) 34)).more (B' := w0.heap.size) (by rw [← hw0.out]; simp)
    rwa [hw0.out] at h)
  have R2 : Hid (Rd w0 w0.heap.size A2 (l2.take 150)) := hid_ (by
    have h := ((h2.take 150).alloc (Nat.le_refl _) (.cells (rowOf (key ++ nonce)) 34)).more (B' := w0.heap.size) (by rw [← hw0.out]; simp)
    rwa [hw0.out] at h)
  have HK := hid_ hk
  have HN := hid_ hn
  have I32 := hid_ (ib32 key hk)
  have I12 := hid_ (ib12 nonce hn)
  clear h1 h2 hc1 hc2 hk hn hn1 hn2
  go_enter Try.func6, Try.ntmps6
  go_upto_region 1 with fail
  rw [hg.out, hw0.out]
  refine region_quiet_in (C := AoC w0) (by kernel_rfl) (by kernel_rfl) ((Below.refl _ _).drew) ?_
  repeat (go_big_quiet_want; (first
    | (refine BigFrame.quiet_move _ rfl ?_; go_simp)
    | (refine BigFrame.quiet_assign _ rfl ?_; go_simp)
    | (refine quiet_run (.int .i64 (l1.length : Int)) ?_ ?_; (focus (intro W hW; go_simp; done)); go_simp)
    | (refine quiet_run (.int .i64 (l2.length : Int)) ?_ ?_; (focus (intro W hW; go_simp; done)); go_simp)
    | (refine quiet_run (.int .i64 (n1 : Int)) ?_ ?_; (focus (intro W hW; go_simp; done)); go_simp)
    | (refine quiet_run (.int .i64 (n2 : Int)) ?_ ?_; (focus (intro W hW; go_simp; done)); go_simp)
    | (refine quiet_run (.slice A1 n1 c1) ?_ ?_; (focus (intro W hW; go_simp; done)); go_simp)
    | (refine quiet_run (.slice A2 n2 c2) ?_ ?_; (focus (intro W hW; go_simp; done)); go_simp)); go_big_quiet_on)
  refine wpQuiet_nil ?_
  intro W hW
  have B1 := hid_ (B0.out.below hW B0.out.lt)
  have X1 := hid_ (X0.out.trans (hW.mono (Nat.le_of_lt B0.out.lt)))
  have Q1 := hid_ ((R1.out.below hW).more hW.size)
  have Q2 := hid_ ((R2.out.below hW).more hW.size)
  clear hW hm1 hm2 hs1 hs2 B0 X0 R1 R2 hw0
  generalize l1.take 60 = wi at *
  generalize l2.take 150 = s at *
  have co := aopen_any key nonce A1 n1 c1 wi A2 n2 c2 s W HK.out HN.out L1.out L2.out Q1.out Q2.out d2 hcm2 (by omega) (by omega)
  have P2 : Hid (∀ W' : World, Calls Try.prog 21 #[.string (strOf key), .string (strOf nonce), .string (strOf wi), .string (strOf s)] W' fun e w' => e = .returned (.tuple #[.string (strOf (openD7 key nonce wi s)), .bool (openB7 key nonce wi s)]) ∧ Below W'.heap.size W' w') := hid_ (fun W' => refAOpen_any key nonce wi s n1 n2 W' HK.out HN.out L1.out L2.out (by omega) (by omega))
  have hcase := openZ_cases key nonce wi s
  rw [L2.out] at hcase
  have HC := hid_ hcase
  obtain ⟨z, hz⟩ : ∃ z, Hid (openZ key nonce wi s = z) := ⟨_, rfl⟩
  obtain ⟨ok, hok⟩ : ∃ ok, Hid (openB7 key nonce wi s = ok) := ⟨_, rfl⟩
  obtain ⟨D, hD⟩ : ∃ D, Hid (openD7 key nonce wi s = D) := ⟨_, rfl⟩
  obtain ⟨q, hq⟩ : ∃ q, Hid (D.length = q) := ⟨_, rfl⟩
  rw [hz.out, hD.out, hq.out] at co
  rw [hok.out, hD.out] at P2
  rw [hz.out, hok.out] at HC
  clear hcase hz hok hD
  have K0 := sg_key B1.out
  have K1 := sg_nonce HK.out B1.out
  have HK0 := hid_ K0
  have HK1 := hid_ K1
  clear K0 K1
  go_upto_region 3 with (first
    | (refine wpList_load_sub rfl 22 (.tmp 22) rfl g 0 rfl (rowOf key) HK0.out _ Try.underlying22 rfl I32.out ?_)
    | (refine wpList_load_sub rfl 32 (.tmp 24) rfl g 32 rfl (rowOf nonce) HK1.out _ Try.underlying32 rfl I12.out ?_)
    | (go_at_call 18; ((with_reducible refine co.mono ?_); rintro e w2 ⟨A3, c3, rfl, hr3, hc3, hcm3, hb3⟩; have HR3 := hid_ hr3; have HB3 := hid_ hb3; clear hr3 hb3)))
  have B2 := hid_ (B1.out.below HB3.out B1.out.lt)
  have X2 := hid_ (X1.out.trans (HB3.out.mono (Nat.le_of_lt B1.out.lt)))
  have S1 := hid_ ((Q1.out.below HB3.out).more HB3.out.size)
  have S2 := hid_ ((Q2.out.below HB3.out).more HB3.out.size)
  clear co HK0 HK1 B1 X1 Q1 Q2 HB3 I32 I12
  have V1 : Hid (∀ W : World, AoC w2 W → (convert 23 9 (.slice (some ⟨g, 0, none⟩) 32 32)).run Try.prog W = .ok (.string (strOf key)) W) := hid_ (fun W h => conv_strn (sg_rdk (B2.out.below h B2.out.lt)) 32 32 HK.out)
  have V2 : Hid (∀ W : World, AoC w2 W → (convert 23 9 (.slice (some ⟨g, 32, none⟩) 12 12)).run Try.prog W = .ok (.string (strOf nonce)) W) := hid_ (fun W h => conv_strn (sg_rdn HK.out (B2.out.below h B2.out.lt)) 12 12 HN.out)
  have V3 : Hid (∀ W : World, AoC w2 W → (convert 23 9 (.slice A1 n1 c1)).run Try.prog W = .ok (.string (strOf wi)) W) := hid_ (fun W h => conv_strn (S1.out.below h) n1 c1 L1.out)
  have V4 : Hid (∀ W : World, AoC w2 W → (convert 23 9 (.slice A2 n2 c2)).run Try.prog W = .ok (.string (strOf s)) W) := hid_ (fun W h => conv_strn (S2.out.below h) n2 c2 L2.out)
  have P3 : Hid (∀ W : World, AoC w2 W → Calls Try.prog 21 #[.string (strOf key), .string (strOf nonce), .string (strOf wi), .string (strOf s)] W fun e w' => e = .returned (.tuple #[.string (strOf D), .bool ok]) ∧ AoC w2 w') := hid_ (fun W h => (P2.out W).mono fun e w' hh => ⟨hh.1, h.trans (hh.2.mono h.size)⟩)
  have s1 := sl_sgk g
  have s2 := sl_sgn g
  clear P2
  refine region_quiet_in (C := AoC w2) (by kernel_rfl) (by kernel_rfl) ((Below.refl _ _).drew) ?_
  repeat (go_big_quiet_want; (first
    | (refine BigFrame.quiet_move _ rfl ?_; go_simp)
    | (refine BigFrame.quiet_assign _ rfl ?_; go_simp)
    | (refine quiet_call (.tuple #[.string (strOf D), .bool ok]) 21 #[.string (strOf key), .string (strOf nonce), .string (strOf wi), .string (strOf s)] ?_ P3.out ?_; (focus (intro W; go_simp; done)); go_simp)
    | (refine quiet_run (.pointer (some ⟨g, 0, none⟩)) ?_ ?_; (focus (intro W hW; go_simp; done)); go_simp)
    | (refine quiet_run (.pointer (some ⟨g, 32, none⟩)) ?_ ?_; (focus (intro W hW; go_simp; done)); go_simp)
    | (refine quiet_run (.slice (some ⟨g, 0, none⟩) 32 32) ?_ ?_; (focus (intro W hW; go_simp; done)); go_simp)
    | (refine quiet_run (.slice (some ⟨g, 32, none⟩) 12 12) ?_ ?_; (focus (intro W hW; go_simp; done)); go_simp)
    | (refine quiet_run (.string (strOf key)) ?_ ?_; (focus (intro W hW; have h := V1.out W hW; go_simp; done)); go_simp)
    | (refine quiet_run (.string (strOf nonce)) ?_ ?_; (focus (intro W hW; have h := V2.out W hW; go_simp; done)); go_simp)
    | (refine quiet_run (.string (strOf wi)) ?_ ?_; (focus (intro W hW; have h := V3.out W hW; go_simp; done)); go_simp)
    | (refine quiet_run (.string (strOf s)) ?_ ?_; (focus (intro W hW; have h := V4.out W hW; go_simp; done)); go_simp)
    | (refine quiet_run (.string (strOf D)) ?_ ?_; (focus (intro W hW; go_simp; done)); go_simp)
    | (refine quiet_run (.bool ok) ?_ ?_; (focus (intro W hW; go_simp; done)); go_simp)); go_big_quiet_on)
  refine wpQuiet_nil ?_
  intro W hW
  have HR4 := hid_ ((HR3.out.below hW).more hW.size)
  have X3 := hid_ (X2.out.trans (hW.mono (by have := B2.out.lt; omega)))
  clear hW V1 V2 V3 V4 P3 s1 s2 B2 X2 S1 S2 HR3
  have cse := fun W => seals_any W
  have P4 : Hid (∀ W' : World, Below W.heap.size W W' → (convert 23 9 (.slice A3 q c3)).run Try.prog W' = .ok (.string (strOf D)) W') := hid_ (fun W' h => conv_strn (HR4.out.below h) q c3 hq.out)
  have hq1 : ((strOf D).toList == (strOf D).toList) = true := beq_self_eq_true _
  have hq2 : ((strOf D).toList != (strOf D).toList) = false := by rw [bne, hq1]; rfl
  rcases HC.out with ⟨rfl, rfl, hlt⟩ | ⟨rfl, rfl, hlt⟩ | ⟨rfl, rfl, hlt⟩
  case' inl => have hd1 : decide ((n2 : Int) < 16) = true := decide_eq_true (by omega)
  case' inl => have hd2 : decide ((16 : Int) ≤ (n2 : Int)) = false := decide_eq_false (by omega)
  case' inl => have hd3 : decide (n2 < 16) = true := decide_eq_true (by omega)
  case' inl => have hd4 : decide (16 ≤ n2) = false := decide_eq_false (by omega)
  case' inr.inl => have hd1 : decide ((n2 : Int) < 16) = false := decide_eq_false (by omega)
  case' inr.inl => have hd2 : decide ((16 : Int) ≤ (n2 : Int)) = true := decide_eq_true (by omega)
  case' inr.inl => have hd3 : decide (n2 < 16) = false := decide_eq_false (by omega)
  case' inr.inl => have hd4 : decide (16 ≤ n2) = true := decide_eq_true (by omega)
  case' inr.inr => have hd1 : decide ((n2 : Int) < 16) = false := decide_eq_false (by omega)
  all_goals
    clear HC
    go_wp2_with (go_at_call 19; ((with_reducible refine (cse _).mono ?_); rintro e w5 ⟨rfl, hb5⟩; have HB5 := hid_ hb5; have hcv := P4.out w5 hb5; clear hb5))
    go_ret
    exact ⟨rfl, by rw [hg.out]; exact X3.out.trans (HB5.out.mono (by have := X3.out.size; rw [hg.out] at this; exact this))⟩

set_option maxRecDepth 100000 in
theorem lifted (os : Os) (started : os.Started) (H : Type) (enc : TypeId × Value → H) :
    ReturnsInHanded {} Try.checked os 6 .any (Rows.aeadOpensSpec.pre6 enc Try.prog Try.f6 Rows.aeadOpensRow.domain false) (Rows.aeadOpensSpec.post enc Try.prog Try.f6 false true false false) := by
  refine returnsInHanded_of_change (C := Try.checked) own_ started (by kernel_rfl) Try.func6
    (ChangeSpec.witness6 (enc := enc) (C := Try.checked) false ⟨#[], #[.agg (rowOf (zbytes 44)), .slice none 0 0, .slice none 0 0], []⟩ 8 (by kernel_rfl) (by kernel_rfl) (by kernel_rfl) (by kernel_rfl)) ?_
  intro W base args ds gs before hval0 hW hcnd _
  have hval : ∀ (j : Nat) t v, Try.f6.params[j]? = some t → args[j]? = some v → Value.okWide Try.prog W .any base t v := hval0
  have hW' := hW
  obtain ⟨p, q, hA0, hV, rfl, hfz, hnd⟩ := hW
  have hA : DataW.TrodAll enc Try.prog W 0 (fun _ => true) true Try.f6.params.toList args.toList ds p := hA0
  rw [Try.params6] at hA hval
  obtain ⟨v0, vs0, d0, ds0, p0, q0, hargs, rfl, rfl, h0, r0⟩ := trodAll_cons hA
  obtain ⟨v1, vs1, d1, ds1, p1, q1, rfl, rfl, rfl, h1, r1⟩ := trodAll_cons r0
  obtain ⟨v2, vs2, d2, ds2, p2, q2, rfl, rfl, rfl, h2, r2⟩ := trodAll_cons r1
  obtain ⟨rfl, rfl, rfl⟩ := trodAll_nil r2
  obtain rfl : args = #[v0, v1, v2] := by cases args; simp_all
  obtain ⟨rfl, rfl⟩ := trodVars_none hV
  obtain ⟨k0, n0, rfl, hk0, hn0⟩ := open_sealing Try.underlying34 ⟨rfl, rfl⟩ ⟨rfl, rfl⟩ Try.underlying22 (by kernel_rfl) Try.underlying32 Try.underlying5 (by kernel_rfl) (by kernel_rfl) (by kernel_rfl) (hval 0 34 v0 rfl rfl) h0
  obtain ⟨A1, l1, c1, rfl, hr1, hlc1, hcm1⟩ := open_bytes Try.underlying23 Try.underlying5 (by kernel_rfl) (hval 1 23 v1 rfl rfl) h1
  obtain ⟨A2, l2, c2, rfl, hr2, hlc2, hcm2⟩ := open_bytes Try.underlying23 Try.underlying5 (by kernel_rfl) (hval 2 23 v2 rfl rfl) h2
  refine (walk W k0 n0 hk0 hn0 A1 l1 c1 hr1 hlc1 (by unfold maxLen at hcm1; omega) A2 l2 c2 hr2 hlc2 (by unfold maxLen at hcm2; omega)).mono fun e W' ⟨he, hg⟩ => ⟨_, he, ?_⟩
  exact law_post laidOut_ (of_decide_eq_true (by kernel_rfl)) rfl rfl Try.underlying4 rfl hW' hg

theorem over : Rows.aeadOpensRow.holds Try.pinned (OpenSpec.ofChange Rows.aeadOpensSpec) :=
  OpenClaim.holds_of_wide 6 Try.f6 rfl rfl rfl rfl rfl rfl rfl ⟨rfl, rfl, rfl, rfl, rfl⟩ rfl rfl rfl rfl rfl (by kernel_rfl) Try.func6 (by kernel_rfl)
    (of_decide_eq_true (by kernel_rfl)) (by unfold Func.isWrapper; first | (rw [if_pos (by decide +kernel)]; kernel_rfl) | (rw [if_neg (by decide +kernel)]; exact ⟨rfl, rfl⟩))
    (fun os started H enc _ => lifted os started H enc)

theorem proved : Rows.AeadOpensSaid := over
#print axioms proved
end Go.Proofs.Ytopmngjaieobnaa.aeadOpens
