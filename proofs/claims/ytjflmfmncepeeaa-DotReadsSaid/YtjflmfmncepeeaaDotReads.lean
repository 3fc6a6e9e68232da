/-
  Proved: for all bytes DotReads answers true: the context is told, or that they are none's; what is taken has just its bytes. No condition.
-/
import Derived.Test.YtjflmfmncepeeaaJr
import Derived.Test.YtjflmfmncepeeaaJn
import Derived.Test.YtjflmfmncepeeaaJd
import Derived.BigQuiet
namespace Go.Proofs.Ytjflmfmncepeeaa.dotReads
open Go.ChangeShapes Go.WideShapes Go.ChangeAt Go.RowKit
set_option linter.unusedVariables false
set_option linter.unusedSimpArgs false

theorem read_q (w : World) (A0 : Option Addr) (n0 c0 : Nat) (l : List UInt8) (hn : l.length = n0) (hr : Rd w w.heap.size A0 l) (hm : n0 ≤ 140737488355328) :
    Calls Try.prog 22 #[.slice A0 n0 c0] w fun e w' => ∃ u m A c ok q z, e = .returned (.tuple #[.agg (ctxRow u A q c), .int .i64 z]) ∧ ReadV l u m ok ∧ z = (if ok = true then 0 else 2) ∧ m.length = q ∧ RdD w' w'.heap.size A m ∧ q ≤ c ∧ c ≤ 9223372036854775807 ∧ u.length = 16 ∧ q ≤ 32 ∧ Below w.heap.size w w' :=
  (read_any w A0 n0 c0 l hn hr hm).mono fun e w' ⟨u, m, A, c, ok, he, h1, h2, h3, h4, h5, h6, h7⟩ => ⟨u, m, A, c, ok, m.length, _, he, h1, rfl, rfl, h2, h3, h4, h5, h6, h7⟩
theorem refRead_q (w : World) (l : List UInt8) (hm : l.length ≤ 140737488355328) :
    Calls Try.prog 31 #[.string (strOf l)] w fun e w' => ∃ u m A c ok q, e = .returned (.tuple #[.agg (ctxRow u A q c), .bool ok]) ∧ ReadV l u m ok ∧ m.length = q ∧ RdD w' w'.heap.size A m ∧ q ≤ c ∧ c ≤ 9223372036854775807 ∧ u.length = 16 ∧ q ≤ 32 ∧ Below w.heap.size w w' :=
  (refRead_any w l hm).mono fun e w' ⟨u, m, A, c, ok, he, h1, h2, h3, h4, h5, h6, h7⟩ => ⟨u, m, A, c, ok, m.length, he, h1, rfl, h2, h3, h4, h5, h6, h7⟩
theorem same_self (u : List Int) (m : List DotV) : sameR u u m m = true := by unfold sameR; simp

set_option maxRecDepth 100000 in
set_option maxHeartbeats 8000000 in
theorem walk (w : World) (A9 : Option Addr) (l9 : List UInt8) (c9 : Nat) (hr9 : Rd w w.heap.size A9 l9) (hlc9 : l9.length ≤ c9) (hcm9 : c9 ≤ 9223372036854775807) :
    Calls Try.prog 6 #[.slice A9 l9.length c9] w fun e w' => e = .returned (.bool true) ∧ Below w.heap.size w w' := by
  obtain ⟨m9, hm9⟩ : ∃ m, m = min l9.length 700 := ⟨_, rfl⟩
  have hmn9 := fun W => run_min2 l9.length 700 m9 hm9 W
  rw [show ((700 : Nat) : Int) = 700 from rfl] at hmn9
  have hs9 := fun W => slice_to A9 l9.length c9 (m9 : Int) m9 rfl (by omega) W
  have M9 := hidd_ (show (l9.take 700).length = m9 by rw [List.length_take, hm9, Nat.min_comm])
  have hb9 : m9 ≤ 700 := by omega
  have hrt : Rd w w.heap.size A9 (l9.take 700) := hr9.take 700
  clear hr9 hlc9 hm9
  generalize l9.take 700 = t at *
  generalize l9.length = n9 at *
  obtain ⟨g, hg⟩ : ∃ g, w.heap.size = g := ⟨_, rfl⟩
  have cr := read_q w A9 m9 c9 t M9.out hrt (by omega)
  have hz := zX_
  have hzr := zRX_
  have IR := hidd_ (fun (u : List Int) (hu : u.length = 16) A n c => (show (Try.prog.info? 25).map (·.size) = some (ctxRow u A n c).size by rw [ctxRow_size u A n c hu]; exact iRX_))
  have IX := hidd_ (fun (u : List Int) (hu : u.length = 16) A n c => (show (Try.prog.info? 29).map (·.size) = some (ctxRow u A n c).size by rw [ctxRow_size u A n c hu]; exact iX_))
  have HG := hidd_ hg
  rw [hg] at hrt
  have HRT := hidd_ hrt
  clear hrt hg
  go_enter Try.func6, Try.ntmps6
  go_upto_region 3 with (first
    | (go_at_call 22; go_loud ((with_reducible refine cr.mono ?_); clear cr; rintro e w1 ⟨u, m, A, c, ok, q, z, rfl, hv, hzz, hq, hr, hc, hc7, hu, h32, hb⟩; rw [HG.out] at hb; have X1 := hidd_ hb; have HV := hidd_ hv; have HZ := hidd_ hzz; have HQ := hidd_ hq; have R1 := hidd_ hr; have HC := hidd_ (And.intro hc hc7); have HU := hidd_ hu; have H32 := hidd_ h32; have hg1 : g ≤ w1.heap.size := (by rw [← HG.out] at hb ⊢; exact hb.size); clear hv hzz hq hr hc hc7 hu h32 hb))
    | (refine wpList_put_row rfl 29 _ _ rfl w1.heap.size (ctxRow u A q c) rfl rfl 29 (ctxRow (List.replicate 16 0) none 0 0) (Bk.new w1 _ _) (IX.out _ HU.out _ _ _) (by rw [ctxRow_size _ _ _ _ HU.out]; rfl) (ctxRow_one _ _ _ _) ?_; intro w2 k2 g2 s2; have B2 := hidd_ (((Below.refl w1.heap.size w1).alloc (Nat.le_refl _) (.cells (ctxRow (List.replicate 16 0) none 0 0) 29)).grown g2 (by simp) (fun k hk => by injection hk with hk; omega)); have K2 := hidd_ k2; clear k2 g2 s2))
  have R2 := hidd_ ((R1.out.below B2.out).more B2.out.size)
  have X2 := hidd_ (X1.out.trans (B2.out.mono hg1))
  have hg2 : g ≤ w2.heap.size := Nat.le_trans hg1 B2.out.size
  generalize w1.heap.size = p at *
  have K2' := hidd_ (show Bk w2 p 29 (ctxRow u A q c) from K2.out)
  have hcv := conv_strn (HRT.out.below X2.out) m9 c9 M9.out
  have cq := refRead_q w2 t (by rw [M9.out]; omega)
  clear K2 B2 R1 X1 hg1
  go_upto_region 4 with (first
    | (go_at_call 31; ((with_reducible refine cq.mono ?_); clear cq hcv; rintro e w3 ⟨u', m', A', c', ok', q', rfl, hv, hq, hr, hc, hc7, hu, h32, hb⟩; have X3 := hidd_ (X2.out.trans (hb.mono hg2)); have R3 := hidd_ ((R2.out.below hb).more hb.size); have K3 := hidd_ (K2'.out.below hb K2'.out.lt); have HVr := hidd_ hv; have HQr := hidd_ hq; have R3r := hidd_ hr; have HCr := hidd_ (And.intro hc hc7); have HUr := hidd_ hu; have H32r := hidd_ h32; have hg3 : g ≤ w3.heap.size := Nat.le_trans hg2 hb.size; clear hv hq hr hc hc7 hu h32 hb))
    | (refine wpList_put_row rfl 25 _ _ rfl w3.heap.size (ctxRow u' A' q' c') rfl rfl 25 (ctxRow (List.replicate 16 0) none 0 0) (Bk.new w3 _ _) (IR.out _ HUr.out _ _ _) (by rw [ctxRow_size _ _ _ _ HUr.out]; rfl) (ctxRow_one _ _ _ _) ?_; intro w4 k4 g4 s4; have B4 := hidd_ (((Below.refl w3.heap.size w3).alloc (Nat.le_refl _) (.cells (ctxRow (List.replicate 16 0) none 0 0) 25)).grown g4 (by simp) (fun k hk => by injection hk with hk; omega)); have K4 := hidd_ k4; clear k4 g4 s4))
  have R4 := hidd_ ((R3.out.below B4.out).more B4.out.size)
  have R4r := hidd_ ((R3r.out.below B4.out).more B4.out.size)
  have X4 := hidd_ (X3.out.trans (B4.out.mono hg3))
  have hg4 : g ≤ w4.heap.size := Nat.le_trans hg3 B4.out.size
  have KD4 := hidd_ (K3.out.below B4.out K3.out.lt)
  generalize w3.heap.size = r at *
  have KR4 := hidd_ (show Bk w4 r 25 (ctxRow u' A' q' c') from K4.out)
  obtain ⟨e1, e2, e3⟩ := readV_one HV.out HVr.out
  subst e1 e2 e3
  obtain rfl : q = q' := HQ.out.symm.trans HQr.out
  clear K2' K3 K4 B4 R2 R3 R3r X2 X3 hg2 hg3 HVr HQr HUr H32r
  have CD : Hid (∀ W : World, Below w4.heap.size w4 W → Calls Try.prog 15 #[] W fun e w' => e = .returned (.bool true) ∧ Below w4.heap.size w4 w') := hidd_ (fun W h => (dots_any W).mono fun e w' hh => ⟨hh.1, h.trans (hh.2.mono h.size)⟩)
  have CF : Hid (∀ W : World, Below w4.heap.size w4 W → Calls Try.prog 21 #[.agg (ctxRow u A q c)] W fun e w' => e = .returned (.agg (ctxRow u A q c)) ∧ Below w4.heap.size w4 w') := hidd_ (fun W h => (from_any W u HU.out A q c).mono fun e w' hh => ⟨hh.1, h.trans (hh.2.mono h.size)⟩)
  have CS : Hid (∀ W : World, Below w4.heap.size w4 W → Calls Try.prog 20 #[.agg (ctxRow u A q c), .agg (ctxRow u A' q c')] W fun e w' => e = .returned (.bool true) ∧ Below w4.heap.size w4 w') := hidd_ (fun W h => (refSame_any W u HU.out A q c m HQ.out (by have := H32.out; omega) ((R4.out.below h).more h.size) u HU.out A' q c' m HQ.out (by have := H32.out; omega) ((R4r.out.below h).more h.size)).mono fun e w' hh => ⟨by rw [hh.1, same_self], h.trans (hh.2.mono h.size)⟩)
  have BD : Hid (∀ W : World, Below w4.heap.size w4 W → Bk W p 29 (ctxRow u A q c)) := hidd_ (fun W h => KD4.out.below h KD4.out.lt)
  have BR : Hid (∀ W : World, Below w4.heap.size w4 W → Bk W r 25 (ctxRow u A' q c')) := hidd_ (fun W h => KR4.out.below h KR4.out.lt)
  cases ok
  · obtain rfl : z = 2 := HZ.out
    refine region_quiet_in (C := fun W => Below w4.heap.size w4 W) (by kernel_rfl) (by kernel_rfl) ((Below.refl _ _).drew) ?_
    repeat (first | go_big_quiet_skip | (go_big_quiet_want; (first
      | (refine BigFrame.quiet_move _ rfl ?_; go_simp)
      | (refine BigFrame.quiet_assign _ rfl ?_; go_simp)
      | (refine quiet_call (.bool true) 15 #[] ?_ CD.out ?_; (focus (intro W; go_simp; done)); go_simp)
      | (refine quiet_call (.agg (ctxRow u A q c)) 21 #[.agg (ctxRow u A q c)] ?_ CF.out ?_; (focus (intro W; go_simp; done)); go_simp)
      | (refine quiet_call (.bool true) 20 #[.agg (ctxRow u A q c), .agg (ctxRow u A' q c')] ?_ CS.out ?_; (focus (intro W; go_simp; done)); go_simp)
      | (refine quiet_load_rowd 29 (.tmp 3) rfl p rfl 29 (ctxRow u A q c) _ Try.underlying29 rfl (IX.out _ HU.out _ _ _) BD.out ?_; go_simp)
      | (refine quiet_load_rowd 25 (.tmp 5) rfl r rfl 25 (ctxRow u A' q c') _ Try.underlying25 rfl (IR.out _ HU.out _ _ _) BR.out ?_; go_simp)
      | (refine quiet_run (.bool true) ?_ ?_; (focus (intro W hW; go_simp; done)); go_simp)
      | (refine quiet_run (.bool false) ?_ ?_; (focus (intro W hW; go_simp; done)); go_simp)); go_big_quiet_on))
    refine wpQuiet_nil ?_
    intro w5 hw5
    have X5 := hidd_ (X4.out.trans (hw5.mono hg4))
    clear hw5
    go_wp2
    go_ret
    exact ⟨rfl, by rw [HG.out]; exact X5.out⟩
  · obtain rfl : z = 0 := HZ.out
    refine region_quiet_in (C := fun W => Below w4.heap.size w4 W) (by kernel_rfl) (by kernel_rfl) ((Below.refl _ _).drew) ?_
    repeat (first | go_big_quiet_skip | (go_big_quiet_want; (first
      | (refine BigFrame.quiet_move _ rfl ?_; go_simp)
      | (refine BigFrame.quiet_assign _ rfl ?_; go_simp)
      | (refine quiet_call (.bool true) 15 #[] ?_ CD.out ?_; (focus (intro W; go_simp; done)); go_simp)
      | (refine quiet_call (.agg (ctxRow u A q c)) 21 #[.agg (ctxRow u A q c)] ?_ CF.out ?_; (focus (intro W; go_simp; done)); go_simp)
      | (refine quiet_call (.bool true) 20 #[.agg (ctxRow u A q c), .agg (ctxRow u A' q c')] ?_ CS.out ?_; (focus (intro W; go_simp; done)); go_simp)
      | (refine quiet_load_rowd 29 (.tmp 3) rfl p rfl 29 (ctxRow u A q c) _ Try.underlying29 rfl (IX.out _ HU.out _ _ _) BD.out ?_; go_simp)
      | (refine quiet_load_rowd 25 (.tmp 5) rfl r rfl 25 (ctxRow u A' q c') _ Try.underlying25 rfl (IR.out _ HU.out _ _ _) BR.out ?_; go_simp)
      | (refine quiet_run (.bool true) ?_ ?_; (focus (intro W hW; go_simp; done)); go_simp)
      | (refine quiet_run (.bool false) ?_ ?_; (focus (intro W hW; go_simp; done)); go_simp)); go_big_quiet_on))
    refine wpQuiet_nil ?_
    intro w5 hw5
    have X5 := hidd_ (X4.out.trans (hw5.mono hg4))
    have K5 := hidd_ (BD.out w5 hw5)
    have R5 := hidd_ ((R4.out.below hw5).more hw5.size)
    have hg5 : g ≤ w5.heap.size := Nat.le_trans hg4 hw5.size
    clear hw5
    have hok : RdOk t u m := by
      rcases HV.out with ⟨_, h⟩ | ⟨h, _⟩
      · exact h
      · exact absurd h (by decide)
    have cw := write_yes w5 u HU.out A q c m HQ.out (by have := H32.out; omega) HC.out.1 R5.out hok.2.1
    rw [← hok.2.2] at cw
    obtain ⟨qq, hqq⟩ : ∃ x, 129 + 16 * q = x := ⟨_, rfl⟩
    rw [hqq] at cw
    have qt := strOf_eq t t rfl
    clear hok hqq CD CF CS BD BR
    go_wp2_with (first
      | (refine wpList_load_row rfl 29 (.tmp 3) rfl p rfl 29 (ctxRow u A q c) (0, 0) _ K5.out Try.underlying29 rfl (IX.out _ HU.out _ _ _) ?_)
      | (go_at_call 12; ((with_reducible refine cw.mono ?_); clear cw; rintro e w6 ⟨A6, c6, rfl, ho, hb⟩; have X6 := hidd_ (X5.out.trans (hb.mono hg5)); have hcv1 := conv_strn ho.rd.1 qq c6 ho.rd.2.symm; have hcv2 := conv_strn (HRT.out.below X6.out) m9 c9 M9.out; clear ho hb)))
    go_ret
    exact ⟨rfl, by rw [HG.out]; exact X6.out⟩

set_option maxRecDepth 100000 in
theorem lifted (os : Os) (started : os.Started) (H : Type) (enc : TypeId × Value → H) :
    ReturnsInHanded {} Try.checked os 6 .any (Rows.dotReadsSpec.pre6 enc Try.prog Try.f6 Rows.dotReadsRow.domain false) (Rows.dotReadsSpec.post enc Try.prog Try.f6 false true false false) := by
  refine returnsInHanded_of_change (C := Try.checked) own_ started (by kernel_rfl) Try.func6
    (ChangeSpec.witness6 (enc := enc) (C := Try.checked) false ⟨#[], #[.slice none 0 0], []⟩ 8 (by kernel_rfl) (by kernel_rfl) (by kernel_rfl) (by kernel_rfl)) ?_
  intro W base args ds gs before hval0 hW hcnd _
  have hval : ∀ (j : Nat) t v, Try.f6.params[j]? = some t → args[j]? = some v → Value.okWide Try.prog W .any base t v := hval0
  have hW' := hW
  obtain ⟨p, q, hA0, hV, rfl, hfz, hnd⟩ := hW
  have hA : DataW.TrodAll enc Try.prog W 0 (fun _ => true) true Try.f6.params.toList args.toList ds p := hA0
  rw [Try.params6] at hA hval
  obtain ⟨v0, vs0, d0, ds0, p0, q0, hargs, rfl, rfl, h0, r0⟩ := trodAll_cons hA
  obtain ⟨rfl, rfl, rfl⟩ := trodAll_nil r0
  obtain rfl : args = #[v0] := by cases args; simp_all
  obtain ⟨rfl, rfl⟩ := trodVars_none hV
  obtain ⟨A0, l0, c0, rfl, hr0, hlc0, hcm0⟩ := open_bytes Try.underlying33 Try.underlying5 (by kernel_rfl) (hval 0 33 v0 rfl rfl) h0
  refine (walk W A0 l0 c0 hr0 hlc0 (by unfold maxLen at hcm0; omega)).mono fun e W' ⟨he, hg⟩ => ⟨_, he, ?_⟩
  exact law_post laidOut_ (of_decide_eq_true (by kernel_rfl)) rfl rfl Try.underlying4 rfl hW' hg

theorem over : Rows.dotReadsRow.holds Try.pinned (OpenSpec.ofChange Rows.dotReadsSpec) :=
  OpenClaim.holds_of_wide 6 Try.f6 rfl rfl rfl rfl rfl rfl rfl ⟨rfl, rfl, rfl, rfl, rfl⟩ rfl rfl rfl rfl rfl (by kernel_rfl) Try.func6 (by kernel_rfl)
    (of_decide_eq_true (by kernel_rfl)) (by unfold Func.isWrapper; first | (rw [if_pos (by decide +kernel)]; kernel_rfl) | (rw [if_neg (by decide +kernel)]; exact ⟨rfl, rfl⟩))
    (fun os started H enc _ => lifted os started H enc)

theorem proved : Rows.DotReadsSaid := over
#print axioms proved
end Go.Proofs.Ytjflmfmncepeeaa.dotReads
