/-
  Proved: for all messages, numbers and bytes MsgCut answers true: a message that is cut short, or has more behind it, is none. No condition.
-/
import Derived.Test.YtnlipmcnpekifaaMtq
import Derived.Test.YtnlipmcnpekifaaMT
import Derived.Test.YtnlipmcnpekifaaMov
import Derived.Test.YtnlipmcnpekifaaLp
namespace Go.Proofs.Ytnlipmcnpekifaa.msgCut
set_option maxRecDepth 100000
open Go.ChangeShapes Go.WideShapes Go.ChangeAt Go.RowKit
set_option linter.unusedVariables false
set_option linter.unusedSimpArgs false

theorem open_u8 {H : Type} {enc : TypeId × Value → H} {P : Program} {t : TypeId} {w : World} {b0 base : Nat} {sp : Nat → Bool} {held : Bool} {r : Reach} {v : Value} {d : DataW H} {p : List MemPlace}
    (ht : P.underlying t = some (.int .u8)) (hv : Value.okWide P w r b0 t v) (h : DataW.Trod enc P w base sp held t v d p) : ∃ u : UInt8, v = .int .u8 ((u.toNat : Nat) : Int) := by
  obtain ⟨n, rfl, _, _, hw⟩ := open_int ht hv h
  obtain ⟨b1, b2⟩ := bounds_u8 hw
  refine ⟨UInt8.ofNat n.toNat, ?_⟩
  have e : (UInt8.ofNat n.toNat).toNat = n.toNat := by simp; omega
  rw [e, Int.toNat_of_nonneg (by omega)]
set_option maxRecDepth 100000 in
set_option maxHeartbeats 16000000 in
theorem walk (w : World) (q0 : RmV) (hq : q0.Ok w w.heap.size) (hA : q0.ats.length ≤ q0.ac) (hD : q0.digs.length ≤ 9223372036854775807) (hR : q0.rows.length ≤ 9223372036854775807) (z : Int) (mb : UInt8) :
    Calls Try.prog 5 #[.agg (rmC q0), .int .i64 z, .int .u8 (mb.toNat : Int)] w fun e w' => e = .returned (.bool true) ∧ Below w.heap.size w w' := by
  obtain ⟨g, hg⟩ : ∃ g, w.heap.size = g := ⟨_, rfl⟩
  obtain ⟨w1, hw1⟩ : ∃ x, w.alloc (.cells (rmC q0) 28) = x := ⟨_, rfl⟩
  have B1 := hidm_ (show Below w.heap.size w w1 by rw [← hw1]; exact (Below.refl _ _).alloc (Nat.le_refl _) _)
  have S1 := hidm_ (show w1.heap.size = g + 1 by rw [← hw1, ← hg]; simp)
  have M1 := hidm_ (show Bk w1 g 28 (rmC q0) by rw [← hw1, ← hg]; exact Bk.new w _ _)
  have ct := tame_any w1 q0 ((hq.below B1.out).more B1.out.size) hA hD hR
  have HG := hidm_ hg
  clear hq hA hD hR
  go_enter Try.func5, Try.ntmps5
  go_upto_region 1 with fail
  clear hw1 hg
  go_upto_region 2 with (first
    | (refine wpList_load_row rfl 28 (.tmp 3) rfl g rfl 28 (rmC q0) (0, 0) _ M1.out Try.underlying28 rfl (iRm _) ?_)
    | (go_at_call 6; ((with_reducible refine ct.mono ?_); clear ct; rintro e w2 ⟨q1, rfl, hv1, ho1, hB⟩; have TM := hidm_ (show Tame q1.v by rw [hv1]; exact tm_tame _); have O2 := hidm_ ho1; have B2 := hidm_ hB; have M2 := hidm_ (M1.out.below hB M1.out.lt); clear hv1 ho1 hB))
    | (refine wpList_put_row rfl 28 (.tmp 3) (.tmp 15) rfl g (rmC q1) rfl rfl 28 (rmC q0) M2.out (iRm _) rfl (rmC_one _) ?_; intro w3 k3 g3 s3; have M3 := hidm_ k3; have U3 := hidm_ (unt_put g3); clear k3 g3 s3))
  have O3 := hidm_ (O2.out.keep U3.out (fun k hk => by rw [List.mem_singleton.1 hk, S1.out]; omega))
  have X3 := hidm_ (show Below g w w3 by
    have h1 := B1.out
    rw [HG.out] at h1
    exact (h1.trans (B2.out.mono (by rw [S1.out]; omega))).trans (U3.out.below (fun k hk => by rw [List.mem_singleton.1 hk]; exact Nat.le_refl _) (Nat.le_of_lt M2.out.lt)))
  have co := to_any w3 q1 O3.out.ok TM.out.k32 (by have := TM.out.ats; show q1.v.ats.length ≤ 1000; omega) (by have := TM.out.digs; show q1.v.digs.length ≤ 1000; omega) (by have := TM.out.rows; show q1.v.rows.length ≤ 1000; omega) (by have := TM.out.set; show q1.v.row.set.length ≤ 1000000; omega) (fun r hr => by have := TM.out.sets r hr; omega)
  clear O2 B1 B2 M1 M2 U3
  go_upto_region 3 with (first
    | (refine wpList_load_row rfl 28 (.tmp 3) rfl g rfl 28 (rmC q1) (0, 0) _ M3.out Try.underlying28 rfl (iRm _) ?_)
    | (go_at_call 8; ((with_reducible refine co.mono ?_); clear co; rintro e w4 ⟨q2, rfl, hv2, hok2, hB⟩; have TM2 := hidm_ (show Tame q2.v by rw [hv2]; exact TM.out); have X4 := hidm_ (X3.out.trans (hB.mono (Nat.le_of_lt M3.out.lt))); have G4 := hidm_ (show g ≤ w4.heap.size from Nat.le_trans (Nat.le_of_lt M3.out.lt) hB.size); have cw := write_any w4 q2 hok2 TM2.out.few; clear hv2 hok2 hB))
    | (go_at_call 7; ((with_reducible refine cw.mono ?_); clear cw; rintro e w5 ⟨A, n, c, er, rfl, hd, hB⟩; have D5 := hidm_ hd; have X5 := hidm_ (X4.out.trans (hB.mono G4.out)); have G5 := hidm_ (Nat.le_trans G4.out hB.size); have cs := says_any w5; clear hd hB)))
  clear X3 X4 M3 O3 TM G4
  by_cases hOk : MgOk q2.v
  case neg =>
    obtain ⟨rfl, rfl, rfl, rfl⟩ := D5.out.2 hOk
    clear D5 hOk
    go_wp2_with (first
      | (go_at_call 10; ((with_reducible refine cs.mono ?_); clear cs; rintro e w6 ⟨rfl, hB⟩; have X6 := hidm_ (X5.out.trans (hB.mono G5.out)); have G6 := hidm_ (Nat.le_trans G5.out hB.size); have cs2 := says_any w6; clear hB))
      | (go_at_call 10; ((with_reducible refine cs2.mono ?_); clear cs2; rintro e w7 ⟨rfl, hB⟩; have X7 := hidm_ (X6.out.trans (hB.mono G6.out)); clear hB)))
    go_ret
    exact ⟨rfl, by rw [HG.out]; exact X7.out⟩
  case pos =>
    obtain ⟨rfl, hn, hO⟩ := D5.out.1 hOk
    have O5 := hidm_ (hO.lower (Nat.zero_le _))
    obtain ⟨L, hL⟩ : ∃ L, mgB q2.v = L := ⟨_, rfl⟩
    have nL : L.length ≤ 100000 := by rw [← hL]; exact mgB_le TM2.out
    have pL : 0 < L.length := by rw [← hL]; exact mgB_pos hOk
    have SN := hidm_ (fun (k : Nat) (hk : k < L.length) => show endS (rdMg (L.take k)).2.1 (rdMg (L.take k)).2.2 ≠ 0 by rw [← hL] at hk ⊢; exact short_none hOk TM2.out.k32 k hk)
    have MN := hidm_ (show endS (rdMg (L ++ [mb])).2.1 (rdMg (L ++ [mb])).2.2 ≠ 0 by rw [← hL]; exact more_none hOk TM2.out.k32 mb)
    rw [hL] at hn O5
    have HN := hidm_ hn.symm
    rw [← hn] at nL pL
    obtain ⟨u, hu, hub⟩ := u64_natM z
    obtain ⟨k, hk⟩ : ∃ k, u % n = k := ⟨_, rfl⟩
    have hkn : k < n := by rw [← hk]; exact Nat.mod_lt _ pL
    have hm1 : (u : Int).tmod (n : Int) = (k : Int) := by rw [Int.tmod_eq_emod_of_nonneg (by omega), ← hk]; simp
    have hu1 : IntKind.u64.wrap (n : Int) = (n : Int) := IntWalk.u64_in _ (by omega)
    have hu2 : IntKind.u64.wrap (k : Int) = (k : Int) := IntWalk.u64_in _ (by omega)
    have hu3 : IntKind.i64.wrap (k : Int) = (k : Int) := IntWalk.i64_in _ (by omega)
    have hn0 : ¬ (n : Int) = 0 := by omega
    have hcap := O5.out.cap
    have hsl := fun W => slice_to A n c (k : Int) k rfl (by omega) W
    have LKK := hidm_ (show (L.take k).length = k by rw [List.length_take, HN.out]; omega)
    clear hO hOk hL hn D5 TM2 hk
    go_upto_region 6 with (go_at_call 10; ((with_reducible refine cs.mono ?_); clear cs; rintro e w6 ⟨rfl, hB⟩; have X6 := hidm_ (X5.out.trans (hB.mono G5.out)); have G6 := hidm_ (Nat.le_trans G5.out hB.size); have O6 := hidm_ (O5.out.below hB (Nat.le_refl _)); have cr1 := read_any w6 A k c (L.take k) LKK.out ((O6.out.rd.1).take k) (by omega); clear hB))
    clear X5 G5 O5 hm1 hu1 hu2 hu3 hu hub hn0
    have hi42 := i42 mgZ (zbytes_len 32)
    have hz := zMsg
    go_upto_region 7 with (first
      | (go_at_call 11; ((with_reducible refine cr1.mono ?_); clear cr1; rintro e w7 ⟨y1, er1, rfl, hB, _, _, hno⟩; obtain ⟨rfl, rfl⟩ := hno (SN.out k (by rw [HN.out]; exact hkn)); have X7 := hidm_ (X6.out.trans (hB.mono G6.out)); have O7 := hidm_ (O6.out.below hB (Nat.le_refl _)); have G7 := hidm_ (Nat.le_trans G6.out hB.size); clear hB hno))
      | (refine wpList_put_row rfl 41 (.tmp 10) (.tmp 41) rfl w7.heap.size (mgC mgZ).toArray rfl rfl 41 (mgC mgZ).toArray (Bk.new w7 _ _) hi42 rfl (mgC_one _) ?_; intro w8 k8 g8 s8; have M8 := hidm_ k8; have U8 := hidm_ (mark_putM w7 w8 w7.heap.size _ rfl g8); have X8 := hidm_ (X7.out.trans (U8.out.mono G7.out)); have O8 := hidm_ (O7.out.below U8.out (Nat.le_refl _)); have G8 := hidm_ (Nat.le_trans G7.out U8.out.size); clear k8 g8 s8))
    clear X6 X7 G6 G7 U8 O6 O7
    obtain ⟨g8, hg8⟩ : ∃ x, w7.heap.size = x := ⟨_, rfl⟩
    rw [hg8] at M8 ⊢
    have LM := hidm_ (show g8 < w8.heap.size from M8.out.lt)
    clear hg8 hsl
    obtain ⟨w9, hw9⟩ : ∃ x, w8.alloc (.cells #[] 5) = x := ⟨_, rfl⟩
    have B9 := hidm_ (show Below w8.heap.size w8 w9 by rw [← hw9]; exact (Below.refl _ _).alloc (Nat.le_refl _) _)
    have N9 := hidm_ (show Own8 w9 w8.heap.size (.slice (some ⟨w8.heap.size, 0, none⟩) 0 0) [] from ⟨rfl, .inr ⟨w8.heap.size, 0, #[], rfl, Nat.le_refl _, by rw [← hw9]; exact Bk.new w8 _ _, Nat.le_refl _, by decide, rfl, rfl⟩⟩)
    have R9 := hidm_ ((O8.out.below B9.out (Nat.le_refl _)).rd.1)
    have X9 := hidm_ (X8.out.trans (B9.out.mono G8.out))
    have M9 := hidm_ (M8.out.below B9.out M8.out.lt)
    have G9 := hidm_ (Nat.le_trans G8.out B9.out.size)
    have L8 := hidm_ (show w8.heap.size ≤ w9.heap.size from B9.out.size)
    clear O8 M8 X8
    go_upto_region 8 with (first
      | (refine wpList_app rfl (.tmp 44) (.tmp 45) rfl N9.out rfl n c rfl R9.out HN.out (by simp; omega) L8.out ?_; intro A1 c1 wa k1 k2 k3; rw [List.nil_append, show ([] : List UInt8).length + n = n by simp] at k1; rw [show ([] : List UInt8).length + n = n by simp]; have NA := hidm_ k1; have XA := hidm_ (X9.out.grown k2 G9.out (fun j hj => by have := (N9.out.lt j hj).1; have := G8.out; omega)); have MA := hidm_ (M9.out.grown k2 (fun e => by have := (N9.out.lt _ e.symm).1; have := M9.out; have := LM.out; omega)); have GA := hidm_ (Nat.le_trans L8.out k2.size); clear k1 k2 k3; obtain ⟨wb, hwb⟩ : ∃ x, wa.alloc (.cells #[.int .u8 (mb.toNat : Int)] 5) = x := ⟨_, rfl⟩; have BB := hidm_ (show Below wa.heap.size wa wb by rw [← hwb]; exact (Below.refl _ _).alloc (Nat.le_refl _) _); have NB := hidm_ (NA.out.below BB.out (Nat.le_refl _)); have RB := hidm_ (show Rd wb wb.heap.size (some ⟨wa.heap.size, 0, none⟩) [mb] by rw [← hwb]; exact rd_of_bk (b := [mb]) (Bk.new wa _ _) (by simp)); have XB := hidm_ (XA.out.trans (BB.out.mono (Nat.le_trans G8.out GA.out))); have MB := hidm_ (MA.out.below BB.out MA.out.lt); have GB := hidm_ (Nat.le_trans GA.out BB.out.size))
      | (refine wpList_app rfl (.tmp 46) (.tmp 48) rfl NB.out rfl 1 1 rfl RB.out rfl (by rw [HN.out]; omega) GB.out ?_; intro A2 c2 wc k1 k2 k3; rw [HN.out] at k1 ⊢; have NC := hidm_ k1; have XC := hidm_ (XB.out.grown k2 (Nat.le_trans G8.out GB.out) (fun j hj => by have := (NB.out.lt j hj).1; have := G8.out; omega)); have MC := hidm_ (MB.out.grown k2 (fun e => by have := (NB.out.lt _ e.symm).1; have := LM.out; omega)); have GC := hidm_ (Nat.le_trans G8.out (Nat.le_trans GB.out k2.size)); have cr2 := read_any wc A2 (n + 1) c2 (L ++ [mb]) (by rw [List.length_append, HN.out]; rfl) NC.out.rd.1 (by omega); clear k1 k2 k3)
      | (go_at_call 11; ((with_reducible refine cr2.mono ?_); clear cr2; rintro e wd ⟨y2, er2, rfl, hB, _, _, hno⟩; obtain ⟨rfl, rfl⟩ := hno MN.out; have XD := hidm_ (XC.out.trans (hB.mono GC.out)); have MD := hidm_ (MC.out.below hB MC.out.lt); have GD := hidm_ (Nat.le_trans GC.out hB.size); clear hB hno))
      | (refine wpList_put_row rfl 41 (.tmp 12) (.tmp 51) rfl wd.heap.size (mgC mgZ).toArray rfl rfl 41 (mgC mgZ).toArray (Bk.new wd _ _) hi42 rfl (mgC_one _) ?_; intro we ke ge se; have ME := hidm_ ke; have UE := hidm_ (mark_putM wd we wd.heap.size _ rfl ge); have XE := hidm_ (XD.out.trans (UE.out.mono GD.out)); have MF := hidm_ (MD.out.below UE.out MD.out.lt); clear ke ge se))
    obtain ⟨ge, hge⟩ : ∃ x, wd.heap.size = x := ⟨_, rfl⟩
    rw [hge] at ME ⊢
    have hc8 : we.cell? ⟨g8, 0, none⟩ = some (.int .i64 0) := (MF.out.cell 0).trans rfl
    have hc9 : we.cell? ⟨ge, 0, none⟩ = some (.int .i64 0) := (ME.out.cell 0).trans rfl
    clear hge hi42 hz
    go_wp2

    go_ret
    exact ⟨rfl, by rw [HG.out]; exact XE.out⟩

set_option maxRecDepth 100000 in
theorem lifted (os : Os) (started : os.Started) (H : Type) (enc : TypeId × Value → H) :
    ReturnsInHanded {} Try.checked os 5 .any (Rows.msgCutSpec.pre6 enc Try.prog Try.f5 Rows.msgCutRow.domain false) (Rows.msgCutSpec.post enc Try.prog Try.f5 false true false false) := by
  refine returnsInHanded_of_change (C := Try.checked) own_ started (by kernel_rfl) Try.func5
    (ChangeSpec.witness6 (enc := enc) (C := Try.checked) false ⟨#[], #[.agg (rmC rmZ), .int .i64 0, .int .u8 0], []⟩ 8 (by kernel_rfl) (by kernel_rfl) (by kernel_rfl) (by kernel_rfl)) ?_
  intro W base args ds gs before hval0 hW hcnd _
  have hval : ∀ (j : Nat) t v, Try.f5.params[j]? = some t → args[j]? = some v → Value.okWide Try.prog W .any base t v := hval0
  have hW' := hW
  obtain ⟨p, q, hA0, hV, rfl, hfz, hnd⟩ := hW
  have hA : DataW.TrodAll enc Try.prog W 0 (fun _ => true) true Try.f5.params.toList args.toList ds p := hA0
  rw [Try.params5] at hA hval
  obtain ⟨v0, vs0, d0, ds0, p0, q0, hargs, rfl, rfl, h0, r0⟩ := trodAll_cons hA
  obtain ⟨v1, vs1, d1, ds1, p1, q1, rfl, rfl, rfl, h1, r1⟩ := trodAll_cons r0
  obtain ⟨v2, vs2, d2, ds2, p2, q2, rfl, rfl, rfl, h2, r2⟩ := trodAll_cons r1
  obtain ⟨rfl, rfl, rfl⟩ := trodAll_nil r2
  obtain rfl : args = #[v0, v1, v2] := by cases args; simp_all
  obtain ⟨rfl, rfl⟩ := trodVars_none hV
  obtain ⟨q0, rfl, hq0, ha0, hd0, hr0⟩ := open_rm (hval 0 28 v0 rfl rfl) h0
  obtain ⟨z1, rfl, rfl, rfl, w1⟩ := open_int Try.underlying3 (hval 1 3 v1 rfl rfl) h1
  obtain ⟨u2, rfl⟩ := open_u8 Try.underlying5 (hval 2 5 v2 rfl rfl) h2
  refine (walk W q0 hq0 ha0 (by unfold maxLen at hd0; omega) (by unfold maxLen at hr0; omega) z1 u2).mono fun e W' ⟨he, hg⟩ => ⟨_, he, ?_⟩
  exact law_post laidOut_ (of_decide_eq_true (by kernel_rfl)) rfl rfl Try.underlying4 rfl hW' hg

theorem over : Rows.msgCutRow.holds Try.pinned (OpenSpec.ofChange Rows.msgCutSpec) :=
  OpenClaim.holds_of_wide 5 Try.f5 rfl rfl rfl rfl rfl rfl rfl ⟨rfl, rfl, rfl, rfl, rfl⟩ rfl rfl rfl rfl rfl (by kernel_rfl) Try.func5 (by kernel_rfl)
    (of_decide_eq_true (by kernel_rfl)) (by unfold Func.isWrapper; first | (rw [if_pos (by decide +kernel)]; kernel_rfl) | (rw [if_neg (by decide +kernel)]; exact ⟨rfl, rfl⟩))
    (fun os started H enc _ => lifted os started H enc)

theorem proved : Rows.MsgCutSaid := over
#print axioms proved
end Go.Proofs.Ytnlipmcnpekifaa.msgCut
