/-
  The reference's Check.
-/
import Derived.Test.YtjflmfmncepeeaaJf
import Derived.Test.YtjflmfmncepeeaaJa
import Derived.Test.YtjflmfmncepeeaaIk
namespace Go.Proofs.Ytjflmfmncepeeaa
open Go.ChangeShapes Go.WideShapes Go.ChangeAt Go.RowKit
set_option linter.unusedVariables false
set_option linter.unusedSimpArgs false

theorem cmp_parts (p d : DotV) (gt eq ge : Bool) (h1 : decide (d.c < p.c) = gt) (h2 : (p.c == d.c) = eq) (h3 : decide (d.n ≤ p.n) = ge) : decide (cmpD p d < 0) = !(gt || (eq && ge)) := by
  subst h1 h2 h3
  unfold cmpD cmpI
  rw [Bool.eq_iff_iff]
  simp only [decide_eq_true_eq, Bool.not_eq_true', Bool.or_eq_false_iff, Bool.and_eq_false_iff, decide_eq_false_iff_not, beq_eq_false_iff_ne, ne_eq]
  repeat' split
  all_goals omega

set_option maxRecDepth 100000 in
set_option maxHeartbeats 8000000 in
theorem refCheck_any (w : World) (up : List Int) (hu : up.length = 16) (A : Option Addr) (n c : Nat) (ms : List DotV) (hn : ms.length = n) (hn6 : n ≤ 1000000) (hc : n ≤ c) (hr : RdD w w.heap.size A ms) :
    Calls Try.prog 11 #[.agg (ctxRow up A n c)] w fun e w' => e = .returned (.int .i64 (chk up ms)) ∧ Below w.heap.size w w' := by
  obtain ⟨g, hg⟩ : ∃ g, w.heap.size = g := ⟨_, rfl⟩
  obtain ⟨w1, hw1⟩ : ∃ w1, w.alloc (.cells (ctxRow up A n c) 25) = w1 := ⟨_, rfl⟩
  have K1 : Bk w1 g 25 (ctxRow up A n c) := by rw [← hw1, ← hg]; exact Bk.new w _ _
  have X1 : Below g w w1 := by rw [← hw1, ← hg]; exact (Below.refl _ _).alloc (Nat.le_refl _) _
  have HK := hidd_ K1
  have HX := hidd_ X1
  rw [hg] at hr
  have R1 := hidd_ (hr.below X1)
  have HG := hidd_ hg
  have HU := hidd_ hu
  have HN := hidd_ hn
  have hzD := zD_
  obtain ⟨r, hr0⟩ : ∃ r, chk up ms = r := ⟨_, rfl⟩
  have HRES := hidd_ hr0
  rw [hr0]
  have hgl : g < w1.heap.size := K1.lt
  clear K1 X1 hr hu hn hr0
  go_enter Try.func11, Try.ntmps11
  go_upto_region 2 with fail
  clear hw1 hg
  go_loopw [3] (fun i wr => ∃ k : Nat, k ≤ 16 ∧ i = .int .i64 k ∧ w1 = wr ∧ Hid (∀ j, j < k → okU (up.getD j 0) = true)) (fun i _ => 16 - (intOf i).toNat)
  case atStart => exact ⟨0, by omega, rfl, rfl, hidd_ (fun j hj => by omega)⟩
  case round =>
    obtain ⟨k, hk, rfl, rfl, HO⟩ := hrel
    by_cases hlt : k < 16
    · obtain ⟨z, hz⟩ : ∃ z, up.getD k 0 = z := ⟨_, rfl⟩
      have HZ := hidd_ hz
      have hcz := (HK.out.cell k).trans ((ctxRow_up up A n c k HU.out hlt).trans (by rw [hz]))
      have t0 : (0 : Int) ≤ (k : Int) := by omega
      have t1 : (k : Int) < 16 := by omega
      clear hz
      by_cases h1 : z < 0
      · have d1 : decide (z < 0) = true := decide_eq_true h1
        have HQ := hidd_ (show r = 1 by rw [← HRES.out]; unfold chk; rw [if_pos (allN_no hlt (by rw [HZ.out]; unfold okU; exact decide_eq_false (by omega)))])
        clear h1
        go_wp2
        go_ret
        exact ⟨by first | rfl | (rw [HQ.out]; rfl), by rw [HG.out]; exact HX.out⟩
      · have d1 : decide (z < 0) = false := decide_eq_false h1
        by_cases h2 : 1099511627776 < z
        · have d2 : decide (1099511627776 < z) = true := decide_eq_true h2
          have HQ := hidd_ (show r = 1 by rw [← HRES.out]; unfold chk; rw [if_pos (allN_no hlt (by rw [HZ.out]; unfold okU; exact decide_eq_false (by omega)))])
          clear h1 h2
          go_wp2
          go_ret
          exact ⟨by first | rfl | (rw [HQ.out]; rfl), by rw [HG.out]; exact HX.out⟩
        · have d2 : decide (1099511627776 < z) = false := decide_eq_false h2
          have HO2 := hidd_ (show ∀ j, j < k + 1 → okU (up.getD j 0) = true from fun j hj => by
            rcases Nat.lt_or_ge j k with h | h
            · exact HO.out j h
            · obtain rfl : j = k := by omega
              rw [HZ.out]; unfold okU; exact decide_eq_true (by omega))
          clear h1 h2
          go_wp2
          go_roundw
          case rel => exact ⟨k + 1, by omega, by go_num, by first | trivial | rfl, HO2⟩
          case measure => simp [intOf]; omega
    · have HU1 := hidd_ ((allN_iff 16 (fun j => okU (up.getD j 0))).2 (fun j hj => HO.out j (by omega)))
      have dk1 : decide ((k : Int) < 16) = false := decide_eq_false (by omega)
      have dk2 : decide (k < 16) = false := decide_eq_false hlt
      have hm := (HK.out.cell 16).trans (ctxRow_more up A n c HU.out)
      clear hlt HO hk
      by_cases hbig : 32 < n
      · have d1 : decide ((32 : Int) < (n : Int)) = true := decide_eq_true (by omega)
        have d2 : decide (32 < n) = true := decide_eq_true hbig
        have HQ := hidd_ (show r = 11 by rw [← HRES.out]; unfold chk; rw [HU1.out, if_neg (by simp), if_pos (by rw [HN.out]; exact hbig)])
        clear hbig
        go_wp2
        go_ret
        exact ⟨by first | rfl | (rw [HQ.out]; rfl), by rw [HG.out]; exact HX.out⟩
      · have d1 : decide ((32 : Int) < (n : Int)) = false := decide_eq_false (by omega)
        have d2 : decide (32 < n) = false := decide_eq_false hbig
        have HR2 := hidd_ (show r = if allN n (okAt up ms) = false then 1 else 0 by rw [← HRES.out]; unfold chk; rw [HU1.out, if_neg (by simp), if_neg (by rw [HN.out]; exact hbig), HN.out])
        have hn32 : n ≤ 32 := by omega
        clear hbig HRES
        go_upto_region 9 with fail
        clear hm
        obtain ⟨w2, hw2⟩ : ∃ x, x = w1 := ⟨_, rfl⟩
        subst hw2
        go_loopw [4] (fun i wr => ∃ k : Nat, k ≤ n ∧ i = .int .i64 k ∧ Hid (Below w2.heap.size w2 wr) ∧ Hid (∀ j, j < k → okAt up ms j = true)) (fun i _ => n - (intOf i).toNat)
        case atStart => exact ⟨0, by omega, rfl, hidd_ (Below.refl _ _), hidd_ (fun j hj => by omega)⟩
        case round =>
          obtain ⟨k, hk, rfl, HB, HO⟩ := hrel
          have KG := hidd_ (HK.out.below HB.out hgl)
          have hm := (KG.out.cell 16).trans (ctxRow_more up A n c HU.out)
          have hgr : g < wr.heap.size := KG.out.lt
          by_cases hlt : k < n
          · obtain ⟨b, off, rfl, hbl, hcell⟩ := R1.out (by rw [HN.out]; omega)
            have hbw : b < w2.heap.size := by omega
            have hbr : b < wr.heap.size := Nat.lt_of_lt_of_le hbw HB.out.size
            obtain ⟨d, hd⟩ : ∃ x, ms.getD k ⟨0, 0⟩ = x := ⟨_, rfl⟩
            have hcx := hcell k (by rw [HN.out]; exact hlt)
            rw [hd] at hcx
            have HD := hidd_ hd
            have t0 : (0 : Int) ≤ (k : Int) := by omega
            have tn : (k : Int) < (n : Int) := by omega
            have CX := hidd_ (row_two (w := wr) ((HB.out.cell (p := ⟨b, _, none⟩) hbw).trans hcx.1) ((HB.out.cell (p := ⟨b, _, none⟩) hbw).trans hcx.2))
            have ID := hidd_ (show (Try.prog.info? 27).map (·.size) = some d.row.size from iD_)
            have GX := hidd_ (fun (h : okAt up ms k = false) => (show r = 1 by rw [HR2.out, if_pos (allN_no hlt h)]))
            clear hd hcx
            go_upto_region 12 with (first
              | (refine wpList_load_part (wanted_none rfl) 27 (.tmp 36) rfl b (off + k * 2) rfl d.row CX.out _ Try.underlying27 rfl ID.out ?_)
              | (refine wpList_put_row rfl 27 _ _ rfl wr.heap.size d.row rfl rfl 27 #[.int .i64 0, .int .i64 0] (Bk.new wr _ _) ID.out rfl (row_one d) ?_; intro w6 k6 g6 s6; have B6 := hidd_ (((Below.refl wr.heap.size wr).alloc (Nat.le_refl _) (.cells #[.int .i64 0, .int .i64 0] 27)).grown g6 (by simp) (fun k hk => by injection hk with hk; omega)); have D6 := hidd_ k6; clear k6 g6 s6))
            try rw [put_none]
            clear hm CX
            have X6 := hidd_ (HB.out.trans (B6.out.mono HB.out.size))
            have K6 := hidd_ (KG.out.below B6.out hgr)
            have hs6 := B6.out.size
            generalize wr.heap.size = gd at *
            obtain ⟨bd, hbd⟩ : ∃ x, isD d = x := ⟨_, rfl⟩
            have HBD := hidd_ hbd
            have CDD := hidd_ (fun W (h : Below w6.heap.size w6 W) => (D6.out.below h D6.out.lt : Bk W gd 27 d.row))
            have P1 : Hid (∀ W, Below w6.heap.size w6 W → Calls Try.prog 18 #[.agg d.row] W fun e w' => e = .returned (.bool bd) ∧ Below w6.heap.size w6 w') := hidd_ (fun W h => (refDot_any W d).mono fun e w' hh => ⟨by rw [← hbd]; exact hh.1, h.trans (hh.2.mono h.size)⟩)
            clear hbd
            cases bd
            · have HQ := hidd_ (GX.out (by unfold okAt; rw [HD.out, HBD.out]; rfl))
              refine region_quiet_in (C := fun W => Below w6.heap.size w6 W) (by kernel_rfl) (by kernel_rfl) ((Below.refl _ _).drew) ?_
              repeat (first | go_big_quiet_skip | (go_big_quiet_want; (first
                | (refine BigFrame.quiet_move _ rfl ?_; go_simp)
                | (refine BigFrame.quiet_assign _ rfl ?_; go_simp)
                | (refine quiet_load_rowd 27 (.tmp 5) rfl gd rfl 27 d.row _ Try.underlying27 rfl ID.out CDD.out ?_; go_simp)
                | (refine quiet_call (.bool false) 18 #[.agg d.row] ?_ P1.out ?_; (focus (intro W; go_simp; done)); go_simp)
                | (refine quiet_run (.bool true) ?_ ?_; (focus (intro W hW; go_simp; done)); go_simp)); go_big_quiet_on))
              refine wpQuiet_nil ?_
              intro w7 hw7
              have B7 := hidd_ (X6.out.trans (Below.mono hw7 X6.out.size))
              clear hw7
              go_wp2
              go_ret
              exact ⟨by first | rfl | (rw [HQ.out]; rfl), by rw [HG.out]; exact HX.out.trans (B7.out.mono (Nat.le_of_lt hgl))⟩
            · obtain ⟨dc, dn⟩ := d
              obtain ⟨⟨hb1, hb2⟩, hb3, hb4⟩ : (1 ≤ dc ∧ dc ≤ 16) ∧ 1 ≤ dn ∧ dn ≤ 1099511627776 := of_decide_eq_true HBD.out
              obtain ⟨m, hm⟩ : ∃ m : Nat, dc - 1 = (m : Int) := ⟨(dc - 1).toNat, by omega⟩
              have hm16 : m < 16 := by omega
              obtain ⟨uu, huu⟩ : ∃ u, up.getD m 0 = u := ⟨_, rfl⟩
              have hok : okU uu = true := by rw [← huu]; exact (allN_iff 16 (fun j => okU (up.getD j 0))).1 HU1.out m hm16
              have hub : 0 ≤ uu ∧ uu ≤ 1099511627776 := of_decide_eq_true hok
              have HMM := hidd_ (show (dc - 1).toNat = m by omega)
              have HUU := hidd_ huu
              have e1 : IntKind.i64.wrap (dc - 1) = (m : Int) := by rw [IntWalk.i64_in _ (by omega)]; exact hm
              have e2 : IntKind.i64.wrap (m : Int) = (m : Int) := IntWalk.i64_in _ (by omega)
              have e3 : IntKind.i64.wrap (uu + 2) = uu + 2 := IntWalk.i64_in _ (by omega)
              have f1 : (0 : Int) ≤ (m : Int) := by omega
              have f2 : (m : Int) < 16 := by omega
              have CT := hidd_ (fun W (h : Below w6.heap.size w6 W) => Bk.twod (show Bk W gd 27 #[.int .i64 dc, .int .i64 dn] from CDD.out W h))
              have CM := hidd_ (fun W (h : Below w6.heap.size w6 W) => ((K6.out.below h K6.out.lt).cell m).trans ((ctxRow_up up _ n c m HU.out hm16).trans (by rw [huu])))
              obtain ⟨lt, hlt2⟩ : ∃ x, decide (dn < uu + 2) = x := ⟨_, rfl⟩
              have HLT := hidd_ hlt2
              clear hm huu hok hub hb1 hb2 hb3 hb4
              refine region_quiet_in (C := fun W => Below w6.heap.size w6 W) (by kernel_rfl) (by kernel_rfl) ((Below.refl _ _).drew) ?_
              repeat (first | go_big_quiet_skip | (go_big_quiet_want; (first
                | (refine BigFrame.quiet_move _ rfl ?_; go_simp)
                | (refine BigFrame.quiet_assign _ rfl ?_; go_simp)
                | (refine quiet_load_rowd 27 (.tmp 5) rfl gd rfl 27 (DotV.row ⟨dc, dn⟩) _ Try.underlying27 rfl ID.out CDD.out ?_; go_simp)
                | (refine quiet_call (.bool true) 18 #[.agg (DotV.row ⟨dc, dn⟩)] ?_ P1.out ?_; (focus (intro W; go_simp; done)); go_simp)
                | (refine quiet_run (.pointer (some ⟨gd, 1, none⟩)) ?_ ?_; (focus (intro W hW; go_simp; done)); go_simp)
                | (refine quiet_run (.pointer (some ⟨gd, 0, none⟩)) ?_ ?_; (focus (intro W hW; go_simp; done)); go_simp)
                | (refine quiet_run (.pointer (some ⟨g, 0, none⟩)) ?_ ?_; (focus (intro W hW; go_simp; done)); go_simp)
                | (refine quiet_run (.pointer (some ⟨g, m, none⟩)) ?_ ?_; (focus (intro W hW; go_simp; done)); go_simp)
                | (refine quiet_run (.int .i64 dn) ?_ ?_; (focus (intro W hW; have h := (CT.out W hW).2; go_simp; done)); go_simp)
                | (refine quiet_run (.int .i64 dc) ?_ ?_; (focus (intro W hW; have h := (CT.out W hW).1; go_simp; done)); go_simp)
                | (refine quiet_run (.int .i64 (m : Int)) ?_ ?_; (focus (intro W hW; go_simp; done)); go_simp)
                | (refine quiet_run (.int .i64 uu) ?_ ?_; (focus (intro W hW; have h := CM.out W hW; go_simp; done)); go_simp)
                | (refine quiet_run (.int .i64 (uu + 2)) ?_ ?_; (focus (intro W hW; go_simp; done)); go_simp)
                | (refine quiet_run (.bool lt) ?_ ?_; (focus (intro W hW; go_simp; done)); go_simp)
                | (refine quiet_run (.bool false) ?_ ?_; (focus (intro W hW; go_simp; done)); go_simp)); go_big_quiet_on))
              refine wpQuiet_nil ?_
              intro w7 hw7
              have hw67 : w6.heap.size ≤ w7.heap.size := Below.size hw7
              have B7 := hidd_ (X6.out.trans (Below.mono hw7 X6.out.size))
              have CT7 := hidd_ (fun W (h : Below w7.heap.size w7 W) => CT.out W (Below.trans hw7 (h.mono hw67)))
              have K7 := hidd_ (K6.out.below hw7 K6.out.lt)
              clear hw7 CT CM CDD P1 hlt2 e1 e2 e3 f1 f2
              cases lt
              · have hge : uu + 2 ≤ dn := by have := of_decide_eq_false HLT.out; omega
                have HF := hidd_ (show decide (up.getD (dc - 1).toNat 0 + 2 ≤ dn) = true by rw [HMM.out, HUU.out]; exact decide_eq_true hge)
                clear hge
                by_cases h0 : k = 0
                · subst h0
                  have HO2 := hidd_ (show ∀ j, j < 0 + 1 → okAt up ms j = true from fun j hj => by
                    obtain rfl : j = 0 := by omega
                    unfold okAt; rw [HD.out, HBD.out, HF.out]; simp)
                  have d0 : decide ((0 : Int) < ((0 : Nat) : Int)) = false := by simp
                  go_upto_region 14 with fail
                  refine region_quiet_in (C := fun W => Below w7.heap.size w7 W) (by kernel_rfl) (by kernel_rfl) ((Below.refl _ _).drew) ?_
                  repeat (first | go_big_quiet_skip | (go_big_quiet_want; (first
                    | (refine BigFrame.quiet_move _ rfl ?_; go_simp)
                    | (refine BigFrame.quiet_assign _ rfl ?_; go_simp)
                    | (refine quiet_run (.bool false) ?_ ?_; (focus (intro W hW; go_simp; done)); go_simp)); go_big_quiet_on))
                  refine wpQuiet_nil ?_
                  intro w8 hw8
                  have B8 := hidd_ (B7.out.trans (Below.mono hw8 B7.out.size))
                  clear hw8 CT7
                  go_wp2
                  go_roundw
                  case rel => exact ⟨0 + 1, by omega, by go_num, B8, HO2⟩
                  case measure => simp [intOf]; omega
                · have d0 : decide ((0 : Int) < (k : Int)) = true := decide_eq_true (by omega)
                  obtain ⟨k1, rfl⟩ : ∃ k1, k = k1 + 1 := ⟨k - 1, by omega⟩
                  obtain ⟨p, hp⟩ : ∃ p, ms.getD k1 ⟨0, 0⟩ = p := ⟨_, rfl⟩
                  have hcp := hcell k1 (by rw [HN.out]; omega)
                  rw [hp] at hcp
                  have HP := hidd_ hp
                  obtain ⟨pc, pn⟩ := p
                  have e4 : IntKind.i64.wrap ((k1 : Int) + 1 - 1) = (k1 : Int) := by rw [IntWalk.i64_in _ (by omega)]; omega
                  have e6 : IntKind.i64.wrap (k1 : Int) = (k1 : Int) := IntWalk.i64_in _ (by omega)
                  have d5 : decide ((0 : Int) < (k1 : Int) + 1) = true := decide_eq_true (by omega)
                  clear d0
                  have g0 : (0 : Int) ≤ (k1 : Int) := by omega
                  have gn : (k1 : Int) < (n : Int) := by omega
                  have hle7 : w2.heap.size ≤ w7.heap.size := B7.out.size
                  have CP := hidd_ (fun W (h : Below w7.heap.size w7 W) => And.intro (((h.cell (p := ⟨b, off + k1 * 2, none⟩) (Nat.lt_of_lt_of_le hbw hle7)).trans (B7.out.cell (p := ⟨b, off + k1 * 2, none⟩) hbw)).trans hcp.1) (((h.cell (p := ⟨b, off + k1 * 2 + 1, none⟩) (Nat.lt_of_lt_of_le hbw hle7)).trans (B7.out.cell (p := ⟨b, off + k1 * 2 + 1, none⟩) hbw)).trans hcp.2))
                  have CG := hidd_ (fun W (h : Below w7.heap.size w7 W) => ((K7.out.below h K7.out.lt).cell 16).trans (ctxRow_more up _ n c HU.out))
                  obtain ⟨gt, hgt⟩ : ∃ x, decide (dc < pc) = x := ⟨_, rfl⟩
                  obtain ⟨eq, heq⟩ : ∃ x, (pc == dc) = x := ⟨_, rfl⟩
                  obtain ⟨ge, hge⟩ : ∃ x, decide (dn ≤ pn) = x := ⟨_, rfl⟩
                  have HCO := hidd_ (cmp_parts ⟨pc, pn⟩ ⟨dc, dn⟩ gt eq ge hgt heq hge)
                  have HFIN := hidd_ (show okAt up ms (k1 + 1) = !(gt || (eq && ge)) by
                    unfold okAt; rw [HD.out, HBD.out, Nat.add_sub_cancel, HP.out, HCO.out, HF.out]; simp)
                  clear hp hcp hcell
                  go_upto_region 14 with fail
                  cases gt
                  case true =>
                    refine region_quiet_in (C := fun W => Below w7.heap.size w7 W) (by kernel_rfl) (by kernel_rfl) ((Below.refl _ _).drew) ?_
                    repeat (first | go_big_quiet_skip | (go_big_quiet_want; (first
                      | (refine BigFrame.quiet_move _ rfl ?_; go_simp)
                      | (refine BigFrame.quiet_assign _ rfl ?_; go_simp)
                      | (refine quiet_run (.pointer (some ⟨g, 16, none⟩)) ?_ ?_; (focus (intro W hW; go_simp; done)); go_simp)
                      | (refine quiet_run (.slice (some ⟨b, off, none⟩) n c) ?_ ?_; (focus (intro W hW; have h := CG.out W hW; go_simp; done)); go_simp)
                      | (refine quiet_run (.int .i64 (k1 : Int)) ?_ ?_; (focus (intro W hW; go_simp; done)); go_simp)
                      | (refine quiet_run (.pointer (some ⟨b, off + k1 * 2, none⟩)) ?_ ?_; (focus (intro W hW; go_simp; done)); go_simp)
                      | (refine quiet_run (.pointer (some ⟨b, off + k1 * 2 + 1, none⟩)) ?_ ?_; (focus (intro W hW; go_simp; done)); go_simp)
                      | (refine quiet_run (.pointer (some ⟨gd, 0, none⟩)) ?_ ?_; (focus (intro W hW; go_simp; done)); go_simp)
                      | (refine quiet_run (.pointer (some ⟨gd, 1, none⟩)) ?_ ?_; (focus (intro W hW; go_simp; done)); go_simp)
                      | (refine quiet_run (.int .i64 pc) ?_ ?_; (focus (intro W hW; have h := (CP.out W hW).1; go_simp; done)); go_simp)
                      | (refine quiet_run (.int .i64 pn) ?_ ?_; (focus (intro W hW; have h := (CP.out W hW).2; go_simp; done)); go_simp)
                      | (refine quiet_run (.int .i64 dc) ?_ ?_; (focus (intro W hW; have h := (CT7.out W hW).1; go_simp; done)); go_simp)
                      | (refine quiet_run (.int .i64 dn) ?_ ?_; (focus (intro W hW; have h := (CT7.out W hW).2; go_simp; done)); go_simp)
                      | (refine quiet_run (.bool true) ?_ ?_; (focus (intro W hW; go_simp; done)); go_simp)
                      | (refine quiet_run (.bool false) ?_ ?_; (focus (intro W hW; go_simp; done)); go_simp)
                      | (refine quiet_run (.bool ge) ?_ ?_; (focus (intro W hW; go_simp; done)); go_simp)); go_big_quiet_on))
                    refine wpQuiet_nil ?_
                    intro w8 hw8
                    have B8 := hidd_ (B7.out.trans (Below.mono hw8 B7.out.size))
                    clear hw8 CT7 CP CG
                    have HQ := hidd_ (GX.out (by rw [HFIN.out]; rfl))
                    go_wp2
                    go_ret
                    exact ⟨by first | rfl | (rw [HQ.out]; rfl), by rw [HG.out]; exact HX.out.trans (B8.out.mono (Nat.le_of_lt hgl))⟩
                  case false =>
                    cases eq
                    case false =>
                      refine region_quiet_in (C := fun W => Below w7.heap.size w7 W) (by kernel_rfl) (by kernel_rfl) ((Below.refl _ _).drew) ?_
                      repeat (first | go_big_quiet_skip | (go_big_quiet_want; (first
                        | (refine BigFrame.quiet_move _ rfl ?_; go_simp)
                        | (refine BigFrame.quiet_assign _ rfl ?_; go_simp)
                        | (refine quiet_run (.pointer (some ⟨g, 16, none⟩)) ?_ ?_; (focus (intro W hW; go_simp; done)); go_simp)
                        | (refine quiet_run (.slice (some ⟨b, off, none⟩) n c) ?_ ?_; (focus (intro W hW; have h := CG.out W hW; go_simp; done)); go_simp)
                        | (refine quiet_run (.int .i64 (k1 : Int)) ?_ ?_; (focus (intro W hW; go_simp; done)); go_simp)
                        | (refine quiet_run (.pointer (some ⟨b, off + k1 * 2, none⟩)) ?_ ?_; (focus (intro W hW; go_simp; done)); go_simp)
                        | (refine quiet_run (.pointer (some ⟨b, off + k1 * 2 + 1, none⟩)) ?_ ?_; (focus (intro W hW; go_simp; done)); go_simp)
                        | (refine quiet_run (.pointer (some ⟨gd, 0, none⟩)) ?_ ?_; (focus (intro W hW; go_simp; done)); go_simp)
                        | (refine quiet_run (.pointer (some ⟨gd, 1, none⟩)) ?_ ?_; (focus (intro W hW; go_simp; done)); go_simp)
                        | (refine quiet_run (.int .i64 pc) ?_ ?_; (focus (intro W hW; have h := (CP.out W hW).1; go_simp; done)); go_simp)
                        | (refine quiet_run (.int .i64 pn) ?_ ?_; (focus (intro W hW; have h := (CP.out W hW).2; go_simp; done)); go_simp)
                        | (refine quiet_run (.int .i64 dc) ?_ ?_; (focus (intro W hW; have h := (CT7.out W hW).1; go_simp; done)); go_simp)
                        | (refine quiet_run (.int .i64 dn) ?_ ?_; (focus (intro W hW; have h := (CT7.out W hW).2; go_simp; done)); go_simp)
                        | (refine quiet_run (.bool true) ?_ ?_; (focus (intro W hW; go_simp; done)); go_simp)
                        | (refine quiet_run (.bool false) ?_ ?_; (focus (intro W hW; go_simp; done)); go_simp)
                        | (refine quiet_run (.bool ge) ?_ ?_; (focus (intro W hW; go_simp; done)); go_simp)); go_big_quiet_on))
                      refine wpQuiet_nil ?_
                      intro w8 hw8
                      have B8 := hidd_ (B7.out.trans (Below.mono hw8 B7.out.size))
                      clear hw8 CT7 CP CG
                      have HO2 := hidd_ (show ∀ j, j < k1 + 1 + 1 → okAt up ms j = true from fun j hj => by
                        rcases Nat.lt_or_ge j (k1 + 1) with h | h
                        · exact HO.out j h
                        · obtain rfl : j = k1 + 1 := by omega
                          rw [HFIN.out]; rfl)
                      go_wp2
                      go_roundw
                      case rel => exact ⟨k1 + 1 + 1, by omega, by go_num, B8, HO2⟩
                      case measure => simp [intOf]; omega
                    case true =>
                      refine region_quiet_in (C := fun W => Below w7.heap.size w7 W) (by kernel_rfl) (by kernel_rfl) ((Below.refl _ _).drew) ?_
                      repeat (first | go_big_quiet_skip | (go_big_quiet_want; (first
                        | (refine BigFrame.quiet_move _ rfl ?_; go_simp)
                        | (refine BigFrame.quiet_assign _ rfl ?_; go_simp)
                        | (refine quiet_run (.pointer (some ⟨g, 16, none⟩)) ?_ ?_; (focus (intro W hW; go_simp; done)); go_simp)
                        | (refine quiet_run (.slice (some ⟨b, off, none⟩) n c) ?_ ?_; (focus (intro W hW; have h := CG.out W hW; go_simp; done)); go_simp)
                        | (refine quiet_run (.int .i64 (k1 : Int)) ?_ ?_; (focus (intro W hW; go_simp; done)); go_simp)
                        | (refine quiet_run (.pointer (some ⟨b, off + k1 * 2, none⟩)) ?_ ?_; (focus (intro W hW; go_simp; done)); go_simp)
                        | (refine quiet_run (.pointer (some ⟨b, off + k1 * 2 + 1, none⟩)) ?_ ?_; (focus (intro W hW; go_simp; done)); go_simp)
                        | (refine quiet_run (.pointer (some ⟨gd, 0, none⟩)) ?_ ?_; (focus (intro W hW; go_simp; done)); go_simp)
                        | (refine quiet_run (.pointer (some ⟨gd, 1, none⟩)) ?_ ?_; (focus (intro W hW; go_simp; done)); go_simp)
                        | (refine quiet_run (.int .i64 pc) ?_ ?_; (focus (intro W hW; have h := (CP.out W hW).1; go_simp; done)); go_simp)
                        | (refine quiet_run (.int .i64 pn) ?_ ?_; (focus (intro W hW; have h := (CP.out W hW).2; go_simp; done)); go_simp)
                        | (refine quiet_run (.int .i64 dc) ?_ ?_; (focus (intro W hW; have h := (CT7.out W hW).1; go_simp; done)); go_simp)
                        | (refine quiet_run (.int .i64 dn) ?_ ?_; (focus (intro W hW; have h := (CT7.out W hW).2; go_simp; done)); go_simp)
                        | (refine quiet_run (.bool true) ?_ ?_; (focus (intro W hW; go_simp; done)); go_simp)
                        | (refine quiet_run (.bool false) ?_ ?_; (focus (intro W hW; go_simp; done)); go_simp)
                        | (refine quiet_run (.bool ge) ?_ ?_; (focus (intro W hW; go_simp; done)); go_simp)); go_big_quiet_on))
                      refine wpQuiet_nil ?_
                      intro w8 hw8
                      have B8 := hidd_ (B7.out.trans (Below.mono hw8 B7.out.size))
                      clear hw8 CT7 CP CG
                      cases ge
                      · have HO2 := hidd_ (show ∀ j, j < k1 + 1 + 1 → okAt up ms j = true from fun j hj => by
                          rcases Nat.lt_or_ge j (k1 + 1) with h | h
                          · exact HO.out j h
                          · obtain rfl : j = k1 + 1 := by omega
                            rw [HFIN.out]; rfl)
                        go_wp2
                        go_roundw
                        case rel => exact ⟨k1 + 1 + 1, by omega, by go_num, B8, HO2⟩
                        case measure => simp [intOf]; omega
                      · have HQ := hidd_ (GX.out (by rw [HFIN.out]; rfl))
                        go_wp2
                        go_ret
                        exact ⟨by first | rfl | (rw [HQ.out]; rfl), by rw [HG.out]; exact HX.out.trans (B8.out.mono (Nat.le_of_lt hgl))⟩
              · have hno : dn < uu + 2 := of_decide_eq_true HLT.out
                have HQ := hidd_ (GX.out (by unfold okAt; rw [HD.out]; simp only; rw [HMM.out, HUU.out, decide_eq_false (show ¬ uu + 2 ≤ dn by omega), Bool.and_false]))
                clear hno
                go_wp2
                go_ret
                exact ⟨by first | rfl | (rw [HQ.out]; rfl), by rw [HG.out]; exact HX.out.trans (B7.out.mono (Nat.le_of_lt hgl))⟩
          · obtain rfl : k = n := by omega
            have HQ := hidd_ (show r = 0 by rw [HR2.out, (allN_iff k (okAt up ms)).2 HO.out, if_neg (by simp)])
            have d3 : decide ((k : Int) < (k : Int)) = false := decide_eq_false (by omega)
            have d4 : decide (k < k) = false := decide_eq_false (by omega)
            go_wp2
            go_ret
            exact ⟨by first | rfl | (rw [HQ.out]; rfl), by rw [HG.out]; exact HX.out.trans (HB.out.mono (Nat.le_of_lt hgl))⟩
end Go.Proofs.Ytjflmfmncepeeaa
