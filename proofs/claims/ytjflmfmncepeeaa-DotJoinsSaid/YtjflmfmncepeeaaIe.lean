/-
  dot.Check.
-/
import Derived.Test.YtjflmfmncepeeaaIc
namespace Go.Proofs.Ytjflmfmncepeeaa
open Go.ChangeShapes Go.WideShapes Go.ChangeAt Go.RowKit
set_option linter.unusedVariables false
set_option linter.unusedSimpArgs false

set_option maxRecDepth 100000 in
set_option maxHeartbeats 8000000 in
theorem check_any (w : World) (up : List Int) (hu : up.length = 16) (A : Option Addr) (n c : Nat) (ms : List DotV) (hn : ms.length = n) (hn6 : n ≤ 1000000) (hc : n ≤ c) (hr : RdD w w.heap.size A ms) :
    Calls Try.prog 16 #[.agg (ctxRow up A n c)] w fun e w' => e = .returned (.int .i64 (chk up ms)) ∧ Below w.heap.size w w' := by
  obtain ⟨g, hg⟩ : ∃ g, w.heap.size = g := ⟨_, rfl⟩
  obtain ⟨w1, hw1⟩ : ∃ w1, w.alloc (.cells (ctxRow up A n c) 29) = w1 := ⟨_, rfl⟩
  have K1 : Bk w1 g 29 (ctxRow up A n c) := by rw [← hw1, ← hg]; exact Bk.new w _ _
  have X1 : Below g w w1 := by rw [← hw1, ← hg]; exact (Below.refl _ _).alloc (Nat.le_refl _) _
  rw [hg] at hr
  have R1 := hidd_ (hr.below X1)
  have HK := hidd_ K1
  have HX := hidd_ X1
  have HG := hidd_ hg
  have HU := hidd_ hu
  have HN := hidd_ hn
  have HM := hidd_ ((K1.cell 16).trans (ctxRow_more up A n c hu))
  have CU := hidd_ (fun j (hj : j < (intRow up).size) => (show w1.cell? ⟨g, 0 + j, none⟩ = (intRow up)[j]? by
    rw [intRow_size, hu] at hj
    rw [Nat.zero_add, K1.cell j, ctxRow_up up A n c j hu hj, intRow_at up j (by omega)]))
  have IU := hidd_ (show (Try.prog.info? 22).map (·.size) = some (intRow up).size by rw [intRow_size, hu]; exact iU_)
  have hix := fun k hk W => index_up up k hu hk W
  have hzD := zD_
  obtain ⟨r, hr0⟩ : ∃ r, chk up ms = r := ⟨_, rfl⟩
  have HRES := hidd_ hr0
  rw [hr0]
  clear K1 X1 hr hu hn hr0
  go_enter Try.func16, Try.ntmps16
  go_upto_region 2 with (refine wpList_load_sub rfl 22 (.tmp 7) rfl g 0 rfl (intRow up) CU.out _ Try.underlying22 rfl IU.out ?_)
  clear hw1 hg
  go_loopw [4, 9] (fun v i wr => ∃ k : Nat, k ≤ 16 ∧ i = .int .i64 k ∧ w1 = wr ∧ Hid (∀ j, j < k → okU (up.getD j 0) = true)) (fun _ i _ => 16 - (intOf i).toNat)
  case atStart => exact ⟨0, by omega, rfl, rfl, hidd_ (fun j hj => by omega)⟩
  case round =>
    obtain ⟨k, hk, rfl, rfl, HO⟩ := hrel
    by_cases hlt : k < 16
    · have hi := fun W => hix k hlt W
      obtain ⟨z, hz⟩ : ∃ z, up.getD k 0 = z := ⟨_, rfl⟩
      have HZ := hidd_ hz
      rw [hz] at hi
      clear hz hix
      by_cases h1 : z < 0
      · have d1 : decide (z < 0) = true := decide_eq_true h1
        have HQ := hidd_ (show r = 1 by rw [← HRES.out]; unfold chk; rw [if_pos (allN_no hlt (by rw [HZ.out]; unfold okU; exact decide_eq_false (by omega)))])
        clear h1
        go_wp2
        go_ret
        exact ⟨by first | rfl | (rw [HQ.out]; rfl), by rw [HG.out]; exact HX.out⟩
      · have d1 : decide (z < 0) = false := decide_eq_false h1
        by_cases h2 : 1099511627776 < z
        · have d2 : decide (1099511627776 < z) = true := decide_eq_true h2
          have HQ := hidd_ (show r = 1 by rw [← HRES.out]; unfold chk; rw [if_pos (allN_no hlt (by rw [HZ.out]; unfold okU; exact decide_eq_false (by omega)))])
          clear h1 h2
          go_wp2
          go_ret
          exact ⟨by first | rfl | (rw [HQ.out]; rfl), by rw [HG.out]; exact HX.out⟩
        · have d2 : decide (1099511627776 < z) = false := decide_eq_false h2
          have HO2 := hidd_ (show ∀ j, j < k + 1 → okU (up.getD j 0) = true from fun j hj => by
            rcases Nat.lt_or_ge j k with h | h
            · exact HO.out j h
            · obtain rfl : j = k := by omega
              rw [HZ.out]; unfold okU; exact decide_eq_true (by omega))
          clear h1 h2
          go_wp2
          go_roundw
          case rel => exact ⟨k + 1, by omega, by go_num, by first | trivial | rfl, HO2⟩
          case measure => simp [intOf]; omega
    · have HU1 := hidd_ ((allN_iff 16 (fun j => okU (up.getD j 0))).2 (fun j hj => HO.out j (by omega)))
      have dk1 : decide ((k : Int) < 16) = false := decide_eq_false (by omega)
      have dk2 : decide (k < 16) = false := decide_eq_false hlt
      have hm := HM.out
      clear hix hlt HO hk
      by_cases hbig : 32 < n
      · have d1 : decide ((32 : Int) < (n : Int)) = true := decide_eq_true (by omega)
        have d2 : decide (32 < n) = true := decide_eq_true hbig
        have HQ := hidd_ (show r = 11 by rw [← HRES.out]; unfold chk; rw [HU1.out, if_neg (by simp), if_pos (by rw [HN.out]; exact hbig)])
        clear hbig
        go_wp2
        go_ret
        exact ⟨by first | rfl | (rw [HQ.out]; rfl), by rw [HG.out]; exact HX.out⟩
      · have d1 : decide ((32 : Int) < (n : Int)) = false := decide_eq_false (by omega)
        have d2 : decide (32 < n) = false := decide_eq_false hbig
        have HR2 := hidd_ (show r = if allN n (okAt up ms) = false then 1 else 0 by rw [← HRES.out]; unfold chk; rw [HU1.out, if_neg (by simp), if_neg (by rw [HN.out]; exact hbig), HN.out])
        have hn32 : n ≤ 32 := by omega
        clear hbig HRES
        go_upto_region 10 with fail
        have hgw : g < w1.heap.size := HK.out.lt
        go_loopw [5, 6, 26] (fun v5 v6 i wr => ∃ k : Nat, k ≤ n ∧ i = .int .i64 k ∧ Hid (Below w1.heap.size w1 wr) ∧ Hid (∀ j, j < k → okAt up ms j = true)) (fun _ _ i _ => n - (intOf i).toNat)
        case atStart => exact ⟨0, by omega, rfl, hidd_ (Below.refl _ _), hidd_ (fun j hj => by omega)⟩
        case round =>
          obtain ⟨k, hk, rfl, HB, HO⟩ := hrel
          by_cases hlt : k < n
          · obtain ⟨b, off, rfl, hbl, hcell⟩ := R1.out (by rw [HN.out]; omega)
            have hbw : b < w1.heap.size := by omega
            obtain ⟨d, hd⟩ : ∃ d, ms.getD k ⟨0, 0⟩ = d := ⟨_, rfl⟩
            obtain ⟨p, hp⟩ : ∃ d, ms.getD (k - 1) ⟨0, 0⟩ = d := ⟨_, rfl⟩
            obtain ⟨k1, hk1⟩ : ∃ j, k - 1 = j := ⟨_, rfl⟩
            have hcd := hcell k (by rw [HN.out]; exact hlt)
            have hcp := hcell (k - 1) (by rw [HN.out]; omega)
            rw [hd] at hcd
            rw [hp, hk1] at hcp
            have HD := hidd_ hd
            have HP := hidd_ hp
            have CD := hidd_ (row_two ((HB.out.cell (p := ⟨b, _, none⟩) hbw).trans hcd.1) ((HB.out.cell (p := ⟨b, _, none⟩) hbw).trans hcd.2))
            have CP := hidd_ (row_two ((HB.out.cell (p := ⟨b, _, none⟩) hbw).trans hcp.1) ((HB.out.cell (p := ⟨b, _, none⟩) hbw).trans hcp.2))
            have t0 : (0 : Int) ≤ (k : Int) := by omega
            have tn : (k : Int) < (n : Int) := by omega
            have ID := hidd_ (show (Try.prog.info? 27).map (·.size) = some d.row.size from iD_)
            have IP := hidd_ (show (Try.prog.info? 27).map (·.size) = some p.row.size from iD_)
            have hle : w1.heap.size ≤ wr.heap.size := HB.out.size
            clear hd hp hcd hcp hcell
            go_upto_region 12 with (first
              | (refine wpList_load_sub rfl 27 (.tmp 29) rfl b (off + k * 2) rfl d.row CD.out _ Try.underlying27 rfl ID.out ?_)
              | (refine wpList_put_row rfl 27 _ _ rfl wr.heap.size d.row rfl rfl 27 #[.int .i64 0, .int .i64 0] (Bk.new wr _ _) ID.out rfl (row_one d) ?_; intro w6 k6 g6 s6; have BX : Below wr.heap.size wr w6 := (((Below.refl wr.heap.size wr).alloc (Nat.le_refl _) (.cells #[.int .i64 0, .int .i64 0] 27)).grown g6 (by simp) (fun k hk => by injection hk with hk; omega)); have D6 := hidd_ k6; have B6 := hidd_ (HB.out.trans (BX.mono hle)); have CP6 := hidd_ (row_two ((BX.cell (p := ⟨b, _, none⟩) (Nat.lt_of_lt_of_le hbw hle)).trans (CP.out 0 (by show 0 < 2; omega))) ((BX.cell (p := ⟨b, _, none⟩) (Nat.lt_of_lt_of_le hbw hle)).trans (CP.out 1 (by show 1 < 2; omega)))); clear k6 g6 s6 BX))
            rw [put_none]
            generalize wr.heap.size = gd at *
            have hgd6 : gd < w6.heap.size := D6.out.lt
            have hle6 : w1.heap.size ≤ w6.heap.size := B6.out.size
            have M6 := hidd_ (fun W (h : Below w6.heap.size w6 W) => ((h.cell (p := ⟨g, 16, none⟩) (Nat.lt_of_lt_of_le hgw hle6)).trans (B6.out.cell (p := ⟨g, 16, none⟩) hgw)).trans HM.out)
            have DD6 := hidd_ (fun W (h : Below w6.heap.size w6 W) => D6.out.below h hgd6)
            have CPW := hidd_ (fun W (h : Below w6.heap.size w6 W) j hj => (h.cell (p := ⟨b, off + k1 * 2 + j, none⟩) (Nat.lt_of_lt_of_le hbw hle6)).trans (CP6.out j hj))
            obtain ⟨bd, hbd⟩ : ∃ x, isD d = x := ⟨_, rfl⟩
            have P1 : Hid (∀ W, Below w6.heap.size w6 W → Calls Try.prog 36 #[.agg d.row] W fun e w' => e = .returned (.bool bd) ∧ Below w6.heap.size w6 w') := hidd_ (fun W h => by rw [← hbd]; exact (isDot_any W d).mono fun e w' hh => ⟨hh.1, h.trans (hh.2.mono h.size)⟩)
            have HBD := hidd_ hbd
            clear hbd CD CP
            have GX := hidd_ (fun (hf : okAt up ms k = false) => (show r = 1 by rw [HR2.out, if_pos (allN_no hlt hf)]))
            cases bd
            · have HQ := hidd_ (GX.out (by unfold okAt; rw [HD.out, HBD.out]; rfl))
              refine region_quiet_in (C := fun W => Below w6.heap.size w6 W) (by kernel_rfl) (by kernel_rfl) ((Below.refl _ _).drew) ?_
              repeat (first | go_big_quiet_skip | (go_big_quiet_want; (first
                | (refine BigFrame.quiet_move _ rfl ?_; go_simp)
                | (refine BigFrame.quiet_assign _ rfl ?_; go_simp)
                | (refine quiet_load_rowd 27 (.tmp 6) rfl gd rfl 27 d.row _ Try.underlying27 rfl ID.out DD6.out ?_; go_simp)
                | (refine quiet_call (.bool false) 36 #[.agg d.row] ?_ P1.out ?_; (focus (intro W; go_simp; done)); go_simp)
                | (refine quiet_run (.bool true) ?_ ?_; (focus (intro W hW; go_simp; done)); go_simp)
                | (refine quiet_run (.bool false) ?_ ?_; (focus (intro W hW; go_simp; done)); go_simp)); go_big_quiet_on))
              refine wpQuiet_nil ?_
              intro w7 hw7
              have X7 := hidd_ (HX.out.trans ((B6.out.trans (Below.mono hw7 hle6)).mono (Nat.le_of_lt hgw)))
              clear hw7 P1 M6 DD6 CPW
              go_wp2
              go_ret
              exact ⟨by first | rfl | (rw [HQ.out]; rfl), by rw [HG.out]; exact X7.out⟩
            · obtain ⟨co, hco⟩ : ∃ x, (decide (k = 0) || decide (cmpD p d < 0)) = x := ⟨_, rfl⟩
              have HCO := hidd_ hco
              clear hco
              have P2 : Hid (∀ W, Below w6.heap.size w6 W → Calls Try.prog 37 #[.agg p.row, .agg d.row] W fun e w' => e = .returned (.int .i64 (cmpD p d)) ∧ Below w6.heap.size w6 w') := hidd_ (fun W h => (byDot_any W p d).mono fun e w' hh => ⟨hh.1, h.trans (hh.2.mono h.size)⟩)
              obtain ⟨cv, hcv⟩ : ∃ x, cmpD p d = x := ⟨_, rfl⟩
              have HCV := hidd_ hcv
              rw [hcv] at HCO P2
              clear hcv
              have r1 : k ≠ 0 → IntKind.i64.wrap ((k : Int) - 1) = (k1 : Int) := fun h => by rw [IntWalk.i64_in _ (by omega)]; omega
              have r2 : k ≠ 0 → (k : Int) - 1 = (k1 : Int) := fun h => by omega
              have r3 : IntKind.i64.wrap (k1 : Int) = (k1 : Int) := IntWalk.i64_in _ (by omega)
              have t1 : (0 : Int) ≤ (k1 : Int) := by omega
              have t2 : (k1 : Int) < (n : Int) := by omega
              go_cut [48] (fun s48 wx => s48 = .bool (!co) ∧ Hid (Below w6.heap.size w6 wx))
              case first =>
                by_cases hk0 : k = 0
                · have hd0 : decide ((0 : Int) < (k : Int)) = false := decide_eq_false (by omega)
                  have hd1 : decide (0 < k) = false := decide_eq_false (by omega)
                  have hco : co = true := by rw [← HCO.out, hk0]; rfl
                  subst hco
                  clear r1 r2 hk0
                  refine region_quiet_in (C := fun W => Below w6.heap.size w6 W) (by kernel_rfl) (by kernel_rfl) ((Below.refl _ _).drew) ?_
                  repeat (first | go_big_quiet_skip | (go_big_quiet_want; (first
                    | (refine BigFrame.quiet_move _ rfl ?_; go_simp)
                    | (refine BigFrame.quiet_assign _ rfl ?_; go_simp)
                    | (refine quiet_load_rowd 27 (.tmp 6) rfl gd rfl 27 d.row _ Try.underlying27 rfl ID.out DD6.out ?_; go_simp)
                    | (refine quiet_call (.bool true) 36 #[.agg d.row] ?_ P1.out ?_; (focus (intro W; go_simp; done)); go_simp)
                    | (refine quiet_run (.bool true) ?_ ?_; (focus (intro W hW; go_simp; done)); go_simp)
                    | (refine quiet_run (.bool false) ?_ ?_; (focus (intro W hW; go_simp; done)); go_simp)); go_big_quiet_on))
                  refine wpQuiet_nil ?_
                  intro w7 hw7
                  have X7 := hidd_ hw7
                  clear hw7
                  go_wp2
                  go_meet
                  exact ⟨rfl, X7⟩
                · have hd0 : decide ((0 : Int) < (k : Int)) = true := decide_eq_true (by omega)
                  have hd1 : decide (0 < k) = true := decide_eq_true (by omega)
                  have q1 := r1 hk0
                  have q2 := r2 hk0
                  have hco : co = decide (cv < 0) := by rw [← HCO.out, decide_eq_false hk0]; rfl
                  clear r1 r2 hk0 HCO
                  by_cases hcv0 : cv < 0
                  · have hd2 : decide (0 ≤ cv) = false := decide_eq_false (by omega)
                    obtain rfl : co = true := by rw [hco]; exact decide_eq_true hcv0
                    clear hco hcv0
                    refine region_quiet_in (C := fun W => Below w6.heap.size w6 W) (by kernel_rfl) (by kernel_rfl) ((Below.refl _ _).drew) ?_
                    repeat (first | go_big_quiet_skip | (go_big_quiet_want; (first
                      | (refine BigFrame.quiet_move _ rfl ?_; go_simp)
                      | (refine BigFrame.quiet_assign _ rfl ?_; go_simp)
                      | (refine quiet_load_rowd 27 (.tmp 6) rfl gd rfl 27 d.row _ Try.underlying27 rfl ID.out DD6.out ?_; go_simp)
                      | (refine quiet_load_sub 27 (.tmp 42) rfl b (off + k1 * 2) rfl p.row _ Try.underlying27 rfl IP.out CPW.out ?_; go_simp)
                      | (refine quiet_call (.bool true) 36 #[.agg d.row] ?_ P1.out ?_; (focus (intro W; go_simp; done)); go_simp)
                      | (refine quiet_call (.int .i64 cv) 37 #[.agg p.row, .agg d.row] ?_ P2.out ?_; (focus (intro W; go_simp; done)); go_simp)
                      | (refine quiet_run (.pointer (some ⟨g, 16, none⟩)) ?_ ?_; (focus (intro W hW; go_simp; done)); go_simp)
                      | (refine quiet_run (.slice (some ⟨b, off, none⟩) n c) ?_ ?_; (focus (intro W hW; have h := M6.out W hW; go_simp; done)); go_simp)
                      | (refine quiet_run (.int .i64 (k1 : Int)) ?_ ?_; (focus (intro W hW; go_simp; done)); go_simp)
                      | (refine quiet_run (.pointer (some ⟨b, off + k1 * 2, none⟩)) ?_ ?_; (focus (intro W hW; go_simp; done)); go_simp)
                      | (refine quiet_run (.bool true) ?_ ?_; (focus (intro W hW; go_simp; done)); go_simp)
                      | (refine quiet_run (.bool false) ?_ ?_; (focus (intro W hW; go_simp; done)); go_simp)); go_big_quiet_on))
                    refine wpQuiet_nil ?_
                    intro w7 hw7
                    have X7 := hidd_ hw7
                    clear hw7
                    go_wp2
                    go_meet
                    exact ⟨rfl, X7⟩
                  · have hd2 : decide (0 ≤ cv) = true := decide_eq_true (by omega)
                    obtain rfl : co = false := by rw [hco]; exact decide_eq_false hcv0
                    clear hco hcv0
                    refine region_quiet_in (C := fun W => Below w6.heap.size w6 W) (by kernel_rfl) (by kernel_rfl) ((Below.refl _ _).drew) ?_
                    repeat (first | go_big_quiet_skip | (go_big_quiet_want; (first
                      | (refine BigFrame.quiet_move _ rfl ?_; go_simp)
                      | (refine BigFrame.quiet_assign _ rfl ?_; go_simp)
                      | (refine quiet_load_rowd 27 (.tmp 6) rfl gd rfl 27 d.row _ Try.underlying27 rfl ID.out DD6.out ?_; go_simp)
                      | (refine quiet_load_sub 27 (.tmp 42) rfl b (off + k1 * 2) rfl p.row _ Try.underlying27 rfl IP.out CPW.out ?_; go_simp)
                      | (refine quiet_call (.bool true) 36 #[.agg d.row] ?_ P1.out ?_; (focus (intro W; go_simp; done)); go_simp)
                      | (refine quiet_call (.int .i64 cv) 37 #[.agg p.row, .agg d.row] ?_ P2.out ?_; (focus (intro W; go_simp; done)); go_simp)
                      | (refine quiet_run (.pointer (some ⟨g, 16, none⟩)) ?_ ?_; (focus (intro W hW; go_simp; done)); go_simp)
                      | (refine quiet_run (.slice (some ⟨b, off, none⟩) n c) ?_ ?_; (focus (intro W hW; have h := M6.out W hW; go_simp; done)); go_simp)
                      | (refine quiet_run (.int .i64 (k1 : Int)) ?_ ?_; (focus (intro W hW; go_simp; done)); go_simp)
                      | (refine quiet_run (.pointer (some ⟨b, off + k1 * 2, none⟩)) ?_ ?_; (focus (intro W hW; go_simp; done)); go_simp)
                      | (refine quiet_run (.bool true) ?_ ?_; (focus (intro W hW; go_simp; done)); go_simp)
                      | (refine quiet_run (.bool false) ?_ ?_; (focus (intro W hW; go_simp; done)); go_simp)); go_big_quiet_on))
                    refine wpQuiet_nil ?_
                    intro w7 hw7
                    have X7 := hidd_ hw7
                    clear hw7
                    go_wp2
                    go_meet
                    exact ⟨rfl, X7⟩
              case rest =>
                obtain ⟨rfl, HB7⟩ := hcut
                rename_i K hK
                refine hK _ _ ?_
                clear hK K r1 r2 r3 t1 t2 P1 P2 CP6 CPW
                have HDC := hidd_ (show Bk wc gd 27 d.row from DD6.out wc HB7.out)
                have HB8 := hidd_ (B6.out.trans (HB7.out.mono hle6))
                have HKU := hidd_ (fun W (h : Below wc.heap.size wc W) m (hm : m < 16) => (show W.cell? ⟨g, m, none⟩ = some (.int .i64 (up.getD m 0)) from ((h.cell (p := ⟨g, m, none⟩) (Nat.lt_of_lt_of_le hgw HB8.out.size)).trans (HB8.out.cell (p := ⟨g, m, none⟩) hgw)).trans ((HK.out.cell m).trans (ctxRow_up up _ n c m HU.out hm))))
                clear DD6 M6
                cases co
                · have HQ := hidd_ (GX.out (by unfold okAt; rw [HP.out, HD.out, HBD.out, HCV.out, HCO.out]; rfl))
                  go_wp2
                  go_ret
                  exact ⟨by first | rfl | (rw [HQ.out]; rfl), by rw [HG.out]; exact HX.out.trans (HB8.out.mono (Nat.le_of_lt hgw))⟩
                · obtain ⟨dc, dn⟩ := d
                  obtain ⟨hb1, hb2⟩ : (1 ≤ dc ∧ dc ≤ 16) ∧ 1 ≤ dn ∧ dn ≤ 1099511627776 := of_decide_eq_true HBD.out
                  obtain ⟨m, hm⟩ : ∃ m : Nat, dc - 1 = (m : Int) := ⟨(dc - 1).toNat, by omega⟩
                  have hm16 : m < 16 := by omega
                  obtain ⟨uu, huu⟩ : ∃ u, up.getD m 0 = u := ⟨_, rfl⟩
                  have hok : okU uu = true := by rw [← huu]; exact (allN_iff 16 (fun j => okU (up.getD j 0))).1 HU1.out m hm16
                  have hub : 0 ≤ uu ∧ uu ≤ 1099511627776 := of_decide_eq_true hok
                  have HMM := hidd_ (show (dc - 1).toNat = m by omega)
                  have HUU := hidd_ huu
                  have e1 : IntKind.i64.wrap (dc - 1) = (m : Int) := by rw [IntWalk.i64_in _ (by omega)]; exact hm
                  have e2 : IntKind.i64.wrap (m : Int) = (m : Int) := IntWalk.i64_in _ (by omega)
                  have e3 : IntKind.i64.wrap (uu + 2) = uu + 2 := IntWalk.i64_in _ (by omega)
                  have f1 : (0 : Int) ≤ (m : Int) := by omega
                  have f2 : (m : Int) < 16 := by omega
                  have CC := hidd_ (fun W (h : Below wc.heap.size wc W) => Bk.twod (HDC.out.below h HDC.out.lt))
                  have CM := hidd_ (fun W (h : Below wc.heap.size wc W) => (HKU.out W h m hm16).trans (by rw [huu]))
                  have HFIN := hidd_ (show okAt up ms k = decide (uu + 2 ≤ dn) by unfold okAt; rw [HP.out, HD.out, HBD.out, HCV.out, HCO.out]; simp only [Bool.true_and]; rw [HMM.out, HUU.out])
                  have hHm := hm
                  clear huu hok hub hb1 hb2 HKU
                  obtain ⟨lt, hlt2⟩ : ∃ x, decide (dn < uu + 2) = x := ⟨_, rfl⟩
                  have HLT := hidd_ hlt2
                  go_upto_region 14 with fail
                  refine region_quiet_in (C := fun W => Below wc.heap.size wc W) (by kernel_rfl) (by kernel_rfl) ((Below.refl _ _).drew) ?_
                  repeat (first | go_big_quiet_skip | (go_big_quiet_want; (first
                    | (refine BigFrame.quiet_move _ rfl ?_; go_simp)
                    | (refine BigFrame.quiet_assign _ rfl ?_; go_simp)
                    | (refine quiet_run (.pointer (some ⟨gd, 1, none⟩)) ?_ ?_; (focus (intro W hW; go_simp; done)); go_simp)
                    | (refine quiet_run (.pointer (some ⟨gd, 0, none⟩)) ?_ ?_; (focus (intro W hW; go_simp; done)); go_simp)
                    | (refine quiet_run (.pointer (some ⟨g, 0, none⟩)) ?_ ?_; (focus (intro W hW; go_simp; done)); go_simp)
                    | (refine quiet_run (.pointer (some ⟨g, m, none⟩)) ?_ ?_; (focus (intro W hW; go_simp; done)); go_simp)
                    | (refine quiet_run (.int .i64 dn) ?_ ?_; (focus (intro W hW; have h := (CC.out W hW).2; go_simp; done)); go_simp)
                    | (refine quiet_run (.int .i64 dc) ?_ ?_; (focus (intro W hW; have h := (CC.out W hW).1; go_simp; done)); go_simp)
                    | (refine quiet_run (.int .i64 (m : Int)) ?_ ?_; (focus (intro W hW; go_simp; done)); go_simp)
                    | (refine quiet_run (.int .i64 uu) ?_ ?_; (focus (intro W hW; have h := CM.out W hW; go_simp; done)); go_simp)
                    | (refine quiet_run (.int .i64 (uu + 2)) ?_ ?_; (focus (intro W hW; go_simp; done)); go_simp)
                    | (refine quiet_run (.bool lt) ?_ ?_; (focus (intro W hW; go_simp; done)); go_simp)); go_big_quiet_on))
                  refine wpQuiet_nil ?_
                  intro w9 hw9
                  have B9 := hidd_ (HB8.out.trans (Below.mono hw9 HB8.out.size))
                  clear hw9 CC CM hlt2
                  cases lt
                  · have hyes : ¬ dn < uu + 2 := of_decide_eq_false HLT.out
                    have HO2 := hidd_ (show ∀ j, j < k + 1 → okAt up ms j = true from fun j hj => by
                      rcases Nat.lt_or_ge j k with h | h
                      · exact HO.out j h
                      · obtain rfl : j = k := by omega
                        rw [HFIN.out]; exact decide_eq_true (by omega))
                    clear hyes
                    go_wp2
                    go_roundw
                    case rel =>
                      exact ⟨k + 1, by omega, by go_num, B9, HO2⟩
                    case measure => simp [intOf]; omega
                  · have hno : dn < uu + 2 := of_decide_eq_true HLT.out
                    have HQ := hidd_ (GX.out (by rw [HFIN.out]; exact decide_eq_false (by omega)))
                    clear hno
                    go_wp2
                    go_ret
                    exact ⟨by first | rfl | (rw [HQ.out]; rfl), by rw [HG.out]; exact HX.out.trans (B9.out.mono (Nat.le_of_lt hgw))⟩
          · obtain rfl : k = n := by omega
            have HQ := hidd_ (show r = 0 by rw [HR2.out, (allN_iff k (okAt up ms)).2 HO.out, if_neg (by simp)])
            have d3 : decide ((k : Int) < (k : Int)) = false := decide_eq_false (by omega)
            go_wp2
            go_ret
            exact ⟨by first | rfl | (rw [HQ.out]; rfl), by rw [HG.out]; exact HX.out.trans (HB.out.mono (Nat.le_of_lt hgw))⟩
end Go.Proofs.Ytjflmfmncepeeaa
