/-
  casketlaw14.from; the reference's Same, Has and Next.
-/
import Derived.Test.YtjflmfmncepeeaaJm
import Derived.Test.YtjflmfmncepeeaaIg
import Derived.Test.YtjflmfmncepeeaaIs
namespace Go.Proofs.Ytjflmfmncepeeaa
open Go.ChangeShapes Go.WideShapes Go.ChangeAt Go.RowKit
set_option linter.unusedVariables false
set_option linter.unusedSimpArgs false

theorem built_rctx16 (a0 a1 a2 a3 a4 a5 a6 a7 a8 a9 a10 a11 a12 a13 a14 a15 : Int) (A : Option Addr) (n c : Nat) : Try.prog.built 25 [(0, .agg (intRow [a0, a1, a2, a3, a4, a5, a6, a7, a8, a9, a10, a11, a12, a13, a14, a15])), (1, .slice A n c)] = some (ctxRow [a0, a1, a2, a3, a4, a5, a6, a7, a8, a9, a10, a11, a12, a13, a14, a15] A n c) := by kernel_rfl
set_option maxRecDepth 100000 in
theorem built_rctx (up : List Int) (hu : up.length = 16) (A : Option Addr) (n c : Nat) : Try.prog.built 25 [(0, .agg (intRow up)), (1, .slice A n c)] = some (ctxRow up A n c) := by
  match up, hu with
  | [a0, a1, a2, a3, a4, a5, a6, a7, a8, a9, a10, a11, a12, a13, a14, a15], _ => exact built_rctx16 a0 a1 a2 a3 a4 a5 a6 a7 a8 a9 a10 a11 a12 a13 a14 a15 A n c
theorem neql16 (xs ys : List Int) (hx : xs.length = 16) (hy : ys.length = 16) (W : World) : (binOp .neq 22 (.agg (intRow xs)) (.agg (intRow ys))).run Try.prog W = .ok (.bool (!decide (xs = ys))) W := by
  rw [run_neq_struct, eqlIn16 xs ys hx hy W]
  rfl

set_option maxRecDepth 100000 in
set_option maxHeartbeats 2000000 in
theorem from_any (w : World) (up : List Int) (hu : up.length = 16) (A : Option Addr) (n c : Nat) :
    Calls Try.prog 21 #[.agg (ctxRow up A n c)] w fun e w' => e = .returned (.agg (ctxRow up A n c)) ∧ Below w.heap.size w w' := by
  obtain ⟨g, hg⟩ : ∃ g, w.heap.size = g := ⟨_, rfl⟩
  obtain ⟨wa, hwa⟩ : ∃ w0, w.alloc (.cells (ctxRow up A n c) 29) = w0 := ⟨_, rfl⟩
  have Ka := show Bk wa g 29 (ctxRow up A n c) by rw [← hwa, ← hg]; exact Bk.new w _ _
  have Xa := show Below g w wa by rw [← hwa, ← hg]; exact (Below.refl _ _).alloc (Nat.le_refl _) _
  have Sa : wa.heap.size = g + 1 := by rw [← hwa, ← hg]; simp
  have hz := zRX_
  have HG := hidd_ hg
  have IU := hidd_ (show (Try.prog.info? 22).map (·.size) = some (intRow up).size by rw [intRow_size, hu]; exact iU_)
  have IR := hidd_ (show (Try.prog.info? 25).map (·.size) = some (ctxRow up A n c).size by rw [ctxRow_size up A n c hu]; exact iRX_)
  have BU := hidd_ (built_rctx up hu A n c)
  have HU := hidd_ hu
  go_enter Try.func21, Try.ntmps21
  go_upto_region 1 with fail
  generalize hw1 : wa.alloc _ = w1
  have b1 : Below wa.heap.size wa w1 := by rw [← hw1]; exact (Below.refl _ _).alloc (Nat.le_refl _) _
  have R1 := hidd_ (show Bk w1 (g + 1) 25 (ctxRow (List.replicate 16 0) none 0 0) by rw [← Sa, ← hw1]; exact Bk.new wa _ _)
  have K1 := hidd_ (Ka.below b1 Ka.lt)
  have X1 := hidd_ (Xa.trans (b1.mono (by omega)))
  have KU := hidd_ (fun j (hj : j < (intRow up).size) => (show w1.cell? ⟨g, 0 + j, none⟩ = (intRow up)[j]? by rw [intRow_size, HU.out] at hj; rw [Nat.zero_add, K1.out.cell j, ctxRow_up up A n c j HU.out hj, intRow_at up j (by have := HU.out; omega)]))
  have hm := (K1.out.cell 16).trans (ctxRow_more up A n c hu)
  clear Ka Xa Sa b1 hw1 hwa hu hg
  go_wp2_with (first
    | (refine wpList_load_part (wanted_none rfl) 22 (.tmp 3) rfl g 0 rfl (intRow up) KU.out _ Try.underlying22 rfl IU.out ?_)
    | (refine wpList_built rfl 25 _ rfl (ctxRow up A n c) (by simp only [List.map_toArray, List.map_cons, List.map_nil]; exact BU.out) ?_)
    | (refine wpList_put_row rfl 25 _ _ rfl (g + 1) (ctxRow up A n c) rfl rfl 25 (ctxRow (List.replicate 16 0) none 0 0) R1.out IR.out (by rw [ctxRow_size _ _ _ _ HU.out]; rfl) (ctxRow_one _ _ _ _) ?_; intro W9 k9 g9 s9))
  refine bodyPost_ret (results_cell_row Try.results21 _ _ (g + 1) 25 _ (0, 0) _ rfl k9 Try.underlying25 rfl IR.out) rfl ⟨rfl, by rw [HG.out]; exact X1.out.grown g9 (by have := R1.out.lt; omega) (fun k hk => by injection hk with hk; omega)⟩

set_option maxRecDepth 100000 in
set_option maxHeartbeats 4000000 in
theorem refSame_any (w : World) (up : List Int) (hu : up.length = 16) (A : Option Addr) (n c : Nat) (ms : List DotV) (hn : ms.length = n) (hn6 : n ≤ 1000000) (hr : RdD w w.heap.size A ms) (up' : List Int) (hu' : up'.length = 16) (A' : Option Addr) (n' c' : Nat) (ms' : List DotV) (hn' : ms'.length = n') (hn6' : n' ≤ 1000000) (hr' : RdD w w.heap.size A' ms') :
    Calls Try.prog 20 #[.agg (ctxRow up A n c), .agg (ctxRow up' A' n' c')] w fun e w' => e = .returned (.bool (sameR up up' ms ms')) ∧ Below w.heap.size w w' := by
  obtain ⟨g, hg⟩ : ∃ g, w.heap.size = g := ⟨_, rfl⟩
  obtain ⟨wa, hwa⟩ : ∃ w0, w.alloc (.cells (ctxRow up A n c) 25) = w0 := ⟨_, rfl⟩
  have Ka := show Bk wa g 25 (ctxRow up A n c) by rw [← hwa, ← hg]; exact Bk.new w _ _
  have Xa := show Below g w wa by rw [← hwa, ← hg]; exact (Below.refl _ _).alloc (Nat.le_refl _) _
  have Sa : wa.heap.size = g + 1 := by rw [← hwa, ← hg]; simp
  obtain ⟨w0, hw0⟩ : ∃ w0, wa.alloc (.cells (ctxRow up' A' n' c') 25) = w0 := ⟨_, rfl⟩
  have b0 : Below wa.heap.size wa w0 := by rw [← hw0]; exact (Below.refl _ _).alloc (Nat.le_refl _) _
  have D0 := hidd_ (show Bk w0 (g + 1) 25 (ctxRow up' A' n' c') by rw [← Sa, ← hw0]; exact Bk.new wa _ _)
  have K0 := hidd_ (Ka.below b0 Ka.lt)
  have X0 := hidd_ (Xa.trans (b0.mono (by omega)))
  rw [hg] at hr hr'
  have R1 := hidd_ (hr.below X0.out)
  have R2 := hidd_ (hr'.below X0.out)
  have HG := hidd_ hg
  have HN := hidd_ hn
  have HN' := hidd_ hn'
  have HU := hidd_ hu
  have HU' := hidd_ hu'
  have hE := fun W => eqlIn16 up up' hu hu' W
  have hE2 := fun W => neql16 up up' hu hu' W
  have KU := hidd_ (fun j (hj : j < (intRow up).size) => (show w0.cell? ⟨g, 0 + j, none⟩ = (intRow up)[j]? by rw [intRow_size, hu] at hj; rw [Nat.zero_add, K0.out.cell j, ctxRow_up up A n c j hu hj, intRow_at up j (by omega)]))
  have KU' := hidd_ (fun j (hj : j < (intRow up').size) => (show w0.cell? ⟨g + 1, 0 + j, none⟩ = (intRow up')[j]? by rw [intRow_size, hu'] at hj; rw [Nat.zero_add, D0.out.cell j, ctxRow_up up' A' n' c' j hu' hj, intRow_at up' j (by omega)]))
  have hm := (K0.out.cell 16).trans (ctxRow_more up A n c hu)
  have hm' := (D0.out.cell 16).trans (ctxRow_more up' A' n' c' hu')
  have IV := hidd_ (show (Try.prog.info? 22).map (·.size) = some (intRow up).size by rw [intRow_size, hu]; exact iU_)
  have IV' := hidd_ (show (Try.prog.info? 22).map (·.size) = some (intRow up').size by rw [intRow_size, hu']; exact iU_)
  have hS := hidd_ (show sameR up up' ms ms' = (decide (up = up') && decide (ms = ms')) from rfl)
  obtain ⟨bu, hbu⟩ : ∃ b, decide (up = up') = b := ⟨_, rfl⟩
  obtain ⟨bm, hbm⟩ : ∃ b, decide (ms = ms') = b := ⟨_, rfl⟩
  obtain ⟨r, hrr⟩ : ∃ r, sameR up up' ms ms' = r := ⟨_, rfl⟩
  have HBM := hidd_ hbm
  have HR := hidd_ (show r = (bu && bm) by rw [← hrr, hS.out, hbu, hbm])
  have hgl : g < w0.heap.size := K0.out.lt
  rw [hrr]
  rw [hbu] at hE hE2
  clear hu hu' hn hn' hr hr' Ka Xa b0 hbu hbm hrr hS
  go_enter Try.func20, Try.ntmps20
  go_upto_region 1 with fail
  clear hw0 hwa Sa hg
  cases bu
  · go_wp2_with (first
      | (refine wpList_load_part (wanted_none rfl) 22 (.tmp 6) rfl g 0 rfl (intRow up) KU.out _ Try.underlying22 rfl IV.out ?_)
      | (refine wpList_load_part (wanted_none rfl) 22 (.tmp 8) rfl (g + 1) 0 rfl (intRow up') KU'.out _ Try.underlying22 rfl IV'.out ?_))
    go_ret
    exact ⟨by rw [HR.out]; rfl, by rw [HG.out]; exact X0.out⟩
  · by_cases hnn : n = n'
    · have hb : ((n : Int) != (n' : Int)) = false := by simp [hnn]
      have hb2 : ((n : Int) == (n' : Int)) = true := by simp [hnn]
      go_upto_region 4 with (first
        | (refine wpList_load_part (wanted_none rfl) 22 (.tmp 6) rfl g 0 rfl (intRow up) KU.out _ Try.underlying22 rfl IV.out ?_)
        | (refine wpList_load_part (wanted_none rfl) 22 (.tmp 8) rfl (g + 1) 0 rfl (intRow up') KU'.out _ Try.underlying22 rfl IV'.out ?_))
      clear hm hm' hE hE2 hb hb2
      obtain ⟨wp, hwp⟩ : ∃ x, x = w0 := ⟨_, rfl⟩
      subst hwp
      go_loopw [5] (fun i wr => ∃ k : Nat, k ≤ n ∧ i = .int .i64 k ∧ Hid (Below wp.heap.size wp wr) ∧ Hid (∀ j, j < k → ms.getD j ⟨0, 0⟩ = ms'.getD j ⟨0, 0⟩)) (fun i _ => n - (intOf i).toNat)
      case atStart => exact ⟨0, by omega, rfl, hidd_ (Below.refl _ _), hidd_ (fun j hj => by omega)⟩
      case round =>
        obtain ⟨k, hk, rfl, HB, HO⟩ := hrel
        have hle := HB.out.size
        have KG := hidd_ (K0.out.below HB.out hgl)
        have KD := hidd_ (D0.out.below HB.out D0.out.lt)
        have hm := (KG.out.cell 16).trans (ctxRow_more up A n c HU.out)
        by_cases hlt : k < n
        · obtain ⟨b, off, rfl, hbl, hcell⟩ := R1.out (by rw [HN.out]; omega)
          obtain ⟨b', off', rfl, hbl', hcell'⟩ := R2.out (by rw [HN'.out]; omega)
          have hb1 : b < wp.heap.size := by omega
          have hb2 : b' < wp.heap.size := by omega
          obtain ⟨x, hx⟩ : ∃ x, ms.getD k ⟨0, 0⟩ = x := ⟨_, rfl⟩
          obtain ⟨y, hy⟩ : ∃ y, ms'.getD k ⟨0, 0⟩ = y := ⟨_, rfl⟩
          have hcx := hcell k (by rw [HN.out]; exact hlt)
          have hcy := hcell' k (by rw [HN'.out]; omega)
          rw [hx] at hcx
          rw [hy] at hcy
          have HXX := hidd_ hx
          have HYY := hidd_ hy
          have t0 : (0 : Int) ≤ (k : Int) := by omega
          have tn : (k : Int) < (n : Int) := by omega
          have tn' : (k : Int) < (n' : Int) := by omega
          have CX := hidd_ (fun W (h : Below wr.heap.size wr W) => row_two (((HB.out.trans (h.mono hle)).cell (p := ⟨b, _, none⟩) hb1).trans hcx.1) (((HB.out.trans (h.mono hle)).cell (p := ⟨b, _, none⟩) hb1).trans hcx.2))
          have CY := hidd_ (fun W (h : Below wr.heap.size wr W) => row_two (((HB.out.trans (h.mono hle)).cell (p := ⟨b', _, none⟩) hb2).trans hcy.1) (((HB.out.trans (h.mono hle)).cell (p := ⟨b', _, none⟩) hb2).trans hcy.2))
          have CA := hidd_ (fun W (h : Below wr.heap.size wr W) => ((KG.out.below h KG.out.lt).cell 16).trans (ctxRow_more up (some ⟨b, off, none⟩) n c HU.out))
          have CB := hidd_ (fun W (h : Below wr.heap.size wr W) => ((KD.out.below h KD.out.lt).cell 16).trans (ctxRow_more up' (some ⟨b', off', none⟩) n' c' HU'.out))
          have IXX := hidd_ (show (Try.prog.info? 27).map (·.size) = some x.row.size from iD_)
          have IYY := hidd_ (show (Try.prog.info? 27).map (·.size) = some y.row.size from iD_)
          obtain ⟨bq, hbq⟩ : ∃ q, (!decide (x = y)) = q := ⟨_, rfl⟩
          have HBQ := hidd_ hbq
          clear hx hy hcx hcy hcell hcell' hbq
          go_upto_region 6 with fail
          clear hm
          refine region_quiet_in (C := fun W => Below wr.heap.size wr W) (by kernel_rfl) (by kernel_rfl) ((Below.refl _ _).drew) ?_
          repeat (first | go_big_quiet_skip | (go_big_quiet_want; (first
            | (refine BigFrame.quiet_move _ rfl ?_; go_simp)
            | (refine BigFrame.quiet_assign _ rfl ?_; go_simp)
            | (refine quiet_load_sub 27 (.tmp 30) rfl b (off + k * 2) rfl x.row _ Try.underlying27 rfl IXX.out CX.out ?_; go_simp)
            | (refine quiet_load_sub 27 (.tmp 35) rfl b' (off' + k * 2) rfl y.row _ Try.underlying27 rfl IYY.out CY.out ?_; go_simp)
            | (refine quiet_run (.pointer (some ⟨g, 16, none⟩)) ?_ ?_; (focus (intro W hW; go_simp; done)); go_simp)
            | (refine quiet_run (.pointer (some ⟨g + 1, 16, none⟩)) ?_ ?_; (focus (intro W hW; go_simp; done)); go_simp)
            | (refine quiet_run (.slice (some ⟨b, off, none⟩) n c) ?_ ?_; (focus (intro W hW; have h := CA.out W hW; go_simp; done)); go_simp)
            | (refine quiet_run (.slice (some ⟨b', off', none⟩) n' c') ?_ ?_; (focus (intro W hW; have h := CB.out W hW; go_simp; done)); go_simp)
            | (refine quiet_run (.pointer (some ⟨b, off + k * 2, none⟩)) ?_ ?_; (focus (intro W hW; go_simp; done)); go_simp)
            | (refine quiet_run (.pointer (some ⟨b', off' + k * 2, none⟩)) ?_ ?_; (focus (intro W hW; go_simp; done)); go_simp)
            | (refine quiet_neqD (.tmp 31) (.tmp 36) _ rfl x y rfl rfl ?_; rw [HBQ.out]; go_simp)); go_big_quiet_on))
          refine wpQuiet_nil ?_
          intro w7 hw7
          have B7 := hidd_ (HB.out.trans (Below.mono hw7 hle))
          clear hw7 CX CY CA CB
          cases bq
          · have heq : x = y := by have := HBQ.out; simpa using this
            have HO2 := hidd_ (show ∀ j, j < k + 1 → ms.getD j ⟨0, 0⟩ = ms'.getD j ⟨0, 0⟩ from fun j hj => by
              rcases Nat.lt_or_ge j k with h | h
              · exact HO.out j h
              · obtain rfl : j = k := by omega
                rw [HXX.out, HYY.out]; exact heq)
            clear heq
            go_wp2
            go_roundw
            case rel => exact ⟨k + 1, by omega, by go_num, B7, HO2⟩
            case measure => simp [intOf]; omega
          · have hne : ¬ x = y := by have := HBQ.out; simpa using this
            have HQ := hidd_ (show r = false by
              rw [HR.out, ← HBM.out, decide_eq_false fun e => hne (by rw [← HXX.out, ← HYY.out, e])]; rfl)
            clear hne
            go_wp2
            go_ret
            exact ⟨by rw [HQ.out]; rfl, by rw [HG.out]; exact X0.out.trans (B7.out.mono (Nat.le_of_lt hgl))⟩
        · obtain rfl : k = n := by omega
          have d1 : decide ((k : Int) < (k : Int)) = false := decide_eq_false (by omega)
          have d2 : decide (k < k) = false := decide_eq_false (by omega)
          have HQ := hidd_ (show r = true by
            rw [HR.out, ← HBM.out, decide_eq_true (ext_getD (by rw [HN.out, HN'.out]; exact hnn) fun j hj => HO.out j (by have := HN.out; omega))]; rfl)
          go_wp2
          go_ret
          exact ⟨by rw [HQ.out]; rfl, by rw [HG.out]; exact X0.out.trans (HB.out.mono (Nat.le_of_lt hgl))⟩
    · have hb : ((n : Int) != (n' : Int)) = true := by simp; omega
      have hb2 : ((n : Int) == (n' : Int)) = false := by simp; omega
      have HQ := hidd_ (show r = false by
        rw [HR.out, ← HBM.out, decide_eq_false fun e => hnn (by rw [← HN.out, ← HN'.out, e])]; rfl)
      clear hnn
      go_wp2_with (first
        | (refine wpList_load_part (wanted_none rfl) 22 (.tmp 6) rfl g 0 rfl (intRow up) KU.out _ Try.underlying22 rfl IV.out ?_)
        | (refine wpList_load_part (wanted_none rfl) 22 (.tmp 8) rfl (g + 1) 0 rfl (intRow up') KU'.out _ Try.underlying22 rfl IV'.out ?_))
      go_ret
      exact ⟨by rw [HQ.out]; rfl, by rw [HG.out]; exact X0.out⟩
end Go.Proofs.Ytjflmfmncepeeaa
