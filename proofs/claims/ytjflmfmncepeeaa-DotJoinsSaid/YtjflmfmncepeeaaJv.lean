/-
  The reference's Has, whatever Check says of the context (Make asks so).
-/
import Derived.Test.YtjflmfmncepeeaaJm
import Derived.Test.YtjflmfmncepeeaaIi
namespace Go.Proofs.Ytjflmfmncepeeaa
open Go.ChangeShapes Go.WideShapes Go.ChangeAt Go.RowKit
set_option linter.unusedVariables false
set_option linter.unusedSimpArgs false

set_option maxRecDepth 100000 in
set_option maxHeartbeats 8000000 in
theorem refHas_raw (w : World) (up : List Int) (hu : up.length = 16) (A : Option Addr) (n c : Nat) (ms : List DotV) (hn : ms.length = n) (hn6 : n ≤ 1000000) (hr : RdD w w.heap.size A ms) (d : DotV) (hd : isD d = true) :
    Calls Try.prog 19 #[.agg (ctxRow up A n c), .agg d.row] w fun e w' => e = .returned (.bool (decide (d.n ≤ up.getD (d.c - 1).toNat 0) || decide (d ∈ ms))) ∧ Below w.heap.size w w' := by
  obtain ⟨g, hg⟩ : ∃ g, w.heap.size = g := ⟨_, rfl⟩
  obtain ⟨wa, hwa⟩ : ∃ w0, w.alloc (.cells (ctxRow up A n c) 25) = w0 := ⟨_, rfl⟩
  have Ka := show Bk wa g 25 (ctxRow up A n c) by rw [← hwa, ← hg]; exact Bk.new w _ _
  have Xa := show Below g w wa by rw [← hwa, ← hg]; exact (Below.refl _ _).alloc (Nat.le_refl _) _
  have Sa : wa.heap.size = g + 1 := by rw [← hwa, ← hg]; simp
  obtain ⟨w2, hw2⟩ : ∃ w0, wa.alloc (.cells d.row 27) = w0 := ⟨_, rfl⟩
  have b0 : Below wa.heap.size wa w2 := by rw [← hw2]; exact (Below.refl _ _).alloc (Nat.le_refl _) _
  have D2 := hidd_ (show Bk w2 (g + 1) 27 d.row by rw [← Sa, ← hw2]; exact Bk.new wa _ _)
  have K2 := hidd_ (Ka.below b0 Ka.lt)
  have X2 := hidd_ (Xa.trans (b0.mono (by omega)))
  rw [hg] at hr
  have hgl : g < w2.heap.size := K2.out.lt
  have hgl1 : g + 1 < w2.heap.size := D2.out.lt
  have R2 := hidd_ ((hr.below X2.out).more (Nat.le_of_lt hgl))
  have ID := hidd_ (show (Try.prog.info? 27).map (·.size) = some d.row.size from iD_)
  have HG := hidd_ hg
  have HU := hidd_ hu
  have HN := hidd_ hn
  obtain ⟨hb1, hb2⟩ : (1 ≤ d.c ∧ d.c ≤ 16) ∧ 1 ≤ d.n ∧ d.n ≤ 1099511627776 := of_decide_eq_true hd
  obtain ⟨r, hr0⟩ : ∃ r, (decide (d.n ≤ up.getD (d.c - 1).toNat 0) || decide (d ∈ ms)) = r := ⟨_, rfl⟩
  have HRR := hidd_ hr0
  rw [hr0]
  obtain ⟨m, hm⟩ : ∃ m : Nat, d.c - 1 = (m : Int) := ⟨(d.c - 1).toNat, by omega⟩
  have hm16 : m < 16 := by omega
  obtain ⟨uu, huu⟩ : ∃ u, up.getD m 0 = u := ⟨_, rfl⟩
  have HF := hidd_ (show r = (decide (d.n ≤ uu) || decide (d ∈ ms)) by rw [← hr0, show (d.c - 1).toNat = m by omega, huu])
  have e1 : IntKind.i64.wrap (d.c - 1) = (m : Int) := by rw [IntWalk.i64_in _ (by omega)]; exact hm
  have e2 : IntKind.i64.wrap (m : Int) = (m : Int) := IntWalk.i64_in _ (by omega)
  have f1 : (0 : Int) ≤ (m : Int) := by omega
  have f2 : (m : Int) < 16 := by omega
  have CK := hidd_ (fun W (h : Below w2.heap.size w2 W) => K2.out.below h K2.out.lt)
  have CM := hidd_ (fun W (h : Below w2.heap.size w2 W) => ((CK.out W h).cell m).trans ((ctxRow_up up A n c m HU.out hm16).trans (by rw [huu])))
  have CX := hidd_ (fun W (h : Below w2.heap.size w2 W) => ((CK.out W h).cell 16).trans (ctxRow_more up A n c HU.out))
  have CD := hidd_ (fun W (h : Below w2.heap.size w2 W) => D2.out.below h D2.out.lt)
  have hzr := zRX_
  have hzD := zD_
  obtain ⟨dc, dn⟩ := d
  have CT := hidd_ (fun W (h : Below w2.heap.size w2 W) => Bk.twod (show Bk W (g + 1) 27 #[.int .i64 dc, .int .i64 dn] from CD.out W h))
  obtain ⟨le, hle⟩ : ∃ x, decide (dn ≤ uu) = x := ⟨_, rfl⟩
  have HLE := hidd_ hle
  have EQ := hidd_ (fun x W => eqlD x ⟨dc, dn⟩ W)
  have EQ2 := hidd_ (fun x W => equalD x ⟨dc, dn⟩ W)
  have HF2 := hidd_ (show r = (le || decide ((⟨dc, dn⟩ : DotV) ∈ ms)) by rw [← hle]; exact HF.out)
  simp only at hm hb1 hb2 e1
  clear hr hn hu hr0 huu hb1 hb2 hd HF CK Ka Xa b0
  go_enter Try.func19, Try.ntmps19
  go_upto_region 1 with fail
  clear hw2 hwa hg Sa
  refine region_quiet_in (C := fun W => Below w2.heap.size w2 W) (by kernel_rfl) (by kernel_rfl) ((Below.refl _ _).drew) ?_
  repeat (first | go_big_quiet_skip | (go_big_quiet_want; (first
    | (refine BigFrame.quiet_move _ rfl ?_; go_simp)
    | (refine BigFrame.quiet_assign _ rfl ?_; go_simp)
    | (refine quiet_run (.pointer (some ⟨g + 1, 1, none⟩)) ?_ ?_; (focus (intro W hW; go_simp; done)); go_simp)
    | (refine quiet_run (.pointer (some ⟨g + 1, 0, none⟩)) ?_ ?_; (focus (intro W hW; go_simp; done)); go_simp)
    | (refine quiet_run (.pointer (some ⟨g, 0, none⟩)) ?_ ?_; (focus (intro W hW; go_simp; done)); go_simp)
    | (refine quiet_run (.pointer (some ⟨g, m, none⟩)) ?_ ?_; (focus (intro W hW; go_simp; done)); go_simp)
    | (refine quiet_run (.int .i64 dn) ?_ ?_; (focus (intro W hW; have h := (CT.out W hW).2; go_simp; done)); go_simp)
    | (refine quiet_run (.int .i64 dc) ?_ ?_; (focus (intro W hW; have h := (CT.out W hW).1; go_simp; done)); go_simp)
    | (refine quiet_run (.int .i64 (m : Int)) ?_ ?_; (focus (intro W hW; go_simp; done)); go_simp)
    | (refine quiet_run (.int .i64 uu) ?_ ?_; (focus (intro W hW; have h := CM.out W hW; go_simp; done)); go_simp)
    | (refine quiet_run (.bool le) ?_ ?_; (focus (intro W hW; have h := HLE.out; go_simp; done)); go_simp)); go_big_quiet_on))
  refine wpQuiet_nil ?_
  intro w1 hw1
  have B1 := hidd_ hw1
  clear hw1 hle hm e1 e2 f1 f2
  cases le
  · have HIN := hidd_ (show r = decide ((⟨dc, dn⟩ : DotV) ∈ ms) by rw [HF2.out, Bool.false_or])
    go_upto_region 4 with fail
    go_loopw [5] (fun i wr => ∃ k : Nat, k ≤ n ∧ i = .int .i64 k ∧ Hid (Below w2.heap.size w2 wr) ∧ Hid (∀ j, j < k → ms.getD j ⟨0, 0⟩ ≠ ⟨dc, dn⟩)) (fun i _ => n - (intOf i).toNat)
    case atStart => exact ⟨0, by omega, rfl, B1, hidd_ (fun j hj => by omega)⟩
    case round =>
      obtain ⟨k, hk, rfl, HB, HO⟩ := hrel
      have hcx := CX.out _ HB.out
      by_cases hlt : k < n
      · obtain ⟨b, off, rfl, hbl, hcell⟩ := R2.out (by rw [HN.out]; omega)
        have hbw : b < w2.heap.size := by omega
        obtain ⟨x, hx⟩ : ∃ x, ms.getD k ⟨0, 0⟩ = x := ⟨_, rfl⟩
        have hcc := hcell k (by rw [HN.out]; exact hlt)
        rw [hx] at hcc
        have HXX := hidd_ hx
        have t0 : (0 : Int) ≤ (k : Int) := by omega
        have tn : (k : Int) < (n : Int) := by omega
        have CXX := hidd_ (fun W (h : Below w2.heap.size w2 W) => row_two ((h.cell (p := ⟨b, _, none⟩) hbw).trans hcc.1) ((h.cell (p := ⟨b, _, none⟩) hbw).trans hcc.2))
        have IXX := hidd_ (show (Try.prog.info? 27).map (·.size) = some x.row.size from iD_)
        obtain ⟨bq, hbq⟩ : ∃ q, decide (x = (⟨dc, dn⟩ : DotV)) = q := ⟨_, rfl⟩
        have HBQ := hidd_ hbq
        clear hx hcc hcell hbq
        go_upto_region 6 with fail
        refine region_quiet_in (C := fun W => Below w2.heap.size w2 W) (by kernel_rfl) (by kernel_rfl) (Below.drew HB.out) ?_
        repeat (first | go_big_quiet_skip | (go_big_quiet_want; (first
          | (refine BigFrame.quiet_move _ rfl ?_; go_simp)
          | (refine BigFrame.quiet_assign _ rfl ?_; go_simp)
          | (refine quiet_load_rowd 27 (.tmp 3) rfl (g + 1) rfl 27 (DotV.row ⟨dc, dn⟩) _ Try.underlying27 rfl ID.out CD.out ?_; go_simp)
          | (refine quiet_load_sub 27 (.tmp 25) rfl b (off + k * 2) rfl x.row _ Try.underlying27 rfl IXX.out CXX.out ?_; go_simp)
          | (refine quiet_run (.pointer (some ⟨g, 16, none⟩)) ?_ ?_; (focus (intro W hW; go_simp; done)); go_simp)
          | (refine quiet_run (.slice (some ⟨b, off, none⟩) n c) ?_ ?_; (focus (intro W hW; have h := CX.out W hW; go_simp; done)); go_simp)
          | (refine quiet_run (.pointer (some ⟨b, off + k * 2, none⟩)) ?_ ?_; (focus (intro W hW; go_simp; done)); go_simp)
          | (refine quiet_eqlD (.tmp 26) (.tmp 27) _ rfl x ⟨dc, dn⟩ rfl rfl ?_; rw [HBQ.out]; go_simp)); go_big_quiet_on))
        refine wpQuiet_nil ?_
        intro w7 hw7
        have B7 := hidd_ hw7
        clear hw7 CXX hcx
        cases bq
        · have hne : ¬ x = ⟨dc, dn⟩ := of_decide_eq_false HBQ.out
          have HO2 := hidd_ (show ∀ j, j < k + 1 → ms.getD j ⟨0, 0⟩ ≠ ⟨dc, dn⟩ from fun j hj => by
            rcases Nat.lt_or_ge j k with h | h
            · exact HO.out j h
            · obtain rfl : j = k := by omega
              rw [HXX.out]; exact hne)
          clear hne
          go_wp2
          go_roundw
          case rel => exact ⟨k + 1, by omega, by go_num, B7, HO2⟩
          case measure => simp [intOf]; omega
        · have he : x = ⟨dc, dn⟩ := of_decide_eq_true HBQ.out
          have HM := hidd_ (show (⟨dc, dn⟩ : DotV) ∈ ms by
            rw [← he, ← HXX.out]
            have : k < ms.length := by rw [HN.out]; exact hlt
            simp only [List.getD, List.getElem?_eq_getElem this, Option.getD_some]
            exact List.getElem_mem this)
          clear he
          go_wp2
          go_ret
          exact ⟨by rw [HIN.out, decide_eq_true HM.out]; rfl, by first | exact X2.out.trans (B7.out.mono (Nat.le_of_lt hgl)) | (rw [HG.out]; exact X2.out.trans (B7.out.mono (Nat.le_of_lt hgl)))⟩
      · have d1 : decide ((k : Int) < (n : Int)) = false := decide_eq_false (by omega)
        have d2 : decide (k < n) = false := decide_eq_false hlt
        have HM := hidd_ (show (⟨dc, dn⟩ : DotV) ∉ ms from in_take HO.out (by rw [HN.out]; omega))
        go_wp2
        go_ret
        exact ⟨by rw [HIN.out, decide_eq_false HM.out]; rfl, by first | exact X2.out.trans (HB.out.mono (Nat.le_of_lt hgl)) | (rw [HG.out]; exact X2.out.trans (HB.out.mono (Nat.le_of_lt hgl)))⟩
  · go_wp2
    go_ret
    exact ⟨by rw [HF2.out, Bool.true_or]; rfl, by first | exact X2.out.trans (B1.out.mono (Nat.le_of_lt hgl)) | (rw [HG.out]; exact X2.out.trans (B1.out.mono (Nat.le_of_lt hgl)))⟩
end Go.Proofs.Ytjflmfmncepeeaa
