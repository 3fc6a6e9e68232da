/-
  Merged: Js Jt Ju.
-/
import Derived.Test.YtjflmfmncepeeaaJm
import Derived.Test.YtjflmfmncepeeaaIg
import Derived.Test.YtjflmfmncepeeaaJa
import Derived.Test.YtjflmfmncepeeaaIi
import Derived.Test.YtjflmfmncepeeaaJo
namespace Go.Proofs.Ytjflmfmncepeeaa
open Go.ChangeShapes Go.WideShapes Go.ChangeAt Go.RowKit
set_option linter.unusedVariables false
set_option linter.unusedSimpArgs false

theorem lastN_far {up : List Int} {ms : List DotV} (hu : up.length = 16) (h : chk up ms = 0) (z : Int) : ∀ k, k ≤ ms.length → lastN up ms z k ≤ 1099511627776
  | 0, _ => ((chk_can hu h).1.up16.2 _).2
  | k + 1, hk => by
    have ih := lastN_far hu h z k (by omega)
    have hd := isD_iff.1 ((chk_can hu h).1.dots _ (getD_mem (show k < ms.length by omega)))
    rw [lastN]
    split <;> omega

set_option maxRecDepth 100000 in
set_option maxHeartbeats 8000000 in
theorem refNext_any (w : World) (up : List Int) (hu : up.length = 16) (A : Option Addr) (n c : Nat) (ms : List DotV) (hn : ms.length = n) (hn6 : n ≤ 1000000) (hc : n ≤ c) (hr : RdD w w.heap.size A ms) (z : Int) :
    Calls Try.prog 14 #[.agg (ctxRow up A n c), .int .i64 z] w fun e w' => e = .returned (.tuple #[.int .i64 (nxt up ms z).1, .int .i64 (nxt up ms z).2]) ∧ Below w.heap.size w w' := by
  obtain ⟨g, hg⟩ : ∃ g, w.heap.size = g := ⟨_, rfl⟩
  obtain ⟨w0, hw0⟩ : ∃ w0, w.alloc (.cells (ctxRow up A n c) 25) = w0 := ⟨_, rfl⟩
  have K0 := hidd_ (show Bk w0 g 25 (ctxRow up A n c) by rw [← hw0, ← hg]; exact Bk.new w _ _)
  have X0 := hidd_ (show Below g w w0 by rw [← hw0, ← hg]; exact (Below.refl _ _).alloc (Nat.le_refl _) _)
  rw [hg] at hr
  have hgl : g < w0.heap.size := K0.out.lt
  have cc := refCheck_any w0 up hu A n c ms hn hn6 hc ((hr.below X0.out).more (Nat.le_of_lt hgl))
  have IX := hidd_ (show (Try.prog.info? 25).map (·.size) = some (ctxRow up A n c).size by rw [ctxRow_size up A n c hu]; exact iRX_)
  have HG := hidd_ hg
  have HU := hidd_ hu
  have HN := hidd_ hn
  have HR := hidd_ hr
  have HNX := hidd_ (show nxt up ms z = if chk up ms ≠ 0 ∨ isC z = false then (0, 1) else if 1099511627776 ≤ lastN up ms z n then (0, 5) else (lastN up ms z n + 1, 0) by rw [← hn]; rfl)
  have HCU := hidd_ (fun (h : chk up ms = 0) => chk_up h)
  have HFAR := hidd_ (fun (h : chk up ms = 0) => lastN_far hu h z)
  obtain ⟨e, he⟩ : ∃ e, chk up ms = e := ⟨_, rfl⟩
  rw [he] at cc HNX HCU HFAR
  obtain ⟨bz, hbz⟩ : ∃ b, isC z = b := ⟨_, rfl⟩
  have HBZ := hidd_ hbz
  rw [hbz] at HNX
  clear hu hn hr he hbz
  by_cases he0 : e = 0
  · subst he0
    cases bz
    · have hq : nxt up ms z = (0, 1) := by rw [HNX.out]; rfl
      rw [hq]
      have hz16 : ¬ (1 ≤ z ∧ z ≤ 16) := of_decide_eq_false HBZ.out
      clear hq
      by_cases hz1 : z < 1
      · have d1 : decide (z < 1) = true := decide_eq_true hz1
        clear hz1 hz16
        go_enter Try.func14, Try.ntmps14
        go_wp2_with (first
          | (refine wpList_load_row rfl 25 (.tmp 2) rfl g rfl 25 (ctxRow up A n c) (0, 0) _ K0.out Try.underlying25 rfl IX.out ?_)
          | (go_at_call 11; ((with_reducible refine cc.mono ?_); clear cc; rintro e w1 ⟨rfl, hb⟩; have X1 := hidd_ (X0.out.trans (hb.mono (Nat.le_of_lt hgl))); clear hb)))
        go_ret2
        exact ⟨rfl, by first | exact X1.out | (rw [HG.out]; exact X1.out)⟩
      · have d1 : decide (z < 1) = false := decide_eq_false hz1
        have d2 : decide (16 < z) = true := decide_eq_true (by omega)
        clear hz1 hz16
        go_enter Try.func14, Try.ntmps14
        go_wp2_with (first
          | (refine wpList_load_row rfl 25 (.tmp 2) rfl g rfl 25 (ctxRow up A n c) (0, 0) _ K0.out Try.underlying25 rfl IX.out ?_)
          | (go_at_call 11; ((with_reducible refine cc.mono ?_); clear cc; rintro e w1 ⟨rfl, hb⟩; have X1 := hidd_ (X0.out.trans (hb.mono (Nat.le_of_lt hgl))); clear hb)))
        go_ret2
        exact ⟨rfl, by first | exact X1.out | (rw [HG.out]; exact X1.out)⟩
    · have hz16 : 1 ≤ z ∧ z ≤ 16 := of_decide_eq_true HBZ.out
      obtain ⟨m, hm⟩ : ∃ m : Nat, z - 1 = (m : Int) := ⟨(z - 1).toNat, by omega⟩
      have hm16 : m < 16 := by omega
      have HMM := hidd_ (show (z - 1).toNat = m by omega)
      have HUB := hidd_ (HCU.out rfl m hm16)
      have HL0 := hidd_ (show lastN up ms z 0 = up.getD m 0 by rw [lastN, HMM.out])
      have HLG := hidd_ (fun k => (show 0 ≤ lastN up ms z k by have h1 := lastN_ge up ms z k; rw [HMM.out] at h1; have := HUB.out.1; omega))
      have HLF := hidd_ (fun k (hk : k ≤ n) => HFAR.out rfl k (by rw [HN.out]; exact hk))
      have e1 : IntKind.i64.wrap (z - 1) = (m : Int) := by rw [IntWalk.i64_in _ (by omega)]; exact hm
      have e2 : IntKind.i64.wrap (m : Int) = (m : Int) := IntWalk.i64_in _ (by omega)
      have f1 : (0 : Int) ≤ (m : Int) := by omega
      have f2 : (m : Int) < 16 := by omega
      have d1 : decide (z < 1) = false := decide_eq_false (by omega)
      have d2 : decide (16 < z) = false := decide_eq_false (by omega)
      have HR2 := hidd_ (show nxt up ms z = if 1099511627776 ≤ lastN up ms z n then (0, 5) else (lastN up ms z n + 1, 0) by rw [HNX.out, if_neg (by simp)])
      obtain ⟨r, hr0⟩ : ∃ r, nxt up ms z = r := ⟨_, rfl⟩
      have HRES := hidd_ hr0
      rw [hr0]
      clear hr0 HNX HCU hz16 HFAR
      have hm' := hm
      go_enter Try.func14, Try.ntmps14
      go_upto_region 3 with (first
        | (refine wpList_load_row rfl 25 (.tmp 2) rfl g rfl 25 (ctxRow up A n c) (0, 0) _ K0.out Try.underlying25 rfl IX.out ?_)
        | (go_at_call 11; ((with_reducible refine cc.mono ?_); clear cc; rintro e w1 ⟨rfl, hb⟩; have K1 := hidd_ (K0.out.below hb hgl); have X1 := hidd_ (X0.out.trans (hb.mono (Nat.le_of_lt hgl))); clear hb)))
      have hcm := (K1.out.cell m).trans (ctxRow_up up A n c m HU.out hm16)
      have hcx := (K1.out.cell 16).trans (ctxRow_more up A n c HU.out)
      obtain ⟨u0, hu0⟩ : ∃ u, up.getD m 0 = u := ⟨_, rfl⟩
      rw [hu0] at hcm HL0
      clear hu0
      have R1 := hidd_ (HR.out.below X1.out)
      clear K0 X0 hw0
      go_upto_region 5 with fail
      clear hcm e1 e2 f1 f2 hm hm'
      go_loopw [6, 7] (fun v6 i wr => ∃ k : Nat, k ≤ n ∧ i = .int .i64 k ∧ v6 = .int .i64 (lastN up ms z k) ∧ w1 = wr) (fun _ i _ => n - (intOf i).toNat)
      case atStart => exact ⟨0, by omega, rfl, by rw [HL0.out], rfl⟩
      case round =>
        obtain ⟨k, hk, rfl, rfl, rfl⟩ := hrel
        by_cases hlt : k < n
        · obtain ⟨b, off, rfl, hbl, hcell⟩ := R1.out (by rw [HN.out]; omega)
          obtain ⟨d, hd⟩ : ∃ d, ms.getD k ⟨0, 0⟩ = d := ⟨_, rfl⟩
          have hcd := hcell k (by rw [HN.out]; exact hlt)
          have HSTEP := hidd_ (show lastN up ms z (k + 1) = if d.c = z then max (lastN up ms z k) d.n else lastN up ms z k by rw [lastN, hd])
          rw [hd] at hcd
          obtain ⟨dc, dn⟩ := d
          obtain ⟨c1, c2⟩ := hcd
          have t0 : (0 : Int) ≤ (k : Int) := by omega
          have tn : (k : Int) < (n : Int) := by omega
          clear hd hcell
          obtain ⟨L, hL⟩ : ∃ L, lastN up ms z k = L := ⟨_, rfl⟩
          obtain ⟨mx, hmx⟩ : ∃ x, x = max L dn := ⟨_, rfl⟩
          have hmax := fun W ts t => run_max2 L dn mx hmx W ts t
          have HMX := hidd_ hmx
          rw [hL] at HSTEP ⊢
          clear hL hmx
          by_cases hz : dc = z
          · have z1 : (dc == z) = true := by simp [hz]
            have z2 : decide (dc = z) = true := decide_eq_true hz
            have HS := hidd_ (show lastN up ms z (k + 1) = mx by rw [HSTEP.out, if_pos hz, HMX.out])
            clear hz
            go_wp2
            go_roundw
            case rel => exact ⟨k + 1, by omega, by go_num, by rw [HS.out], trivial⟩
            case measure => simp [intOf]; omega
          · have z1 : (dc == z) = false := by simp [hz]
            have z2 : decide (dc = z) = false := decide_eq_false hz
            have HS := hidd_ (show lastN up ms z (k + 1) = L by rw [HSTEP.out, if_neg hz])
            clear hz
            go_wp2
            go_roundw
            case rel => exact ⟨k + 1, by omega, by go_num, by rw [HS.out], trivial⟩
            case measure => simp [intOf]; omega
        · have hkn : k = n := by omega
          have d1' : decide ((k : Int) < (n : Int)) = false := decide_eq_false (by omega)
          have d2' : decide (k < n) = false := decide_eq_false hlt
          have HF := hidd_ (show r = if 1099511627776 ≤ lastN up ms z k then (0, 5) else (lastN up ms z k + 1, 0) by rw [← HRES.out, HR2.out, hkn])
          have hge := HLG.out k
          have hlf := HLF.out k hk
          generalize lastN up ms z k = L at *
          have e3 : IntKind.i64.wrap (L + 1) = L + 1 := IntWalk.i64_in _ (by omega)
          clear hkn hlt
          by_cases hb : 1099511627776 ≤ L
          · have d3 : decide (1099511627776 < L + 1) = true := decide_eq_true (by omega)
            have HQ := hidd_ (show r = (0, 5) by rw [HF.out, if_pos hb])
            clear hb
            obtain rfl := HQ.out
            go_wp2
            go_ret2
            exact ⟨rfl, by first | exact X1.out | (rw [HG.out]; exact X1.out)⟩
          · have d3 : decide (1099511627776 < L + 1) = false := decide_eq_false (by omega)
            have HQ := hidd_ (show r = (L + 1, 0) by rw [HF.out, if_neg hb])
            clear hb
            obtain rfl := HQ.out
            go_wp2
            go_ret2
            exact ⟨rfl, by first | exact X1.out | (rw [HG.out]; exact X1.out)⟩
  · have b1 : (e == 0) = false := by simpa using he0
    have b2 : (e != 0) = true := by simpa using he0
    have hq : nxt up ms z = (0, 1) := by rw [HNX.out, if_pos (.inl he0)]
    rw [hq]
    clear hq he0
    go_enter Try.func14, Try.ntmps14
    go_wp2_with (first
      | (refine wpList_load_row rfl 25 (.tmp 2) rfl g rfl 25 (ctxRow up A n c) (0, 0) _ K0.out Try.underlying25 rfl IX.out ?_)
      | (go_at_call 11; ((with_reducible refine cc.mono ?_); clear cc; rintro e w1 ⟨rfl, hb⟩; have X1 := hidd_ (X0.out.trans (hb.mono (Nat.le_of_lt hgl))); clear hb)))
    go_ret2
    exact ⟨rfl, by first | exact X1.out | (rw [HG.out]; exact X1.out)⟩
end Go.Proofs.Ytjflmfmncepeeaa

namespace Go.Proofs.Ytjflmfmncepeeaa
open Go.ChangeShapes Go.WideShapes Go.ChangeAt Go.RowKit
set_option linter.unusedVariables false
set_option linter.unusedSimpArgs false

set_option maxRecDepth 100000 in
set_option maxHeartbeats 8000000 in
theorem refHas_any (w : World) (up : List Int) (hu : up.length = 16) (A : Option Addr) (n c : Nat) (ms : List DotV) (hn : ms.length = n) (hn6 : n ≤ 1000000) (hr : RdD w w.heap.size A ms) (d : DotV) (hk : chk up ms = 0) (hd : isD d = true) :
    Calls Try.prog 19 #[.agg (ctxRow up A n c), .agg d.row] w fun e w' => e = .returned (.bool (hasR up ms d)) ∧ Below w.heap.size w w' := by
  obtain ⟨g, hg⟩ : ∃ g, w.heap.size = g := ⟨_, rfl⟩
  obtain ⟨wa, hwa⟩ : ∃ w0, w.alloc (.cells (ctxRow up A n c) 25) = w0 := ⟨_, rfl⟩
  have Ka := show Bk wa g 25 (ctxRow up A n c) by rw [← hwa, ← hg]; exact Bk.new w _ _
  have Xa := show Below g w wa by rw [← hwa, ← hg]; exact (Below.refl _ _).alloc (Nat.le_refl _) _
  have Sa : wa.heap.size = g + 1 := by rw [← hwa, ← hg]; simp
  obtain ⟨w2, hw2⟩ : ∃ w0, wa.alloc (.cells d.row 27) = w0 := ⟨_, rfl⟩
  have b0 : Below wa.heap.size wa w2 := by rw [← hw2]; exact (Below.refl _ _).alloc (Nat.le_refl _) _
  have D2 := hidd_ (show Bk w2 (g + 1) 27 d.row by rw [← Sa, ← hw2]; exact Bk.new wa _ _)
  have K2 := hidd_ (Ka.below b0 Ka.lt)
  have X2 := hidd_ (Xa.trans (b0.mono (by omega)))
  rw [hg] at hr
  have hgl : g < w2.heap.size := K2.out.lt
  have hgl1 : g + 1 < w2.heap.size := D2.out.lt
  have R2 := hidd_ ((hr.below X2.out).more (Nat.le_of_lt hgl))
  have ID := hidd_ (show (Try.prog.info? 27).map (·.size) = some d.row.size from iD_)
  have HG := hidd_ hg
  have HU := hidd_ hu
  have HN := hidd_ hn
  have HF0 := hidd_ (show hasR up ms d = (decide (d.n ≤ up.getD (d.c - 1).toNat 0) || decide (d ∈ ms)) by unfold hasR; rw [if_neg (by rw [hk, hd]; simp)])
  obtain ⟨hb1, hb2⟩ : (1 ≤ d.c ∧ d.c ≤ 16) ∧ 1 ≤ d.n ∧ d.n ≤ 1099511627776 := of_decide_eq_true hd
  obtain ⟨r, hr0⟩ : ∃ r, hasR up ms d = r := ⟨_, rfl⟩
  have HRR := hidd_ hr0
  rw [hr0]
  obtain ⟨m, hm⟩ : ∃ m : Nat, d.c - 1 = (m : Int) := ⟨(d.c - 1).toNat, by omega⟩
  have hm16 : m < 16 := by omega
  obtain ⟨uu, huu⟩ : ∃ u, up.getD m 0 = u := ⟨_, rfl⟩
  have HF := hidd_ (show r = (decide (d.n ≤ uu) || decide (d ∈ ms)) by rw [← hr0, HF0.out, show (d.c - 1).toNat = m by omega, huu])
  have e1 : IntKind.i64.wrap (d.c - 1) = (m : Int) := by rw [IntWalk.i64_in _ (by omega)]; exact hm
  have e2 : IntKind.i64.wrap (m : Int) = (m : Int) := IntWalk.i64_in _ (by omega)
  have f1 : (0 : Int) ≤ (m : Int) := by omega
  have f2 : (m : Int) < 16 := by omega
  have CK := hidd_ (fun W (h : Below w2.heap.size w2 W) => K2.out.below h K2.out.lt)
  have CM := hidd_ (fun W (h : Below w2.heap.size w2 W) => ((CK.out W h).cell m).trans ((ctxRow_up up A n c m HU.out hm16).trans (by rw [huu])))
  have CX := hidd_ (fun W (h : Below w2.heap.size w2 W) => ((CK.out W h).cell 16).trans (ctxRow_more up A n c HU.out))
  have CD := hidd_ (fun W (h : Below w2.heap.size w2 W) => D2.out.below h D2.out.lt)
  have hzr := zRX_
  have hzD := zD_
  obtain ⟨dc, dn⟩ := d
  have CT := hidd_ (fun W (h : Below w2.heap.size w2 W) => Bk.twod (show Bk W (g + 1) 27 #[.int .i64 dc, .int .i64 dn] from CD.out W h))
  obtain ⟨le, hle⟩ : ∃ x, decide (dn ≤ uu) = x := ⟨_, rfl⟩
  have HLE := hidd_ hle
  have EQ := hidd_ (fun x W => eqlD x ⟨dc, dn⟩ W)
  have EQ2 := hidd_ (fun x W => equalD x ⟨dc, dn⟩ W)
  have HF2 := hidd_ (show r = (le || decide ((⟨dc, dn⟩ : DotV) ∈ ms)) by rw [← hle]; exact HF.out)
  simp only at hm hb1 hb2 e1
  clear hr hn hu hr0 huu hb1 hb2 hk hd HF HF0 CK Ka Xa b0
  go_enter Try.func19, Try.ntmps19
  go_upto_region 1 with fail
  clear hw2 hwa hg Sa
  refine region_quiet_in (C := fun W => Below w2.heap.size w2 W) (by kernel_rfl) (by kernel_rfl) ((Below.refl _ _).drew) ?_
  repeat (first | go_big_quiet_skip | (go_big_quiet_want; (first
    | (refine BigFrame.quiet_move _ rfl ?_; go_simp)
    | (refine BigFrame.quiet_assign _ rfl ?_; go_simp)
    | (refine quiet_run (.pointer (some ⟨g + 1, 1, none⟩)) ?_ ?_; (focus (intro W hW; go_simp; done)); go_simp)
    | (refine quiet_run (.pointer (some ⟨g + 1, 0, none⟩)) ?_ ?_; (focus (intro W hW; go_simp; done)); go_simp)
    | (refine quiet_run (.pointer (some ⟨g, 0, none⟩)) ?_ ?_; (focus (intro W hW; go_simp; done)); go_simp)
    | (refine quiet_run (.pointer (some ⟨g, m, none⟩)) ?_ ?_; (focus (intro W hW; go_simp; done)); go_simp)
    | (refine quiet_run (.int .i64 dn) ?_ ?_; (focus (intro W hW; have h := (CT.out W hW).2; go_simp; done)); go_simp)
    | (refine quiet_run (.int .i64 dc) ?_ ?_; (focus (intro W hW; have h := (CT.out W hW).1; go_simp; done)); go_simp)
    | (refine quiet_run (.int .i64 (m : Int)) ?_ ?_; (focus (intro W hW; go_simp; done)); go_simp)
    | (refine quiet_run (.int .i64 uu) ?_ ?_; (focus (intro W hW; have h := CM.out W hW; go_simp; done)); go_simp)
    | (refine quiet_run (.bool le) ?_ ?_; (focus (intro W hW; have h := HLE.out; go_simp; done)); go_simp)); go_big_quiet_on))
  refine wpQuiet_nil ?_
  intro w1 hw1
  have B1 := hidd_ hw1
  clear hw1 hle hm e1 e2 f1 f2
  cases le
  · have HIN := hidd_ (show r = decide ((⟨dc, dn⟩ : DotV) ∈ ms) by rw [HF2.out, Bool.false_or])
    go_upto_region 4 with fail
    go_loopw [5] (fun i wr => ∃ k : Nat, k ≤ n ∧ i = .int .i64 k ∧ Hid (Below w2.heap.size w2 wr) ∧ Hid (∀ j, j < k → ms.getD j ⟨0, 0⟩ ≠ ⟨dc, dn⟩)) (fun i _ => n - (intOf i).toNat)
    case atStart => exact ⟨0, by omega, rfl, B1, hidd_ (fun j hj => by omega)⟩
    case round =>
      obtain ⟨k, hk, rfl, HB, HO⟩ := hrel
      have hcx := CX.out _ HB.out
      by_cases hlt : k < n
      · obtain ⟨b, off, rfl, hbl, hcell⟩ := R2.out (by rw [HN.out]; omega)
        have hbw : b < w2.heap.size := by omega
        obtain ⟨x, hx⟩ : ∃ x, ms.getD k ⟨0, 0⟩ = x := ⟨_, rfl⟩
        have hcc := hcell k (by rw [HN.out]; exact hlt)
        rw [hx] at hcc
        have HXX := hidd_ hx
        have t0 : (0 : Int) ≤ (k : Int) := by omega
        have tn : (k : Int) < (n : Int) := by omega
        have CXX := hidd_ (fun W (h : Below w2.heap.size w2 W) => row_two ((h.cell (p := ⟨b, _, none⟩) hbw).trans hcc.1) ((h.cell (p := ⟨b, _, none⟩) hbw).trans hcc.2))
        have IXX := hidd_ (show (Try.prog.info? 27).map (·.size) = some x.row.size from iD_)
        obtain ⟨bq, hbq⟩ : ∃ q, decide (x = (⟨dc, dn⟩ : DotV)) = q := ⟨_, rfl⟩
        have HBQ := hidd_ hbq
        clear hx hcc hcell hbq
        go_upto_region 6 with fail
        refine region_quiet_in (C := fun W => Below w2.heap.size w2 W) (by kernel_rfl) (by kernel_rfl) (Below.drew HB.out) ?_
        repeat (first | go_big_quiet_skip | (go_big_quiet_want; (first
          | (refine BigFrame.quiet_move _ rfl ?_; go_simp)
          | (refine BigFrame.quiet_assign _ rfl ?_; go_simp)
          | (refine quiet_load_rowd 27 (.tmp 3) rfl (g + 1) rfl 27 (DotV.row ⟨dc, dn⟩) _ Try.underlying27 rfl ID.out CD.out ?_; go_simp)
          | (refine quiet_load_sub 27 (.tmp 25) rfl b (off + k * 2) rfl x.row _ Try.underlying27 rfl IXX.out CXX.out ?_; go_simp)
          | (refine quiet_run (.pointer (some ⟨g, 16, none⟩)) ?_ ?_; (focus (intro W hW; go_simp; done)); go_simp)
          | (refine quiet_run (.slice (some ⟨b, off, none⟩) n c) ?_ ?_; (focus (intro W hW; have h := CX.out W hW; go_simp; done)); go_simp)
          | (refine quiet_run (.pointer (some ⟨b, off + k * 2, none⟩)) ?_ ?_; (focus (intro W hW; go_simp; done)); go_simp)
          | (refine quiet_eqlD (.tmp 26) (.tmp 27) _ rfl x ⟨dc, dn⟩ rfl rfl ?_; rw [HBQ.out]; go_simp)); go_big_quiet_on))
        refine wpQuiet_nil ?_
        intro w7 hw7
        have B7 := hidd_ hw7
        clear hw7 CXX hcx
        cases bq
        · have hne : ¬ x = ⟨dc, dn⟩ := of_decide_eq_false HBQ.out
          have HO2 := hidd_ (show ∀ j, j < k + 1 → ms.getD j ⟨0, 0⟩ ≠ ⟨dc, dn⟩ from fun j hj => by
            rcases Nat.lt_or_ge j k with h | h
            · exact HO.out j h
            · obtain rfl : j = k := by omega
              rw [HXX.out]; exact hne)
          clear hne
          go_wp2
          go_roundw
          case rel => exact ⟨k + 1, by omega, by go_num, B7, HO2⟩
          case measure => simp [intOf]; omega
        · have he : x = ⟨dc, dn⟩ := of_decide_eq_true HBQ.out
          have HM := hidd_ (show (⟨dc, dn⟩ : DotV) ∈ ms by
            rw [← he, ← HXX.out]
            have : k < ms.length := by rw [HN.out]; exact hlt
            simp only [List.getD, List.getElem?_eq_getElem this, Option.getD_some]
            exact List.getElem_mem this)
          clear he
          go_wp2
          go_ret
          exact ⟨by rw [HIN.out, decide_eq_true HM.out]; rfl, by first | exact X2.out.trans (B7.out.mono (Nat.le_of_lt hgl)) | (rw [HG.out]; exact X2.out.trans (B7.out.mono (Nat.le_of_lt hgl)))⟩
      · have d1 : decide ((k : Int) < (n : Int)) = false := decide_eq_false (by omega)
        have d2 : decide (k < n) = false := decide_eq_false hlt
        have HM := hidd_ (show (⟨dc, dn⟩ : DotV) ∉ ms from in_take HO.out (by rw [HN.out]; omega))
        go_wp2
        go_ret
        exact ⟨by rw [HIN.out, decide_eq_false HM.out]; rfl, by first | exact X2.out.trans (HB.out.mono (Nat.le_of_lt hgl)) | (rw [HG.out]; exact X2.out.trans (HB.out.mono (Nat.le_of_lt hgl)))⟩
  · go_wp2
    go_ret
    exact ⟨by rw [HF2.out, Bool.true_or]; rfl, by first | exact X2.out.trans (B1.out.mono (Nat.le_of_lt hgl)) | (rw [HG.out]; exact X2.out.trans (B1.out.mono (Nat.le_of_lt hgl)))⟩
end Go.Proofs.Ytjflmfmncepeeaa

namespace Go.Proofs.Ytjflmfmncepeeaa
open Go.ChangeShapes Go.WideShapes Go.ChangeAt Go.RowKit
set_option linter.unusedVariables false
set_option linter.unusedSimpArgs false

theorem numL_nat (q : Nat) : numL (q : Int) = highB 8 q := by unfold numL; rw [if_neg (by omega)]; rfl
theorem smallL_nat (q : Nat) (h : q < 256) : smallL (q : Int) = [UInt8.ofNat q] := by unfold smallL; rw [if_pos (by omega)]; rfl

set_option maxRecDepth 100000 in
set_option maxHeartbeats 8000000 in
theorem refWrite_any (w : World) (up : List Int) (hu : up.length = 16) (A : Option Addr) (n c : Nat) (ms : List DotV) (hn : ms.length = n) (hr : RdD w w.heap.size A ms) (hk : chk up ms = 0) :
    Calls Try.prog 23 #[.agg (ctxRow up A n c)] w fun e w' => e = .returned (.string (strOf (wrB up ms))) ∧ Below w.heap.size w w' := by
  obtain ⟨g, hg⟩ : ∃ g, w.heap.size = g := ⟨_, rfl⟩
  obtain ⟨w1, hw1⟩ : ∃ w0, w.alloc (.cells (ctxRow up A n c) 25) = w0 := ⟨_, rfl⟩
  have K1 := hidd_ (show Bk w1 g 25 (ctxRow up A n c) by rw [← hw1, ← hg]; exact Bk.new w _ _)
  have X1 := hidd_ (show Below g w w1 by rw [← hw1, ← hg]; exact (Below.refl _ _).alloc (Nat.le_refl _) _)
  rw [hg] at hr
  have hgl : g < w1.heap.size := K1.out.lt
  have R1 := hidd_ ((hr.below X1.out).more (Nat.le_of_lt hgl))
  obtain ⟨hcan, hl32⟩ := chk_can hu hk
  have HCAN := hidd_ hcan
  have HG := hidd_ hg
  have HU := hidd_ hu
  have HN := hidd_ hn
  have hn32 : n ≤ 32 := by omega
  have CK := hidd_ (fun W (h : Below w1.heap.size w1 W) => K1.out.below h K1.out.lt)
  have CX := hidd_ (fun W (h : Below w1.heap.size w1 W) => ((CK.out W h).cell 16).trans (ctxRow_more up A n c HU.out))
  clear hu hn hr hk hcan hl32
  go_enter Try.func23, Try.ntmps23
  go_upto_region 3 with fail
  clear hw1 hg
  go_loopw [3, 4] (fun v3 i wr => ∃ k : Nat, k ≤ 16 ∧ i = .int .i64 k ∧ v3 = .string (strOf (numsB (up.take k))) ∧ Hid (Below w1.heap.size w1 wr)) (fun _ i _ => 16 - (intOf i).toNat)
  case atStart => exact ⟨0, by omega, rfl, rfl, hidd_ (Below.refl _ _)⟩
  case round =>
    obtain ⟨k, hk, rfl, rfl, HB⟩ := hrel
    by_cases hlt : k < 16
    · have hub := HCAN.out.up16.2 k
      obtain ⟨q, hq⟩ : ∃ q : Nat, up.getD k 0 = (q : Int) := ⟨(up.getD k 0).toNat, by omega⟩
      have hcz := ((CK.out _ HB.out).cell k).trans ((ctxRow_up up A n c k HU.out hlt).trans (by rw [hq]))
      have HST := hidd_ (show numsB (up.take (k + 1)) = numsB (up.take k) ++ highB 8 q by rw [numsB_snoc up k (by rw [HU.out]; exact hlt), hq]; rfl)
      have hle : (strOf (numsB (up.take k))).size ≤ 128 := by rw [strOf_size, numsB_len, List.length_take]; omega
      have hl8 : (strOf (highB 8 q)).size = 8 := by rw [strOf_size, highB_len]
      have cn := refNum_any wr (q : Int) (by omega)
      rw [numL_nat] at cn
      have t0 : (0 : Int) ≤ (k : Int) := by omega
      have t1 : (k : Int) < 16 := by omega
      clear hub hq
      generalize numsB (up.take k) = sa at *
      generalize highB 8 q = sb at *
      have hadd : (strOf sa).size + (strOf sb).size ≤ 9223372036854775807 := by omega
      have hap := strOf_append sa sb
      go_wp2_with (go_at_call 43; ((with_reducible refine cn.mono ?_); clear cn; rintro e w5 ⟨rfl, hb⟩; have B5 := hidd_ (HB.out.trans (hb.mono HB.out.size)); clear hb))
      go_roundw
      case rel => exact ⟨k + 1, by omega, by go_num, by rw [HST.out], B5⟩
      case measure => simp [intOf]; omega
    · have HK16 := hidd_ (show k = 16 by omega)
      have d1 : decide ((k : Int) < 16) = false := decide_eq_false (by omega)
      have d2 : decide (k < 16) = false := decide_eq_false hlt
      have HP := hidd_ (show wrB up ms = numsB (up.take k) ++ [UInt8.ofNat n] ++ dotsB (ms.take n) by rw [HK16.out, ← HN.out]; exact (wrB_take up ms HU.out _ rfl).symm)
      have hle : (strOf (numsB (up.take k))).size ≤ 128 := by rw [strOf_size, numsB_len, List.length_take]; omega
      have hl1 : (strOf [UInt8.ofNat n]).size = 1 := by rw [strOf_size]; rfl
      have cs := refSmall_any wr (n : Int) (by omega)
      rw [smallL_nat n (by omega)] at cs
      have hcx := CX.out _ HB.out
      generalize numsB (up.take k) = sa at *
      obtain ⟨sb, hsb⟩ : ∃ s, [UInt8.ofNat n] = s := ⟨_, rfl⟩
      rw [hsb] at cs HP hl1
      have hadd : (strOf sa).size + (strOf sb).size ≤ 9223372036854775807 := by omega
      have hap := strOf_append sa sb
      obtain ⟨PP, hPP⟩ : ∃ p, sa ++ sb = p := ⟨_, rfl⟩
      rw [hPP] at HP hap
      have HPL := hidd_ (show PP.length ≤ 129 by rw [strOf_size] at hle hl1; rw [← hPP, List.length_append]; omega)
      clear hPP hsb hlt
      go_upto_region 8 with (go_at_call 44; ((with_reducible refine cs.mono ?_); clear cs; rintro e w5 ⟨rfl, hb⟩; have B5 := hidd_ (HB.out.trans (hb.mono HB.out.size)); clear hb))
      clear hcx hap hadd hle hl1 HB d1 d2
      obtain ⟨wp, hwp⟩ : ∃ x, x = wr := ⟨_, rfl⟩
      clear hwp
      go_loopw [3, 5] (fun v3 i wr => ∃ k : Nat, k ≤ n ∧ i = .int .i64 k ∧ v3 = .string (strOf (PP ++ dotsB (ms.take k))) ∧ Hid (Below w1.heap.size w1 wr)) (fun _ i _ => n - (intOf i).toNat)
      case atStart => exact ⟨0, by omega, rfl, by rw [List.take_zero, show dotsB [] = [] from rfl, List.append_nil], B5⟩
      case round =>
        obtain ⟨j, hj, rfl, rfl, HB⟩ := hrel
        have hcx := CX.out _ HB.out
        by_cases hlt : j < n
        · obtain ⟨b, off, rfl, hbl, hcell⟩ := R1.out (by rw [HN.out]; omega)
          obtain ⟨x, hx⟩ : ∃ x, ms.getD j ⟨0, 0⟩ = x := ⟨_, rfl⟩
          have hcc := hcell j (by rw [HN.out]; exact hlt)
          have hdx := isD_iff.1 (HCAN.out.dots _ (getD_mem (show j < ms.length by rw [HN.out]; exact hlt)))
          have HSN := hidd_ (dotsB_snoc ms j (by rw [HN.out]; exact hlt))
          rw [hx] at hcc hdx HSN
          obtain ⟨dc, dn⟩ := x
          simp only at hcc hdx HSN
          obtain ⟨qc, rfl⟩ : ∃ q : Nat, dc = (q : Int) := ⟨dc.toNat, by omega⟩
          obtain ⟨qn, rfl⟩ : ∃ q : Nat, dn = (q : Int) := ⟨dn.toNat, by omega⟩
          have t0 : (0 : Int) ≤ (j : Int) := by omega
          have tn : (j : Int) < (n : Int) := by omega
          have C1 := hidd_ (fun W (h : Below w1.heap.size w1 W) => (h.cell (p := ⟨b, _, none⟩) hbl).trans hcc.1)
          have C2 := hidd_ (fun W (h : Below w1.heap.size w1 W) => (h.cell (p := ⟨b, _, none⟩) hbl).trans hcc.2)
          have P1 : Hid (∀ W, Below w1.heap.size w1 W → Calls Try.prog 43 #[.int .i64 (qc : Int)] W fun e w' => e = .returned (.string (strOf (highB 8 qc))) ∧ Below w1.heap.size w1 w') := hidd_ (fun W h => (refNum_any W (qc : Int) (by omega)).mono fun e w' hh => ⟨by rw [hh.1, numL_nat], h.trans (hh.2.mono h.size)⟩)
          have P2 : Hid (∀ W, Below w1.heap.size w1 W → Calls Try.prog 43 #[.int .i64 (qn : Int)] W fun e w' => e = .returned (.string (strOf (highB 8 qn))) ∧ Below w1.heap.size w1 w') := hidd_ (fun W h => (refNum_any W (qn : Int) (by omega)).mono fun e w' hh => ⟨by rw [hh.1, numL_nat], h.trans (hh.2.mono h.size)⟩)
          have hT : (PP ++ dotsB (ms.take j)).length ≤ 641 := by have := HPL.out; rw [List.length_append, dotsB_len, List.length_take]; omega
          have HSN2 := hidd_ (show PP ++ dotsB (ms.take (j + 1)) = PP ++ dotsB (ms.take j) ++ highB 8 qc ++ highB 8 qn by rw [HSN.out]; simp)
          have l1 : (highB 8 qc).length = 8 := highB_len _ _
          have l2 : (highB 8 qn).length = 8 := highB_len _ _
          generalize PP ++ dotsB (ms.take j) = T at *
          generalize highB 8 qc = sc at *
          generalize highB 8 qn = sn at *
          obtain ⟨T1, hT1⟩ : ∃ x, T ++ sc = x := ⟨_, rfl⟩
          obtain ⟨T2, hT2⟩ : ∃ x, T1 ++ sn = x := ⟨_, rfl⟩
          have HSN3 := hidd_ (show PP ++ dotsB (ms.take (j + 1)) = T2 by rw [HSN2.out, hT1, hT2])
          have hT1l : T1.length ≤ 649 := by rw [← hT1, List.length_append]; omega
          have hap1 := strOf_append T sc
          have hap2 := strOf_append T1 sn
          have had1 : (strOf T).size + (strOf sc).size ≤ 9223372036854775807 := by rw [strOf_size, strOf_size]; omega
          have had2 : (strOf T1).size + (strOf sn).size ≤ 9223372036854775807 := by rw [strOf_size, strOf_size]; omega
          rw [hT1] at hap1
          rw [hT2] at hap2
          clear hx hcc hcell hdx HSN HSN2 hT1 hT2 hT hT1l l1 l2
          go_upto_region 10 with fail
          refine region_quiet_in (C := fun W => Below w1.heap.size w1 W) (by kernel_rfl) (by kernel_rfl) (Below.drew HB.out) ?_
          repeat (first | go_big_quiet_skip | (go_big_quiet_want; (first
            | (refine BigFrame.quiet_move _ rfl ?_; go_simp)
            | (refine BigFrame.quiet_assign _ rfl ?_; go_simp)
            | (refine quiet_run (.pointer (some ⟨g, 16, none⟩)) ?_ ?_; (focus (intro W hW; go_simp; done)); go_simp)
            | (refine quiet_run (.slice (some ⟨b, off, none⟩) n c) ?_ ?_; (focus (intro W hW; have h := CX.out W hW; go_simp; done)); go_simp)
            | (refine quiet_run (.pointer (some ⟨b, off + j * 2, none⟩)) ?_ ?_; (focus (intro W hW; go_simp; done)); go_simp)
            | (refine quiet_run (.pointer (some ⟨b, off + j * 2 + 1, none⟩)) ?_ ?_; (focus (intro W hW; go_simp; done)); go_simp)
            | (refine quiet_run (.int .i64 (qc : Int)) ?_ ?_; (focus (intro W hW; have h := C1.out W hW; go_simp; done)); go_simp)
            | (refine quiet_run (.int .i64 (qn : Int)) ?_ ?_; (focus (intro W hW; have h := C2.out W hW; go_simp; done)); go_simp)
            | (refine quiet_call (.string (strOf sc)) 43 #[.int .i64 (qc : Int)] ?_ P1.out ?_; (focus (intro W; go_simp; done)); go_simp)
            | (refine quiet_call (.string (strOf sn)) 43 #[.int .i64 (qn : Int)] ?_ P2.out ?_; (focus (intro W; go_simp; done)); go_simp)
            | (refine quiet_run (.string (strOf T1)) ?_ ?_; (focus (intro W hW; go_simp; done)); go_simp)
            | (refine quiet_run (.string (strOf T2)) ?_ ?_; (focus (intro W hW; go_simp; done)); go_simp)); go_big_quiet_on))
          refine wpQuiet_nil ?_
          intro w7 hw7
          have B7 := hidd_ hw7
          clear hw7 hcx
          go_wp2
          go_roundw
          case rel => exact ⟨j + 1, by omega, by go_num, by rw [HSN3.out], B7⟩
          case measure => simp [intOf]; omega
        · have hjn : j = n := by omega
          have d1 : decide ((j : Int) < (n : Int)) = false := decide_eq_false (by omega)
          have d2 : decide (j < n) = false := decide_eq_false hlt
          have HE := hidd_ (show wrB up ms = PP ++ dotsB (ms.take j) by rw [HP.out, hjn])
          clear hjn
          go_wp2
          go_ret
          exact ⟨by rw [HE.out]; rfl, by first | exact X1.out.trans (HB.out.mono (Nat.le_of_lt hgl)) | (rw [HG.out]; exact X1.out.trans (HB.out.mono (Nat.le_of_lt hgl)))⟩
end Go.Proofs.Ytjflmfmncepeeaa
