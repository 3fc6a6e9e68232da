/-
  dot.Next.
-/
import Derived.Test.YtjflmfmncepeeaaIe
namespace Go.Proofs.Ytjflmfmncepeeaa
open Go.ChangeShapes Go.WideShapes Go.ChangeAt Go.RowKit
set_option linter.unusedVariables false
set_option linter.unusedSimpArgs false

theorem run_max2 (x y m : Int) (hm : m = max x y) (w : World) (ts : Array TypeId) (t : TypeId) :
    (Builtin.max_ ts t #[.int .i64 x, .int .i64 y]).run Try.prog w = .ok (.int .i64 m) w := by
  simp [Builtin.max_, Builtin.max2]
  repeat' split
  all_goals omega
/-- The greatest number of a client among the first k, and all up to a number. -/
def lastN (up : List Int) (ms : List DotV) (z : Int) : Nat → Int
  | 0 => up.getD (z - 1).toNat 0
  | k + 1 => if (ms.getD k ⟨0, 0⟩).c = z then max (lastN up ms z k) (ms.getD k ⟨0, 0⟩).n else lastN up ms z k
theorem lastN_ge (up : List Int) (ms : List DotV) (z : Int) : ∀ k, up.getD (z - 1).toNat 0 ≤ lastN up ms z k
  | 0 => Int.le_refl _
  | k + 1 => by
    have := lastN_ge up ms z k
    rw [lastN]
    split <;> omega
def nxt (up : List Int) (ms : List DotV) (z : Int) : Int × Int :=
  if chk up ms ≠ 0 ∨ isC z = false then (0, 1) else if 1099511627776 ≤ lastN up ms z ms.length then (0, 5) else (lastN up ms z ms.length + 1, 0)
theorem chk_up {up : List Int} {ms : List DotV} (h : chk up ms = 0) (m : Nat) (hm : m < 16) : 0 ≤ up.getD m 0 ∧ up.getD m 0 ≤ 1099511627776 := by
  have h1 : allN 16 (fun j => okU (up.getD j 0)) = true := by
    cases hq : allN 16 (fun j => okU (up.getD j 0)) with
    | true => rfl
    | false => unfold chk at h; rw [if_pos hq] at h; cases h
  exact of_decide_eq_true ((allN_iff 16 (fun j => okU (up.getD j 0))).1 h1 m hm)

set_option maxRecDepth 100000 in
set_option maxHeartbeats 8000000 in
theorem next_any (w : World) (up : List Int) (hu : up.length = 16) (A : Option Addr) (n c : Nat) (ms : List DotV) (hn : ms.length = n) (hn6 : n ≤ 1000000) (hc : n ≤ c) (hr : RdD w w.heap.size A ms) (z : Int) :
    Calls Try.prog 13 #[.agg (ctxRow up A n c), .int .i64 z] w fun e w' => e = .returned (.tuple #[.int .i64 (nxt up ms z).1, .int .i64 (nxt up ms z).2]) ∧ Below w.heap.size w w' := by
  obtain ⟨g, hg⟩ : ∃ g, w.heap.size = g := ⟨_, rfl⟩
  obtain ⟨w0, hw0⟩ : ∃ w0, w.alloc (.cells (ctxRow up A n c) 29) = w0 := ⟨_, rfl⟩
  have K0 := hidd_ (show Bk w0 g 29 (ctxRow up A n c) by rw [← hw0, ← hg]; exact Bk.new w _ _)
  have X0 := hidd_ (show Below g w w0 by rw [← hw0, ← hg]; exact (Below.refl _ _).alloc (Nat.le_refl _) _)
  rw [hg] at hr
  have hgl : g < w0.heap.size := K0.out.lt
  have cc := check_any w0 up hu A n c ms hn hn6 hc ((hr.below X0.out).more (Nat.le_of_lt hgl))
  have ci := fun W => isClient_any W z
  have IX := hidd_ (show (Try.prog.info? 29).map (·.size) = some (ctxRow up A n c).size by rw [ctxRow_size up A n c hu]; exact iX_)
  have HG := hidd_ hg
  have HU := hidd_ hu
  have HN := hidd_ hn
  have HR := hidd_ hr
  have HNX := hidd_ (show nxt up ms z = if chk up ms ≠ 0 ∨ isC z = false then (0, 1) else if 1099511627776 ≤ lastN up ms z n then (0, 5) else (lastN up ms z n + 1, 0) by rw [← hn]; rfl)
  have HCU := hidd_ (fun (h : chk up ms = 0) => chk_up h)
  obtain ⟨e, he⟩ : ∃ e, chk up ms = e := ⟨_, rfl⟩
  rw [he] at cc HNX HCU
  obtain ⟨bz, hbz⟩ : ∃ b, isC z = b := ⟨_, rfl⟩
  have HBZ := hidd_ hbz
  rw [hbz] at ci HNX
  have hzD := zD_
  clear hu hn hr he hbz
  by_cases he0 : e = 0
  · subst he0
    cases bz
    · have hq : nxt up ms z = (0, 1) := by rw [HNX.out]; rfl
      rw [hq]
      clear hq
      go_enter Try.func13, Try.ntmps13
      go_wp2_with (first
        | (refine wpList_load_row rfl 29 (.tmp 2) rfl g rfl 29 (ctxRow up A n c) (0, 0) _ K0.out Try.underlying29 rfl IX.out ?_)
        | (go_at_call 16; ((with_reducible refine cc.mono ?_); clear cc; rintro e w1 ⟨rfl, hb⟩; have X1 := hidd_ (X0.out.trans (hb.mono (Nat.le_of_lt hgl))); clear hb))
        | (go_at_call 35; ((with_reducible refine (ci _).mono ?_); rintro e w2 ⟨rfl, rfl⟩)))
      go_ret2
      exact ⟨rfl, by rw [HG.out]; exact X1.out⟩
    · have hz16 : 1 ≤ z ∧ z ≤ 16 := of_decide_eq_true HBZ.out
      obtain ⟨m, hm⟩ : ∃ m : Nat, z - 1 = (m : Int) := ⟨(z - 1).toNat, by omega⟩
      have hm16 : m < 16 := by omega
      have HMM := hidd_ (show (z - 1).toNat = m by omega)
      have HUB := hidd_ (HCU.out rfl m hm16)
      have HL0 := hidd_ (show lastN up ms z 0 = up.getD m 0 by rw [lastN, HMM.out])
      have HLG := hidd_ (fun k => (show 0 ≤ lastN up ms z k by have h1 := lastN_ge up ms z k; rw [HMM.out] at h1; have := HUB.out.1; omega))
      have e1 : IntKind.i64.wrap (z - 1) = (m : Int) := by rw [IntWalk.i64_in _ (by omega)]; exact hm
      have e2 : IntKind.i64.wrap (m : Int) = (m : Int) := IntWalk.i64_in _ (by omega)
      have f1 : (0 : Int) ≤ (m : Int) := by omega
      have f2 : (m : Int) < 16 := by omega
      have HR2 := hidd_ (show nxt up ms z = if 1099511627776 ≤ lastN up ms z n then (0, 5) else (lastN up ms z n + 1, 0) by rw [HNX.out, if_neg (by simp)])
      obtain ⟨r, hr0⟩ : ∃ r, nxt up ms z = r := ⟨_, rfl⟩
      have HRES := hidd_ hr0
      rw [hr0]
      clear hr0 HNX HCU hz16
      have hm' := hm
      go_enter Try.func13, Try.ntmps13
      go_upto_region 3 with (first
        | (refine wpList_load_row rfl 29 (.tmp 2) rfl g rfl 29 (ctxRow up A n c) (0, 0) _ K0.out Try.underlying29 rfl IX.out ?_)
        | (go_at_call 16; ((with_reducible refine cc.mono ?_); clear cc; rintro e w1 ⟨rfl, hb⟩; have K1 := hidd_ (K0.out.below hb hgl); have X1 := hidd_ (X0.out.trans (hb.mono (Nat.le_of_lt hgl))); clear hb))
        | (go_at_call 35; ((with_reducible refine (ci _).mono ?_); rintro e w2 ⟨rfl, rfl⟩)))
      have hcm := (K1.out.cell m).trans (ctxRow_up up A n c m HU.out hm16)
      have hcx := (K1.out.cell 16).trans (ctxRow_more up A n c HU.out)
      obtain ⟨u0, hu0⟩ : ∃ u, up.getD m 0 = u := ⟨_, rfl⟩
      rw [hu0] at hcm HL0
      clear hu0
      have R1 := hidd_ (HR.out.below X1.out)
      have hgl1 : g < w1.heap.size := K1.out.lt
      clear K0 X0 hw0
      go_upto_region 5 with fail
      clear hcm hcx e1 e2 f1 f2 hm hm'
      go_loopw [6, 8, 25] (fun v6 v8 i wr => ∃ k : Nat, k ≤ n ∧ i = .int .i64 k ∧ v6 = .int .i64 (lastN up ms z k) ∧ Hid (Below w1.heap.size w1 wr)) (fun _ _ i _ => n - (intOf i).toNat)
      case atStart => exact ⟨0, by omega, rfl, by rw [HL0.out], hidd_ (Below.refl _ _)⟩
      case round =>
        obtain ⟨k, hk, rfl, rfl, HB⟩ := hrel
        by_cases hlt : k < n
        · obtain ⟨b, off, rfl, hbl, hcell⟩ := R1.out (by rw [HN.out]; omega)
          have hbw : b < w1.heap.size := by omega
          obtain ⟨d, hd⟩ : ∃ d, ms.getD k ⟨0, 0⟩ = d := ⟨_, rfl⟩
          have hcd := hcell k (by rw [HN.out]; exact hlt)
          have HSTEP := hidd_ (show lastN up ms z (k + 1) = if d.c = z then max (lastN up ms z k) d.n else lastN up ms z k by rw [lastN, hd])
          rw [hd] at hcd
          have CD := hidd_ (row_two ((HB.out.cell (p := ⟨b, _, none⟩) hbw).trans hcd.1) ((HB.out.cell (p := ⟨b, _, none⟩) hbw).trans hcd.2))
          have t0 : (0 : Int) ≤ (k : Int) := by omega
          have tn : (k : Int) < (n : Int) := by omega
          have ID := hidd_ (show (Try.prog.info? 27).map (·.size) = some d.row.size from iD_)
          have hle : w1.heap.size ≤ wr.heap.size := HB.out.size
          clear hd hcd hcell
          go_upto_region 7 with (first
            | (refine wpList_load_sub rfl 27 (.tmp 27) rfl b (off + k * 2) rfl d.row CD.out _ Try.underlying27 rfl ID.out ?_)
            | (refine wpList_put_row rfl 27 _ _ rfl wr.heap.size d.row rfl rfl 27 #[.int .i64 0, .int .i64 0] (Bk.new wr _ _) ID.out rfl (row_one d) ?_; intro w6 k6 g6 s6; have BX : Below wr.heap.size wr w6 := (((Below.refl wr.heap.size wr).alloc (Nat.le_refl _) (.cells #[.int .i64 0, .int .i64 0] 27)).grown g6 (by simp) (fun k hk => by injection hk with hk; omega)); have D6 := hidd_ k6; have B6 := hidd_ (HB.out.trans (BX.mono hle)); clear k6 g6 s6 BX))
          try rw [put_none]
          generalize wr.heap.size = gd at *
          obtain ⟨dc, dn⟩ := d
          obtain ⟨c1, c2⟩ := Bk.twod (show Bk w6 gd 27 #[.int .i64 dc, .int .i64 dn] from D6.out)
          obtain ⟨L, hL⟩ : ∃ L, lastN up ms z k = L := ⟨_, rfl⟩
          obtain ⟨mx, hmx⟩ : ∃ x, x = max L dn := ⟨_, rfl⟩
          have hmax := fun W ts t => run_max2 L dn mx hmx W ts t
          have HMX := hidd_ hmx
          rw [hL] at HSTEP ⊢
          clear hL hmx
          by_cases hz : dc = z
          · have z1 : (dc == z) = true := by simp [hz]
            have z2 : decide (dc = z) = true := decide_eq_true hz
            have HS := hidd_ (show lastN up ms z (k + 1) = mx by rw [HSTEP.out, if_pos hz, HMX.out])
            clear hz
            go_wp2
            go_roundw
            case rel => exact ⟨k + 1, by omega, by go_num, by rw [HS.out], B6⟩
            case measure => simp [intOf]; omega
          · have z1 : (dc == z) = false := by simp [hz]
            have z2 : decide (dc = z) = false := decide_eq_false hz
            have HS := hidd_ (show lastN up ms z (k + 1) = L by rw [HSTEP.out, if_neg hz])
            clear hz
            go_wp2
            go_roundw
            case rel => exact ⟨k + 1, by omega, by go_num, by rw [HS.out], B6⟩
            case measure => simp [intOf]; omega
        · have hkn : k = n := by omega
          have d1 : decide ((k : Int) < (n : Int)) = false := decide_eq_false (by omega)
          have d2 : decide (k < n) = false := decide_eq_false hlt
          have HF := hidd_ (show r = if 1099511627776 ≤ lastN up ms z k then (0, 5) else (lastN up ms z k + 1, 0) by rw [← HRES.out, HR2.out, hkn])
          have hge := HLG.out k
          generalize lastN up ms z k = L at *
          clear hkn hlt
          by_cases hb : 1099511627776 ≤ L
          · have d3 : decide (1099511627776 ≤ L) = true := decide_eq_true hb
            have HQ := hidd_ (show r = (0, 5) by rw [HF.out, if_pos hb])
            clear hb
            obtain rfl := HQ.out
            go_wp2
            go_ret2
            exact ⟨rfl, by first | exact X1.out.trans (HB.out.mono (Nat.le_of_lt hgl1)) | (rw [HG.out]; exact X1.out.trans (HB.out.mono (Nat.le_of_lt hgl1)))⟩
          · have d3 : decide (1099511627776 ≤ L) = false := decide_eq_false hb
            have HQ := hidd_ (show r = (L + 1, 0) by rw [HF.out, if_neg hb])
            have e3 : IntKind.i64.wrap (L + 1) = L + 1 := IntWalk.i64_in _ (by omega)
            clear hb
            obtain rfl := HQ.out
            go_wp2
            go_ret2
            exact ⟨rfl, by first | exact X1.out.trans (HB.out.mono (Nat.le_of_lt hgl1)) | (rw [HG.out]; exact X1.out.trans (HB.out.mono (Nat.le_of_lt hgl1)))⟩
  · have b1 : (e == 0) = false := by simpa using he0
    have b2 : (e != 0) = true := by simpa using he0
    have hq : nxt up ms z = (0, 1) := by rw [HNX.out, if_pos (.inl he0)]
    rw [hq]
    clear hq he0
    go_enter Try.func13, Try.ntmps13
    go_wp2_with (first
      | (refine wpList_load_row rfl 29 (.tmp 2) rfl g rfl 29 (ctxRow up A n c) (0, 0) _ K0.out Try.underlying29 rfl IX.out ?_)
      | (go_at_call 16; ((with_reducible refine cc.mono ?_); clear cc; rintro e w1 ⟨rfl, hb⟩; have X1 := hidd_ (X0.out.trans (hb.mono (Nat.le_of_lt hgl))); clear hb)))
    go_ret2
    exact ⟨rfl, by rw [HG.out]; exact X1.out⟩
end Go.Proofs.Ytjflmfmncepeeaa
