/-
  Proved: for all salts, secrets and counts HkdfTells answers true: what comes out of a secret, and out of a key, is told, or that it is too much. No condition.
-/
import Derived.Test.YteijlgifcmlkoaaDoorHm
namespace Go.Proofs.YteijlgifcmlkoaaDoor.hkdfTells
open Go.ChangeShapes Go.WideShapes Go.ChangeAt Go.RowKit
set_option linter.unusedVariables false
set_option linter.unusedSimpArgs false

theorem hid_ {p : Prop} (h : p) : Hid p := h

/-- What each operation of 'Ht' line of two appends leaves. -/
def HtR (A1 : Option Addr) (p1 c1 n1 : Nat) (x : List UInt8) (A2 : Option Addr) (p2 c2 n2 : Nat) (y : List UInt8) : Nat → Value → World → Prop
  | 0, v, _ => ∃ q, v = .slice (some ⟨q, 0, none⟩) 0 0
  | 1, v, _ => v = .slice A1 p1 c1
  | 2, v, _ => v = .slice A1 p1 c1
  | 3, v, _ => v = .int .i64 (p1 : Int)
  | 4, v, _ => v = .int .i64 (n1 : Int)
  | 5, v, _ => v = .slice A1 n1 c1
  | 6, v, w => ∃ A c, v = .slice A n1 c ∧ Rd w w.heap.size A x ∧ n1 ≤ c ∧ c ≤ 9223372036854775807
  | 7, v, _ => ∃ q, v = .slice (some ⟨q, 0, none⟩) 0 0
  | 8, v, _ => v = .slice A2 p2 c2
  | 9, v, _ => v = .slice A2 p2 c2
  | 10, v, _ => v = .int .i64 (p2 : Int)
  | 11, v, _ => v = .int .i64 (n2 : Int)
  | 12, v, _ => v = .slice A2 n2 c2
  | 13, v, w => ∃ A c, v = .slice A n2 c ∧ Rd w w.heap.size A y ∧ n2 ≤ c ∧ c ≤ 9223372036854775807
  | 14, v, w => ∃ A c, v = .slice A n1 c ∧ Rd w w.heap.size A x ∧ n1 ≤ c ∧ c ≤ 9223372036854775807
  | 15, v, w => ∃ A c, v = .slice A n2 c ∧ Rd w w.heap.size A y ∧ n2 ≤ c ∧ c ≤ 9223372036854775807
  | _, _, _ => True
theorem HtR.keep {A1 : Option Addr} {p1 c1 n1 : Nat} {x : List UInt8} {A2 : Option Addr} {p2 c2 n2 : Nat} {y : List UInt8} (j : Nat) (v : Value) (w w' : World) (hb : Below w.heap.size w w') (h : HtR A1 p1 c1 n1 x A2 p2 c2 n2 y j v w) : HtR A1 p1 c1 n1 x A2 p2 c2 n2 y j v w' := by
  rcases j with _ | _ | _ | _ | _ | _ | _ | _ | _ | _ | _ | _ | _ | _ | _ | _ | j
  all_goals first
    | exact h
    | (obtain ⟨A, c, e, hr, h1, h2⟩ := h; exact ⟨A, c, e, (hr.below hb).more hb.size, h1, h2⟩)

/-- The worlds in which both rows of bytes lie. -/
structure HtC (w : World) (A1 : Option Addr) (x : List UInt8) (A2 : Option Addr) (y : List UInt8) (W : World) : Prop where
  rx : Rd W W.heap.size A1 x
  ry : Rd W W.heap.size A2 y
  tab : Tab W
  low : 1 < W.heap.size
  below : Below w.heap.size w W
theorem HtC.keep {w : World} {A1 : Option Addr} {x : List UInt8} {A2 : Option Addr} {y : List UInt8} {W W' : World} (h : HtC w A1 x A2 y W) (hb : Below W.heap.size W W') : HtC w A1 x A2 y W' :=
  ⟨(h.rx.below hb).more hb.size, (h.ry.below hb).more hb.size, fun t ht => (hb.cell (p := ⟨_, t, none⟩) h.low).trans (h.tab t ht), Nat.lt_of_lt_of_le h.low hb.size, h.below.trans (hb.mono h.below.size)⟩

set_option maxRecDepth 100000 in
set_option maxHeartbeats 8000000 in
theorem walk (w : World) (A1 : Option Addr) (l1 : List UInt8) (c1 : Nat) (h1 : Rd w w.heap.size A1 l1) (hc1 : l1.length ≤ c1) (hcm1 : c1 ≤ 9223372036854775807)
    (A2 : Option Addr) (l2 : List UInt8) (c2 : Nat) (h2 : Rd w w.heap.size A2 l2) (hc2 : l2.length ≤ c2) (hcm2 : c2 ≤ 9223372036854775807) (z : Int) (ht : Tab w) (hg1 : 1 < w.heap.size) :
    Calls Tryd.prog 3 #[.slice A1 l1.length c1, .slice A2 l2.length c2, .int .i64 z] w fun e w' => e = .returned (.bool true) ∧ Below w.heap.size w w' := by
  obtain ⟨n1, hn1⟩ : ∃ n, n = min l1.length 100 := ⟨_, rfl⟩
  obtain ⟨n2, hn2⟩ : ∃ n, n = min l2.length 100 := ⟨_, rfl⟩
  have hm1 := fun W => run_min2 l1.length 100 n1 hn1 W
  have hm2 := fun W => run_min2 l2.length 100 n2 hn2 W
  rw [show ((100 : Nat) : Int) = 100 from rfl] at hm1 hm2
  have hs1 := fun W => slice_to A1 l1.length c1 (n1 : Int) n1 rfl (by omega) W
  have hs2 := fun W => slice_to A2 l2.length c2 (n2 : Int) n2 rfl (by omega) W
  have LX : Hid ((l1.take 100).length = n1) := hid_ (by rw [List.length_take, hn1, Nat.min_comm])
  have LY : Hid ((l2.take 100).length = n2) := hid_ (by rw [List.length_take, hn2, Nat.min_comm])
  have b1 : n1 ≤ 100 := by omega
  have b2 : n2 ≤ 100 := by omega
  have C0 := hid_ (show HtC w A1 (l1.take 100) A2 (l2.take 100) w from ⟨h1.take 100, h2.take 100, ht, hg1, Below.refl _ _⟩)
  have hz := z32
  clear h1 h2 hc1 hc2 hn1 hn2 ht hg1
  generalize l1.take 100 = x at *
  generalize l2.take 100 = y at *
  generalize l1.length = p1 at *
  generalize l2.length = p2 at *
  go_enter Tryd.func3, Tryd.ntmps3
  go_upto_region 1 with fail
  refine region_byF [12, 13, 14, 15, 16, 17, 18, 19, 20, 21, 22, 23, 24, 25, 0, 1] (HtC w A1 x A2 y) (fun w w' => Below w.heap.size w w') (HtR A1 p1 c1 n1 x A2 p2 c2 n2 y) (by kernel_rfl) (by kernel_rfl) (by kernel_rfl) rfl (fun j v w w' hT h => h.keep j v w w' hT) (fun j v w hlt hj _ => by
    exfalso
    rcases j with _ | _ | _ | _ | _ | _ | _ | _ | _ | _ | _ | _ | _ | _ | _ | _ | j
    all_goals first
      | (simp [dstOf] at hj; done)
      | (simp at hlt; omega)) (C0.out.keep ((Below.refl _ _).drew)) ?_ ?_
  · refine ⟨fun a w hC hd hf hv K hK => ?_, fun a w hC hd hf hv K hK => ?_, fun a w hC hd hf hv K hK => ?_, fun a w hC hd hf hv K hK => ?_, fun a w hC hd hf hv K hK => ?_, fun a w hC hd hf hv K hK => ?_, fun a w hC hd hf hv K hK => ?_, fun a w hC hd hf hv K hK => ?_, fun a w hC hd hf hv K hK => ?_, fun a w hC hd hf hv K hK => ?_, fun a w hC hd hf hv K hK => ?_, fun a w hC hd hf hv K hK => ?_, fun a w hC hd hf hv K hK => ?_, fun a w hC hd hf hv K hK => ?_, fun a w hC hd hf hv K hK => ?_, fun a w hC hd hf hv K hK => ?_, trivial⟩
    · have hbn := (Below.refl w.heap.size w).alloc (Nat.le_refl _) (.cells #[] 5)
      refine step_run (wanted_none rfl) (v := .slice (some ⟨w.heap.size, 0, none⟩) 0 0) (w' := w.alloc (.cells #[] 5)) ?_ (hK _ _ (HtC.keep hC hbn) hbn ⟨_, rfl⟩)
      go_simp
    · have e1 := slot_of (a := a) (s := 0) (v := .slice A1 p1 c1) (hf 0 (by kernel_rfl))
      refine step_run (wanted_none rfl) (v := .slice A1 p1 c1) (w' := w) ?_ (hK _ _ hC (Below.refl _ _) rfl)
      go_simp
    · have e1 := slot_of (a := a) (s := 0) (v := .slice A1 p1 c1) (hf 0 (by kernel_rfl))
      refine step_run (wanted_none rfl) (v := .slice A1 p1 c1) (w' := w) ?_ (hK _ _ hC (Below.refl _ _) rfl)
      go_simp
    · have e1 := slot_of (a := a) (s := 14) (v := .slice A1 p1 c1) (hv 2 (by kernel_rfl))
      refine step_run (wanted_none rfl) (v := .int .i64 (p1 : Int)) (w' := w) ?_ (hK _ _ hC (Below.refl _ _) rfl)
      go_simp
    · have e1 := slot_of (a := a) (s := 15) (v := .int .i64 (p1 : Int)) (hv 3 (by kernel_rfl))
      have q := hm1 w
      refine step_run (wanted_none rfl) (v := .int .i64 (n1 : Int)) (w' := w) ?_ (hK _ _ hC (Below.refl _ _) rfl)
      go_simp
    · have e1 := slot_of (a := a) (s := 13) (v := .slice A1 p1 c1) (hv 1 (by kernel_rfl))
      have e2 := slot_of (a := a) (s := 16) (v := .int .i64 (n1 : Int)) (hv 4 (by kernel_rfl))
      have q := hs1 w
      refine step_run (wanted_none rfl) (v := .slice A1 n1 c1) (w' := w) ?_ (hK _ _ hC (Below.refl _ _) rfl)
      go_simp
    · obtain ⟨q, e1'⟩ : ∃ q, a.tmps.getD 12 undef = .slice (some ⟨q, 0, none⟩) 0 0 := hv 0 (by kernel_rfl)
      have e1 := eval_of e1'
      have e2 := eval_of (a := a) (s := 17) (v := .slice A1 n1 c1) (hv 5 (by kernel_rfl))
      exact step_app0 (wanted_none rfl) (.tmp 12) (.tmp 17) rfl ⟨q, 0, none⟩ e1 n1 c1 e2 ((fun h => h.rx) hC) LX.out (by omega) fun A' c' w' hr' h1 h2 hbn => hK _ _ (HtC.keep hC hbn) hbn ⟨A', c', rfl, hr', h1, h2⟩
    · have hbn := (Below.refl w.heap.size w).alloc (Nat.le_refl _) (.cells #[] 5)
      refine step_run (wanted_none rfl) (v := .slice (some ⟨w.heap.size, 0, none⟩) 0 0) (w' := w.alloc (.cells #[] 5)) ?_ (hK _ _ (HtC.keep hC hbn) hbn ⟨_, rfl⟩)
      go_simp
    · have e1 := slot_of (a := a) (s := 1) (v := .slice A2 p2 c2) (hf 1 (by kernel_rfl))
      refine step_run (wanted_none rfl) (v := .slice A2 p2 c2) (w' := w) ?_ (hK _ _ hC (Below.refl _ _) rfl)
      go_simp
    · have e1 := slot_of (a := a) (s := 1) (v := .slice A2 p2 c2) (hf 1 (by kernel_rfl))
      refine step_run (wanted_none rfl) (v := .slice A2 p2 c2) (w' := w) ?_ (hK _ _ hC (Below.refl _ _) rfl)
      go_simp
    · have e1 := slot_of (a := a) (s := 21) (v := .slice A2 p2 c2) (hv 9 (by kernel_rfl))
      refine step_run (wanted_none rfl) (v := .int .i64 (p2 : Int)) (w' := w) ?_ (hK _ _ hC (Below.refl _ _) rfl)
      go_simp
    · have e1 := slot_of (a := a) (s := 22) (v := .int .i64 (p2 : Int)) (hv 10 (by kernel_rfl))
      have q := hm2 w
      refine step_run (wanted_none rfl) (v := .int .i64 (n2 : Int)) (w' := w) ?_ (hK _ _ hC (Below.refl _ _) rfl)
      go_simp
    · have e1 := slot_of (a := a) (s := 20) (v := .slice A2 p2 c2) (hv 8 (by kernel_rfl))
      have e2 := slot_of (a := a) (s := 23) (v := .int .i64 (n2 : Int)) (hv 11 (by kernel_rfl))
      have q := hs2 w
      refine step_run (wanted_none rfl) (v := .slice A2 n2 c2) (w' := w) ?_ (hK _ _ hC (Below.refl _ _) rfl)
      go_simp
    · obtain ⟨q, e1'⟩ : ∃ q, a.tmps.getD 19 undef = .slice (some ⟨q, 0, none⟩) 0 0 := hv 7 (by kernel_rfl)
      have e1 := eval_of e1'
      have e2 := eval_of (a := a) (s := 24) (v := .slice A2 n2 c2) (hv 12 (by kernel_rfl))
      exact step_app0 (wanted_none rfl) (.tmp 19) (.tmp 24) rfl ⟨q, 0, none⟩ e1 n2 c2 e2 ((fun h => h.ry) hC) LY.out (by omega) fun A' c' w' hr' h1 h2 hbn => hK _ _ (HtC.keep hC hbn) hbn ⟨A', c', rfl, hr', h1, h2⟩
    · obtain ⟨A, c, e1', hr, h1, h2⟩ : ∃ A c, a.tmps.getD 18 undef = .slice A n1 c ∧ Rd w w.heap.size A x ∧ n1 ≤ c ∧ c ≤ 9223372036854775807 := hv 6 (by kernel_rfl)
      have e1 := slot_of e1'
      refine step_run (wanted_none rfl) (v := .slice A n1 c) (w' := w) ?_ (hK _ _ hC (Below.refl _ _) ⟨A, c, rfl, hr, h1, h2⟩)
      go_simp
    · obtain ⟨A, c, e1', hr, h1, h2⟩ : ∃ A c, a.tmps.getD 25 undef = .slice A n2 c ∧ Rd w w.heap.size A y ∧ n2 ≤ c ∧ c ≤ 9223372036854775807 := hv 13 (by kernel_rfl)
      have e1 := slot_of e1'
      refine step_run (wanted_none rfl) (v := .slice A n2 c) (w' := w) ?_ (hK _ _ hC (Below.refl _ _) ⟨A, c, rfl, hr, h1, h2⟩)
      go_simp
  · intro f W hC hv
    obtain ⟨Bx, cx, ex, hrx, hcx, hcmx⟩ : ∃ A c, f 0 = .slice A n1 c ∧ Rd W W.heap.size A x ∧ n1 ≤ c ∧ c ≤ 9223372036854775807 := hv 14 (by decide)
    obtain ⟨By, cy, ey, hry, hcy, hcmy⟩ : ∃ A c, f 1 = .slice A n2 c ∧ Rd W W.heap.size A y ∧ n2 ≤ c ∧ c ≤ 9223372036854775807 := hv 15 (by decide)
    have QX := hid_ hrx
    have QY := hid_ hry
    have HC := hid_ hC
    simp only [framed, List.foldl_cons, List.foldl_nil, List.setIfInBounds_toArray, List.set_cons_succ, List.set_cons_zero]
    rw [ex, ey]
    generalize f 12 = z12
    generalize f 13 = z13
    generalize f 14 = z14
    generalize f 15 = z15
    generalize f 16 = z16
    generalize f 17 = z17
    generalize f 18 = z18
    generalize f 19 = z19
    generalize f 20 = z20
    generalize f 21 = z21
    generalize f 22 = z22
    generalize f 23 = z23
    generalize f 24 = z24
    generalize f 25 = z25
    clear hv ex ey hrx hry hC
    have S1 : Hid (HtC w Bx x By y W) := hid_ ⟨QX.out, QY.out, HC.out.tab, HC.out.low, HC.out.below⟩
    rename_i K hK
    refine hK _ _ ?_
    clear HC C0 hm1 hm2 hs1 hs2 hK K QX QY
    have VX : Hid (∀ W' : World, Below W.heap.size W W' → (convert 22 9 (.slice Bx n1 cx)).run Tryd.prog W' = .ok (.string (strOf x)) W') := hid_ (fun W' h => conv_strn (S1.out.rx.below h) n1 cx LX.out)
    have VY : Hid (∀ W' : World, Below W.heap.size W W' → (convert 22 9 (.slice By n2 cy)).run Tryd.prog W' = .ok (.string (strOf y)) W') := hid_ (fun W' h => conv_strn (S1.out.ry.below h) n2 cy LY.out)
    go_upto_region 2 with fail
    refine region_quiet_in (C := fun W' => Below W.heap.size W W') (by kernel_rfl) (by kernel_rfl) ((Below.refl _ _).drew) ?_
    repeat (go_big_quiet_want; (first
      | (refine BigFrame.quiet_move _ rfl ?_; go_simp)
      | (refine BigFrame.quiet_assign _ rfl ?_; go_simp)
      | (refine quiet_run (.string (strOf x)) ?_ ?_; (focus (intro W hW; have h := VX.out W hW; go_simp; done)); go_simp)
      | (refine quiet_run (.string (strOf y)) ?_ ?_; (focus (intro W hW; have h := VY.out W hW; go_simp; done)); go_simp)); go_big_quiet_on)
    refine wpQuiet_nil ?_
    intro W2 hW2
    have S2 := hid_ (S1.out.keep hW2)
    clear hW2 VX VY S1
    obtain ⟨zf, hzf⟩ : ∃ zf, zf = if 300 < z ∧ z < 8100 then z % 300 else z := ⟨_, rfl⟩
    go_upto_region 3 with fail
    obtain ⟨bb, hbb⟩ : ∃ bb : Bool, bb = decide (300 < z ∧ z < 8100) := ⟨_, rfl⟩
    go_cut [35] (fun s35 wx => s35 = .bool bb ∧ wx = W2)
    case first =>
      by_cases g1 : 300 < z
      · have d1 : decide (300 < z) = true := decide_eq_true g1
        by_cases g2 : z < 8100
        · have d2 : decide (z < 8100) = true := decide_eq_true g2
          obtain rfl : bb = true := by rw [hbb]; exact decide_eq_true ⟨g1, g2⟩
          clear hzf hbb
          go_wp2
          go_meet
          exact ⟨rfl, rfl⟩
        · have d2 : decide (z < 8100) = false := decide_eq_false g2
          obtain rfl : bb = false := by rw [hbb]; exact decide_eq_false (fun h => g2 h.2)
          clear hzf hbb
          go_wp2
          go_meet
          exact ⟨rfl, rfl⟩
      · have d1 : decide (300 < z) = false := decide_eq_false g1
        obtain rfl : bb = false := by rw [hbb]; exact decide_eq_false (fun h => g1 h.1)
        clear hzf hbb
        go_wp2
        go_meet
        exact ⟨rfl, rfl⟩
    case' rest =>
      obtain ⟨rfl, rfl⟩ := hcut
      rename_i K hK
      refine hK _ _ ?_
      clear hK K
    go_cut [2] (fun s2 wx => s2 = .int .i64 zf ∧ wx = wc)
    case first =>
      cases bb with
      | true =>
        have g : 300 < z ∧ z < 8100 := of_decide_eq_true hbb.symm
        have e0 : zf = z % 300 := by rw [hzf, if_pos g]
        have e1 : z.tmod 300 = zf := by rw [Int.tmod_eq_emod_of_nonneg (by omega)]; omega
        have e2 : IntKind.i64.wrap zf = zf := IntWalk.i64_in _ (by omega)
        clear hzf e0 hbb
        go_wp2
        go_meet
        exact ⟨rfl, rfl⟩
      | false =>
        have g : ¬ (300 < z ∧ z < 8100) := of_decide_eq_false hbb.symm
        obtain rfl : zf = z := by rw [hzf, if_neg g]
        clear hzf hbb
        go_wp2
        go_meet
        exact ⟨rfl, rfl⟩
    case rest =>
      obtain ⟨rfl, rfl⟩ := hcut
      clear hzf hbb
      have ce := extract_any wc Bx n1 cx x LX.out (by omega) hcx hcmx S2.out.rx By n2 cy y LY.out (by omega) hcy hcmy S2.out.ry S2.out.tab S2.out.low
      obtain ⟨dg, hdg⟩ : ∃ dg, hmacB x y = dg := ⟨_, rfl⟩
      have DL := hid_ (show dg.length = 32 by rw [← hdg]; exact hmacB_len _ _)
      have HR : Hid (∀ W : World, Calls Tryd.prog 9 #[.string (strOf x), .string (strOf y)] W fun e w' => e = .returned (.string (strOf dg)) ∧ Below W.heap.size W w') := hid_ (fun W => by rw [← hdg]; exact refHmac_any W x y (by rw [LX.out]; omega) (by rw [LY.out]; omega))
      rw [hdg] at ce
      clear hdg
      have I := hid_ (i32r dg DL.out)
      have Q := hid_ (show (rowOf (zbytes 32)).size = (rowOf dg).size by rw [rowOf_size, rowOf_size, DL.out, zbytes_len])
      go_upto_region 6 with (first
        | (go_at_call 6; ((with_reducible refine ce.mono ?_); rintro e w5 ⟨rfl, hb⟩; have S5 := hid_ (S2.out.keep hb); clear hb ce))
        | (refine wpList_put_row rfl 23 _ _ rfl w5.heap.size (rowOf dg) rfl rfl 23 (rowOf (zbytes 32)) (Bk.new w5 _ _) I.out Q.out (bytes_one _) ?_; intro w6 k6 g6 s6; have BX : Below w5.heap.size w5 w6 := (((Below.refl w5.heap.size w5).alloc (Nat.le_refl _) (.cells (rowOf (zbytes 32)) 23)).grown g6 (by simp) (fun k hk => by injection hk with hk; omega)); have D6 := hid_ k6; have S6 := hid_ (S5.out.keep BX); clear k6 g6 s6 BX))
      rw [put_none]
      generalize w5.heap.size = Dk at *
      have hall := dig_all
      have qd := strOf_eq dg dg rfl
      have qx := strOf_eq x x rfl
      have qy := strOf_eq y y rfl
      by_cases hbad : zf < 0 ∨ 8160 < zf
      · have cn := expand_no w6 Bx n1 cx By n2 cy zf hbad
        go_upto_region 7 with (go_at_call 7; ((with_reducible refine cn.mono ?_); rintro e w7 ⟨rfl, hb⟩; have S7 := hid_ (S6.out.keep hb); have D7 := hid_ (D6.out.below hb D6.out.lt); clear hb cn))
        have V1 : Hid (∀ W' : World, Below w7.heap.size w7 W' → (convert 22 9 (.slice (some ⟨Dk, 0, none⟩) 32 32)).run Tryd.prog W' = .ok (.string (strOf dg)) W') := hid_ (fun W' h => conv_strn ((D7.out.rd D7.out.lt).below h) 32 32 DL.out)
        have V3 : Hid (∀ W' : World, Below w7.heap.size w7 W' → (convert 22 9 (.slice Bx n1 cx)).run Tryd.prog W' = .ok (.string (strOf x)) W') := hid_ (fun W' h => conv_strn (S7.out.rx.below h) n1 cx LX.out)
        have V4 : Hid (∀ W' : World, Below w7.heap.size w7 W' → (convert 22 9 (.slice By n2 cy)).run Tryd.prog W' = .ok (.string (strOf y)) W') := hid_ (fun W' h => conv_strn (S7.out.ry.below h) n2 cy LY.out)
        have P1 : Hid (∀ W : World, Below w7.heap.size w7 W → Calls Tryd.prog 8 #[] W fun e w' => e = .returned (.bool true) ∧ Below w7.heap.size w7 w') := hid_ (fun W h => (expands_any W (S7.out.keep h).tab (S7.out.keep h).low).mono fun e w' hh => ⟨hh.1, h.trans (hh.2.mono h.size)⟩)
        have P2 : Hid (∀ W : World, Below w7.heap.size w7 W → Calls Tryd.prog 9 #[.string (strOf x), .string (strOf y)] W fun e w' => e = .returned (.string (strOf dg)) ∧ Below w7.heap.size w7 w') := hid_ (fun W h => (HR.out W).mono fun e w' hh => ⟨hh.1, h.trans (hh.2.mono h.size)⟩)
        refine region_quiet_in (C := fun W => Below w7.heap.size w7 W) (by kernel_rfl) (by kernel_rfl) ((Below.refl _ _).drew) ?_
        repeat (first | go_big_quiet_skip | (go_big_quiet_want; (first
          | (refine BigFrame.quiet_move _ rfl ?_; go_simp)
          | (refine BigFrame.quiet_assign _ rfl ?_; go_simp)
          | (refine quiet_call (.bool true) 8 #[] ?_ P1.out ?_; (focus (intro W; go_simp; done)); go_simp)
          | (refine quiet_call (.string (strOf dg)) 9 #[.string (strOf x), .string (strOf y)] ?_ P2.out ?_; (focus (intro W; go_simp; done)); go_simp)
          | (refine quiet_run (.slice (some ⟨Dk, 0, none⟩) 32 32) ?_ ?_; (focus (intro W hW; have h := hall Dk W; go_simp; done)); go_simp)
          | (refine quiet_run (.string (strOf dg)) ?_ ?_; (focus (intro W hW; have h := V1.out W hW; go_simp; done)); go_simp)
          | (refine quiet_run (.string (strOf x)) ?_ ?_; (focus (intro W hW; have h := V3.out W hW; go_simp; done)); go_simp)
          | (refine quiet_run (.string (strOf y)) ?_ ?_; (focus (intro W hW; have h := V4.out W hW; go_simp; done)); go_simp)
          | (refine quiet_run (.bool false) ?_ ?_; (focus (intro W hW; go_simp; done)); go_simp)
          | (refine quiet_run (.bool true) ?_ ?_; (focus (intro W hW; go_simp; done)); go_simp)); go_big_quiet_on))
        refine wpQuiet_nil ?_
        intro w8 hw8
        have S8 := hid_ (S7.out.keep hw8)
        have B8 := hid_ (show Below w7.heap.size w7 w8 from hw8)
        clear hw8 V1 V3 V4 P1 P2
        rcases Int.lt_or_le zf 0 with hz0 | hz0
        · have d1 : decide (zf < 0) = true := decide_eq_true hz0
          go_wp2
          go_ret
          exact ⟨rfl, S8.out.below⟩
        · have d1 : decide (zf < 0) = false := decide_eq_false (by omega)
          have d2 : decide (8160 < zf) = true := decide_eq_true (by omega)
          go_wp2
          go_ret
          exact ⟨rfl, S8.out.below⟩
      · obtain ⟨m, rfl⟩ : ∃ m : Nat, zf = (m : Int) := ⟨zf.toNat, by omega⟩
        have hm8 : m ≤ 8160 := by omega
        clear hbad
        have cn := expand_any w6 Bx n1 cx x LX.out (by omega) hcx hcmx S6.out.rx By n2 cy y LY.out (by omega) hcy hcmy S6.out.ry m hm8 S6.out.tab S6.out.low
        have LL := hid_ (expandB_len x y m hm8)
        have HE : Hid (∀ W : World, Calls Tryd.prog 10 #[.string (strOf x), .string (strOf y), .int .i64 (m : Int)] W fun e w' => e = .returned (.string (strOf (expandB x y m))) ∧ Below W.heap.size W w') := hid_ (fun W => refExpand_any W x y (by rw [LX.out]; omega) (by rw [LY.out]; omega) m hm8)
        generalize expandB x y m = L at *
        go_upto_region 7 with (go_at_call 7; ((with_reducible refine cn.mono ?_); rintro e w7 ⟨A5, c5, rfl, ho, hb⟩; rw [LL.out] at ho ⊢; have S7 := hid_ (S6.out.keep hb); have D7 := hid_ (D6.out.below hb D6.out.lt); have O7 := hid_ ho; clear hb cn ho))
        have V1 : Hid (∀ W' : World, Below w7.heap.size w7 W' → (convert 22 9 (.slice (some ⟨Dk, 0, none⟩) 32 32)).run Tryd.prog W' = .ok (.string (strOf dg)) W') := hid_ (fun W' h => conv_strn ((D7.out.rd D7.out.lt).below h) 32 32 DL.out)
        have V3 : Hid (∀ W' : World, Below w7.heap.size w7 W' → (convert 22 9 (.slice Bx n1 cx)).run Tryd.prog W' = .ok (.string (strOf x)) W') := hid_ (fun W' h => conv_strn (S7.out.rx.below h) n1 cx LX.out)
        have V4 : Hid (∀ W' : World, Below w7.heap.size w7 W' → (convert 22 9 (.slice By n2 cy)).run Tryd.prog W' = .ok (.string (strOf y)) W') := hid_ (fun W' h => conv_strn (S7.out.ry.below h) n2 cy LY.out)
        have P1 : Hid (∀ W : World, Below w7.heap.size w7 W → Calls Tryd.prog 8 #[] W fun e w' => e = .returned (.bool true) ∧ Below w7.heap.size w7 w') := hid_ (fun W h => (expands_any W (S7.out.keep h).tab (S7.out.keep h).low).mono fun e w' hh => ⟨hh.1, h.trans (hh.2.mono h.size)⟩)
        have P2 : Hid (∀ W : World, Below w7.heap.size w7 W → Calls Tryd.prog 9 #[.string (strOf x), .string (strOf y)] W fun e w' => e = .returned (.string (strOf dg)) ∧ Below w7.heap.size w7 w') := hid_ (fun W h => (HR.out W).mono fun e w' hh => ⟨hh.1, h.trans (hh.2.mono h.size)⟩)
        refine region_quiet_in (C := fun W => Below w7.heap.size w7 W) (by kernel_rfl) (by kernel_rfl) ((Below.refl _ _).drew) ?_
        repeat (first | go_big_quiet_skip | (go_big_quiet_want; (first
          | (refine BigFrame.quiet_move _ rfl ?_; go_simp)
          | (refine BigFrame.quiet_assign _ rfl ?_; go_simp)
          | (refine quiet_call (.bool true) 8 #[] ?_ P1.out ?_; (focus (intro W; go_simp; done)); go_simp)
          | (refine quiet_call (.string (strOf dg)) 9 #[.string (strOf x), .string (strOf y)] ?_ P2.out ?_; (focus (intro W; go_simp; done)); go_simp)
          | (refine quiet_run (.slice (some ⟨Dk, 0, none⟩) 32 32) ?_ ?_; (focus (intro W hW; have h := hall Dk W; go_simp; done)); go_simp)
          | (refine quiet_run (.string (strOf dg)) ?_ ?_; (focus (intro W hW; have h := V1.out W hW; go_simp; done)); go_simp)
          | (refine quiet_run (.string (strOf x)) ?_ ?_; (focus (intro W hW; have h := V3.out W hW; go_simp; done)); go_simp)
          | (refine quiet_run (.string (strOf y)) ?_ ?_; (focus (intro W hW; have h := V4.out W hW; go_simp; done)); go_simp)
          | (refine quiet_run (.bool false) ?_ ?_; (focus (intro W hW; go_simp; done)); go_simp)
          | (refine quiet_run (.bool true) ?_ ?_; (focus (intro W hW; go_simp; done)); go_simp)); go_big_quiet_on))
        refine wpQuiet_nil ?_
        intro w8 hw8
        have S8 := hid_ (S7.out.keep hw8)
        have B8 := hid_ (show Below w7.heap.size w7 w8 from hw8)
        clear hw8 V1 V3 V4 P1 P2
        have O8 := hid_ (O7.out.rd.1.below B8.out)
        have V5 : Hid (∀ W' : World, Below w8.heap.size w8 W' → (convert 22 9 (.slice A5 m c5)).run Tryd.prog W' = .ok (.string (strOf L)) W') := hid_ (fun W' h => conv_strn ((O8.out.more B8.out.size).below h) m c5 LL.out)
        have P3 : Hid (∀ W : World, Below w8.heap.size w8 W → Calls Tryd.prog 10 #[.string (strOf x), .string (strOf y), .int .i64 (m : Int)] W fun e w' => e = .returned (.string (strOf L)) ∧ Below w8.heap.size w8 w') := hid_ (fun W h => (HE.out W).mono fun e w' hh => ⟨hh.1, h.trans (hh.2.mono h.size)⟩)
        have d1 : decide ((m : Int) < 0) = false := decide_eq_false (by omega)
        have d2 : decide (8160 < (m : Int)) = false := decide_eq_false (by omega)
        have d3 : decide (8160 < m) = false := decide_eq_false (by omega)
        have qL := strOf_eq L L rfl
        go_upto_region 11 with fail
        refine region_quiet_in (C := fun W => Below w8.heap.size w8 W) (by kernel_rfl) (by kernel_rfl) ((Below.refl _ _).drew) ?_
        repeat (first | go_big_quiet_skip | (go_big_quiet_want; (first
          | (refine BigFrame.quiet_move _ rfl ?_; go_simp)
          | (refine BigFrame.quiet_assign _ rfl ?_; go_simp)
          | (refine quiet_call (.string (strOf L)) 10 #[.string (strOf x), .string (strOf y), .int .i64 (m : Int)] ?_ P3.out ?_; (focus (intro W; go_simp; done)); go_simp)
          | (refine quiet_run (.string (strOf L)) ?_ ?_; (focus (intro W hW; have h := V5.out W hW; go_simp; done)); go_simp)
          | (refine quiet_run (.bool true) ?_ ?_; (focus (intro W hW; go_simp; done)); go_simp)); go_big_quiet_on))
        refine wpQuiet_nil ?_
        intro w9 hw9
        have X9 := hid_ (S8.out.below.trans (Below.mono hw9 S8.out.below.size))
        clear hw9 V5 P3
        go_wp2
        go_ret
        exact ⟨rfl, X9.out⟩

theorem laid_met3 (os : Os) : laidMet Tryd.prog [("casket/sha2.roundWords", Rows.laid_casket_sha2_roundWords)] ((laidWorld os).forCall (fun _ _ => 0) ⟨#[], #[.slice none 0 0, .slice none 0 0, .int .i64 0], []⟩).memory :=
  laidMet_of_run' 8 (by kernel_rfl) (by kernel_rfl)

/-- What the walk gives, for every argument and every world in which the constants lie. -/
theorem contract (H : Type) (enc : TypeId × Value → H) (W : World) (base : Nat) (args : Array Value) (ds gs : List (DataW H)) (before : List MemPlace)
    (hval : ∀ (j : Nat) t v, Tryd.f3.params[j]? = some t → args[j]? = some v → Value.okWide Tryd.prog W .any base t v)
    (hW : DataW.Whole enc Tryd.prog Tryd.f3.params.toList Rows.hkdfTellsSpec.vars false W args.toList ds gs before) (hL : laidMetH Tryd.prog Rows.hkdfTellsRow.laid W) :
    Calls Tryd.prog 3 args W fun e W' => ∃ v, e = .returned v ∧ Rows.hkdfTellsSpec.post enc Tryd.prog Tryd.f3 false true false false W args v W' := by
  obtain ⟨ht, hg1⟩ := tab_of hL
  have hW' := hW
  obtain ⟨p, q, hA0, hV, rfl, hfz, hnd⟩ := hW
  have hA : DataW.TrodAll enc Tryd.prog W 0 (fun _ => true) true Tryd.f3.params.toList args.toList ds p := hA0
  rw [Tryd.params3] at hA hval
  obtain ⟨v0, vs0, d0, ds0, p0, q0, hargs, rfl, rfl, h0, r0⟩ := trodAll_cons hA
  obtain ⟨v1, vs1, d1, ds1, p1, q1, rfl, rfl, rfl, h1, r1⟩ := trodAll_cons r0
  obtain ⟨v2, vs2, d2, ds2, p2, q2, rfl, rfl, rfl, h2, r2⟩ := trodAll_cons r1
  obtain ⟨rfl, rfl, rfl⟩ := trodAll_nil r2
  obtain rfl : args = #[v0, v1, v2] := by cases args; simp_all
  obtain ⟨rfl, rfl⟩ := trodVars_none hV
  obtain ⟨A0, l0, c0, rfl, hr0, hlc0, hcm0⟩ := open_bytes Tryd.underlying22 Tryd.underlying5 (by kernel_rfl) (hval 0 22 v0 rfl rfl) h0
  obtain ⟨A1, l1, c1, rfl, hr1, hlc1, hcm1⟩ := open_bytes Tryd.underlying22 Tryd.underlying5 (by kernel_rfl) (hval 1 22 v1 rfl rfl) h1
  obtain ⟨a2, rfl, rfl, rfl, w2⟩ := open_int Tryd.underlying3 (hval 2 3 v2 rfl rfl) h2
  refine (walk W A0 l0 c0 hr0 hlc0 (by unfold maxLen at hcm0; omega) A1 l1 c1 hr1 hlc1 (by unfold maxLen at hcm1; omega) a2 ht hg1).mono fun e W' ⟨he, hg⟩ => ⟨_, he, ?_⟩
  exact law_post laidOut_ (of_decide_eq_true (by kernel_rfl)) rfl rfl Tryd.underlying4 rfl hW' hg

theorem reads (os : Os) {H : Type} (enc : TypeId × Value → H) : ∃ places, DataW.whole enc Tryd.prog ((laidWorld os).forCall (fun _ _ => 0) ⟨#[], #[.slice none 0 0, .slice none 0 0, .int .i64 0], []⟩).memory Tryd.f3.params.toList Rows.hkdfTellsSpec.vars false #[Value.slice none 0 0, Value.slice none 0 0, Value.int .i64 0].toList 8 = some ([.nil, .nil, .lit (.int .i64 0)], [], places) :=
  ⟨[], by kernel_rfl⟩

set_option maxRecDepth 100000 in
theorem lifted (os : Os) (started : os.Started) (H : Type) (enc : TypeId × Value → H) (F : Stop.Interp) :
    ReturnsInHanded {} Tryd.checked os 3 .any ((OpenSpec.ofChange Rows.hkdfTellsSpec).preRow enc Tryd.prog Tryd.f3 Rows.hkdfTellsRow.domain false Rows.hkdfTellsRow.laid) (((OpenSpec.ofChange Rows.hkdfTellsSpec).at F).post enc Tryd.prog Tryd.f3 false true false false) := by
  obtain ⟨places, hx⟩ := reads os enc
  refine returnsInHanded_of_row (C := Tryd.checked) (s := OpenSpec.ofChange Rows.hkdfTellsSpec) own_ started (by kernel_rfl) Tryd.func3
    (witness_row_at (enc := enc) (C := Tryd.checked) false (laidWorld os) #[.slice none 0 0, .slice none 0 0, .int .i64 0] rfl (by kernel_rfl) (by kernel_rfl) (by kernel_rfl)
      (OpenSpec.preRow_of_cond 8 hx (by kernel_rfl) (fun k hk => by cases hk) (by kernel_rfl) (laid_met3 os))) ?_
  intro W base args ds gs before hval hW _ _ _ hL _ _
  exact contract H enc W base args ds gs before hval hW hL

theorem said : Rows.HkdfTellsSaid :=
  OpenClaim.holds_of_cond 3 Tryd.f3 rfl rfl rfl rfl rfl rfl rfl ⟨rfl, rfl, rfl, rfl, rfl⟩ rfl rfl rfl rfl rfl (by kernel_rfl) Tryd.func3 (by kernel_rfl)
    (of_decide_eq_true (by kernel_rfl)) (by unfold Func.isWrapper; first | (rw [if_pos (by decide +kernel)]; kernel_rfl) | (rw [if_neg (by decide +kernel)]; exact ⟨rfl, rfl⟩))
    (fun os started H enc _ F => by rw [OpenClaim.pre_eq_preRow]; exact lifted os started H enc F)

/-- No parameter wants a stand-in; the program's own looks are off: what the card asks. -/
theorem plain (f : FuncId) (fn : Func) (hf : Tryd.pinned.checked.prog.funcNamed "casket/casketlaw04.HkdfTells" = some f) (hfn : Tryd.pinned.checked.prog.funcs[f]? = some fn) :
    false = Tryd.pinned.checked.prog.looks [] ∧ ∀ (j : Nat) t, fn.params[j]? = some t → Tryd.pinned.checked.prog.wantsStandIn t = false := by
  obtain rfl : f = 3 := Option.some.inj ((show Tryd.prog.funcNamed "casket/casketlaw04.HkdfTells" = some 3 by kernel_rfl).symm.trans hf) |>.symm
  obtain rfl : fn = Tryd.f3 := (Option.some.inj (Tryd.func3.symm.trans hfn)).symm
  refine ⟨by kernel_rfl, fun j t ht => ?_⟩
  rw [Tryd.params3] at ht
  have hm := Array.mem_of_getElem? ht
  simp only [List.mem_toArray, List.mem_cons, List.not_mem_nil, or_false] at hm
  rcases hm with rfl | rfl | rfl
  · exact (show Tryd.prog.wantsStandIn 22 = false by kernel_rfl)
  · exact (show Tryd.prog.wantsStandIn 22 = false by kernel_rfl)
  · exact (show Tryd.prog.wantsStandIn 3 = false by kernel_rfl)

/-- The card. -/
theorem proved : Rows.HkdfTellsCardSaid :=
  Claim7.holds_tied_plain_at .later [] _ _ _ _ said (fun _ h => by cases h) (by kernel_rfl) (fun _ h => by cases h) hkdfTells_row_tie rfl ⟨rfl, rfl⟩ (by kernel_rfl) rfl plain (by kernel_rfl)
#print axioms proved
end Go.Proofs.YteijlgifcmlkoaaDoor.hkdfTells
