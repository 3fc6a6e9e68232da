/-
  Proved: for all inputs AeadSeals answers true: of all keys, nonces and bytes what is sealed is told; it is opened again; what is handed in stays. No condition.
-/
import Derived.Test.YtopmngjaieobnaaEg
import Derived.Test.YtopmngjaieobnaaFr
import Derived.Test.YtopmngjaieobnaaLp
namespace Go.Proofs.Ytopmngjaieobnaa.aeadSeals
open Go.ChangeShapes Go.WideShapes Go.ChangeAt Go.RowKit
set_option linter.unusedVariables false
set_option linter.unusedSimpArgs false

theorem hid_ {p : Prop} (h : p) : Hid p := h

/-- What each operation of 'Sg' line of two appends leaves. -/
def SgR (A1 : Option Addr) (p1 c1 n1 : Nat) (x : List UInt8) (A2 : Option Addr) (p2 c2 n2 : Nat) (y : List UInt8) : Nat → Value → World → Prop
  | 0, v, _ => ∃ q, v = .slice (some ⟨q, 0, none⟩) 0 0
  | 1, v, _ => v = .slice A1 p1 c1
  | 2, v, _ => v = .slice A1 p1 c1
  | 3, v, _ => v = .int .i64 (p1 : Int)
  | 4, v, _ => v = .int .i64 (n1 : Int)
  | 5, v, _ => v = .slice A1 n1 c1
  | 6, v, w => ∃ A c, v = .slice A n1 c ∧ Rd w w.heap.size A x ∧ n1 ≤ c ∧ c ≤ 9223372036854775807
  | 7, v, _ => ∃ q, v = .slice (some ⟨q, 0, none⟩) 0 0
  | 8, v, _ => v = .slice A2 p2 c2
  | 9, v, _ => v = .slice A2 p2 c2
  | 10, v, _ => v = .int .i64 (p2 : Int)
  | 11, v, _ => v = .int .i64 (n2 : Int)
  | 12, v, _ => v = .slice A2 n2 c2
  | 13, v, w => ∃ A c, v = .slice A n2 c ∧ Rd w w.heap.size A y ∧ n2 ≤ c ∧ c ≤ 9223372036854775807
  | 14, v, w => ∃ A c, v = .slice A n1 c ∧ Rd w w.heap.size A x ∧ n1 ≤ c ∧ c ≤ 9223372036854775807
  | 15, v, w => ∃ A c, v = .slice A n2 c ∧ Rd w w.heap.size A y ∧ n2 ≤ c ∧ c ≤ 9223372036854775807
  | _, _, _ => True
theorem SgR.keep {A1 : Option Addr} {p1 c1 n1 : Nat} {x : List UInt8} {A2 : Option Addr} {p2 c2 n2 : Nat} {y : List UInt8} (j : Nat) (v : Value) (w w' : World) (hb : Below w.heap.size w w') (h : SgR A1 p1 c1 n1 x A2 p2 c2 n2 y j v w) : SgR A1 p1 c1 n1 x A2 p2 c2 n2 y j v w' := by
  rcases j with _ | _ | _ | _ | _ | _ | _ | _ | _ | _ | _ | _ | _ | _ | _ | _ | j
  all_goals first
    | exact h
    | (obtain ⟨A, c, e, hr, h1, h2⟩ := h; exact ⟨A, c, e, (hr.below hb).more hb.size, h1, h2⟩)

def SgC (g B : Nat) (kn : List UInt8) (A1 : Option Addr) (x : List UInt8) (A2 : Option Addr) (y : List UInt8) (w0 w : World) : Prop :=
  Bk w g 34 (rowOf kn) ∧ Rd w w.heap.size A1 x ∧ Rd w w.heap.size A2 y ∧ Below B w0 w ∧ B ≤ w.heap.size
theorem SgC.keep {g B : Nat} {kn : List UInt8} {A1 : Option Addr} {x : List UInt8} {A2 : Option Addr} {y : List UInt8} {w0 w w' : World} (h : SgC g B kn A1 x A2 y w0 w) (hb : Below w.heap.size w w') : SgC g B kn A1 x A2 y w0 w' :=
  ⟨h.1.below hb h.1.lt, (h.2.1.below hb).more hb.size, (h.2.2.1.below hb).more hb.size, h.2.2.2.1.trans (hb.mono h.2.2.2.2), Nat.le_trans h.2.2.2.2 hb.size⟩
/-- The worlds of a line: behind w, all stands. -/
def AoC (w : World) (W : World) : Prop := Below w.heap.size w W

set_option maxRecDepth 100000 in
set_option maxHeartbeats 4000000 in
theorem walk (w : World) (key nonce : List UInt8) (hk : key.length = 32) (hn : nonce.length = 12) (A1 : Option Addr) (l1 : List UInt8) (c1 : Nat) (h1 : Rd w w.heap.size A1 l1) (hc1 : l1.length ≤ c1) (hcm1 : c1 ≤ 9223372036854775807)
    (A2 : Option Addr) (l2 : List UInt8) (c2 : Nat) (h2 : Rd w w.heap.size A2 l2) (hc2 : l2.length ≤ c2) (hcm2 : c2 ≤ 9223372036854775807) :
    Calls Try.prog 5 #[.agg (rowOf (key ++ nonce)), .slice A1 l1.length c1, .slice A2 l2.length c2] w fun e w' => e = .returned (.bool true) ∧ Below w.heap.size w w' := by
  obtain ⟨n1, hn1⟩ : ∃ n, n = min l1.length 60 := ⟨_, rfl⟩
  obtain ⟨n2, hn2⟩ : ∃ n, n = min l2.length 150 := ⟨_, rfl⟩
  have hm1 := fun W => run_min2 l1.length 60 n1 hn1 W
  have hm2 := fun W => run_min2 l2.length 150 n2 hn2 W
  rw [show ((60 : Nat) : Int) = 60 from rfl] at hm1
  rw [show ((150 : Nat) : Int) = 150 from rfl] at hm2
  have hs1 := fun W => slice_to A1 l1.length c1 (n1 : Int) n1 rfl (by omega) W
  have hs2 := fun W => slice_to A2 l2.length c2 (n2 : Int) n2 rfl (by omega) W
  have LX : Hid ((l1.take 60).length = n1) := hid_ (by rw [List.length_take, hn1, Nat.min_comm])
  have LY : Hid ((l2.take 150).length = n2) := hid_ (by rw [List.length_take, hn2, Nat.min_comm])
  have b1 : n1 ≤ 60 := by omega
  have b2 : n2 ≤ 150 := by omega
  obtain ⟨g, hg⟩ : ∃ g, Hid (w.heap.size = g) := ⟨_, rfl⟩
  obtain ⟨w0, hw0⟩ : ∃ W, Hid (w.alloc (.cells (rowOf (key ++ nonce)) 34) = W) := ⟨_, rfl⟩
  have B0 : Bk w0 g 34 (rowOf (key ++ nonce)) := by rw [← hw0.out, ← hg.out]; exact Bk.new w _ _
  have X0 : Below g w w0 := by rw [← hw0.out, ← hg.out]; exact (Below.refl _ _).alloc (Nat.le_refl _) _
  have R1 : Rd w0 w0.heap.size A1 (l1.take 60) := by
    have h := ((h1.take 60).alloc (Nat.le_refl _) (.cells (rowOf (key ++ nonce)) 34)).more (B' := w0.heap.size) (by rw [← hw0.out]; simp)
    rwa [hw0.out] at h
  have R2 : Rd w0 w0.heap.size A2 (l2.take 150) := by
    have h := ((h2.take 150).alloc (Nat.le_refl _) (.cells (rowOf (key ++ nonce)) 34)).more (B' := w0.heap.size) (by rw [← hw0.out]; simp)
    rwa [hw0.out] at h
  have C0 := hid_ (show SgC g g (key ++ nonce) A1 (l1.take 60) A2 (l2.take 150) w w0 from ⟨B0, R1, R2, X0, Nat.le_of_lt B0.lt⟩)
  have HK := hid_ hk
  have HN := hid_ hn
  have I32 := hid_ (ib32 key hk)
  have I12 := hid_ (ib12 nonce hn)
  clear h1 h2 hc1 hc2 hk hn hn1 hn2 B0 X0 R1 R2
  generalize l1.take 60 = x at *
  generalize l2.take 150 = y at *
  generalize l1.length = p1 at *
  generalize l2.length = p2 at *
  go_enter Try.func5, Try.ntmps5
  go_upto_region 1 with fail
  rw [hg.out, hw0.out]
  clear hw0
  refine region_byF [12, 13, 14, 15, 16, 17, 18, 19, 20, 21, 22, 23, 24, 25, 1, 2] (SgC g g (key ++ nonce) A1 x A2 y w) (fun w w' => Below w.heap.size w w') (SgR A1 p1 c1 n1 x A2 p2 c2 n2 y) (by kernel_rfl) (by kernel_rfl) (by kernel_rfl) rfl (fun j v w w' hT h => h.keep j v w w' hT) (fun j v w hlt hj _ => by
    exfalso
    rcases j with _ | _ | _ | _ | _ | _ | _ | _ | _ | _ | _ | _ | _ | _ | _ | _ | j
    all_goals first
      | (simp [dstOf] at hj; done)
      | (simp at hlt; omega)) (⟨C0.out.1.drew, C0.out.2.1.drew, C0.out.2.2.1.drew, C0.out.2.2.2.1.drew, C0.out.2.2.2.2⟩) ?_ ?_
  · refine ⟨fun a w hC hd hf hv K hK => ?_, fun a w hC hd hf hv K hK => ?_, fun a w hC hd hf hv K hK => ?_, fun a w hC hd hf hv K hK => ?_, fun a w hC hd hf hv K hK => ?_, fun a w hC hd hf hv K hK => ?_, fun a w hC hd hf hv K hK => ?_, fun a w hC hd hf hv K hK => ?_, fun a w hC hd hf hv K hK => ?_, fun a w hC hd hf hv K hK => ?_, fun a w hC hd hf hv K hK => ?_, fun a w hC hd hf hv K hK => ?_, fun a w hC hd hf hv K hK => ?_, fun a w hC hd hf hv K hK => ?_, fun a w hC hd hf hv K hK => ?_, fun a w hC hd hf hv K hK => ?_, trivial⟩
    · have hbn := (Below.refl w.heap.size w).alloc (Nat.le_refl _) (.cells #[] 5)
      refine step_run (wanted_none rfl) (v := .slice (some ⟨w.heap.size, 0, none⟩) 0 0) (w' := w.alloc (.cells #[] 5)) ?_ (hK _ _ (SgC.keep hC hbn) hbn ⟨_, rfl⟩)
      go_simp
    · have e1 := slot_of (a := a) (s := 1) (v := .slice A1 p1 c1) (hf 1 (by kernel_rfl))
      refine step_run (wanted_none rfl) (v := .slice A1 p1 c1) (w' := w) ?_ (hK _ _ hC (Below.refl _ _) rfl)
      go_simp
    · have e1 := slot_of (a := a) (s := 1) (v := .slice A1 p1 c1) (hf 1 (by kernel_rfl))
      refine step_run (wanted_none rfl) (v := .slice A1 p1 c1) (w' := w) ?_ (hK _ _ hC (Below.refl _ _) rfl)
      go_simp
    · have e1 := slot_of (a := a) (s := 14) (v := .slice A1 p1 c1) (hv 2 (by kernel_rfl))
      refine step_run (wanted_none rfl) (v := .int .i64 (p1 : Int)) (w' := w) ?_ (hK _ _ hC (Below.refl _ _) rfl)
      go_simp
    · have e1 := slot_of (a := a) (s := 15) (v := .int .i64 (p1 : Int)) (hv 3 (by kernel_rfl))
      have q := hm1 w
      refine step_run (wanted_none rfl) (v := .int .i64 (n1 : Int)) (w' := w) ?_ (hK _ _ hC (Below.refl _ _) rfl)
      go_simp
    · have e1 := slot_of (a := a) (s := 13) (v := .slice A1 p1 c1) (hv 1 (by kernel_rfl))
      have e2 := slot_of (a := a) (s := 16) (v := .int .i64 (n1 : Int)) (hv 4 (by kernel_rfl))
      have q := hs1 w
      refine step_run (wanted_none rfl) (v := .slice A1 n1 c1) (w' := w) ?_ (hK _ _ hC (Below.refl _ _) rfl)
      go_simp
    · obtain ⟨q, e1'⟩ : ∃ q, a.tmps.getD 12 undef = .slice (some ⟨q, 0, none⟩) 0 0 := hv 0 (by kernel_rfl)
      have e1 := eval_of e1'
      have e2 := eval_of (a := a) (s := 17) (v := .slice A1 n1 c1) (hv 5 (by kernel_rfl))
      exact step_app0 (wanted_none rfl) (.tmp 12) (.tmp 17) rfl ⟨q, 0, none⟩ e1 n1 c1 e2 ((fun h => h.2.1) hC) LX.out (by omega) fun A' c' w' hr' h1 h2 hbn => hK _ _ (SgC.keep hC hbn) hbn ⟨A', c', rfl, hr', h1, h2⟩
    · have hbn := (Below.refl w.heap.size w).alloc (Nat.le_refl _) (.cells #[] 5)
      refine step_run (wanted_none rfl) (v := .slice (some ⟨w.heap.size, 0, none⟩) 0 0) (w' := w.alloc (.cells #[] 5)) ?_ (hK _ _ (SgC.keep hC hbn) hbn ⟨_, rfl⟩)
      go_simp
    · have e1 := slot_of (a := a) (s := 2) (v := .slice A2 p2 c2) (hf 2 (by kernel_rfl))
      refine step_run (wanted_none rfl) (v := .slice A2 p2 c2) (w' := w) ?_ (hK _ _ hC (Below.refl _ _) rfl)
      go_simp
    · have e1 := slot_of (a := a) (s := 2) (v := .slice A2 p2 c2) (hf 2 (by kernel_rfl))
      refine step_run (wanted_none rfl) (v := .slice A2 p2 c2) (w' := w) ?_ (hK _ _ hC (Below.refl _ _) rfl)
      go_simp
    · have e1 := slot_of (a := a) (s := 21) (v := .slice A2 p2 c2) (hv 9 (by kernel_rfl))
      refine step_run (wanted_none rfl) (v := .int .i64 (p2 : Int)) (w' := w) ?_ (hK _ _ hC (Below.refl _ _) rfl)
      go_simp
    · have e1 := slot_of (a := a) (s := 22) (v := .int .i64 (p2 : Int)) (hv 10 (by kernel_rfl))
      have q := hm2 w
      refine step_run (wanted_none rfl) (v := .int .i64 (n2 : Int)) (w' := w) ?_ (hK _ _ hC (Below.refl _ _) rfl)
      go_simp
    · have e1 := slot_of (a := a) (s := 20) (v := .slice A2 p2 c2) (hv 8 (by kernel_rfl))
      have e2 := slot_of (a := a) (s := 23) (v := .int .i64 (n2 : Int)) (hv 11 (by kernel_rfl))
      have q := hs2 w
      refine step_run (wanted_none rfl) (v := .slice A2 n2 c2) (w' := w) ?_ (hK _ _ hC (Below.refl _ _) rfl)
      go_simp
    · obtain ⟨q, e1'⟩ : ∃ q, a.tmps.getD 19 undef = .slice (some ⟨q, 0, none⟩) 0 0 := hv 7 (by kernel_rfl)
      have e1 := eval_of e1'
      have e2 := eval_of (a := a) (s := 24) (v := .slice A2 n2 c2) (hv 12 (by kernel_rfl))
      exact step_app0 (wanted_none rfl) (.tmp 19) (.tmp 24) rfl ⟨q, 0, none⟩ e1 n2 c2 e2 ((fun h => h.2.2.1) hC) LY.out (by omega) fun A' c' w' hr' h1 h2 hbn => hK _ _ (SgC.keep hC hbn) hbn ⟨A', c', rfl, hr', h1, h2⟩
    · obtain ⟨A, c, e1', hr, h1, h2⟩ : ∃ A c, a.tmps.getD 18 undef = .slice A n1 c ∧ Rd w w.heap.size A x ∧ n1 ≤ c ∧ c ≤ 9223372036854775807 := hv 6 (by kernel_rfl)
      have e1 := slot_of e1'
      refine step_run (wanted_none rfl) (v := .slice A n1 c) (w' := w) ?_ (hK _ _ hC (Below.refl _ _) ⟨A, c, rfl, hr, h1, h2⟩)
      go_simp
    · obtain ⟨A, c, e1', hr, h1, h2⟩ : ∃ A c, a.tmps.getD 25 undef = .slice A n2 c ∧ Rd w w.heap.size A y ∧ n2 ≤ c ∧ c ≤ 9223372036854775807 := hv 13 (by kernel_rfl)
      have e1 := slot_of e1'
      refine step_run (wanted_none rfl) (v := .slice A n2 c) (w' := w) ?_ (hK _ _ hC (Below.refl _ _) ⟨A, c, rfl, hr, h1, h2⟩)
      go_simp
  · intro f W hC hv
    obtain ⟨Bx, cx, ex, hrx, hcx, hcmx⟩ : ∃ A c, f 1 = .slice A n1 c ∧ Rd W W.heap.size A x ∧ n1 ≤ c ∧ c ≤ 9223372036854775807 := hv 14 (by decide)
    obtain ⟨By, cy, ey, hry, hcy, hcmy⟩ : ∃ A c, f 2 = .slice A n2 c ∧ Rd W W.heap.size A y ∧ n2 ≤ c ∧ c ≤ 9223372036854775807 := hv 15 (by decide)
    have QX := hid_ hrx
    have QY := hid_ hry
    have HC := hid_ hC
    simp only [framed, List.foldl_cons, List.foldl_nil, List.setIfInBounds_toArray, List.set_cons_succ, List.set_cons_zero]
    rw [ex, ey]
    generalize f 12 = z12
    generalize f 13 = z13
    generalize f 14 = z14
    generalize f 15 = z15
    generalize f 16 = z16
    generalize f 17 = z17
    generalize f 18 = z18
    generalize f 19 = z19
    generalize f 20 = z20
    generalize f 21 = z21
    generalize f 22 = z22
    generalize f 23 = z23
    generalize f 24 = z24
    generalize f 25 = z25
    clear hv ex ey hrx hry hC
    have B1 := hid_ HC.out.1
    have X1 := hid_ HC.out.2.2.2.1
    rename_i K hK
    refine hK _ _ ?_
    clear HC C0 hm1 hm2 hs1 hs2 hK K
    have hlW := B1.out.lt
    have v1 := conv_strn QX.out n1 cx LX.out
    have v2 := conv_strn QY.out n2 cy LY.out
    have VX : Hid (∀ W' : World, AoC W W' → (convert 23 9 (.slice Bx n1 cx)).run Try.prog W' = .ok (.string (strOf x)) W') := hid_ (fun W' h => conv_strn (QX.out.below h) n1 cx LX.out)
    have VY : Hid (∀ W' : World, AoC W W' → (convert 23 9 (.slice By n2 cy)).run Try.prog W' = .ok (.string (strOf y)) W') := hid_ (fun W' h => conv_strn (QY.out.below h) n2 cy LY.out)
    clear v1 v2
    go_upto_region 2 with fail
    refine region_quiet_in (C := AoC W) (by kernel_rfl) (by kernel_rfl) ((Below.refl _ _).drew) ?_
    repeat (go_big_quiet_want; (first
      | (refine BigFrame.quiet_move _ rfl ?_; go_simp)
      | (refine BigFrame.quiet_assign _ rfl ?_; go_simp)
      | (refine quiet_run (.string (strOf x)) ?_ ?_; (focus (intro W hW; have h := VX.out W hW; go_simp; done)); go_simp)
      | (refine quiet_run (.string (strOf y)) ?_ ?_; (focus (intro W hW; have h := VY.out W hW; go_simp; done)); go_simp)); go_big_quiet_on)
    refine wpQuiet_nil ?_
    intro W2 hW2
    have B2 := hid_ (B1.out.below hW2 B1.out.lt)
    have X2 := hid_ (X1.out.trans (hW2.mono (Nat.le_of_lt B1.out.lt)))
    have Q1 := hid_ ((QX.out.below hW2).more hW2.size)
    have Q2 := hid_ ((QY.out.below hW2).more hW2.size)
    clear hW2 VX VY B1 X1 QX QY hlW
    have cs := seal_any key nonce Bx n1 cx x By n2 cy y W2 HK.out HN.out LX.out LY.out Q1.out Q2.out hcy hcmy (by omega) (by omega)
    have SL : Hid ((sealB key nonce x y).length = n2 + 16) := hid_ (by rw [sealB_len, LY.out])
    have SO := hid_ (seal_opens key nonce x y n2 LY.out)
    have SB := hid_ (seal_back key nonce x y n2 LY.out)
    have P2 : Hid (∀ W' : World, Calls Try.prog 20 #[.string (strOf key), .string (strOf nonce), .string (strOf x), .string (strOf y)] W' fun e w' => e = .returned (.string (strOf (sealB key nonce x y))) ∧ Below W'.heap.size W' w') := hid_ (fun W' => refASeal_any key nonce x y n1 n2 W' HK.out HN.out LX.out LY.out (by omega) (by omega))
    obtain ⟨S, hS⟩ : ∃ S, Hid (sealB key nonce x y = S) := ⟨_, rfl⟩
    rw [hS.out] at cs SL SO SB P2
    have HK0 := hid_ (sg_key B2.out)
    have HK1 := hid_ (sg_nonce HK.out B2.out)
    go_upto_region 4 with (first
      | (refine wpList_load_sub rfl 22 (.tmp 30) rfl g 0 rfl (rowOf key) HK0.out _ Try.underlying22 rfl I32.out ?_)
      | (refine wpList_load_sub rfl 32 (.tmp 32) rfl g 32 rfl (rowOf nonce) HK1.out _ Try.underlying32 rfl I12.out ?_)
      | (go_at_call 17; ((with_reducible refine cs.mono ?_); rintro e w3 ⟨A3, c3, rfl, ho3, hb3⟩; have HO3 := hid_ ho3; have HB3 := hid_ hb3; clear ho3 hb3)))
    have B3 := hid_ (B2.out.below HB3.out B2.out.lt)
    have X3 := hid_ (X2.out.trans (HB3.out.mono (Nat.le_of_lt B2.out.lt)))
    have Q3 := hid_ ((Q1.out.below HB3.out).more HB3.out.size)
    have Q4 := hid_ ((Q2.out.below HB3.out).more HB3.out.size)
    have R3 := hid_ HO3.out.rd.1
    have hcap := HO3.out.cap
    have co : Calls Try.prog 18 #[.agg (rowOf key), .agg (rowOf nonce), .slice Bx n1 cx, .slice A3 (n2 + 16) c3] w3 (OpenedP w3 n2 y) := by
      have h := aopen_yes key nonce Bx n1 cx x A3 n2 c3 S w3 HK.out HN.out LX.out SL.out Q3.out R3.out hcap.1 hcap.2 (by omega) (by omega) SO.out
      rw [SB.out] at h
      exact h
    clear cs HK0 HK1 B2 X2 Q1 Q2 HO3 HB3
    have HK0 := hid_ (sg_key B3.out)
    have HK1 := hid_ (sg_nonce HK.out B3.out)
    go_upto_region 5 with (first
      | (refine wpList_load_sub rfl 22 (.tmp 38) rfl g 0 rfl (rowOf key) HK0.out _ Try.underlying22 rfl I32.out ?_)
      | (refine wpList_load_sub rfl 32 (.tmp 40) rfl g 32 rfl (rowOf nonce) HK1.out _ Try.underlying32 rfl I12.out ?_)
      | (go_at_call 18; ((with_reducible refine co.mono ?_); rintro e w4 ⟨A4, c4, rfl, ho4, hb4⟩; have HO4 := hid_ ho4; have HB4 := hid_ hb4; clear ho4 hb4)))
    have B4 := hid_ (B3.out.below HB4.out B3.out.lt)
    have X4 := hid_ (X3.out.trans (HB4.out.mono (Nat.le_of_lt B3.out.lt)))
    have T1 := (Q3.out.below HB4.out).more HB4.out.size
    have T2 := (Q4.out.below HB4.out).more HB4.out.size
    have T3 := (R3.out.below HB4.out).more HB4.out.size
    have T4 := HO4.out.rd.1
    have V1 : Hid (∀ W : World, AoC w4 W → (convert 23 9 (.slice (some ⟨g, 0, none⟩) 32 32)).run Try.prog W = .ok (.string (strOf key)) W) := hid_ (fun W h => conv_strn (sg_rdk (B4.out.below h B4.out.lt)) 32 32 HK.out)
    have V2 : Hid (∀ W : World, AoC w4 W → (convert 23 9 (.slice (some ⟨g, 32, none⟩) 12 12)).run Try.prog W = .ok (.string (strOf nonce)) W) := hid_ (fun W h => conv_strn (sg_rdn HK.out (B4.out.below h B4.out.lt)) 12 12 HN.out)
    have V3 : Hid (∀ W : World, AoC w4 W → (convert 23 9 (.slice Bx n1 cx)).run Try.prog W = .ok (.string (strOf x)) W) := hid_ (fun W h => conv_strn (T1.below h) n1 cx LX.out)
    have V4 : Hid (∀ W : World, AoC w4 W → (convert 23 9 (.slice By n2 cy)).run Try.prog W = .ok (.string (strOf y)) W) := hid_ (fun W h => conv_strn (T2.below h) n2 cy LY.out)
    have V5 : Hid (∀ W : World, AoC w4 W → (convert 23 9 (.slice A3 (n2 + 16) c3)).run Try.prog W = .ok (.string (strOf S)) W) := hid_ (fun W h => conv_strn (T3.below h) (n2 + 16) c3 SL.out)
    have V6 : Hid (∀ W : World, AoC w4 W → (convert 23 9 (.slice A4 n2 c4)).run Try.prog W = .ok (.string (strOf y)) W) := hid_ (fun W h => conv_strn (T4.below h) n2 c4 LY.out)
    have P1 : Hid (∀ W : World, AoC w4 W → Calls Try.prog 19 #[] W fun e w' => e = .returned (.bool true) ∧ AoC w4 w') := hid_ (fun W h => (seals_any W).mono fun e w' hh => ⟨hh.1, h.trans (hh.2.mono h.size)⟩)
    have P3 : Hid (∀ W : World, AoC w4 W → Calls Try.prog 20 #[.string (strOf key), .string (strOf nonce), .string (strOf x), .string (strOf y)] W fun e w' => e = .returned (.string (strOf S)) ∧ AoC w4 w') := hid_ (fun W h => (P2.out W).mono fun e w' hh => ⟨hh.1, h.trans (hh.2.mono h.size)⟩)
    have s1 := sl_sgk g
    have s2 := sl_sgn g
    have hl4 : g ≤ w4.heap.size := Nat.le_of_lt B4.out.lt
    clear T1 T2 T3 T4 co HK0 HK1 B3 X3 Q3 Q4 R3 HO4 HB4 P2 SL SO SB I32 I12 B4
    refine region_quiet_in (C := AoC w4) (by kernel_rfl) (by kernel_rfl) ((Below.refl _ _).drew) ?_
    repeat (go_big_quiet_want; (first
      | (refine BigFrame.quiet_move _ rfl ?_; go_simp)
      | (refine BigFrame.quiet_assign _ rfl ?_; go_simp)
      | (refine quiet_call (.bool true) 19 #[] ?_ P1.out ?_; (focus (intro W; go_simp; done)); go_simp)
      | (refine quiet_call (.string (strOf S)) 20 #[.string (strOf key), .string (strOf nonce), .string (strOf x), .string (strOf y)] ?_ P3.out ?_; (focus (intro W; go_simp; done)); go_simp)
      | (refine quiet_run (.bool true) ?_ ?_; (focus (intro W hW; go_simp; done)); go_simp)
      | (refine quiet_run (.pointer (some ⟨g, 0, none⟩)) ?_ ?_; (focus (intro W hW; go_simp; done)); go_simp)
      | (refine quiet_run (.pointer (some ⟨g, 32, none⟩)) ?_ ?_; (focus (intro W hW; go_simp; done)); go_simp)
      | (refine quiet_run (.slice (some ⟨g, 0, none⟩) 32 32) ?_ ?_; (focus (intro W hW; go_simp; done)); go_simp)
      | (refine quiet_run (.slice (some ⟨g, 32, none⟩) 12 12) ?_ ?_; (focus (intro W hW; go_simp; done)); go_simp)
      | (refine quiet_run (.string (strOf key)) ?_ ?_; (focus (intro W hW; have h := V1.out W hW; go_simp; done)); go_simp)
      | (refine quiet_run (.string (strOf nonce)) ?_ ?_; (focus (intro W hW; have h := V2.out W hW; go_simp; done)); go_simp)
      | (refine quiet_run (.string (strOf x)) ?_ ?_; (focus (intro W hW; have h := V3.out W hW; go_simp; done)); go_simp)
      | (refine quiet_run (.string (strOf y)) ?_ ?_; (focus (intro W hW; have h := V4.out W hW; go_simp; done)); go_simp)
      | (refine quiet_run (.string (strOf S)) ?_ ?_; (focus (intro W hW; have h := V5.out W hW; go_simp; done)); go_simp)
      | (refine quiet_run (.string (strOf y)) ?_ ?_; (focus (intro W hW; have h := V6.out W hW; go_simp; done)); go_simp)); go_big_quiet_on)
    refine wpQuiet_nil ?_
    intro W5 hW5
    have HW := hid_ hW5
    clear hW5
    go_wp2
    go_ret
    exact ⟨rfl, by rw [hg.out]; exact X4.out.trans (HW.out.mono hl4)⟩

set_option maxRecDepth 100000 in
theorem lifted (os : Os) (started : os.Started) (H : Type) (enc : TypeId × Value → H) :
    ReturnsInHanded {} Try.checked os 5 .any (Rows.aeadSealsSpec.pre6 enc Try.prog Try.f5 Rows.aeadSealsRow.domain false) (Rows.aeadSealsSpec.post enc Try.prog Try.f5 false true false false) := by
  refine returnsInHanded_of_change (C := Try.checked) own_ started (by kernel_rfl) Try.func5
    (ChangeSpec.witness6 (enc := enc) (C := Try.checked) false ⟨#[], #[.agg (rowOf (zbytes 44)), .slice none 0 0, .slice none 0 0], []⟩ 8 (by kernel_rfl) (by kernel_rfl) (by kernel_rfl) (by kernel_rfl)) ?_
  intro W base args ds gs before hval0 hW hcnd _
  have hval : ∀ (j : Nat) t v, Try.f5.params[j]? = some t → args[j]? = some v → Value.okWide Try.prog W .any base t v := hval0
  have hW' := hW
  obtain ⟨p, q, hA0, hV, rfl, hfz, hnd⟩ := hW
  have hA : DataW.TrodAll enc Try.prog W 0 (fun _ => true) true Try.f5.params.toList args.toList ds p := hA0
  rw [Try.params5] at hA hval
  obtain ⟨v0, vs0, d0, ds0, p0, q0, hargs, rfl, rfl, h0, r0⟩ := trodAll_cons hA
  obtain ⟨v1, vs1, d1, ds1, p1, q1, rfl, rfl, rfl, h1, r1⟩ := trodAll_cons r0
  obtain ⟨v2, vs2, d2, ds2, p2, q2, rfl, rfl, rfl, h2, r2⟩ := trodAll_cons r1
  obtain ⟨rfl, rfl, rfl⟩ := trodAll_nil r2
  obtain rfl : args = #[v0, v1, v2] := by cases args; simp_all
  obtain ⟨rfl, rfl⟩ := trodVars_none hV
  obtain ⟨k0, n0, rfl, hk0, hn0⟩ := open_sealing Try.underlying34 ⟨rfl, rfl⟩ ⟨rfl, rfl⟩ Try.underlying22 (by kernel_rfl) Try.underlying32 Try.underlying5 (by kernel_rfl) (by kernel_rfl) (by kernel_rfl) (hval 0 34 v0 rfl rfl) h0
  obtain ⟨A1, l1, c1, rfl, hr1, hlc1, hcm1⟩ := open_bytes Try.underlying23 Try.underlying5 (by kernel_rfl) (hval 1 23 v1 rfl rfl) h1
  obtain ⟨A2, l2, c2, rfl, hr2, hlc2, hcm2⟩ := open_bytes Try.underlying23 Try.underlying5 (by kernel_rfl) (hval 2 23 v2 rfl rfl) h2
  refine (walk W k0 n0 hk0 hn0 A1 l1 c1 hr1 hlc1 (by unfold maxLen at hcm1; omega) A2 l2 c2 hr2 hlc2 (by unfold maxLen at hcm2; omega)).mono fun e W' ⟨he, hg⟩ => ⟨_, he, ?_⟩
  exact law_post laidOut_ (of_decide_eq_true (by kernel_rfl)) rfl rfl Try.underlying4 rfl hW' hg

theorem over : Rows.aeadSealsRow.holds Try.pinned (OpenSpec.ofChange Rows.aeadSealsSpec) :=
  OpenClaim.holds_of_wide 5 Try.f5 rfl rfl rfl rfl rfl rfl rfl ⟨rfl, rfl, rfl, rfl, rfl⟩ rfl rfl rfl rfl rfl (by kernel_rfl) Try.func5 (by kernel_rfl)
    (of_decide_eq_true (by kernel_rfl)) (by unfold Func.isWrapper; first | (rw [if_pos (by decide +kernel)]; kernel_rfl) | (rw [if_neg (by decide +kernel)]; exact ⟨rfl, rfl⟩))
    (fun os started H enc _ => lifted os started H enc)

theorem proved : Rows.AeadSealsSaid := over
#print axioms proved
end Go.Proofs.Ytopmngjaieobnaa.aeadSeals
