/-
  The reference's Read of a context.
-/
import Derived.Test.YtjflmfmncepeeaaJq
import Derived.Test.YtjflmfmncepeeaaJm
namespace Go.Proofs.Ytjflmfmncepeeaa
open Go.ChangeShapes Go.WideShapes Go.ChangeAt Go.RowKit
set_option linter.unusedVariables false
set_option linter.unusedSimpArgs false

theorem rif_num {gi : Nat} {l : List UInt8} {err : Int} {W : World} (h : RiF W gi l err) (most : Int) (w0 : -9223372036854775808 ≤ most) (w1 : most ≤ 9223372036854775807) :
    Calls Try.prog 49 #[.pointer (some ⟨gi, 0, none⟩), .int .i64 most] W fun e w' => e = .returned (.int .i64 (numS 8 most l err).1) ∧ RiF w' gi (numS 8 most l err).2.1 (numS 8 most l err).2.2 ∧ W.grownBy w' (some gi) :=
  (refnum_any W gi most l err h w0 w1).mono fun e w' ⟨he, h1, h2⟩ => ⟨he, h1, h2.grown_⟩
theorem rif_small {gi : Nat} {l : List UInt8} {err : Int} {W : World} (h : RiF W gi l err) (most : Int) (w0 : -9223372036854775808 ≤ most) (w1 : most ≤ 9223372036854775807) :
    Calls Try.prog 50 #[.pointer (some ⟨gi, 0, none⟩), .int .i64 most] W fun e w' => e = .returned (.int .i64 (numS 1 most l err).1) ∧ RiF w' gi (numS 1 most l err).2.1 (numS 1 most l err).2.2 ∧ W.grownBy w' (some gi) :=
  (refsmall_any W gi most l err h w0 w1).mono fun e w' ⟨he, h1, h2⟩ => ⟨he, h1, h2.grown_⟩
theorem iRI_ : (Try.prog.info? 25).map (·.size) = some 17 := by kernel_rfl
/-- What the reference's Read gives. -/
def RefRdP (l : List UInt8) (w : World) (e : Ending) (w' : World) : Prop :=
  ∃ u m A c ok, e = .returned (.tuple #[.agg (ctxRow u A (m : List DotV).length c), .bool ok]) ∧ ReadV l u m ok ∧ RdD w' w'.heap.size A m ∧ m.length ≤ c ∧ c ≤ 9223372036854775807 ∧ u.length = 16 ∧ m.length ≤ 32 ∧ Below w.heap.size w w'
theorem rd_no_stop {l lq : List UInt8} {eq : Int} {U : List Int} {q k : Nat} (h : rdAll far l = (U, rdD far lq eq q)) (hk : k ≤ q) (he : (rdD far lq eq k).2.2 ≠ 0) : ∀ up ms, ¬ RdOk l up ms := by
  refine rd_no (most := far) (by unfold far; omega) (.inl ?_)
  rw [h]
  simp only
  have := rdD_stop k q he hk
  unfold endS
  rw [if_pos this]
  exact this

set_option maxRecDepth 100000 in
set_option maxHeartbeats 8000000 in
theorem refRead_any (w : World) (l : List UInt8) (hm : l.length ≤ 140737488355328) :
    Calls Try.prog 31 #[.string (strOf l)] w (RefRdP l w) := by
  obtain ⟨g, hg⟩ : ∃ g, w.heap.size = g := ⟨_, rfl⟩
  obtain ⟨w1, hw1⟩ : ∃ x, w.alloc (.cells (ctxRow [0, 0, 0, 0, 0, 0, 0, 0, 0, 0, 0, 0, 0, 0, 0, 0] none 0 0) 25) = x := ⟨_, rfl⟩
  obtain ⟨w2, hw2⟩ : ∃ x, w1.alloc (.cells #[.string (strOf l), .int .i64 0] 83) = x := ⟨_, rfl⟩
  obtain ⟨w3, hw3⟩ : ∃ x, w2.alloc (.cells (ctxRow [0, 0, 0, 0, 0, 0, 0, 0, 0, 0, 0, 0, 0, 0, 0, 0] none 0 0) 25) = x := ⟨_, rfl⟩
  have R1 := show Bk w1 g 25 (ctxRow [0, 0, 0, 0, 0, 0, 0, 0, 0, 0, 0, 0, 0, 0, 0, 0] none 0 0) by rw [← hw1, ← hg]; exact Bk.new w _ _
  have X1 := show Below g w w1 by rw [← hw1, ← hg]; exact (Below.refl _ _).alloc (Nat.le_refl _) _
  have S1 : w1.heap.size = g + 1 := by rw [← hw1, ← hg]; simp
  have b2 : Below w1.heap.size w1 w2 := by rw [← hw2]; exact (Below.refl _ _).alloc (Nat.le_refl _) _
  have I2 := show RiF w2 (g + 1) l 0 by rw [← S1, ← hw2]; exact Bk.new w1 _ _
  have S2 : w2.heap.size = g + 2 := by rw [← hw2]; simp [S1]
  have b3 : Below w2.heap.size w2 w3 := by rw [← hw3]; exact (Below.refl _ _).alloc (Nat.le_refl _) _
  have S3 : w3.heap.size = g + 3 := by rw [← hw3]; simp [S2]
  have V3 := hidd_ (show Bk w3 (g + 2) 25 (ctxRow (UK l 0) none 0 0) by rw [UK_zero, ← S2, ← hw3]; exact Bk.new w2 _ _)
  have R2 := R1.below b2 R1.lt
  have R3 := hidd_ (R2.below b3 R2.lt)
  have I3 := hidd_ (show RiF w3 (g + 1) l 0 from Bk.below I2 b3 (Bk.lt I2))
  have X3 := hidd_ ((X1.trans (b2.mono (by omega))).trans (b3.mono (by omega)))
  have hz := zRX_
  have hzD := zD_
  have HG := hidd_ hg
  have IX := hidd_ (fun (u : List Int) (hu : u.length = 16) A n c => (show (Try.prog.info? 25).map (·.size) = some (ctxRow u A n c).size by rw [ctxRow_size u A n c hu]; exact iRI_))
  have HB3 := hidd_ S3
  go_enter Try.func31, Try.ntmps31
  go_upto_region 3 with fail
  clear R1 X1 b2 I2 b3 R2 hm
  go_upto_region 4 with fail
  clear hw1 hw2 hw3 S1 S2 hg
  have hBw3 : g + 3 ≤ w3.heap.size := by omega
  clear S3
  go_loopw [6] (fun i wr => ∃ k : Nat, k ≤ 16 ∧ i = .int .i64 k ∧ g + 3 ≤ wr.heap.size ∧ Hid (RiF wr (g + 1) (rdU l k).2.1 (rdU l k).2.2) ∧ Hid (Bk wr (g + 2) 25 (ctxRow (UK l k) none 0 0)) ∧ Hid (Bk wr g 25 (ctxRow [0, 0, 0, 0, 0, 0, 0, 0, 0, 0, 0, 0, 0, 0, 0, 0] none 0 0)) ∧ Hid (Below g w wr)) (fun i _ => 16 - (intOf i).toNat)
  case atStart => exact ⟨0, by omega, rfl, hBw3, I3, V3, R3, X3⟩
  case round =>
    obtain ⟨k, hk, rfl, hBw, HI, HV, HRR, HX⟩ := hrel
    by_cases hlt : k < 16
    · have cn := rif_num HI.out 1099511627776 (by omega) (by omega)
      have HST := hidd_ (UK_set l k hlt)
      have HNX := hidd_ (show (rdU l (k + 1)).2 = (numS 8 far (rdU l k).2.1 (rdU l k).2.2).2 from rfl)
      unfold far at HST HNX
      obtain ⟨v, hv⟩ : ∃ v, (numS 8 1099511627776 (rdU l k).2.1 (rdU l k).2.2).1 = v := ⟨_, rfl⟩
      rw [hv] at HST cn
      have t0 : (0 : Int) ≤ (k : Int) := by omega
      have t1 : (k : Int) < 16 := by omega
      clear hv
      go_upto_region 5 with (go_at_call 49; ((with_reducible refine cn.mono ?_); clear cn; rintro e w5 ⟨rfl, h1, h2⟩; have I5 := hidd_ h1; have V5 := hidd_ (HV.out.grown h2 (fun e => by injection e with e; omega)); have R5 := hidd_ (HRR.out.grown h2 (fun e => by injection e with e; omega)); have X5 := hidd_ (HX.out.grown h2 (by omega) (fun k hk => by injection hk with hk; omega)); have hs5 := h2.size; clear h1 h2; have hcz := (V5.out.cell k).trans (ctxRow_up (UK l k) none 0 0 k (UK_len l k (by omega)) hlt); have hfz := V5.out.frozen k))
      generalize hw6 : w5.setCell _ _ = w6
      have g6 : w5.grownBy w6 (some (g + 2)) := by rw [← hw6]; exact grown_cell _ _ _ _
      have V6 := hidd_ (show Bk w6 (g + 2) 25 (ctxRow (UK l (k + 1)) none 0 0) by rw [← hw6, ← HST.out, ← ctxRow_setup (UK l k) none 0 0 k v (UK_len l k (by omega)) hlt]; exact V5.out.set_ k _)
      have I6 := hidd_ (show RiF w6 (g + 1) _ _ from Bk.grown I5.out g6 (fun e => by injection e with e; omega))
      have R6 := hidd_ (R5.out.grown g6 (fun e => by injection e with e; omega))
      have X6 := hidd_ (X5.out.grown g6 (by omega) (fun k hk => by injection hk with hk; omega))
      have hs6 := g6.size
      clear g6 hw6 hcz hfz HI HV HRR HX I5 V5 R5 X5 HST
      go_wp2
      go_roundw
      case rel => exact ⟨k + 1, by omega, by go_num, by omega, by rw [HNX.out]; exact I6, V6, R6, X6⟩
      case measure => simp [intOf]; omega
    · obtain rfl : k = 16 := by omega
      have d1 : decide (((16 : Nat) : Int) < 16) = false := rfl
      have cs := rif_small HI.out 32 (by omega) (by omega)
      obtain ⟨U, hU⟩ : ∃ u, (rdU l 16).1 = u := ⟨_, rfl⟩
      have HUL := hidd_ (show U.length = 16 by rw [← hU]; exact rdU_len l 16)
      have HU := hidd_ hU
      have HV2 := hidd_ (show Bk wr (g + 2) 25 (ctxRow U none 0 0) by rw [← hU, ← UK_end]; exact HV.out)
      have hbd := numS_bd 1 32 (by omega) (rdU l 16).2.1 (rdU l 16).2.2
      obtain ⟨q, hq⟩ : ∃ q : Nat, (numS 1 32 (rdU l 16).2.1 (rdU l 16).2.2).1 = (q : Int) := ⟨(numS 1 32 (rdU l 16).2.1 (rdU l 16).2.2).1.toNat, by omega⟩
      obtain ⟨lq, hlq⟩ : ∃ x, (numS 1 32 (rdU l 16).2.1 (rdU l 16).2.2).2.1 = x := ⟨_, rfl⟩
      obtain ⟨eq, heq⟩ : ∃ x, (numS 1 32 (rdU l 16).2.1 (rdU l 16).2.2).2.2 = x := ⟨_, rfl⟩
      rw [hq, hlq, heq] at cs
      have hq32 : q ≤ 32 := by omega
      have HALL := hidd_ (show rdAll far l = (U, rdD far lq eq q) by unfold rdAll; rw [hU, hq, hlq, heq]; rfl)
      clear hU hq hlq heq hbd I3 V3 R3 X3 HV hBw3
      go_upto_region 9 with (go_at_call 50; ((with_reducible refine cs.mono ?_); clear cs; rintro e w5 ⟨rfl, h1, h2⟩; have I5 := hidd_ h1; have V5 := hidd_ (HV2.out.grown h2 (fun e => by injection e with e; omega)); have R5 := hidd_ (HRR.out.grown h2 (fun e => by injection e with e; omega)); have X5 := hidd_ (HX.out.grown h2 (by omega) (fun k hk => by injection hk with hk; omega)); have hs5 := h2.size; clear h1 h2))
      clear HI HV2 HRR HX
      have hBw5 : g + 3 ≤ w5.heap.size := by omega
      clear hs5 hBw
      go_loopw [8] (fun i wr => ∃ (k : Nat) (A' : Option Addr) (c' : Nat), k ≤ q ∧ i = .int .i64 k ∧ g + 3 ≤ wr.heap.size ∧ Hid (RiF wr (g + 1) (rdD far lq eq k).2.1 (rdD far lq eq k).2.2) ∧ Hid (Bk wr (g + 2) 25 (ctxRow U A' k c')) ∧ Hid (OwnD wr (g + 3) (.slice A' k c') (rdD far lq eq k).1) ∧ Hid (Bk wr g 25 (ctxRow [0, 0, 0, 0, 0, 0, 0, 0, 0, 0, 0, 0, 0, 0, 0, 0] none 0 0)) ∧ Hid (Below g w wr)) (fun i _ => q - (intOf i).toNat)
      case atStart => exact ⟨0, none, 0, by omega, rfl, hBw5, I5, V5, hidd_ (OwnD.nil_ _ _), R5, X5⟩
      case round =>
        obtain ⟨k, A', c', hk, rfl, hBw, HI, HV, HO, HRR, HX⟩ := hrel
        clear I5 V5 R5 X5
        obtain ⟨ms, hms⟩ : ∃ x, (rdD far lq eq k).1 = x := ⟨_, rfl⟩
        obtain ⟨lr, hlr⟩ : ∃ x, (rdD far lq eq k).2.1 = x := ⟨_, rfl⟩
        obtain ⟨er, her⟩ : ∃ x, (rdD far lq eq k).2.2 = x := ⟨_, rfl⟩
        have HML := hidd_ (show ms.length = k by rw [← hms]; exact rdD_len far lq eq k)
        rw [hlr, her] at HI
        rw [hms] at HO
        have hce := Bk.cell HI.out 1
        simp only [List.getElem?_toArray, List.getElem?_cons_zero, List.getElem?_cons_succ] at hce
        by_cases hlt : k < q ∧ er = 0
        · obtain ⟨hlt, rfl⟩ := hlt
          obtain ⟨v1, l1, e1, hn1⟩ : ∃ v1 l1 e1, numS 8 far lr 0 = (v1, l1, e1) := ⟨_, _, _, rfl⟩
          obtain ⟨v2, l2, e2, hn2⟩ : ∃ v2 l2 e2, numS 8 far l1 e1 = (v2, l2, e2) := ⟨_, _, _, rfl⟩
          have HR1 := hidd_ (show rdD far lq eq (k + 1) = (ms ++ [⟨v1, v2⟩], l2, e2) by rw [rdD, hms, hlr, her]; simp only [hn1, hn2])
          have HN1 := hidd_ (show numS 8 1099511627776 lr 0 = (v1, l1, e1) from hn1)
          have HN2 := hidd_ (show numS 8 1099511627776 l1 e1 = (v2, l2, e2) from hn2)
          clear hms hlr her hn1 hn2
          have LT := hidd_ HO.out.lt
          have t0 : (0 : Int) ≤ (k : Int) := by omega
          have tn : (k : Int) < (q : Int) := by omega
          have cn := rif_num HI.out 1099511627776 (by omega) (by omega)
          rw [HN1.out] at cn
          simp only at cn
          go_upto_region 12 with (first
            | (go_at_call 49; ((with_reducible refine cn.mono ?_); clear cn; rintro e w5 ⟨rfl, h1, h2⟩; have I5 := hidd_ h1; have V5 := hidd_ (HV.out.grown h2 (fun e => by injection e with e; omega)); have R5 := hidd_ (HRR.out.grown h2 (fun e => by injection e with e; omega)); have O5 := hidd_ (HO.out.kept h2 (.inr (fun e => by have := (LT.out _ e).1; omega))); have X5 := hidd_ (HX.out.grown h2 (by omega) (fun k hk => by injection hk with hk; omega)); have hs5 := h2.size; clear h1 h2))
            | (refine wpList_put_row rfl 27 _ _ rfl w5.heap.size #[.int .i64 v1, .int .i64 0] rfl rfl 27 #[.int .i64 0, .int .i64 0] (Bk.new w5 _ _) iD_ rfl (row_one ⟨v1, 0⟩) ?_; intro w6 k6 g6 s6; have B6 := hidd_ (((Below.refl w5.heap.size w5).alloc (Nat.le_refl _) (.cells #[.int .i64 0, .int .i64 0] 27)).grown g6 (by simp) (fun k hk => by injection hk with hk; omega)); have D6 := hidd_ k6; clear k6 g6 s6))
          obtain ⟨gd, hgd⟩ : ∃ x, w5.heap.size = x := ⟨_, rfl⟩
          have I6 := hidd_ (show RiF w6 (g + 1) l1 e1 from Bk.below I5.out B6.out (Bk.lt I5.out))
          have V6 := hidd_ (V5.out.below B6.out V5.out.lt)
          have R6 := hidd_ (R5.out.below B6.out R5.out.lt)
          have O6 := hidd_ (O5.out.below B6.out (Nat.le_refl _))
          have X6 := hidd_ (X5.out.trans (B6.out.mono (by omega)))
          have LT6 := hidd_ O5.out.lt
          rw [hgd] at D6 LT6
          have hgdB : g + 3 ≤ gd := by omega
          simp only [hgd]
          have cn := rif_num I6.out 1099511627776 (by omega) (by omega)
          rw [HN2.out] at cn
          simp only at cn
          clear HI HV HO HRR HX hce I5 V5 R5 O5 X5 B6 LT hgd
          go_upto_region 13 with (go_at_call 49; ((with_reducible refine cn.mono ?_); clear cn; rintro e w7 ⟨rfl, h1, h2⟩; have I7 := hidd_ h1; have D7 := hidd_ (D6.out.grown h2 (fun e => by injection e with e; omega)); have V7 := hidd_ (V6.out.grown h2 (fun e => by injection e with e; omega)); have R7 := hidd_ (R6.out.grown h2 (fun e => by injection e with e; omega)); have O7 := hidd_ (O6.out.kept h2 (.inr (fun e => by have := (LT6.out _ e).1; omega))); have X7 := hidd_ (X6.out.grown h2 (by have := R6.out.lt; omega) (fun k hk => by injection hk with hk; omega)); clear h1 h2; have hcz := (Bk.twod D7.out).2; have hfz := D7.out.frozen 1))
          generalize hw8 : w7.setCell _ _ = w8
          have g8 : w7.grownBy w8 (some gd) := by rw [← hw8]; exact grown_cell _ _ _ _
          have D8 := hidd_ (show Bk w8 gd 27 #[.int .i64 v1, .int .i64 v2] by rw [← hw8]; exact D7.out.set_ 1 _)
          have I8 := hidd_ (show RiF w8 (g + 1) l2 e2 from Bk.grown I7.out g8 (fun e => by injection e with e; omega))
          have V8 := hidd_ (V7.out.grown g8 (fun e => by injection e with e; omega))
          have R8 := hidd_ (R7.out.grown g8 (fun e => by injection e with e; omega))
          have O8 := hidd_ (O7.out.kept g8 (.inr (fun e => by have := (LT6.out _ e).2; omega)))
          have X8 := hidd_ (X7.out.grown g8 (by have := R7.out.lt; omega) (fun k hk => by injection hk with hk; omega))
          clear g8 hw8 hcz hfz D6 I6 V6 R6 O6 X6 I7 D7 V7 R7 O7 X7
          have hcx := (V8.out.cell 16).trans (ctxRow_more U A' k c' HUL.out)
          have hs8 : gd < w8.heap.size := D8.out.lt
          obtain ⟨w9, hw9⟩ : ∃ x, w8.alloc (.cells #[.int .i64 v1, .int .i64 v2] 27) = x := ⟨_, rfl⟩
          have b9 : Below w8.heap.size w8 w9 := by rw [← hw9]; exact (Below.refl _ _).alloc (Nat.le_refl _) _
          have K9 := hidd_ (show Bk w9 w8.heap.size 27 (DotV.row ⟨v1, v2⟩) by rw [← hw9]; exact Bk.new w8 _ _)
          have I9 := hidd_ (show RiF w9 (g + 1) l2 e2 from Bk.below I8.out b9 (Bk.lt I8.out))
          have V9 := hidd_ (V8.out.below b9 V8.out.lt)
          have R9 := hidd_ (R8.out.below b9 R8.out.lt)
          have O9 := hidd_ (O8.out.below b9 (Nat.le_refl _))
          have X9 := hidd_ (X8.out.trans (b9.mono (by omega)))
          have hle9 : g + 3 ≤ w9.heap.size := by have := b9.size; omega
          have RA := hidd_ (rdD_one K9.out _ K9.out.lt)
          have T1 : ms.length + 1 ≤ 1000000 := by have := HML.out; omega
          have HT := hidd_ (show ∀ b, b < g + 3 → some b ≠ (Value.slice A' k c').ownBlock from fun b hb e => by have := (LT6.out _ e.symm).1; omega)
          have IDd := hidd_ (show (Try.prog.info? 27).map (·.size) = some (#[Value.int .i64 v1, Value.int .i64 v2] : Array Value).size from iD_)
          clear b9 I8 V8 R8 O8 X8
          go_upto_region 10 with (first
            | (refine wpList_load_row rfl 27 (.tmp 9) rfl gd rfl 27 #[.int .i64 v1, .int .i64 v2] (0, 0) _ D8.out Try.underlying27 rfl IDd.out ?_)
            | (refine wpList_appDD rfl (.tmp 43) (.tmp 45) rfl O9.out rfl 1 1 rfl RA.out rfl T1 hle9 ?_; intro A2 c2 w10 k1 k2 k3; rw [HML.out] at k1 k3 ⊢; have O10 := hidd_ k1; have V10 := hidd_ (V9.out.grown k2 (HT.out _ (by omega))); have R10 := hidd_ (R9.out.grown k2 (HT.out _ (by omega))); have I10 := hidd_ (show RiF w10 (g + 1) l2 e2 from Bk.grown I9.out k2 (HT.out _ (by omega))); have X10 := hidd_ (X9.out.grown k2 (by omega) (fun q hq => by have := (LT6.out q hq).1; omega)); have hs10 := k2.size; have hcx10 := (V10.out.cell 16).trans (ctxRow_more U A' k c' HUL.out); have hfz10 := V10.out.frozen 16; clear k1 k2 k3))
          have em := ctxRow_put U A' k c' HUL.out A2 (k + 1) c2
          generalize hw11 : w10.setCell _ _ = w11
          have g11 : w10.grownBy w11 (some (g + 2)) := by rw [← hw11]; exact grown_cell _ _ _ _
          have V11 := hidd_ (show Bk w11 (g + 2) 25 (ctxRow U A2 (k + 1) c2) by rw [← hw11, ← em]; exact V10.out.set_ 16 _)
          have I11 := hidd_ (show RiF w11 (g + 1) l2 e2 from Bk.grown I10.out g11 (fun e => by injection e with e; omega))
          have R11 := hidd_ (R10.out.grown g11 (fun e => by injection e with e; omega))
          have O11 := hidd_ (O10.out.kept g11 (.inr (fun e => by have := (O10.out.lt _ e).1; omega)))
          have X11 := hidd_ (X10.out.grown g11 (by have := R10.out.lt; omega) (fun k hk => by injection hk with hk; omega))
          have hs11 := g11.size
          clear g11 hw11 em hcx10 hfz10 V10 I10 R10 O10 X10 V9 I9 R9 O9 X9 RA HT K9 D8
          go_wp2
          go_roundw
          case rel => exact ⟨k + 1, A2, c2, by omega, by go_num, by omega, by rw [HR1.out]; exact I11, V11, by rw [HR1.out]; exact O11, R11, X11⟩
          case measure => simp [intOf]; omega
        · have HCASE := hidd_ (show (k = q ∧ rdAll far l = (U, ms, lr, er)) ∨ (er ≠ 0 ∧ ∀ up ms, ¬ RdOk l up ms) by
            rcases Int.decEq er 0 with h | h
            · exact .inr ⟨h, rd_no_stop HALL.out hk (by rw [her]; exact h)⟩
            · have : k = q := by omega
              subst this
              exact .inl ⟨rfl, by rw [HALL.out, ← hms, ← hlr, ← her]⟩)
          have HNL := hidd_ hlt
          have ce := refend_any wr (g + 1) lr er HI.out
          have hrd := HO.out.rd.1
          have hcap := HO.out.cap
          have HRD := hidd_ hrd
          have HCAP := hidd_ hcap
          have HLT := hidd_ HO.out.lt
          have cc := refCheck_any wr U HUL.out A' k c' ms HML.out (by omega) hcap.1 hrd
          have IZ := hidd_ (IX.out [0, 0, 0, 0, 0, 0, 0, 0, 0, 0, 0, 0, 0, 0, 0, 0] rfl none 0 0)
          have IV := hidd_ (IX.out U HUL.out A' k c')
          obtain ⟨ee, hee⟩ : ∃ x, endS lr er = x := ⟨_, rfl⟩
          rw [hee] at ce
          obtain ⟨ec, hec⟩ : ∃ x, chk U ms = x := ⟨_, rfl⟩
          rw [hec] at cc
          have HEE := hidd_ hee
          have HEC := hidd_ hec
          have hk32 : k ≤ 32 := by omega
          clear hms hlr her hrd hcap hee hec HI HALL HO hlt
          have HFAIL := hidd_ (fun (h : ee ≠ 0 ∨ ec ≠ 0) => (show ∀ up ms, ¬ RdOk l up ms from by
            rcases HCASE.out with ⟨h1, h2⟩ | ⟨h1, h2⟩
            · refine rd_no (most := far) (by unfold far; omega) ?_
              rw [h2]
              simp only
              rw [HEE.out, HEC.out]
              exact h
            · exact h2))
          obtain ⟨bk, hbk⟩ : ∃ b, decide ((k : Int) < (q : Int)) = b := ⟨_, rfl⟩
          have hbk2 : decide (k < q) = bk := by rw [← hbk]; simp
          obtain ⟨be, hbe⟩ : ∃ b, (er == 0) = b := ⟨_, rfl⟩
          have HBB := hidd_ (show bk = true → be = false by
            intro h
            rw [← hbk] at h
            have h := of_decide_eq_true h
            rw [← hbe]
            have : er ≠ 0 := fun e => HNL.out ⟨by omega, e⟩
            simpa using this)
          have hgr : g < wr.heap.size := HRR.out.lt
          cases bk
          all_goals
            first
              | obtain rfl := HBB.out rfl
              | skip
            by_cases he : ee = 0
            · subst he
              by_cases hc : ec = 0
              · subst hc
                have HOK := hidd_ (show RdOk l U ms by
                  rcases HCASE.out with ⟨h1, h2⟩ | ⟨h1, _⟩
                  · have := rdAll_ok (most := far) (l := l) (by rw [h2]; exact HEE.out) (by rw [h2]; exact HEC.out)
                    rw [h2] at this; exact this
                  · exfalso
                    have := HEE.out
                    unfold endS at this
                    rw [if_pos h1] at this
                    exact h1 this)
                clear HFAIL HCASE
                go_wp2_with (first
                  | (go_at_call 51; ((with_reducible refine ce.mono ?_); clear ce; rintro e w6 ⟨rfl, rfl⟩))
                  | (refine wpList_load_rowWd (by go_simp) 25 (.tmp 5) rfl (g + 2) rfl 25 (ctxRow U A' k c') V7.out _ Try.underlying25 rfl IV.out ?_)
                  | (refine wpList_load_rowWd (by go_simp) 25 (.tmp 5) rfl (g + 2) rfl 25 (ctxRow U A' k c') HV.out _ Try.underlying25 rfl IV.out ?_)
                  | (go_at_call 11; ((with_reducible refine cc.mono ?_); clear cc; rintro e w7 ⟨rfl, hb⟩; have V7 := hidd_ (HV.out.below hb HV.out.lt); have R7 := hidd_ (HRR.out.below hb HRR.out.lt); have X7 := hidd_ (HX.out.trans (hb.mono (Nat.le_of_lt hgr))); have D7 := hidd_ ((HRD.out.below hb).more hb.size); clear hb))
                  | (refine wpList_put_row rfl 25 _ _ rfl g (ctxRow U A' k c') rfl rfl 25 (ctxRow [0, 0, 0, 0, 0, 0, 0, 0, 0, 0, 0, 0, 0, 0, 0, 0] none 0 0) R7.out IV.out (by rw [ctxRow_size _ _ _ _ HUL.out]; rfl) (ctxRow_one _ _ _ _) ?_; intro W9 k9 g9 s9))
                rw [← HML.out] at k9 IV
                refine bodyPost_ret (results_cell_slotD Try.results31 _ _ g (v' := .bool true) rfl rfl (run_loadVar_row _ _ _ _ _ (0, 0) _ k9 Try.underlying25 rfl IV.out)) rfl ⟨U, ms, A', c', true, rfl, .inl ⟨rfl, HOK.out⟩, ?_, by rw [HML.out]; exact HCAP.out.1, HCAP.out.2, HUL.out, by rw [HML.out]; exact hk32, ?_⟩
                · refine (D7.out.grownR (Nat.le_refl _) g9 fun _ b off e => ?_).more (by omega)
                  subst e
                  have := (HLT.out b rfl).1
                  omega
                · rw [HG.out]
                  exact X7.out.grown g9 (Nat.le_of_lt R7.out.lt) (fun k hk => by injection hk with hk; omega)
              · have b1 : (ec == 0) = false := by simpa using hc
                have b2 : (ec != 0) = true := by simpa using hc
                have HNO := hidd_ (HFAIL.out (.inr hc))
                clear hc HFAIL HCASE
                go_wp2_with (first
                  | (go_at_call 51; ((with_reducible refine ce.mono ?_); clear ce; rintro e w6 ⟨rfl, rfl⟩))
                  | (refine wpList_load_rowWd (by go_simp) 25 (.tmp 5) rfl (g + 2) rfl 25 (ctxRow U A' k c') HV.out _ Try.underlying25 rfl IV.out ?_)
                  | (go_at_call 11; ((with_reducible refine cc.mono ?_); clear cc; rintro e w7 ⟨rfl, hb⟩; have R7 := hidd_ (HRR.out.below hb HRR.out.lt); have X7 := hidd_ (HX.out.trans (hb.mono (Nat.le_of_lt hgr))); clear hb))
                  | (refine wpList_built rfl 25 _ rfl (ctxRow [0, 0, 0, 0, 0, 0, 0, 0, 0, 0, 0, 0, 0, 0, 0, 0] none 0 0) (by kernel_rfl) ?_)
                  | (refine wpList_put_row rfl 25 _ _ rfl g (ctxRow [0, 0, 0, 0, 0, 0, 0, 0, 0, 0, 0, 0, 0, 0, 0, 0] none 0 0) rfl rfl 25 (ctxRow [0, 0, 0, 0, 0, 0, 0, 0, 0, 0, 0, 0, 0, 0, 0, 0] none 0 0) R7.out IZ.out rfl (ctxRow_one _ _ _ _) ?_; intro W9 k9 g9 s9))
                refine bodyPost_ret (results_cell_slotD Try.results31 _ _ g (v' := .bool false) rfl rfl (run_loadVar_row _ _ _ _ _ (0, 0) _ k9 Try.underlying25 rfl IZ.out)) rfl ⟨[0, 0, 0, 0, 0, 0, 0, 0, 0, 0, 0, 0, 0, 0, 0, 0], [], none, 0, false, rfl, .inr ⟨rfl, rfl, rfl, HNO.out⟩, RdD.nil, Nat.le_refl _, by omega, rfl, by simp, ?_⟩
                rw [HG.out]
                exact X7.out.grown g9 (Nat.le_of_lt R7.out.lt) (fun k hk => by injection hk with hk; omega)
            · have b1 : (ee == 0) = false := by simpa using he
              have b2 : (ee != 0) = true := by simpa using he
              have HNO := hidd_ (HFAIL.out (.inl he))
              clear he HFAIL HCASE
              go_wp2_with (first
                | (go_at_call 51; ((with_reducible refine ce.mono ?_); clear ce; rintro e w6 ⟨rfl, rfl⟩))
                | (refine wpList_built rfl 25 _ rfl (ctxRow [0, 0, 0, 0, 0, 0, 0, 0, 0, 0, 0, 0, 0, 0, 0, 0] none 0 0) (by kernel_rfl) ?_)
                | (refine wpList_put_row rfl 25 _ _ rfl g (ctxRow [0, 0, 0, 0, 0, 0, 0, 0, 0, 0, 0, 0, 0, 0, 0, 0] none 0 0) rfl rfl 25 (ctxRow [0, 0, 0, 0, 0, 0, 0, 0, 0, 0, 0, 0, 0, 0, 0, 0] none 0 0) HRR.out IZ.out rfl (ctxRow_one _ _ _ _) ?_; intro W9 k9 g9 s9))
              refine bodyPost_ret (results_cell_slotD Try.results31 _ _ g (v' := .bool false) rfl rfl (run_loadVar_row _ _ _ _ _ (0, 0) _ k9 Try.underlying25 rfl IZ.out)) rfl ⟨[0, 0, 0, 0, 0, 0, 0, 0, 0, 0, 0, 0, 0, 0, 0, 0], [], none, 0, false, rfl, .inr ⟨rfl, rfl, rfl, HNO.out⟩, RdD.nil, Nat.le_refl _, by omega, rfl, by simp, ?_⟩
              rw [HG.out]
              exact HX.out.grown g9 (Nat.le_of_lt HRR.out.lt) (fun k hk => by injection hk with hk; omega)
end Go.Proofs.Ytjflmfmncepeeaa
