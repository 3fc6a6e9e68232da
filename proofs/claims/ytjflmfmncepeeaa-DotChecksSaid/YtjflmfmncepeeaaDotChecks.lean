/-
  Proved: for all contexts, dots and clients DotChecks answers true: whether they are ones, or what is wrong; their bytes; which dots they have; which number comes next. No condition.
-/
import Derived.Test.YtjflmfmncepeeaaJS
import Derived.Test.YtjflmfmncepeeaaJq
import Derived.Test.YtjflmfmncepeeaaJn
import Derived.Test.YtjflmfmncepeeaaJd
import Derived.Test.YtjflmfmncepeeaaJe
import Derived.Test.YtjflmfmncepeeaaIJ
import Derived.BigQuiet
import Derived.Laws.Cover3
import Derived.LaidEqlPtr
namespace Go.Proofs.Ytjflmfmncepeeaa.dotChecks
open Go.ChangeShapes Go.WideShapes Go.ChangeAt Go.RowKit
set_option linter.unusedVariables false
set_option linter.unusedSimpArgs false

theorem read_q (w : World) (A0 : Option Addr) (n0 c0 : Nat) (l : List UInt8) (hn : l.length = n0) (hr : Rd w w.heap.size A0 l) (hm : n0 ≤ 140737488355328) {up : List Int} {ms : List DotV} {q : Nat} (hq : ms.length = q) (ho : RdOk l up ms) :
    Calls Try.prog 22 #[.slice A0 n0 c0] w fun e w' => ∃ A c, e = .returned (.tuple #[.agg (ctxRow up A q c), .int .i64 0]) ∧ RdD w' w'.heap.size A ms ∧ Below w.heap.size w w' :=
  (read_any w A0 n0 c0 l hn hr hm).mono fun e w' ⟨u, m, A, c, ok, he, h1, h2, h3, h4, h5, h6, h7⟩ => by
    obtain ⟨e1, e2, e3⟩ := readV_one h1 (show ReadV l up ms true from .inl ⟨rfl, ho⟩)
    subst e1 e2 e3
    rw [← hq]
    exact ⟨A, c, he, h2, h7⟩
theorem same_self (u : List Int) (m : List DotV) : sameR u u m m = true := by unfold sameR; simp
/-- What lies in the boxes. -/
structure DcS (w : World) (g p : Nat) (up : List Int) (A1 A2 : Option Addr) (m c1 c2 : Nat) (d : DotV) (ml : List DotV) (W : World) : Prop where
  kg : Bk W g 25 (ctxRow up A1 m c1)
  kp : Bk W p 29 (ctxRow up A2 m c2)
  kd : Bk W (g + 1) 27 d.row
  ra : RdD W W.heap.size A1 ml
  rb : RdD W W.heap.size A2 ml
  x : Below g w W
theorem DcS.below {w : World} {g p : Nat} {up : List Int} {A1 A2 : Option Addr} {m c1 c2 : Nat} {d : DotV} {ml : List DotV} {W W' : World} (h : DcS w g p up A1 A2 m c1 c2 d ml W) (hb : Below W.heap.size W W') : DcS w g p up A1 A2 m c1 c2 d ml W' :=
  ⟨h.kg.below hb h.kg.lt, h.kp.below hb h.kp.lt, h.kd.below hb h.kd.lt, (h.ra.below hb).more hb.size, (h.rb.below hb).more hb.size, h.x.trans (hb.mono (Nat.le_of_lt h.kg.lt))⟩

theorem DcS.lift {w : World} {g p : Nat} {up : List Int} {A1 A2 : Option Addr} {m c1 c2 : Nat} {d : DotV} {ml : List DotV} {w8 : World} {f : Nat} {ag : Array Value} {v : Ending}
    (h : ∀ W, DcS w g p up A1 A2 m c1 c2 d ml W → Calls Try.prog f ag W fun e w' => e = v ∧ Below W.heap.size W w') (W : World) (hW : DcS w g p up A1 A2 m c1 c2 d ml W ∧ Below w8.heap.size w8 W) :
    Calls Try.prog f ag W fun e w' => e = v ∧ (DcS w g p up A1 A2 m c1 c2 d ml w' ∧ Below w8.heap.size w8 w') :=
  (h W hW.1).mono fun e w' hh => ⟨hh.1, hW.1.below hh.2, hW.2.trans (hh.2.mono hW.2.size)⟩

set_option maxRecDepth 100000 in
set_option maxHeartbeats 16000000 in
theorem walk (w : World) (up : List Int) (hu : up.length = 16) (A : Option Addr) (ms : List DotV) (c : Nat) (hc : ms.length ≤ c) (hc7 : c ≤ 9223372036854775807) (hr : RdD w w.heap.size A ms) (d : DotV) (z : Int) (hz1 : -9223372036854775808 ≤ z) (hz2 : z ≤ 9223372036854775807) (n : Nat) (hn : ms.length = n) :
    Calls Try.prog 3 #[.agg (ctxRow up A n c), .agg d.row, .int .i64 z] w fun e w' => e = .returned (.bool true) ∧ Below w.heap.size w w' := by
  obtain ⟨g, hg⟩ : ∃ g, w.heap.size = g := ⟨_, rfl⟩
  obtain ⟨wa, hwa⟩ : ∃ w0, w.alloc (.cells (ctxRow up A n c) 25) = w0 := ⟨_, rfl⟩
  have Ka := show Bk wa g 25 (ctxRow up A n c) by rw [← hwa, ← hg]; exact Bk.new w _ _
  have Xa := show Below g w wa by rw [← hwa, ← hg]; exact (Below.refl _ _).alloc (Nat.le_refl _) _
  have Sa : wa.heap.size = g + 1 := by rw [← hwa, ← hg]; simp
  obtain ⟨w0, hw0⟩ : ∃ w0, wa.alloc (.cells d.row 27) = w0 := ⟨_, rfl⟩
  have b0 : Below wa.heap.size wa w0 := by rw [← hw0]; exact (Below.refl _ _).alloc (Nat.le_refl _) _
  have KD0 := hidd_ (show Bk w0 (g + 1) 27 d.row by rw [← Sa, ← hw0]; exact Bk.new wa _ _)
  have K0 := hidd_ (Ka.below b0 Ka.lt)
  have X0 := hidd_ (Xa.trans (b0.mono (by omega)))
  rw [hg] at hr
  obtain ⟨m, hm⟩ : ∃ m, min n 40 = m := ⟨_, rfl⟩
  have ct := tame_any w0 up hu A n c ms hn (by rw [← hn]; exact hc) hc7 ((hr.below X0.out).more (Nat.le_of_lt K0.out.lt))
  obtain ⟨ml, hml⟩ : ∃ l, ms.take 40 = l := ⟨_, rfl⟩
  have ML := hidd_ (show ml.length = m by rw [← hml, List.length_take, hn, ← hm, Nat.min_comm])
  rw [hm, hml] at ct
  have hm40 : m ≤ 40 := by omega
  have hz := zX_
  have hzr := zRX_
  have hzD := zD_
  have IR := hidd_ (fun A n c => (show (Try.prog.info? 25).map (·.size) = some (ctxRow up A n c).size by rw [ctxRow_size up A n c hu]; exact iRX_))
  have IX := hidd_ (fun A n c => (show (Try.prog.info? 29).map (·.size) = some (ctxRow up A n c).size by rw [ctxRow_size up A n c hu]; exact iX_))
  have ID := hidd_ (show (Try.prog.info? 27).map (·.size) = some d.row.size from iD_)
  have HG := hidd_ hg
  have HU := hidd_ hu
  have hgl : g < w0.heap.size := K0.out.lt
  have hgl1 : g + 1 < w0.heap.size := KD0.out.lt
  clear hu hn hr hm hml hc hc7 Ka Xa b0
  go_enter Try.func3, Try.ntmps3
  go_upto_region 1 with fail
  clear hw0 hwa hg Sa
  go_upto_region 2 with (first
    | (refine wpList_load_row rfl 25 (.tmp 3) rfl g rfl 25 (ctxRow up A n c) (0, 0) _ K0.out Try.underlying25 rfl (IR.out _ _ _) ?_)
    | (go_at_call 9; ((with_reducible refine ct.mono ?_); clear ct; rintro e w1 ⟨A1, c1, rfl, hr1, hl1, hm1, hb1, ha1⟩; have K1 := hidd_ (K0.out.below hb1 hgl); have KD1 := hidd_ (KD0.out.below hb1 hgl1); have X1 := hidd_ (X0.out.trans (hb1.mono (Nat.le_of_lt hgl))); have R1 := hidd_ hr1; have HA1 := hidd_ ha1; have L1 := hidd_ (And.intro hl1 hm1); clear hr1 hl1 hm1 hb1 ha1))
    | (refine wpList_put_row rfl 25 _ _ rfl g (ctxRow up A1 m c1) rfl rfl 25 (ctxRow up A n c) K1.out (IR.out _ _ _) (by rw [ctxRow_size _ _ _ _ HU.out, ctxRow_size _ _ _ _ HU.out]) (ctxRow_one _ _ _ _) ?_; intro w2 k2 g2 s2; have K2 := hidd_ k2; have KD2 := hidd_ (KD1.out.grown g2 (fun e => by injection e with e; omega)); have X2 := hidd_ (X1.out.grown g2 (Nat.le_of_lt K1.out.lt) (fun k hk => by injection hk with hk; omega)); have R2 := hidd_ ((R1.out.grownR (Nat.le_refl _) g2 (fun h b off e => by have := HA1.out (by rw [ML.out] at h; exact h) b off e; omega)).more (show w1.heap.size ≤ w2.heap.size by omega)); clear k2 g2 s2))
  have hgl2 : g < w2.heap.size := K2.out.lt
  have hgl3 : g + 1 < w2.heap.size := KD2.out.lt
  have ct := to_any w2 up HU.out A1 m c1 ml ML.out (by omega) L1.out.1 L1.out.2 R2.out
  clear K0 K1 X0 X1 R1 HA1 KD0 KD1
  go_upto_region 3 with (first
    | (refine wpList_load_row rfl 25 (.tmp 3) rfl g rfl 25 (ctxRow up A1 m c1) (0, 0) _ K2.out Try.underlying25 rfl (IR.out _ _ _) ?_)
    | (go_at_call 10; ((with_reducible refine ct.mono ?_); clear ct; rintro e w3 ⟨A2, c2, rfl, hr3, hl3, hm3, hb3⟩; have X3 := hidd_ (X2.out.trans (hb3.mono (Nat.le_of_lt hgl2))); have R3 := hidd_ hr3; have R3a := hidd_ ((R2.out.below hb3).more hb3.size); have K3 := hidd_ (K2.out.below hb3 hgl2); have KD3 := hidd_ (KD2.out.below hb3 hgl3); have L3 := hidd_ (And.intro hl3 hm3); have hg3 : g < w3.heap.size := Nat.lt_of_lt_of_le hgl2 hb3.size; clear hr3 hl3 hm3 hb3))
    | (refine wpList_put_row rfl 29 _ _ rfl w3.heap.size (ctxRow up A2 m c2) rfl rfl 29 (ctxRow (List.replicate 16 0) none 0 0) (Bk.new w3 _ _) (IX.out _ _ _) (by rw [ctxRow_size _ _ _ _ HU.out]; rfl) (ctxRow_one _ _ _ _) ?_; intro w4 k4 g4 s4; have B4 := hidd_ (((Below.refl w3.heap.size w3).alloc (Nat.le_refl _) (.cells (ctxRow (List.replicate 16 0) none 0 0) 29)).grown g4 (by simp) (fun k hk => by injection hk with hk; omega)); have K4 := hidd_ k4; clear k4 g4 s4))
  have S4 : Hid (DcS w g w3.heap.size up A1 A2 m c1 c2 d ml w4) := hidd_ ⟨K3.out.below B4.out K3.out.lt, K4.out, KD3.out.below B4.out KD3.out.lt, (R3a.out.below B4.out).more B4.out.size, (R3.out.below B4.out).more B4.out.size, X3.out.trans (B4.out.mono (Nat.le_of_lt hg3))⟩
  clear K4 B4 R3 R3a X3 K2 K3 KD2 KD3 X2 R2 hgl2 hgl3 hg3 hgl hgl1
  generalize w3.heap.size = p at *
  have cc := refCheck_any w4 up HU.out A1 m c1 ml ML.out (by omega) L1.out.1 S4.out.ra
  have CN := hidd_ (fun W (h : DcS w g p up A1 A2 m c1 c2 d ml W) => next_any W up HU.out A2 m c2 ml ML.out (by omega) L3.out.1 h.rb z)
  have CNR := hidd_ (fun W (h : DcS w g p up A1 A2 m c1 c2 d ml W) => refNext_any W up HU.out A1 m c1 ml ML.out (by omega) L1.out.1 h.ra z)
  obtain ⟨q, hq⟩ : ∃ q, nxt up ml z = q := ⟨_, rfl⟩
  rw [hq] at CN CNR
  obtain ⟨nn, ee⟩ := q
  simp only at CN CNR
  have CD : Hid (∀ W, DcS w g p up A1 A2 m c1 c2 d ml W → Calls Try.prog 15 #[] W fun e w' => e = .returned (.bool true) ∧ Below W.heap.size W w') := hidd_ (fun W h => dots_any W)
  have CC : Hid (∀ W, DcS w g p up A1 A2 m c1 c2 d ml W → Calls Try.prog 16 #[.agg (ctxRow up A2 m c2)] W fun e w' => e = .returned (.int .i64 (chk up ml)) ∧ Below W.heap.size W w') := hidd_ (fun W h => check_any W up HU.out A2 m c2 ml ML.out (by omega) L3.out.1 h.rb)
  have CH : Hid (∀ W, DcS w g p up A1 A2 m c1 c2 d ml W → Calls Try.prog 17 #[.agg (ctxRow up A2 m c2), .agg d.row] W fun e w' => e = .returned (.bool (hasR up ml d)) ∧ Below W.heap.size W w') := hidd_ (fun W h => has_any_ W up HU.out A2 m c2 ml ML.out (by omega) L3.out.1 h.rb d)
  have CT : Hid (∀ W, DcS w g p up A1 A2 m c1 c2 d ml W → Calls Try.prog 18 #[.agg d.row] W fun e w' => e = .returned (.bool (isD d)) ∧ Below W.heap.size W w') := hidd_ (fun W h => refDot_any W d)
  have CF : Hid (∀ W, DcS w g p up A1 A2 m c1 c2 d ml W → Calls Try.prog 21 #[.agg (ctxRow up A2 m c2)] W fun e w' => e = .returned (.agg (ctxRow up A2 m c2)) ∧ Below W.heap.size W w') := hidd_ (fun W h => from_any W up HU.out A2 m c2)
  have CS : Hid (∀ W, DcS w g p up A1 A2 m c1 c2 d ml W → Calls Try.prog 20 #[.agg (ctxRow up A2 m c2), .agg (ctxRow up A1 m c1)] W fun e w' => e = .returned (.bool true) ∧ Below W.heap.size W w') := hidd_ (fun W h => (refSame_any W up HU.out A2 m c2 ml ML.out (by omega) h.rb up HU.out A1 m c1 ml ML.out (by omega) h.ra).mono fun e w' hh => ⟨by rw [hh.1, same_self], hh.2⟩)
  obtain ⟨e, he⟩ : ∃ e, chk up ml = e := ⟨_, rfl⟩
  rw [he] at cc CC
  have HE := hidd_ he
  clear he hq
  by_cases he0 : e = 0
  · subst he0
    have cw := fun W (h : DcS w g p up A1 A2 m c1 c2 d ml W) => write_yes W up HU.out A2 m c2 ml ML.out (by omega) L3.out.1 h.rb HE.out
    have CW := hidd_ cw
    clear cw
    obtain ⟨qq, hqq⟩ : ∃ x, 129 + 16 * m = x := ⟨_, rfl⟩
    rw [hqq] at CW
    have HQQ := hidd_ hqq
    clear hqq
    obtain ⟨L, hL⟩ : ∃ x, wrB up ml = x := ⟨_, rfl⟩
    rw [hL] at CW
    have HL := hidd_ hL
    clear hL
    go_upto_region 7 with (first
      | (refine wpList_load_row rfl 25 (.tmp 3) rfl g rfl 25 (ctxRow up A1 m c1) (0, 0) _ S4.out.kg Try.underlying25 rfl (IR.out _ _ _) ?_)
      | (go_at_call 11; ((with_reducible refine cc.mono ?_); clear cc; rintro e w5 ⟨rfl, hb⟩; have S5 := hidd_ (S4.out.below hb); clear hb; have cw := CW.out _ S5.out))
      | (refine wpList_load_row rfl 29 (.tmp 7) rfl p rfl 29 (ctxRow up A2 m c2) (0, 0) _ S5.out.kp Try.underlying29 rfl (IX.out _ _ _) ?_)
      | (go_at_call 12; ((with_reducible refine cw.mono ?_); clear cw; rintro e w6 ⟨A6, c6, rfl, ho, hb⟩; have S6 := hidd_ (S5.out.below hb); have RB6 := hidd_ ho.rd.1; have HQL := hidd_ ho.rd.2; clear ho hb; have cn := CN.out _ S6.out))
      | (refine wpList_load_row rfl 29 (.tmp 7) rfl p rfl 29 (ctxRow up A2 m c2) (0, 0) _ S6.out.kp Try.underlying29 rfl (IX.out _ _ _) ?_)
      | (go_at_call 13; ((with_reducible refine cn.mono ?_); clear cn; rintro e w7 ⟨rfl, hb⟩; have S7 := hidd_ (S6.out.below hb); have RB7 := hidd_ ((RB6.out.below hb).more hb.size); clear hb; have cr := CNR.out _ S7.out))
      | (refine wpList_load_row rfl 25 (.tmp 3) rfl g rfl 25 (ctxRow up A1 m c1) (0, 0) _ S7.out.kg Try.underlying25 rfl (IR.out _ _ _) ?_)
      | (go_at_call 14; ((with_reducible refine cr.mono ?_); clear cr; rintro e w8 ⟨rfl, hb⟩; have S8 := hidd_ (S7.out.below hb); have RB8 := hidd_ ((RB7.out.below hb).more hb.size); clear hb)))
    clear S4 S5 S6 S7 RB6 RB7 CN CNR CW
    obtain ⟨bh, hbh⟩ : ∃ b, hasR up ml d = b := ⟨_, rfl⟩
    have RH : Hid (isD d = true → ∀ W, DcS w g p up A1 A2 m c1 c2 d ml W → Calls Try.prog 19 #[.agg (ctxRow up A1 m c1), .agg d.row] W fun e w' => e = .returned (.bool bh) ∧ Below W.heap.size W w') := hidd_ (fun hd W h => (refHas_any W up HU.out A1 m c1 ml ML.out (by omega) h.ra d HE.out hd).mono fun e w' hh => ⟨by rw [hh.1, hbh], hh.2⟩)
    have HNO := hidd_ (show isD d = false → bh = false from fun h => by rw [← hbh]; unfold hasR; rw [if_pos (.inr h)])
    obtain ⟨bd, hbd⟩ : ∃ b, isD d = b := ⟨_, rfl⟩
    rw [hbd] at CT RH HNO
    rw [hbh] at CH
    clear hbd hbh
    cases bd
    · obtain rfl : bh = false := HNO.out rfl
      refine region_quiet_in (C := fun W => DcS w g p up A1 A2 m c1 c2 d ml W ∧ Below w8.heap.size w8 W) (by kernel_rfl) (by kernel_rfl) ⟨S8.out.below ((Below.refl _ _).drew), (Below.refl _ _).drew⟩ ?_
      repeat (first | go_big_quiet_skip | (go_big_quiet_want; (first
        | (refine BigFrame.quiet_move _ rfl ?_; go_simp)
        | (refine BigFrame.quiet_assign _ rfl ?_; go_simp)
        | (refine quiet_call (.bool true) 15 #[] ?_ (DcS.lift CD.out) ?_; (focus (intro W; go_simp; done)); go_simp)
        | (refine quiet_call (.int .i64 0) 16 #[.agg (ctxRow up A2 m c2)] ?_ (DcS.lift CC.out) ?_; (focus (intro W; go_simp; done)); go_simp)
        | (refine quiet_call (.bool false) 17 #[.agg (ctxRow up A2 m c2), .agg d.row] ?_ (DcS.lift CH.out) ?_; (focus (intro W; go_simp; done)); go_simp)
        | (refine quiet_call (.bool false) 18 #[.agg d.row] ?_ (DcS.lift CT.out) ?_; (focus (intro W; go_simp; done)); go_simp)
        | (refine quiet_call (.agg (ctxRow up A2 m c2)) 21 #[.agg (ctxRow up A2 m c2)] ?_ (DcS.lift CF.out) ?_; (focus (intro W; go_simp; done)); go_simp)
        | (refine quiet_call (.bool true) 20 #[.agg (ctxRow up A2 m c2), .agg (ctxRow up A1 m c1)] ?_ (DcS.lift CS.out) ?_; (focus (intro W; go_simp; done)); go_simp)
        | (refine quiet_load_rowd 29 (.tmp 7) rfl p rfl 29 (ctxRow up A2 m c2) _ Try.underlying29 rfl (IX.out _ _ _) (fun W h => h.1.kp) ?_; go_simp)
        | (refine quiet_load_rowd 25 (.tmp 3) rfl g rfl 25 (ctxRow up A1 m c1) _ Try.underlying25 rfl (IR.out _ _ _) (fun W h => h.1.kg) ?_; go_simp)
        | (refine quiet_load_rowd 27 (.tmp 4) rfl (g + 1) rfl 27 d.row _ Try.underlying27 rfl ID.out (fun W h => h.1.kd) ?_; go_simp)
        | (refine quiet_run (.bool true) ?_ ?_; (focus (intro W hW; go_simp; done)); go_simp)
        | (refine quiet_run (.bool false) ?_ ?_; (focus (intro W hW; go_simp; done)); go_simp)); go_big_quiet_on))
      refine wpQuiet_nil ?_
      intro w9 hw9
      have S9 := hidd_ hw9.1
      have RB9 := hidd_ ((RB8.out.below hw9.2).more hw9.2.size)
      clear hw9
      have cx := read_q w9 A6 qq c6 L HQL.out.symm RB9.out (by have := HQQ.out; omega) ML.out (show RdOk L up ml from ⟨HU.out, HE.out, HL.out.symm⟩)
      go_upto_region 12 with (first
        | (go_at_call 22; ((with_reducible refine cx.mono ?_); clear cx; rintro e w10 ⟨A3, c3, rfl, hr, hb⟩; have S10 := hidd_ (S9.out.below hb); have RB10 := hidd_ ((RB9.out.below hb).more hb.size); have R10 := hidd_ hr; clear hr hb))
        | (refine wpList_put_row rfl 29 _ _ rfl w10.heap.size (ctxRow up A3 m c3) rfl rfl 29 (ctxRow (List.replicate 16 0) none 0 0) (Bk.new w10 _ _) (IX.out _ _ _) (by rw [ctxRow_size _ _ _ _ HU.out]; rfl) (ctxRow_one _ _ _ _) ?_; intro w11 k11 g11 s11; have B11 := hidd_ (((Below.refl w10.heap.size w10).alloc (Nat.le_refl _) (.cells (ctxRow (List.replicate 16 0) none 0 0) 29)).grown g11 (by simp) (fun k hk => by injection hk with hk; omega)); have K11 := hidd_ k11; clear k11 g11 s11))
      have S11 := hidd_ (S10.out.below B11.out)
      have RB11 := hidd_ (RB10.out.below B11.out)
      have R11 := hidd_ ((R10.out.below B11.out).more B11.out.size)
      generalize w10.heap.size = r at *
      have V1 : Hid (∀ W, Below w11.heap.size w11 W → (convert 33 9 (.slice A6 qq c6)).run Try.prog W = .ok (.string (strOf L)) W) := hidd_ (fun W h => conv_strn ((RB11.out.more (show r ≤ w11.heap.size from Nat.le_of_lt K11.out.lt)).below h) qq c6 HQL.out.symm)
      have BG := hidd_ (fun W (h : Below w11.heap.size w11 W) => (S11.out.below h).kg)
      have BX : Hid (∀ W, Below w11.heap.size w11 W → Bk W r 29 (ctxRow up A3 m c3)) := hidd_ (fun W h => K11.out.below h K11.out.lt)
      have W1 : Hid (∀ W, Below w11.heap.size w11 W → Calls Try.prog 23 #[.agg (ctxRow up A1 m c1)] W fun e w' => e = .returned (.string (strOf L)) ∧ Below w11.heap.size w11 w') := hidd_ (fun W h => (refWrite_any W up HU.out A1 m c1 ml ML.out (S11.out.below h).ra HE.out).mono fun e w' hh => ⟨by rw [hh.1, HL.out], h.trans (hh.2.mono h.size)⟩)
      have W2 : Hid (∀ W, Below w11.heap.size w11 W → Calls Try.prog 21 #[.agg (ctxRow up A3 m c3)] W fun e w' => e = .returned (.agg (ctxRow up A3 m c3)) ∧ Below w11.heap.size w11 w') := hidd_ (fun W h => (from_any W up HU.out A3 m c3).mono fun e w' hh => ⟨hh.1, h.trans (hh.2.mono h.size)⟩)
      have W3 : Hid (∀ W, Below w11.heap.size w11 W → Calls Try.prog 20 #[.agg (ctxRow up A3 m c3), .agg (ctxRow up A1 m c1)] W fun e w' => e = .returned (.bool true) ∧ Below w11.heap.size w11 w') := hidd_ (fun W h => (refSame_any W up HU.out A3 m c3 ml ML.out (by omega) ((R11.out.below h).more h.size) up HU.out A1 m c1 ml ML.out (by omega) (S11.out.below h).ra).mono fun e w' hh => ⟨by rw [hh.1, same_self], h.trans (hh.2.mono h.size)⟩)
      have qL := strOf_eq L L rfl
      clear S9 RB9 S10 RB10 R10 B11
      refine region_quiet_in (C := fun W => Below w11.heap.size w11 W) (by kernel_rfl) (by kernel_rfl) ((Below.refl _ _).drew) ?_
      repeat (first | go_big_quiet_skip | (go_big_quiet_want; (first
        | (refine BigFrame.quiet_move _ rfl ?_; go_simp)
        | (refine BigFrame.quiet_assign _ rfl ?_; go_simp)
        | (refine quiet_run (.string (strOf L)) ?_ ?_; (focus (intro W hW; have h := V1.out W hW; go_simp; done)); go_simp)
        | (refine quiet_call (.string (strOf L)) 23 #[.agg (ctxRow up A1 m c1)] ?_ W1.out ?_; (focus (intro W; go_simp; done)); go_simp)
        | (refine quiet_call (.agg (ctxRow up A3 m c3)) 21 #[.agg (ctxRow up A3 m c3)] ?_ W2.out ?_; (focus (intro W; go_simp; done)); go_simp)
        | (refine quiet_call (.bool true) 20 #[.agg (ctxRow up A3 m c3), .agg (ctxRow up A1 m c1)] ?_ W3.out ?_; (focus (intro W; go_simp; done)); go_simp)
        | (refine quiet_load_rowd 29 (.tmp 15) rfl r rfl 29 (ctxRow up A3 m c3) _ Try.underlying29 rfl (IX.out _ _ _) BX.out ?_; go_simp)
        | (refine quiet_load_rowd 25 (.tmp 3) rfl g rfl 25 (ctxRow up A1 m c1) _ Try.underlying25 rfl (IR.out _ _ _) BG.out ?_; go_simp)
        | (refine quiet_run (.bool true) ?_ ?_; (focus (intro W hW; go_simp; done)); go_simp)
        | (refine quiet_run (.bool false) ?_ ?_; (focus (intro W hW; go_simp; done)); go_simp)); go_big_quiet_on))
      refine wpQuiet_nil ?_
      intro w12 hw12
      have X12 := hidd_ (S11.out.x.trans (hw12.mono (Nat.le_of_lt S11.out.kg.lt)))
      clear hw12
      go_wp2
      go_ret
      exact ⟨rfl, by rw [HG.out]; exact X12.out⟩
    · have RHT := hidd_ (RH.out rfl)
      cases bh
      · refine region_quiet_in (C := fun W => DcS w g p up A1 A2 m c1 c2 d ml W ∧ Below w8.heap.size w8 W) (by kernel_rfl) (by kernel_rfl) ⟨S8.out.below ((Below.refl _ _).drew), (Below.refl _ _).drew⟩ ?_
        repeat (first | go_big_quiet_skip | (go_big_quiet_want; (first
          | (refine BigFrame.quiet_move _ rfl ?_; go_simp)
          | (refine BigFrame.quiet_assign _ rfl ?_; go_simp)
          | (refine quiet_call (.bool true) 15 #[] ?_ (DcS.lift CD.out) ?_; (focus (intro W; go_simp; done)); go_simp)
          | (refine quiet_call (.int .i64 0) 16 #[.agg (ctxRow up A2 m c2)] ?_ (DcS.lift CC.out) ?_; (focus (intro W; go_simp; done)); go_simp)
          | (refine quiet_call (.bool false) 17 #[.agg (ctxRow up A2 m c2), .agg d.row] ?_ (DcS.lift CH.out) ?_; (focus (intro W; go_simp; done)); go_simp)
          | (refine quiet_call (.bool true) 18 #[.agg d.row] ?_ (DcS.lift CT.out) ?_; (focus (intro W; go_simp; done)); go_simp)
          | (refine quiet_call (.bool false) 19 #[.agg (ctxRow up A1 m c1), .agg d.row] ?_ (DcS.lift RHT.out) ?_; (focus (intro W; go_simp; done)); go_simp)
          | (refine quiet_call (.agg (ctxRow up A2 m c2)) 21 #[.agg (ctxRow up A2 m c2)] ?_ (DcS.lift CF.out) ?_; (focus (intro W; go_simp; done)); go_simp)
          | (refine quiet_call (.bool true) 20 #[.agg (ctxRow up A2 m c2), .agg (ctxRow up A1 m c1)] ?_ (DcS.lift CS.out) ?_; (focus (intro W; go_simp; done)); go_simp)
          | (refine quiet_load_rowd 29 (.tmp 7) rfl p rfl 29 (ctxRow up A2 m c2) _ Try.underlying29 rfl (IX.out _ _ _) (fun W h => h.1.kp) ?_; go_simp)
          | (refine quiet_load_rowd 25 (.tmp 3) rfl g rfl 25 (ctxRow up A1 m c1) _ Try.underlying25 rfl (IR.out _ _ _) (fun W h => h.1.kg) ?_; go_simp)
          | (refine quiet_load_rowd 27 (.tmp 4) rfl (g + 1) rfl 27 d.row _ Try.underlying27 rfl ID.out (fun W h => h.1.kd) ?_; go_simp)
          | (refine quiet_run (.bool true) ?_ ?_; (focus (intro W hW; go_simp; done)); go_simp)
          | (refine quiet_run (.bool false) ?_ ?_; (focus (intro W hW; go_simp; done)); go_simp)); go_big_quiet_on))
        refine wpQuiet_nil ?_
        intro w9 hw9
        have S9 := hidd_ hw9.1
        have RB9 := hidd_ ((RB8.out.below hw9.2).more hw9.2.size)
        clear hw9
        have cx := read_q w9 A6 qq c6 L HQL.out.symm RB9.out (by have := HQQ.out; omega) ML.out (show RdOk L up ml from ⟨HU.out, HE.out, HL.out.symm⟩)
        go_upto_region 12 with (first
          | (go_at_call 22; ((with_reducible refine cx.mono ?_); clear cx; rintro e w10 ⟨A3, c3, rfl, hr, hb⟩; have S10 := hidd_ (S9.out.below hb); have RB10 := hidd_ ((RB9.out.below hb).more hb.size); have R10 := hidd_ hr; clear hr hb))
          | (refine wpList_put_row rfl 29 _ _ rfl w10.heap.size (ctxRow up A3 m c3) rfl rfl 29 (ctxRow (List.replicate 16 0) none 0 0) (Bk.new w10 _ _) (IX.out _ _ _) (by rw [ctxRow_size _ _ _ _ HU.out]; rfl) (ctxRow_one _ _ _ _) ?_; intro w11 k11 g11 s11; have B11 := hidd_ (((Below.refl w10.heap.size w10).alloc (Nat.le_refl _) (.cells (ctxRow (List.replicate 16 0) none 0 0) 29)).grown g11 (by simp) (fun k hk => by injection hk with hk; omega)); have K11 := hidd_ k11; clear k11 g11 s11))
        have S11 := hidd_ (S10.out.below B11.out)
        have RB11 := hidd_ (RB10.out.below B11.out)
        have R11 := hidd_ ((R10.out.below B11.out).more B11.out.size)
        generalize w10.heap.size = r at *
        have V1 : Hid (∀ W, Below w11.heap.size w11 W → (convert 33 9 (.slice A6 qq c6)).run Try.prog W = .ok (.string (strOf L)) W) := hidd_ (fun W h => conv_strn ((RB11.out.more (show r ≤ w11.heap.size from Nat.le_of_lt K11.out.lt)).below h) qq c6 HQL.out.symm)
        have BG := hidd_ (fun W (h : Below w11.heap.size w11 W) => (S11.out.below h).kg)
        have BX : Hid (∀ W, Below w11.heap.size w11 W → Bk W r 29 (ctxRow up A3 m c3)) := hidd_ (fun W h => K11.out.below h K11.out.lt)
        have W1 : Hid (∀ W, Below w11.heap.size w11 W → Calls Try.prog 23 #[.agg (ctxRow up A1 m c1)] W fun e w' => e = .returned (.string (strOf L)) ∧ Below w11.heap.size w11 w') := hidd_ (fun W h => (refWrite_any W up HU.out A1 m c1 ml ML.out (S11.out.below h).ra HE.out).mono fun e w' hh => ⟨by rw [hh.1, HL.out], h.trans (hh.2.mono h.size)⟩)
        have W2 : Hid (∀ W, Below w11.heap.size w11 W → Calls Try.prog 21 #[.agg (ctxRow up A3 m c3)] W fun e w' => e = .returned (.agg (ctxRow up A3 m c3)) ∧ Below w11.heap.size w11 w') := hidd_ (fun W h => (from_any W up HU.out A3 m c3).mono fun e w' hh => ⟨hh.1, h.trans (hh.2.mono h.size)⟩)
        have W3 : Hid (∀ W, Below w11.heap.size w11 W → Calls Try.prog 20 #[.agg (ctxRow up A3 m c3), .agg (ctxRow up A1 m c1)] W fun e w' => e = .returned (.bool true) ∧ Below w11.heap.size w11 w') := hidd_ (fun W h => (refSame_any W up HU.out A3 m c3 ml ML.out (by omega) ((R11.out.below h).more h.size) up HU.out A1 m c1 ml ML.out (by omega) (S11.out.below h).ra).mono fun e w' hh => ⟨by rw [hh.1, same_self], h.trans (hh.2.mono h.size)⟩)
        have qL := strOf_eq L L rfl
        clear S9 RB9 S10 RB10 R10 B11
        refine region_quiet_in (C := fun W => Below w11.heap.size w11 W) (by kernel_rfl) (by kernel_rfl) ((Below.refl _ _).drew) ?_
        repeat (first | go_big_quiet_skip | (go_big_quiet_want; (first
          | (refine BigFrame.quiet_move _ rfl ?_; go_simp)
          | (refine BigFrame.quiet_assign _ rfl ?_; go_simp)
          | (refine quiet_run (.string (strOf L)) ?_ ?_; (focus (intro W hW; have h := V1.out W hW; go_simp; done)); go_simp)
          | (refine quiet_call (.string (strOf L)) 23 #[.agg (ctxRow up A1 m c1)] ?_ W1.out ?_; (focus (intro W; go_simp; done)); go_simp)
          | (refine quiet_call (.agg (ctxRow up A3 m c3)) 21 #[.agg (ctxRow up A3 m c3)] ?_ W2.out ?_; (focus (intro W; go_simp; done)); go_simp)
          | (refine quiet_call (.bool true) 20 #[.agg (ctxRow up A3 m c3), .agg (ctxRow up A1 m c1)] ?_ W3.out ?_; (focus (intro W; go_simp; done)); go_simp)
          | (refine quiet_load_rowd 29 (.tmp 15) rfl r rfl 29 (ctxRow up A3 m c3) _ Try.underlying29 rfl (IX.out _ _ _) BX.out ?_; go_simp)
          | (refine quiet_load_rowd 25 (.tmp 3) rfl g rfl 25 (ctxRow up A1 m c1) _ Try.underlying25 rfl (IR.out _ _ _) BG.out ?_; go_simp)
          | (refine quiet_run (.bool true) ?_ ?_; (focus (intro W hW; go_simp; done)); go_simp)
          | (refine quiet_run (.bool false) ?_ ?_; (focus (intro W hW; go_simp; done)); go_simp)); go_big_quiet_on))
        refine wpQuiet_nil ?_
        intro w12 hw12
        have X12 := hidd_ (S11.out.x.trans (hw12.mono (Nat.le_of_lt S11.out.kg.lt)))
        clear hw12
        go_wp2
        go_ret
        exact ⟨rfl, by rw [HG.out]; exact X12.out⟩
      · refine region_quiet_in (C := fun W => DcS w g p up A1 A2 m c1 c2 d ml W ∧ Below w8.heap.size w8 W) (by kernel_rfl) (by kernel_rfl) ⟨S8.out.below ((Below.refl _ _).drew), (Below.refl _ _).drew⟩ ?_
        repeat (first | go_big_quiet_skip | (go_big_quiet_want; (first
          | (refine BigFrame.quiet_move _ rfl ?_; go_simp)
          | (refine BigFrame.quiet_assign _ rfl ?_; go_simp)
          | (refine quiet_call (.bool true) 15 #[] ?_ (DcS.lift CD.out) ?_; (focus (intro W; go_simp; done)); go_simp)
          | (refine quiet_call (.int .i64 0) 16 #[.agg (ctxRow up A2 m c2)] ?_ (DcS.lift CC.out) ?_; (focus (intro W; go_simp; done)); go_simp)
          | (refine quiet_call (.bool true) 17 #[.agg (ctxRow up A2 m c2), .agg d.row] ?_ (DcS.lift CH.out) ?_; (focus (intro W; go_simp; done)); go_simp)
          | (refine quiet_call (.bool true) 18 #[.agg d.row] ?_ (DcS.lift CT.out) ?_; (focus (intro W; go_simp; done)); go_simp)
          | (refine quiet_call (.bool true) 19 #[.agg (ctxRow up A1 m c1), .agg d.row] ?_ (DcS.lift RHT.out) ?_; (focus (intro W; go_simp; done)); go_simp)
          | (refine quiet_call (.agg (ctxRow up A2 m c2)) 21 #[.agg (ctxRow up A2 m c2)] ?_ (DcS.lift CF.out) ?_; (focus (intro W; go_simp; done)); go_simp)
          | (refine quiet_call (.bool true) 20 #[.agg (ctxRow up A2 m c2), .agg (ctxRow up A1 m c1)] ?_ (DcS.lift CS.out) ?_; (focus (intro W; go_simp; done)); go_simp)
          | (refine quiet_load_rowd 29 (.tmp 7) rfl p rfl 29 (ctxRow up A2 m c2) _ Try.underlying29 rfl (IX.out _ _ _) (fun W h => h.1.kp) ?_; go_simp)
          | (refine quiet_load_rowd 25 (.tmp 3) rfl g rfl 25 (ctxRow up A1 m c1) _ Try.underlying25 rfl (IR.out _ _ _) (fun W h => h.1.kg) ?_; go_simp)
          | (refine quiet_load_rowd 27 (.tmp 4) rfl (g + 1) rfl 27 d.row _ Try.underlying27 rfl ID.out (fun W h => h.1.kd) ?_; go_simp)
          | (refine quiet_run (.bool true) ?_ ?_; (focus (intro W hW; go_simp; done)); go_simp)
          | (refine quiet_run (.bool false) ?_ ?_; (focus (intro W hW; go_simp; done)); go_simp)); go_big_quiet_on))
        refine wpQuiet_nil ?_
        intro w9 hw9
        have S9 := hidd_ hw9.1
        have RB9 := hidd_ ((RB8.out.below hw9.2).more hw9.2.size)
        clear hw9
        have cx := read_q w9 A6 qq c6 L HQL.out.symm RB9.out (by have := HQQ.out; omega) ML.out (show RdOk L up ml from ⟨HU.out, HE.out, HL.out.symm⟩)
        go_upto_region 12 with (first
          | (go_at_call 22; ((with_reducible refine cx.mono ?_); clear cx; rintro e w10 ⟨A3, c3, rfl, hr, hb⟩; have S10 := hidd_ (S9.out.below hb); have RB10 := hidd_ ((RB9.out.below hb).more hb.size); have R10 := hidd_ hr; clear hr hb))
          | (refine wpList_put_row rfl 29 _ _ rfl w10.heap.size (ctxRow up A3 m c3) rfl rfl 29 (ctxRow (List.replicate 16 0) none 0 0) (Bk.new w10 _ _) (IX.out _ _ _) (by rw [ctxRow_size _ _ _ _ HU.out]; rfl) (ctxRow_one _ _ _ _) ?_; intro w11 k11 g11 s11; have B11 := hidd_ (((Below.refl w10.heap.size w10).alloc (Nat.le_refl _) (.cells (ctxRow (List.replicate 16 0) none 0 0) 29)).grown g11 (by simp) (fun k hk => by injection hk with hk; omega)); have K11 := hidd_ k11; clear k11 g11 s11))
        have S11 := hidd_ (S10.out.below B11.out)
        have RB11 := hidd_ (RB10.out.below B11.out)
        have R11 := hidd_ ((R10.out.below B11.out).more B11.out.size)
        generalize w10.heap.size = r at *
        have V1 : Hid (∀ W, Below w11.heap.size w11 W → (convert 33 9 (.slice A6 qq c6)).run Try.prog W = .ok (.string (strOf L)) W) := hidd_ (fun W h => conv_strn ((RB11.out.more (show r ≤ w11.heap.size from Nat.le_of_lt K11.out.lt)).below h) qq c6 HQL.out.symm)
        have BG := hidd_ (fun W (h : Below w11.heap.size w11 W) => (S11.out.below h).kg)
        have BX : Hid (∀ W, Below w11.heap.size w11 W → Bk W r 29 (ctxRow up A3 m c3)) := hidd_ (fun W h => K11.out.below h K11.out.lt)
        have W1 : Hid (∀ W, Below w11.heap.size w11 W → Calls Try.prog 23 #[.agg (ctxRow up A1 m c1)] W fun e w' => e = .returned (.string (strOf L)) ∧ Below w11.heap.size w11 w') := hidd_ (fun W h => (refWrite_any W up HU.out A1 m c1 ml ML.out (S11.out.below h).ra HE.out).mono fun e w' hh => ⟨by rw [hh.1, HL.out], h.trans (hh.2.mono h.size)⟩)
        have W2 : Hid (∀ W, Below w11.heap.size w11 W → Calls Try.prog 21 #[.agg (ctxRow up A3 m c3)] W fun e w' => e = .returned (.agg (ctxRow up A3 m c3)) ∧ Below w11.heap.size w11 w') := hidd_ (fun W h => (from_any W up HU.out A3 m c3).mono fun e w' hh => ⟨hh.1, h.trans (hh.2.mono h.size)⟩)
        have W3 : Hid (∀ W, Below w11.heap.size w11 W → Calls Try.prog 20 #[.agg (ctxRow up A3 m c3), .agg (ctxRow up A1 m c1)] W fun e w' => e = .returned (.bool true) ∧ Below w11.heap.size w11 w') := hidd_ (fun W h => (refSame_any W up HU.out A3 m c3 ml ML.out (by omega) ((R11.out.below h).more h.size) up HU.out A1 m c1 ml ML.out (by omega) (S11.out.below h).ra).mono fun e w' hh => ⟨by rw [hh.1, same_self], h.trans (hh.2.mono h.size)⟩)
        have qL := strOf_eq L L rfl
        clear S9 RB9 S10 RB10 R10 B11
        refine region_quiet_in (C := fun W => Below w11.heap.size w11 W) (by kernel_rfl) (by kernel_rfl) ((Below.refl _ _).drew) ?_
        repeat (first | go_big_quiet_skip | (go_big_quiet_want; (first
          | (refine BigFrame.quiet_move _ rfl ?_; go_simp)
          | (refine BigFrame.quiet_assign _ rfl ?_; go_simp)
          | (refine quiet_run (.string (strOf L)) ?_ ?_; (focus (intro W hW; have h := V1.out W hW; go_simp; done)); go_simp)
          | (refine quiet_call (.string (strOf L)) 23 #[.agg (ctxRow up A1 m c1)] ?_ W1.out ?_; (focus (intro W; go_simp; done)); go_simp)
          | (refine quiet_call (.agg (ctxRow up A3 m c3)) 21 #[.agg (ctxRow up A3 m c3)] ?_ W2.out ?_; (focus (intro W; go_simp; done)); go_simp)
          | (refine quiet_call (.bool true) 20 #[.agg (ctxRow up A3 m c3), .agg (ctxRow up A1 m c1)] ?_ W3.out ?_; (focus (intro W; go_simp; done)); go_simp)
          | (refine quiet_load_rowd 29 (.tmp 15) rfl r rfl 29 (ctxRow up A3 m c3) _ Try.underlying29 rfl (IX.out _ _ _) BX.out ?_; go_simp)
          | (refine quiet_load_rowd 25 (.tmp 3) rfl g rfl 25 (ctxRow up A1 m c1) _ Try.underlying25 rfl (IR.out _ _ _) BG.out ?_; go_simp)
          | (refine quiet_run (.bool true) ?_ ?_; (focus (intro W hW; go_simp; done)); go_simp)
          | (refine quiet_run (.bool false) ?_ ?_; (focus (intro W hW; go_simp; done)); go_simp)); go_big_quiet_on))
        refine wpQuiet_nil ?_
        intro w12 hw12
        have X12 := hidd_ (S11.out.x.trans (hw12.mono (Nat.le_of_lt S11.out.kg.lt)))
        clear hw12
        go_wp2
        go_ret
        exact ⟨rfl, by rw [HG.out]; exact X12.out⟩
  · have b1 : (e == 0) = false := by simpa using he0
    have b2 : (e != 0) = true := by simpa using he0
    have HNH := hidd_ (show hasR up ml d = false by unfold hasR; rw [if_pos (.inl (by rw [HE.out]; exact he0))])
    have CW := hidd_ (fun W (h : DcS w g p up A1 A2 m c1 c2 d ml W) => write_no W up HU.out A2 m c2 ml ML.out (by omega) L3.out.1 h.rb (by rw [HE.out]; exact he0))
    rw [HE.out] at CW
    rw [HNH.out] at CH
    clear he0
    go_upto_region 7 with (first
      | (refine wpList_load_row rfl 25 (.tmp 3) rfl g rfl 25 (ctxRow up A1 m c1) (0, 0) _ S4.out.kg Try.underlying25 rfl (IR.out _ _ _) ?_)
      | (go_at_call 11; ((with_reducible refine cc.mono ?_); clear cc; rintro e w5 ⟨rfl, hb⟩; have S5 := hidd_ (S4.out.below hb); clear hb; have cw := CW.out _ S5.out))
      | (refine wpList_load_row rfl 29 (.tmp 7) rfl p rfl 29 (ctxRow up A2 m c2) (0, 0) _ S5.out.kp Try.underlying29 rfl (IX.out _ _ _) ?_)
      | (go_at_call 12; ((with_reducible refine cw.mono ?_); clear cw; rintro e w6 ⟨rfl, hb⟩; have S6 := hidd_ (S5.out.below hb); clear hb; have cn := CN.out _ S6.out))
      | (refine wpList_load_row rfl 29 (.tmp 7) rfl p rfl 29 (ctxRow up A2 m c2) (0, 0) _ S6.out.kp Try.underlying29 rfl (IX.out _ _ _) ?_)
      | (go_at_call 13; ((with_reducible refine cn.mono ?_); clear cn; rintro e w7 ⟨rfl, hb⟩; have S7 := hidd_ (S6.out.below hb); clear hb; have cr := CNR.out _ S7.out))
      | (refine wpList_load_row rfl 25 (.tmp 3) rfl g rfl 25 (ctxRow up A1 m c1) (0, 0) _ S7.out.kg Try.underlying25 rfl (IR.out _ _ _) ?_)
      | (go_at_call 14; ((with_reducible refine cr.mono ?_); clear cr; rintro e w8 ⟨rfl, hb⟩; have S8 := hidd_ (S7.out.below hb); clear hb)))
    clear S4 S5 S6 S7 CN CNR CW
    obtain ⟨bh, hbh⟩ : ∃ b : Bool, false = b := ⟨_, rfl⟩
    rw [hbh] at CH
    subst hbh
    refine region_quiet_in (C := fun W => DcS w g p up A1 A2 m c1 c2 d ml W ∧ Below w8.heap.size w8 W) (by kernel_rfl) (by kernel_rfl) ⟨S8.out.below ((Below.refl _ _).drew), (Below.refl _ _).drew⟩ ?_
    repeat (first | go_big_quiet_skip | (go_big_quiet_want; (first
      | (refine BigFrame.quiet_move _ rfl ?_; go_simp)
      | (refine BigFrame.quiet_assign _ rfl ?_; go_simp)
      | (refine quiet_call (.bool true) 15 #[] ?_ (DcS.lift CD.out) ?_; (focus (intro W; go_simp; done)); go_simp)
      | (refine quiet_call (.int .i64 e) 16 #[.agg (ctxRow up A2 m c2)] ?_ (DcS.lift CC.out) ?_; (focus (intro W; go_simp; done)); go_simp)
      | (refine quiet_call (.bool false) 17 #[.agg (ctxRow up A2 m c2), .agg d.row] ?_ (DcS.lift CH.out) ?_; (focus (intro W; go_simp; done)); go_simp)
      | (refine quiet_call (.bool (isD d)) 18 #[.agg d.row] ?_ (DcS.lift CT.out) ?_; (focus (intro W; go_simp; done)); go_simp)
      | (refine quiet_call (.agg (ctxRow up A2 m c2)) 21 #[.agg (ctxRow up A2 m c2)] ?_ (DcS.lift CF.out) ?_; (focus (intro W; go_simp; done)); go_simp)
      | (refine quiet_call (.bool true) 20 #[.agg (ctxRow up A2 m c2), .agg (ctxRow up A1 m c1)] ?_ (DcS.lift CS.out) ?_; (focus (intro W; go_simp; done)); go_simp)
      | (refine quiet_load_rowd 29 (.tmp 7) rfl p rfl 29 (ctxRow up A2 m c2) _ Try.underlying29 rfl (IX.out _ _ _) (fun W h => h.1.kp) ?_; go_simp)
      | (refine quiet_load_rowd 25 (.tmp 3) rfl g rfl 25 (ctxRow up A1 m c1) _ Try.underlying25 rfl (IR.out _ _ _) (fun W h => h.1.kg) ?_; go_simp)
      | (refine quiet_load_rowd 27 (.tmp 4) rfl (g + 1) rfl 27 d.row _ Try.underlying27 rfl ID.out (fun W h => h.1.kd) ?_; go_simp)
      | (refine quiet_run (.bool true) ?_ ?_; (focus (intro W hW; go_simp; done)); go_simp)
      | (refine quiet_run (.bool false) ?_ ?_; (focus (intro W hW; go_simp; done)); go_simp)); go_big_quiet_on))
    refine wpQuiet_nil ?_
    intro w9 hw9
    have X9 := hidd_ (Below.trans S8.out.x (hw9.2.mono (Nat.le_of_lt S8.out.kg.lt)))
    clear hw9
    go_wp2
    go_ret
    exact ⟨rfl, by rw [HG.out]; exact X9.out⟩

set_option maxRecDepth 100000 in
theorem lifted (os : Os) (started : os.Started) (H : Type) (enc : TypeId × Value → H) :
    ReturnsInHanded {} Try.checked os 3 .any (Rows.dotChecksSpec.pre6 enc Try.prog Try.f3 Rows.dotChecksRow.domain false) (Rows.dotChecksSpec.post enc Try.prog Try.f3 false true false false) := by
  refine returnsInHanded_of_change (C := Try.checked) own_ started (by kernel_rfl) Try.func3
    (ChangeSpec.witness6 (enc := enc) (C := Try.checked) false ⟨#[], #[.agg (ctxRow [0, 0, 0, 0, 0, 0, 0, 0, 0, 0, 0, 0, 0, 0, 0, 0] none 0 0), .agg (DotV.row ⟨0, 0⟩), .int .i64 0], []⟩ 8 (by kernel_rfl) (by kernel_rfl) (by kernel_rfl) (by kernel_rfl)) ?_
  intro W base args ds gs before hval0 hW hcnd _
  have hval : ∀ (j : Nat) t v, Try.f3.params[j]? = some t → args[j]? = some v → Value.okWide Try.prog W .any base t v := hval0
  have hW' := hW
  obtain ⟨p, q, hA0, hV, rfl, hfz, hnd⟩ := hW
  have hA : DataW.TrodAll enc Try.prog W 0 (fun _ => true) true Try.f3.params.toList args.toList ds p := hA0
  rw [Try.params3] at hA hval
  obtain ⟨v0, vs0, d0, ds0, p0, q0, hargs, rfl, rfl, h0, r0⟩ := trodAll_cons hA
  obtain ⟨v1, vs1, d1, ds1, p1, q1, rfl, rfl, rfl, h1, r1⟩ := trodAll_cons r0
  obtain ⟨v2, vs2, d2, ds2, p2, q2, rfl, rfl, rfl, h2, r2⟩ := trodAll_cons r1
  obtain ⟨rfl, rfl, rfl⟩ := trodAll_nil r2
  obtain rfl : args = #[v0, v1, v2] := by cases args; simp_all
  obtain ⟨rfl, rfl⟩ := trodVars_none hV
  obtain ⟨up0, A0, l0, c0, rfl, hul0, hub0, hr0, hx0, hlc0, hcm0⟩ := open_ctx Try.underlying25 ⟨rfl, rfl⟩ ⟨rfl, rfl⟩ Try.underlying22 (by kernel_rfl) (by kernel_rfl) (by kernel_rfl) Try.underlying23 Try.underlying27 ⟨rfl, rfl⟩ ⟨rfl, rfl⟩ Try.underlying3 (by kernel_rfl) (by kernel_rfl) (hval 0 25 v0 rfl rfl) h0
  obtain ⟨x1, rfl, hx1⟩ := open_dot Try.underlying27 ⟨rfl, rfl⟩ ⟨rfl, rfl⟩ Try.underlying3 (by kernel_rfl) (by kernel_rfl) (hval 1 27 v1 rfl rfl) h1
  obtain ⟨a2, rfl, rfl, rfl, w2⟩ := open_int Try.underlying3 (hval 2 3 v2 rfl rfl) h2
  obtain ⟨b2, e2⟩ := bounds_i64 w2
  refine (walk W up0 hul0 A0 l0 c0 hlc0 (by unfold maxLen at hcm0; omega) hr0 x1 a2 b2 e2 _ rfl).mono fun e W' ⟨he, hg⟩ => ⟨_, he, ?_⟩
  exact law_post laidOut_ (of_decide_eq_true (by kernel_rfl)) rfl rfl Try.underlying4 rfl hW' hg

theorem over : Rows.dotChecksRow.holds Try.pinned (OpenSpec.ofChange Rows.dotChecksSpec) :=
  OpenClaim.holds_of_wide 3 Try.f3 rfl rfl rfl rfl rfl rfl rfl ⟨rfl, rfl, rfl, rfl, rfl⟩ rfl rfl rfl rfl rfl (by kernel_rfl) Try.func3 (by kernel_rfl)
    (of_decide_eq_true (by kernel_rfl)) (by unfold Func.isWrapper; first | (rw [if_pos (by decide +kernel)]; kernel_rfl) | (rw [if_neg (by decide +kernel)]; exact ⟨rfl, rfl⟩))
    (fun os started H enc _ => lifted os started H enc)

theorem proved : Rows.DotChecksSaid := over
#print axioms proved
end Go.Proofs.Ytjflmfmncepeeaa.dotChecks
