/-
  Proved: for all numbers, keys and rows RingStands answers true: it is told who stands in for whom; nobody twice. No condition.
-/
import Derived.Test.YtkhmghmilnfngaaDoorRX
import Derived.ChangeKeysEq
namespace Go.Proofs.YtkhmghmilnfngaaDoor.ringStands
set_option maxRecDepth 100000
open Go.ChangeShapes Go.WideShapes Go.ChangeAt Go.RowKit
set_option linter.unusedVariables false
set_option linter.unusedSimpArgs false

set_option maxRecDepth 100000 in
theorem eqIP (x y : Int) (W : World) : (Op.equalIn 10000 41 (.agg #[.int .i64 x, .int .i64 y]) (.agg #[.int .i64 x, .int .i64 y])).run Tryd.prog W = .ok true W := by
  obtain ⟨i, hi, _, _, _⟩ := info_parts infoZ
  have pe : ∀ (W : World) (x : Int), (Op.equalIn 9999 3 (.int .i64 x) (.int .i64 x)).run Tryd.prog W = .ok true W := fun W x => by
    rw [run_equalIn_int W 9998 3 .i64 .i64 x x Tryd.underlying3]
    simp
  have p1 : (part 3 #[.int .i64 x, .int .i64 y] 0).run Tryd.prog W = .ok (.int .i64 x) W := by kernel_rfl
  have p2 : (part 3 #[.int .i64 x, .int .i64 y] 1).run Tryd.prog W = .ok (.int .i64 y) W := by kernel_rfl
  have hc : Tryd.prog.cellsOf 3 = 1 := by kernel_rfl
  rw [run_equalIn_array W 9999 _ _ Tryd.underlying41 hi, hc]
  simp [show List.range 2 = [0, 1] from rfl, Op.eqItems, Sem.run_bind, p1, p2, pe]
set_option maxRecDepth 100000 in
set_option maxHeartbeats 16000000 in
theorem walk (w : World) (z1 z2 : Int) (K : List UInt8) (hK : K.length = 32) (A0 : Option Addr) (u0 : List Bool) (c0 : Nat) (hr0 : RdW w w.heap.size A0 u0) (hl0 : u0.length ≤ c0) (hc0 : c0 ≤ 9223372036854775807) (ht : Tab w) (hg1 : 0 < w.heap.size) :
    Calls Tryd.prog 4 #[.agg #[.int .i64 z1, .int .i64 z2], .agg (rowOf K), .slice A0 u0.length c0] w fun e w' => e = .returned (.bool true) ∧ Below w.heap.size w w' := by
  obtain ⟨U1, R1, H1⟩ := restY z1 8 (by omega) (by omega)
  obtain ⟨n, hn⟩ : ∃ n, R1 + 1 = n := ⟨_, rfl⟩
  have n8 : n ≤ 8 := by have := H1.lt; omega
  obtain ⟨U2, R2, H2⟩ := restY z2 n (by omega) (by omega)
  obtain ⟨q, hq⟩ : ∃ q, R2 + 1 = q := ⟨_, rfl⟩
  have u1 := H1.u
  have t1 : (U1 : Int) % 8 = (R1 : Int) := H1.r
  have i1 := H1.wi
  have u2 := H2.u
  have t2 := H2.t
  have t2b := H2.r
  have i2 := H2.wi
  have wn' : 1 + (R1 : Int) = (n : Int) := by omega
  have wq' : 1 + (R2 : Int) = (q : Int) := by omega
  have wn : IntKind.i64.wrap (n : Int) = (n : Int) := IntWalk.i64_in _ (by omega)
  have wq : IntKind.i64.wrap (q : Int) = (q : Int) := IntWalk.i64_in _ (by have := H2.lt; omega)
  have wu : IntKind.u64.wrap (n : Int) = (n : Int) := IntWalk.u64_in _ (by omega)
  have n0 : ¬ (n : Int) = 0 := by omega
  have n1 : ((n : Int) == 0) = false := by simp; omega
  have qn : q ≤ n := by have := H2.lt; omega
  have q1 : 1 ≤ q := by omega
  obtain ⟨m, hm⟩ : ∃ m, m = min u0.length 10 := ⟨_, rfl⟩
  have hm1 := fun W => run_min2 u0.length 10 m hm W
  rw [show ((10 : Nat) : Int) = 10 from rfl] at hm1
  obtain ⟨l0, hl⟩ : ∃ l, u0.length = l := ⟨_, rfl⟩
  have hs1 := fun W => sliceW_to A0 u0.length c0 (m : Int) m rfl (by omega) W
  have RT := hidrg_ (hr0.take m)
  have HML := hidrg_ (show (u0.take m).length = m by rw [List.length_take]; omega)
  have m10 : m ≤ 10 := by omega
  rw [hl] at hm1 hs1 ⊢
  obtain ⟨ul, hul⟩ : ∃ ul, u0.take m = ul := ⟨_, rfl⟩
  rw [hul] at RT HML
  obtain ⟨gp, hgp⟩ : ∃ g, w.heap.size = g := ⟨_, rfl⟩
  obtain ⟨w0, hw0⟩ : ∃ W, w.alloc (.cells #[.int .i64 z1, .int .i64 z2] 41) = W := ⟨_, rfl⟩
  have b0 : Below w.heap.size w w0 := by rw [← hw0]; exact (Below.refl _ _).alloc (Nat.le_refl _) _
  have k0 : Bk w0 gp 41 #[.int .i64 z1, .int .i64 z2] := by rw [← hw0, ← hgp]; exact Bk.new w _ _
  obtain ⟨gk, hgk⟩ : ∃ g, w0.heap.size = g := ⟨_, rfl⟩
  obtain ⟨w1, hw1⟩ : ∃ W, w0.alloc (.cells (rowOf K) 23) = W := ⟨_, rfl⟩
  have B1 := hidrg_ (show Below w.heap.size w w1 by rw [← hw1]; exact b0.alloc b0.size _)
  have K1 := hidrg_ (show Bk w1 gk 23 (rowOf K) by rw [← hw1, ← hgk]; exact Bk.new w0 _ _)
  have kp := (show Bk w1 gp 41 #[.int .i64 z1, .int .i64 z2] by rw [← hw1]; exact k0.alloc _)
  have kp0 := (show w1.cell? ⟨gp, 0, none⟩ = some (.int .i64 z1) from kp.cell 0)
  have kp1 := (show w1.cell? ⟨gp, 1, none⟩ = some (.int .i64 z2) from kp.cell 1)
  have T1 := hidrg_ (show Tab w1 from fun t h => (B1.out.cell hg1).trans (ht t h))
  have G1 := hidrg_ (show 0 < w1.heap.size from Nat.lt_of_lt_of_le hg1 B1.out.size)
  have KL := hidrg_ (iBlind K hK)
  have HK := hidrg_ hK
  have cn : Calls Tryd.prog 10 #[.int .i64 (n : Int), .int .i64 4] w1 (NewRP w1 n 4) := new_any w1 n 4 (by omega) n8 (by omega) (by omega) T1.out G1.out
  have HS := hidrg_ (show Srt ltP (ringL plcS n 4) from ringL_srt _ _ _)
  have HL6 := hidrg_ (show (ringL plcS n 4).length ≤ 1000000 by rw [ringL_len]; omega)
  have HWL := hidrg_ (show (walkV (plB K) (ringL plcS n 4)).length = n from walk_len (plc := plcS) _ (by omega))
  have HLT := hidrg_ (show ∀ z ∈ walkV (plB K) (ringL plcS n 4), z < n from fun z h => walk_lt h)
  have HND := hidrg_ (walkV_nodup (plB K) (ringL plcS n 4))
  have HRF := hidrg_ (show walkV (plB K) (ringL plcS n 4) = refW (nearK K 4) n from walk_ref (by omega) (plB_lt _) plcS_lt)
  unfold NewRP at cn
  obtain ⟨L, hL⟩ : ∃ L, ringL plcS n 4 = L := ⟨_, rfl⟩
  rw [hL] at HS HL6 HWL HLT HND HRF cn
  obtain ⟨ws, hws⟩ : ∃ x, walkV (plB K) L = x := ⟨_, rfl⟩
  rw [hws] at HWL HLT HND HRF
  have HWS := hidrg_ hws
  clear hK ht hn hq H1 H2 hL hws hm hl0 hc0 hr0 b0 k0 kp hul
  go_enter Tryd.func4, Tryd.ntmps4
  go_upto_region 4 with (go_at_call 10; ((with_reducible refine cn.mono ?_); clear cn; rintro e w2 ⟨g, rfl, hri, hb⟩; have B2 := hidrg_ (B1.out.trans (hb.mono B1.out.size)); have K2 := hidrg_ (K1.out.below hb K1.out.lt); have R2 := hidrg_ hri; have T2 := hidrg_ (show Tab w2 from fun t h => (hb.cell G1.out).trans (T1.out t h)); have G2 := hidrg_ (Nat.lt_of_lt_of_le G1.out hb.size); clear hri hb))
  clear kp0 kp1 u1 t1 i1 u2 t2 t2b i2 wn' wq' wn wq wu n0 n1 B1 K1 T1 G1
  have O3 := hidrg_ (OwnW.lit w2 w2.heap.size [] (Nat.le_refl _) (by simp [maxLen]))
  have RT3 := hidrg_ ((RT.out.below B2.out))
  have hb3 : w2.heap.size ≤ (w2.alloc (.cells #[] 4)).heap.size := by simp
  have RT4 := hidrg_ (show RdW (w2.alloc (.cells #[] 4)) w.heap.size A0 ul from RT3.out.alloc B2.out.size _)
  have B3 := hidrg_ (show Below w.heap.size w (w2.alloc (.cells #[] 4)) from B2.out.alloc B2.out.size _)
  have hl1 : ([] : List Bool).length + m ≤ 1000000 := by simp; omega
  go_upto_region 5 with (at_builtin; refine wpList_appW rfl (.tmp 35) (.tmp 40) rfl O3.out rfl m c0 rfl RT4.out HML.out hl1 hb3 ?_; intro A6 c6 w6 h1 h2 h3; rw [show ([] : List Bool).length + m = m by simp] at h1 h3 ⊢; have U6 := hidrg_ (show RdW w6 w6.heap.size A6 ul from h1.rd.1); have B26 := hidrg_ (show Below w2.heap.size w2 w6 from (((Below.refl w2.heap.size w2).alloc (Nat.le_refl _) (.cells #[] 4))).grown h2 (by simp) (fun k hk => (World.ownsRow.lt O3.out k hk).1)); clear h1 h2 h3)
  clear O3 RT RT3 RT4 B3 hb3 hl1 hm1 hs1
  have B6 := hidrg_ (B2.out.trans (B26.out.mono B2.out.size))
  have K6 := hidrg_ (K2.out.below B26.out K2.out.lt)
  have R6 := hidrg_ (R2.out.below B26.out)
  have T6 := hidrg_ (show Tab w6 from fun t h => (B26.out.cell G2.out).trans (T2.out t h))
  have G6 := hidrg_ (Nat.lt_of_lt_of_le G2.out B26.out.size)
  clear B2 K2 R2 T2 G2 B26
  by_cases hmn : m = n
  · subst hmn
    have te : ((m : Int) == (m : Int)) = true := by simp
    have HG := hidrg_ (stAll_good (up := upF ul) HND.out q q (Nat.le_refl _) (by rw [HWL.out]; exact qn))
    have cs := stand_any w6 g L R6.out HS.out HL6.out K HK.out ws HWS.out q q1 (by rw [HWL.out]; exact qn) (by rw [HWL.out]; exact n8) A6 m c6 ul HML.out HWL.out.symm U6.out (fun x h => by rw [HWL.out]; exact HLT.out x h)
    obtain ⟨st, hst⟩ : ∃ st, (stAll (upF ul) ws q q).1 = st := ⟨_, rfl⟩
    unfold StP at cs
    rw [hst] at cs HG
    obtain ⟨p, hp⟩ : ∃ p, st.length = p := ⟨_, rfl⟩
    rw [hp] at cs
    have HP := hidrg_ hp
    have HST := hidrg_ hst
    have p8 : p ≤ 8 := by have := HG.out.2.2.2.2; omega
    have sl := fun W => slice_allB gk W
    clear hst hp
    go_upto_region 13 with (first
      | (refine wpList_load_row rfl 23 (.tmp 4) rfl gk rfl 23 (rowOf K) (0, 0) _ K6.out Tryd.underlying23 rfl KL.out ?_)
      | (go_at_call 9; ((with_reducible refine cs.mono ?_); clear cs; rintro e w7 ⟨A7, c7, rfl, hrd, hb⟩; have B67 := hidrg_ hb; have E7 := hidrg_ hrd; have cg := rings_any w7 (fun t h => (hb.cell G6.out).trans (T6.out t h)) (Nat.lt_of_lt_of_le G6.out hb.size); clear hb hrd))
      | (go_at_call 11; ((with_reducible refine cg.mono ?_); clear cg; rintro e w8 ⟨rfl, hb⟩; have B68 := hidrg_ (B67.out.trans (hb.mono B67.out.size)); have E8 := hidrg_ ((E7.out.below hb).more hb.size); have hcv := conv_strn (rd_bk (K6.out.below B68.out K6.out.lt)) 32 32 HK.out; have cr : Calls Tryd.prog 13 #[.string (strOf K), .int .i64 (m : Int), .int .i64 4] w8 (NewZ w8 (refW (nearK K 4) m)) := refwalk_any w8 K HK.out m 4 n8 (by omega); rw [← HRF.out] at cr; unfold NewZ at cr; rw [HWL.out] at cr; clear hb))
      | (go_at_call 13; ((with_reducible refine cr.mono ?_); clear cr; rintro e w9 ⟨A9, c9, rfl, ho, hb⟩; have B69 := hidrg_ (B68.out.trans (hb.mono B68.out.size)); have E9 := hidrg_ ((E8.out.below hb).more hb.size); have ct := refstand_any w9 A9 m c9 q ws HWL.out qn n8 ho.rd.1 A6 c6 ul HML.out ((U6.out.below B69.out).more B69.out.size) HLT.out; unfold StR at ct; rw [HST.out, HP.out] at ct; clear ho hb))
      | (go_at_call 15; ((with_reducible refine ct.mono ?_); clear ct; rintro e wa ⟨Aa, ca, rfl, hrd, hb⟩; have B6a := hidrg_ (B69.out.trans (hb.mono B69.out.size)); have E1 := hidrg_ ((E9.out.below hb).more hb.size); have E2 := hidrg_ hrd; clear hb hrd)))
    clear sl B67 E7 B68 E8 B69 E9 T6 G6 te hcv
    have V1 := hidrg_ ((U6.out.below B6a.out).more B6a.out.size)
    have Ba := hidrg_ (B6.out.trans (B6a.out.mono B6.out.size))
    clear B6 K6 R6 U6 B6a
    obtain ⟨gs, hgs⟩ : ∃ g, wa.heap.size = g := ⟨_, rfl⟩
    obtain ⟨wb, hwb⟩ : ∃ W, wa.alloc (.cells #[.bool false, .bool false, .bool false, .bool false, .bool false, .bool false, .bool false, .bool false] 45) = W := ⟨_, rfl⟩
    have bb : Below wa.heap.size wa wb := by rw [← hwb]; exact (Below.refl _ _).alloc (Nat.le_refl _) _
    have Bb := hidrg_ (Ba.out.trans (bb.mono Ba.out.size))
    have S5 := hidrg_ (show Bk wb gs 45 (seenA []) by rw [← hwb, ← hgs, seenA_nil]; exact Bk.new wa _ _)
    have F1 := hidrg_ (show RdE wb gs A7 st by rw [← hgs]; exact E1.out.below bb)
    have F2 := hidrg_ (show RdE wb gs Aa st by rw [← hgs]; exact E2.out.below bb)
    have F3 := hidrg_ (show RdW wb gs A6 ul by rw [← hgs]; exact V1.out.below bb)
    have BGS := hidrg_ (show w.heap.size ≤ gs by rw [← hgs]; exact Ba.out.size)
    have z8 : (zeroValue 45).run Tryd.prog wa = .ok (.agg #[.bool false, .bool false, .bool false, .bool false, .bool false, .bool false, .bool false, .bool false]) wa := by kernel_rfl
    clear E1 E2 V1 Ba bb
    go_wp2
    clear hwb z8 hgs
    go_loopw [15] (fun i wr => ∃ (k : Nat), i = .int .i64 k ∧ k ≤ p ∧ Hid (Below gs wb wr) ∧ Hid (Bk wr gs 45 (seenA ((st.take k).map PrV.p)))) (fun i _ => p - (intOf i).toNat)
    case atStart => exact ⟨0, rfl, Nat.zero_le _, hidrg_ (Below.refl _ _), hidrg_ (by rw [List.take_zero]; exact S5.out)⟩
    case round =>
      obtain ⟨k, rfl, hk, HB, HSN⟩ := hrel
      by_cases hlt : k < p
      · have tl : (k : Int) < (p : Int) := by omega
        have hkl : k < st.length := by rw [HP.out]; exact hlt
        obtain ⟨b, off, rfl, hbl, hc⟩ := (F1.out.below HB.out) (by omega)
        obtain ⟨h1, h2⟩ := hc k hkl
        obtain ⟨b2, off2, rfl, hbl2, hc2⟩ := (F2.out.below HB.out) (by omega)
        obtain ⟨h3, h4⟩ := hc2 k hkl
        obtain ⟨pr, hpr⟩ : ∃ pr, st.getD k ⟨0, 0⟩ = pr := ⟨_, rfl⟩
        rw [hpr] at h1 h2 h3 h4
        have hge : st[k] = pr := by rw [← hpr, List.getD_eq_getElem?_getD, List.getElem?_eq_getElem hkl]; rfl
        have hpm : pr ∈ st := by rw [← hge]; exact List.getElem_mem _
        have htk : st.take (k + 1) = st.take k ++ [pr] := by rw [List.take_succ_eq_append_getElem hkl, hge]
        obtain ⟨g1, g2, g3, _, _⟩ := HG.out
        have hup := g2 pr hpm
        have hpn := HLT.out pr.p (g3 pr hpm)
        have hnd : (st.map PrV.p).Nodup := g1.sublist (List.sublist_append_left _ _)
        have hno : pr.p ∉ (st.take k).map PrV.p := by
          have hx : ((st.take (k + 1)).map PrV.p).Nodup := hnd.sublist ((List.take_sublist _ _).map _)
          rw [htk, List.map_append] at hx
          intro hz
          exact (List.nodup_append.1 hx).2.2 _ hz pr.p (by simp) rfl
        obtain ⟨x, hx⟩ : ∃ x, pr.p = x := ⟨_, rfl⟩
        obtain ⟨y, hy⟩ : ∃ y, pr.r = y := ⟨_, rfl⟩
        have HTK := hidrg_ (show (st.take (k + 1)).map PrV.p = (st.take k).map PrV.p ++ [x] by rw [htk, List.map_append, ← hx]; rfl)
        rw [hx] at h1 h3 hup hpn hno
        rw [hy] at h2 h4
        have hs := (HSN.out.cell x).trans (seenA_get _ (by omega))
        rw [decide_eq_false hno] at hs
        have hfz := HSN.out.frozen x
        obtain ⟨b3, off3, rfl, hbl3, hc3⟩ := (F3.out.below HB.out) (by rw [HML.out]; omega)
        have h5 := hc3 x (by rw [HML.out]; exact hpn)
        rw [show ul.getD x false = true from hup] at h5
        have eq := fun W => eqIP (x : Int) (y : Int) W
        have ta : ¬ (x : Int) < 0 := by omega
        have tb : ¬ 7 < (x : Int) := by omega
        have tc : (x : Int) < 8 := by omega
        have td : (x : Int) < (m : Int) := by omega
        clear hc hc2 hc3 hpr hge hpm htk g1 g2 g3 hup hnd hno hx hy
        go_upto_region 17 with fail
        go_quiet (fail)
        have HB2 := hidrg_ (show Below gs wb (wr.drewN nq) from below_drewN HB.out nq)
        have HSN2 := hidrg_ (HSN.out.drewN nq)
        replace h1 : (wr.drewN nq).cell? _ = _ := h1
        replace hs : (wr.drewN nq).cell? _ = _ := hs
        replace hfz : (wr.drewN nq).frozen? _ = _ := hfz
        clear h2 h3 h4 h5 eq HB HSN
        generalize wr.drewN nq = wd at *
        have S6 := hidrg_ (show Bk (wd.setCell ⟨gs, x, none⟩ (.bool true)) gs 45 (seenA ((st.take (k + 1)).map PrV.p)) by rw [HTK.out, ← seenA_set _ (show x < 8 by omega)]; exact HSN2.out.set_ x _)
        have B6 := hidrg_ (show Below gs wb (wd.setCell ⟨gs, x, none⟩ (.bool true)) from HB2.out.setCell (Nat.le_refl _) _)
        go_wp2
        go_roundw
        case rel => exact ⟨k + 1, by go_num, by omega, B6, S6⟩
        case measure => simp [intOf]; omega
      · have tl : ¬ (k : Int) < (p : Int) := by omega
        go_wp2
        go_ret
        exact ⟨rfl, by first | exact Bb.out.trans (HB.out.mono BGS.out) | (rw [← hgp]; exact Bb.out.trans (HB.out.mono BGS.out))⟩
  · have te : ((m : Int) == (n : Int)) = false := by simp; omega
    have te2 : ((m : Int) != (n : Int)) = true := by simp; omega
    have cs := stand_bad w6 g L R6.out HS.out HL6.out K HK.out ws HWS.out q q1 (by rw [HWL.out]; exact qn) (by rw [HWL.out]; exact n8) A6 m c6 (by rw [HWL.out]; exact hmn)
    clear hmn
    go_wp2_with (first
      | (refine wpList_load_row rfl 23 (.tmp 4) rfl gk rfl 23 (rowOf K) (0, 0) _ K6.out Tryd.underlying23 rfl KL.out ?_)
      | (go_at_call 9; ((with_reducible refine cs.mono ?_); clear cs; rintro e w7 ⟨rfl, hb⟩; have B7 := hidrg_ (B6.out.trans (hb.mono B6.out.size)); have cg := rings_any w7 (fun t h => (hb.cell G6.out).trans (T6.out t h)) (Nat.lt_of_lt_of_le G6.out hb.size); clear hb))
      | (go_at_call 11; ((with_reducible refine cg.mono ?_); clear cg; rintro e w8 ⟨rfl, hb⟩; have B8 := hidrg_ (B7.out.trans (hb.mono B7.out.size)); clear hb)))
    go_ret
    exact ⟨rfl, by first | exact B8.out | (rw [← hgp]; exact B8.out)⟩

theorem laid_met3 (os : Os) : laidMet Tryd.prog [("casket/sha2.roundWords", Rows.laid_casket_sha2_roundWords)] ((laidWorld os).forCall (fun _ _ => 0) ⟨#[], #[.agg #[.int .i64 0, .int .i64 0], .agg (rowOf (List.replicate 32 0)), .slice none 0 0], []⟩).memory :=
  laidMet_of_run' 8 (by kernel_rfl) (by kernel_rfl)

/-- What the walk gives, for every argument and every world in which the constants lie. -/
theorem contract (H : Type) (enc : TypeId × Value → H) (W : World) (base : Nat) (args : Array Value) (ds gs : List (DataW H)) (before : List MemPlace)
    (hval : ∀ (j : Nat) t v, Tryd.f4.params[j]? = some t → args[j]? = some v → Value.okWide Tryd.prog W .any base t v)
    (hW : DataW.Whole enc Tryd.prog Tryd.f4.params.toList Rows.ringStandsSpec.vars false W args.toList ds gs before) (hL : laidMetH Tryd.prog Rows.ringStandsRow.laid W) :
    Calls Tryd.prog 4 args W fun e W' => ∃ v, e = .returned v ∧ Rows.ringStandsSpec.post enc Tryd.prog Tryd.f4 false true false false W args v W' := by
  obtain ⟨ht, hg1⟩ := tab_of hL
  have hW' := hW
  obtain ⟨p, q, hA0, hV, rfl, hfz, hnd⟩ := hW
  have hA : DataW.TrodAll enc Tryd.prog W 0 (fun _ => true) true Tryd.f4.params.toList args.toList ds p := hA0
  rw [Tryd.params4] at hA hval
  obtain ⟨v0, vs0, d0, ds0, p0, q0, hargs, rfl, rfl, h0, r0⟩ := trodAll_cons hA
  obtain ⟨v1, vs1, d1, ds1, p1, q1, rfl, rfl, rfl, h1, r1⟩ := trodAll_cons r0
  obtain ⟨v2, vs2, d2, ds2, p2, q2, rfl, rfl, rfl, h2, r2⟩ := trodAll_cons r1
  obtain ⟨rfl, rfl, rfl⟩ := trodAll_nil r2
  obtain rfl : args = #[v0, v1, v2] := by cases args; simp_all
  obtain ⟨rfl, rfl⟩ := trodVars_none hV
  obtain ⟨z1, z2, rfl, _, _⟩ := open_pairR Tryd.underlying41 Tryd.underlying3 (by kernel_rfl) (by kernel_rfl) (hval 0 41 v0 rfl rfl) h0
  obtain ⟨K, rfl, hK⟩ := open_arr8 Tryd.underlying23 Tryd.underlying5 (by kernel_rfl) (by kernel_rfl) (hval 1 23 v1 rfl rfl) h1
  obtain ⟨A0, u0, c0, rfl, hr0, hl0, hc0⟩ := open_boolW Tryd.underlying42 Tryd.underlying4 (by kernel_rfl) (hval 2 42 v2 rfl rfl) h2
  refine (walk W z1 z2 K hK A0 u0 c0 hr0 hl0 (by unfold maxLen at hc0; omega) ht hg1).mono fun e W' ⟨he, hg⟩ => ⟨_, he, ?_⟩
  exact law_post laidOut_ (of_decide_eq_true (by kernel_rfl)) rfl rfl Tryd.underlying4 rfl hW' hg

theorem reads (os : Os) {H : Type} (enc : TypeId × Value → H) : ∃ places, DataW.whole enc Tryd.prog ((laidWorld os).forCall (fun _ _ => 0) ⟨#[], #[.agg #[.int .i64 0, .int .i64 0], .agg (rowOf (List.replicate 32 0)), .slice none 0 0], []⟩).memory Tryd.f4.params.toList Rows.ringStandsSpec.vars false (#[.agg #[.int .i64 0, .int .i64 0], .agg (rowOf (List.replicate 32 0)), .slice none 0 0] : Array Value).toList 8 = some ([.agg [.lit (.int .i64 0), .lit (.int .i64 0)], .agg [.lit (.int .u8 0), .lit (.int .u8 0), .lit (.int .u8 0), .lit (.int .u8 0), .lit (.int .u8 0), .lit (.int .u8 0), .lit (.int .u8 0), .lit (.int .u8 0), .lit (.int .u8 0), .lit (.int .u8 0), .lit (.int .u8 0), .lit (.int .u8 0), .lit (.int .u8 0), .lit (.int .u8 0), .lit (.int .u8 0), .lit (.int .u8 0), .lit (.int .u8 0), .lit (.int .u8 0), .lit (.int .u8 0), .lit (.int .u8 0), .lit (.int .u8 0), .lit (.int .u8 0), .lit (.int .u8 0), .lit (.int .u8 0), .lit (.int .u8 0), .lit (.int .u8 0), .lit (.int .u8 0), .lit (.int .u8 0), .lit (.int .u8 0), .lit (.int .u8 0), .lit (.int .u8 0), .lit (.int .u8 0)], .nil], [], places) :=
  ⟨[], by kernel_rfl⟩

set_option maxRecDepth 100000 in
theorem lifted (os : Os) (started : os.Started) (H : Type) (enc : TypeId × Value → H) (F : Stop.Interp) :
    ReturnsInHanded {} Tryd.checked os 4 .any ((OpenSpec.ofChange Rows.ringStandsSpec).preRow enc Tryd.prog Tryd.f4 Rows.ringStandsRow.domain false Rows.ringStandsRow.laid) (((OpenSpec.ofChange Rows.ringStandsSpec).at F).post enc Tryd.prog Tryd.f4 false true false false) := by
  obtain ⟨places, hx⟩ := reads os enc
  refine returnsInHanded_of_row (C := Tryd.checked) (s := OpenSpec.ofChange Rows.ringStandsSpec) own_ started (by kernel_rfl) Tryd.func4
    (witness_row_at (enc := enc) (C := Tryd.checked) false (laidWorld os) #[.agg #[.int .i64 0, .int .i64 0], .agg (rowOf (List.replicate 32 0)), .slice none 0 0] rfl (by kernel_rfl) (by kernel_rfl) (by kernel_rfl)
      (OpenSpec.preRow_of_cond 8 hx (by kernel_rfl) (fun k hk => by cases hk) (by kernel_rfl) (laid_met3 os))) ?_
  intro W base args ds gs before hval hW _ _ _ hL _ _
  exact contract H enc W base args ds gs before hval hW hL

theorem said : Rows.RingStandsSaid :=
  OpenClaim.holds_of_cond 4 Tryd.f4 rfl rfl rfl rfl rfl rfl rfl ⟨rfl, rfl, rfl, rfl, rfl⟩ rfl rfl rfl rfl rfl (by kernel_rfl) Tryd.func4 (by kernel_rfl)
    (of_decide_eq_true (by kernel_rfl)) (by unfold Func.isWrapper; first | (rw [if_pos (by decide +kernel)]; kernel_rfl) | (rw [if_neg (by decide +kernel)]; exact ⟨rfl, rfl⟩))
    (fun os started H enc _ F => by rw [OpenClaim.pre_eq_preRow]; exact lifted os started H enc F)

/-- No parameter wants a stand-in; the program's own looks are off: what the card asks. -/
theorem plain (f : FuncId) (fn : Func) (hf : Tryd.pinned.checked.prog.funcNamed "casket/casketlaw21.RingStands" = some f) (hfn : Tryd.pinned.checked.prog.funcs[f]? = some fn) :
    false = Tryd.pinned.checked.prog.looks [] ∧ ∀ (j : Nat) t, fn.params[j]? = some t → Tryd.pinned.checked.prog.wantsStandIn t = false := by
  obtain rfl : f = 4 := Option.some.inj ((show Tryd.prog.funcNamed "casket/casketlaw21.RingStands" = some 4 by kernel_rfl).symm.trans hf) |>.symm
  obtain rfl : fn = Tryd.f4 := (Option.some.inj (Tryd.func4.symm.trans hfn)).symm
  refine ⟨by kernel_rfl, fun j t ht => ?_⟩
  rw [Tryd.params4] at ht
  have hm := Array.mem_of_getElem? ht
  simp only [List.mem_toArray, List.mem_cons, List.not_mem_nil, or_false] at hm
  rcases hm with rfl | rfl | rfl
  · exact (show Tryd.prog.wantsStandIn 41 = false by kernel_rfl)
  · exact (show Tryd.prog.wantsStandIn 23 = false by kernel_rfl)
  · exact (show Tryd.prog.wantsStandIn 42 = false by kernel_rfl)

/-- The card. -/
theorem proved : Rows.RingStandsCardSaid :=
  Claim7.holds_tied_plain_at .later [] _ _ _ _ said (fun _ h => by cases h) (by kernel_rfl) (fun _ h => by cases h) ringStands_row_tie rfl ⟨rfl, rfl⟩ (by kernel_rfl) rfl plain (by kernel_rfl)
#print axioms proved
end Go.Proofs.YtkhmghmilnfngaaDoor.ringStands
