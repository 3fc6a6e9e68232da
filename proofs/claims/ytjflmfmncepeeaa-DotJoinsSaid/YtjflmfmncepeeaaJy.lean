/-
  The reference's Make, by values.
-/
import Derived.Test.YtjflmfmncepeeaaJx
import Derived.Deep.CutBlock
namespace Go.Proofs.Ytjflmfmncepeeaa
open Go.ChangeShapes Go.WideShapes Go.ChangeAt Go.RowKit
set_option linter.unusedVariables false
set_option linter.unusedSimpArgs false

theorem built_rup16 (a0 a1 a2 a3 a4 a5 a6 a7 a8 a9 a10 a11 a12 a13 a14 a15 : Int) : Try.prog.built 25 [(0, .agg (intRow [a0, a1, a2, a3, a4, a5, a6, a7, a8, a9, a10, a11, a12, a13, a14, a15]))] = some (ctxRow [a0, a1, a2, a3, a4, a5, a6, a7, a8, a9, a10, a11, a12, a13, a14, a15] none 0 0) := by kernel_rfl
set_option maxRecDepth 100000 in
theorem built_rup (up : List Int) (hu : up.length = 16) : Try.prog.built 25 [(0, .agg (intRow up))] = some (ctxRow up none 0 0) := by
  match up, hu with
  | [a0, a1, a2, a3, a4, a5, a6, a7, a8, a9, a10, a11, a12, a13, a14, a15], _ => exact built_rup16 a0 a1 a2 a3 a4 a5 a6 a7 a8 a9 a10 a11 a12 a13 a14 a15
def MakeP (w : World) (up : List Int) (ms : List DotV) (e : Ending) (w' : World) : Prop :=
  ∃ u m A c z, e = .returned (TwoX u A m c z) ∧ RdD w' w'.heap.size A m ∧ (∀ y, A = some y → w.heap.size ≤ y.block) ∧ m.length ≤ c ∧ c ≤ 9223372036854775807 ∧ u.length = 16 ∧ ResV up ms u m z ∧ Below w.heap.size w w'

theorem mk_end {w wp wr W : World} {G : Nat} (hG : w.heap.size = G) (h : Below G w wp) (h2 : wp.grownBy wr (some (G + 2))) (hs : G + 3 ≤ wp.heap.size) (hg : wr.grownBy W (some (G + 1))) : Below w.heap.size w W := by
  rw [hG]
  exact ⟨hg.os.trans (h2.os.trans h.os), hg.tape.trans (h2.tape.trans h.tape), hg.output.trans (h2.output.trans h.output), Nat.le_trans h.size (Nat.le_trans h2.size hg.size), fun b hb => ((hg.block b (by have := h2.size; omega) (fun e => by injection e with e; omega)).trans (h2.block b (by omega) (fun e => by injection e with e; omega))).trans (h.block b hb)⟩
theorem grow_in {wp W W' : World} {row : Option Nat} {g : Nat} (h : wp.grownBy W row) (hg : W.grownBy W' (some g)) (hb : wp.heap.size ≤ g) : wp.grownBy W' row :=
  ⟨hg.os.trans h.os, hg.tape.trans h.tape, hg.output.trans h.output, Nat.le_trans h.size hg.size, fun b hb' hne => (hg.block b (Nat.lt_of_lt_of_le hb' h.size) (fun e => by injection e with e; omega)).trans (h.block b hb' hne)⟩
set_option maxRecDepth 100000 in
set_option maxHeartbeats 16000000 in
theorem make_any (w : World) (up : List Int) (hU : Up16 up) (A : Option Addr) (n c : Nat) (ms : List DotV) (hn : ms.length = n) (hn6 : n ≤ 900000) (hr : RdD w w.heap.size A ms) (hd : ∀ d ∈ ms, isD d = true) :
    Calls Try.prog 47 #[.agg (intRow up), .slice A n c] w (MakeP w up ms) := by
  obtain ⟨G, hG⟩ : ∃ G, w.heap.size = G := ⟨_, rfl⟩
  obtain ⟨w1, hw1⟩ : ∃ x, w.alloc (.cells (intRow up) 22) = x := ⟨_, rfl⟩
  have U1 := show Bk w1 G 22 (intRow up) by rw [← hw1, ← hG]; exact Bk.new w _ _
  have b1 : Below w.heap.size w w1 := by rw [← hw1]; exact (Below.refl _ _).alloc (Nat.le_refl _) _
  have S1 : w1.heap.size = G + 1 := by rw [← hw1, ← hG]; simp
  have hz := zRX_
  have IX := hidd_ (fun up' (hu : up'.length = 16) A n c => (show (Try.prog.info? 25).map (·.size) = some (ctxRow up' A n c).size by rw [ctxRow_size up' A n c hu]; exact iRX_))
  have IU := hidd_ (show (Try.prog.info? 22).map (·.size) = some (intRow up).size by rw [intRow_size, hU.1]; exact iU_)
  have BU := hidd_ (built_rup up hU.1)
  go_enter Try.func47, Try.ntmps47
  go_upto_region 1 with fail
  generalize hw2 : w1.alloc _ = w2
  have b2 : Below w1.heap.size w1 w2 := by rw [← hw2]; exact (Below.refl _ _).alloc (Nat.le_refl _) _
  have S2 : w2.heap.size = G + 2 := by rw [← hw2]; simp [S1]
  have R2 := hidd_ (show Bk w2 (G + 1) 25 (ctxRow (List.replicate 16 0) none 0 0) by rw [← S1, ← hw2]; exact Bk.new w1 _ _)
  have U2 := hidd_ (U1.below b2 U1.lt)
  have X2 := hidd_ (b1.trans (b2.mono b1.size))
  rw [hG] at hr
  have HR2 := hidd_ (hr.below (by have := X2.out; rw [hG] at this; exact this))
  have HN := hidd_ hn
  have HD := hidd_ hd
  have HUP := hidd_ hU
  have HG := hidd_ hG
  clear hr hn hd b1 b2 U1 hw1 hw2 S1
  go_upto_region 2 with (first
    | (refine wpList_load_row rfl 22 (.tmp 2) rfl G rfl 22 (intRow up) (0, 0) _ U2.out Try.underlying22 rfl IU.out ?_)
    | (refine wpList_built rfl 25 _ rfl (ctxRow up none 0 0) (by simp only [List.map_toArray, List.map_cons, List.map_nil]; exact BU.out) ?_)
    | (refine wpList_put_row rfl 25 (.tmp 6) (.tmp 13) rfl (G + 2) (ctxRow up none 0 0) rfl rfl 25 (ctxRow (List.replicate 16 0) none 0 0) (by rw [← S2]; exact Bk.new w2 _ _) (IX.out up hU.1 none 0 0) (by rw [ctxRow_size _ _ _ _ hU.1]; rfl) (ctxRow_one _ _ _ _) ?_; intro w3 k3 g3 s3; have B3 := hidd_ ((((Below.refl w2.heap.size w2).alloc (Nat.le_refl _) (.cells (ctxRow (List.replicate 16 0) none 0 0) 25)).grown g3 (by simp) (fun k hk => by injection hk with hk; omega))); have K3 := hidd_ k3; have S3 := (show w3.heap.size = G + 3 by rw [s3]; simp [S2]); clear k3 g3 s3))
  try rw [put_none]
  have R3 := hidd_ (R2.out.below B3.out R2.out.lt)
  have D3 := hidd_ (HR2.out.below (B3.out.mono (show G ≤ w2.heap.size by omega)))
  have X3 := hidd_ (X2.out.trans (B3.out.mono X2.out.size))
  clear R2 U2 HR2 X2 B3 S2
  go_wp2
  go_loopw [7] (fun v wr => ∃ (b : Bool) (u : List Int), v = .bool b ∧ Hid (Bk wr (G + 2) 25 (ctxRow u none 0 0)) ∧ Hid (KpU up ms u) ∧ Hid (w3.grownBy wr (some (G + 2))) ∧ Hid (b = false → ∀ j, j < n → (ms.getD j ⟨0, 0⟩).n ≠ u.getD ((ms.getD j ⟨0, 0⟩).c - 1).toNat 0 + 1)) (fun v wr => 2 * mw40 wr (G + 2) + flagN v)
  case atStart => exact ⟨true, up, rfl, K3, hidd_ (KpU.start HUP.out), hidd_ (World.grownBy.refl _ _), hidd_ (fun e => by cases e)⟩
  case round =>
    obtain ⟨b, u, rfl, H1, H2, H3, H4⟩ := hrel
    obtain ⟨wp, hwp⟩ : ∃ x, x = wr := ⟨_, rfl⟩
    subst hwp
    cases b
    · have NE := hidd_ (H4.out rfl)
      have HU := hidd_ H2.out.1
      have KU := H2
      have hG5 : G + 3 ≤ wp.heap.size := by have := H3.out.size; omega
      have X5 := hidd_ (show Below G w wp from by
        have x3 := X3.out
        rw [HG.out] at x3
        exact ⟨H3.out.os.trans x3.os, H3.out.tape.trans x3.tape, H3.out.output.trans x3.output, Nat.le_trans x3.size H3.out.size, fun b hb => (H3.out.block b (by omega) (fun e => by injection e with e; omega)).trans (x3.block b hb)⟩)
      have D5 := hidd_ (show RdD wp G A ms from fun h0 => by
        obtain ⟨b, off, e, hb, hc⟩ := D3.out h0
        have hk := H3.out.block b (by omega) (fun e => by injection e with e; omega)
        exact ⟨b, off, e, hb, fun j hj => ⟨(World.cell?_of_block hk).trans (hc j hj).1, (World.cell?_of_block hk).trans (hc j hj).2⟩⟩)
      have R5 := hidd_ (R3.out.grown H3.out (fun e => by injection e with e; omega))
      clear R3 D3 X3 H2 H3 H4 K3 S3
      go_wp2
      go_loopw [9] (fun v wr => ∃ (k : Nat) (A' : Option Addr) (c' : Nat) (M : List DotV), k ≤ n ∧ v = .int .i64 k ∧ Hid (Bk wr (G + 2) 25 (ctxRow u A' M.length c')) ∧ Hid (OwnD wr wp.heap.size (.slice A' M.length c') M) ∧ Hid (MoreR ms u k M) ∧ Hid (wp.grownBy wr (some (G + 2)))) (fun v _ => n - (intOf v).toNat)
      case atStart => exact ⟨0, none, 0, [], Nat.zero_le _, rfl, H1, hidd_ (OwnD.nil_ _ _), hidd_ (MoreR.start ms u), hidd_ (World.grownBy.refl _ _)⟩
      case round =>
        clear H1
        obtain ⟨k, A', c', M, hk, rfl, H1, H2, H3, H4⟩ := hrel
        by_cases hlt : k < n
        · obtain ⟨bb, off, rfl, hbl, hcell⟩ := D5.out (by rw [HN.out]; omega)
          have hcd := hcell k (by rw [HN.out]; exact hlt)
          have hkl : k < ms.length := by rw [HN.out]; exact hlt
          have hdk := HD.out _ (getD_mem hkl)
          have HSK := hidd_ (H3.out.skip hkl)
          have HPT := hidd_ (H3.out.put hkl)
          obtain ⟨d, hd⟩ : ∃ d, ms.getD k ⟨0, 0⟩ = d := ⟨_, rfl⟩
          rw [hd] at hcd hdk HSK HPT
          have hbw : bb < wr.heap.size := by have := H4.out.size; omega
          have hbne : some bb ≠ some (G + 2) := fun e => by injection e with e; omega
          have hb5 : bb < wp.heap.size := by omega
          have CD := hidd_ (row_two ((World.cell?_of_block (H4.out.block bb hb5 hbne)).trans hcd.1) ((World.cell?_of_block (H4.out.block bb hb5 hbne)).trans hcd.2))
          have ID := hidd_ (show (Try.prog.info? 27).map (·.size) = some d.row.size from iD_)
          have hzD := zD_
          have t0 : (0 : Int) ≤ (k : Int) := by omega
          have tn : (k : Int) < (n : Int) := by omega
          obtain ⟨q, hq⟩ : ∃ q, M.length = q := ⟨_, rfl⟩
          have hqk : q ≤ k := by rw [← hq]; exact H3.out.2.2
          rw [hq] at H1 H2
          have HQ := hidd_ hq
          have HDK := hidd_ hdk
          clear hcell hcd hd hkl hq hdk
          go_upto_region 15 with (first
            | (refine wpList_load_sub rfl 27 (.tmp 58) rfl bb (off + k * 2) rfl d.row CD.out _ Try.underlying27 rfl ID.out ?_)
            | (refine wpList_put_row rfl 27 _ _ rfl wr.heap.size d.row rfl rfl 27 #[.int .i64 0, .int .i64 0] (Bk.new wr _ _) ID.out rfl (row_one d) ?_; intro w6 k6 g6 s6; have BX := hidd_ (((Below.refl wr.heap.size wr).alloc (Nat.le_refl _) (.cells #[.int .i64 0, .int .i64 0] 27)).grown g6 (by simp) (fun k hk => by injection hk with hk; omega)); have D6 := hidd_ k6; clear k6 g6 s6))
          try rw [put_none]
          have M6 := hidd_ (H1.out.below BX.out H1.out.lt)
          have O6 := hidd_ (H2.out.below BX.out (Nat.le_refl _))
          have G6 := hidd_ (grown_of_below H4.out BX.out)
          have hgd : wp.heap.size ≤ wr.heap.size := H4.out.size
          have HLT := hidd_ H2.out.lt
          generalize wr.heap.size = gd at *
          have IV := hidd_ (IX.out u HU.out.1 A' q c')
          have ch := refHas_raw w6 u HU.out.1 A' q c' M HQ.out (by omega) O6.out.rd.1 d HDK.out
          obtain ⟨dc, dn⟩ := d
          obtain ⟨l1, hl1⟩ : ∃ x, decide (dn ≤ u.getD (dc - 1).toNat 0) = x := ⟨_, rfl⟩
          obtain ⟨l2, hl2⟩ : ∃ x, decide ((⟨dc, dn⟩ : DotV) ∈ M) = x := ⟨_, rfl⟩
          simp only at ch HSK HPT
          rw [hl1, hl2] at ch
          have HL1 := hidd_ hl1
          have HL2 := hidd_ hl2
          obtain ⟨r, hr⟩ : ∃ r, (l1 || l2) = r := ⟨_, rfl⟩
          rw [hr] at ch
          have HRR := hidd_ hr
          replace ch : Calls Try.prog 19 #[.agg (ctxRow u A' q c'), .agg #[.int .i64 dc, .int .i64 dn]] w6 (fun e w' => e = .returned (.bool r) ∧ Below w6.heap.size w6 w') := ch
          clear BX H1 H2 H4 hl1 hl2 hr CD
          cases r
          · have hno : ¬ dn ≤ u.getD (dc - 1).toNat 0 ∧ (⟨dc, dn⟩ : DotV) ∉ M := by
              have h := HRR.out
              cases l1
              · cases l2
                · exact ⟨of_decide_eq_false HL1.out, of_decide_eq_false HL2.out⟩
                · cases h
              · cases h
            have HNO := hidd_ hno
            clear hno HSK HL1 HL2 HRR
            have hcx := (M6.out.cell 16).trans (ctxRow_more u A' q c' HU.out.1)
            go_upto_region 17 with (first
              | (refine wpList_load_row rfl 25 (.tmp 6) rfl (G + 2) rfl 25 (ctxRow u A' q c') (0, 0) _ M6.out Try.underlying25 rfl IV.out ?_)
              | (refine wpList_load_row rfl 27 (.tmp 10) rfl gd rfl 27 #[.int .i64 dc, .int .i64 dn] (0, 0) _ D6.out Try.underlying27 rfl ID.out ?_)
              | (go_at_call 19; ((with_reducible refine ch.mono ?_); clear ch; rintro e w7 ⟨rfl, hb⟩; have M7 := hidd_ (M6.out.below hb M6.out.lt); have O7 := hidd_ (O6.out.below hb (Nat.le_refl _)); have D7 := hidd_ (D6.out.below hb D6.out.lt); have G7 := hidd_ (grown_of_below G6.out hb); have hcx7 := (M7.out.cell 16).trans (ctxRow_more u A' q c' HU.out.1); clear hb)))
            obtain ⟨w9, hw9⟩ : ∃ x, w7.alloc (.cells #[.int .i64 dc, .int .i64 dn] 27) = x := ⟨_, rfl⟩
            have b9 : Below w7.heap.size w7 w9 := by rw [← hw9]; exact (Below.refl _ _).alloc (Nat.le_refl _) _
            have K9 := hidd_ (show Bk w9 w7.heap.size 27 (DotV.row ⟨dc, dn⟩) by rw [← hw9]; exact Bk.new w7 _ _)
            have M9 := hidd_ (M7.out.below b9 M7.out.lt)
            have O9 := hidd_ (O7.out.below b9 (Nat.le_refl _))
            have D9 := hidd_ (D7.out.below b9 D7.out.lt)
            have G9 := hidd_ (grown_of_below G7.out b9)
            have hle9 : wp.heap.size ≤ w9.heap.size := G9.out.size
            have RA := hidd_ (rdD_one K9.out _ K9.out.lt)
            have T1 : q + 1 ≤ 1000000 := by omega
            have HTL := hidd_ O9.out.lt
            have hgd9 : gd < w9.heap.size := D9.out.lt
            have T2 : some (G + 2) ≠ (Value.slice A' q c').ownBlock := fun e => by have := (HLT.out _ e.symm).1; omega
            have T3 : some gd ≠ (Value.slice A' q c').ownBlock := fun e => by have := (HLT.out _ e.symm).2; omega
            have T4 : ∀ b, b < wp.heap.size → some b ≠ (Value.slice A' q c').ownBlock := fun b hb e => by have := (HLT.out _ e.symm).1; omega
            have HT := hidd_ (And.intro T2 (And.intro T3 T4))
            have P0 := hidd_ (putD_end M ⟨dc, dn⟩)
            clear T2 T3 T4 b9 M7 O7 G7 hcx M6 O6 D6 G6
            go_wp2_with (first
              | (refine wpList_load_row rfl 27 (.tmp 10) rfl gd rfl 27 #[.int .i64 dc, .int .i64 dn] (0, 0) _ D7.out Try.underlying27 rfl ID.out ?_)
              | (at_builtin; go_loud (refine wpList_appDD rfl (.tmp 67) (.tmp 69) rfl O9.out rfl 1 1 rfl RA.out rfl (by rw [HQ.out]; exact T1) hle9 ?_); intro A2 c2 w10 k1 k2 k3; rw [HQ.out] at k1 k3 ⊢; have O10 := hidd_ k1; have K2 := hidd_ k2; have K33 := hidd_ k3; have M10 := hidd_ (M9.out.grown k2 HT.out.1); have D10 := hidd_ (D9.out.grown k2 HT.out.2.1); have G10 := hidd_ (show wp.grownBy w10 (some (G + 2)) from ⟨k2.os.trans G9.out.os, k2.tape.trans G9.out.tape, k2.output.trans G9.out.output, Nat.le_trans G9.out.size k2.size, fun b hb hne => (k2.block b (Nat.lt_of_lt_of_le hb hle9) (HT.out.2.2 b hb)).trans (G9.out.block b hb hne)⟩); have hcx10 := (M10.out.cell 16).trans (ctxRow_more u A' q c' HU.out.1); have hfz10 := M10.out.frozen 16; clear k1 k2 k3))
            have em := ctxRow_put u A' q c' HU.out.1 A2 (q + 1) c2
            generalize hw11 : w10.setCell _ _ = w11
            have g11 : w10.grownBy w11 (some (G + 2)) := by rw [← hw11]; exact grown_cell _ _ _ _
            have M11 := hidd_ (show Bk w11 (G + 2) 25 (ctxRow u A2 (q + 1) c2) by rw [← hw11, ← em]; exact M10.out.set_ 16 _)
            obtain ⟨g2, rfl⟩ := O10.out.blockD (by omega)
            have HG2 := hidd_ (show wp.heap.size ≤ g2 ∧ g2 ≠ gd from ⟨(O10.out.lt g2 rfl).1, fun e => by
              rcases K33.out with h | h
              · have := (HLT.out g2 h.symm).2; omega
              · injection h with h; simp only at h; omega⟩)
            have O11 := hidd_ (show OwnD w11 wp.heap.size (.slice (some ⟨g2, 0, none⟩) (q + 1) c2) (putD M ⟨dc, dn⟩ q) by
              have e : putD M ⟨dc, dn⟩ q = M ++ [⟨dc, dn⟩] := by rw [← HQ.out]; exact putD_end M _
              rw [e]
              exact O10.out.kept g11 (.inr (fun e => by have e' : g2 = G + 2 := Option.some.inj e; have := HG2.out.1; omega)))
            have D11 := hidd_ (D10.out.grown g11 (fun e => by injection e with e; omega))
            have G11 := hidd_ (World.grownBy.trans G10.out g11)
            have HB0 := hidd_ (show ∀ x ∈ M.drop q, Ltd ⟨dc, dn⟩ x from fun x hx => by rw [List.drop_eq_nil_of_le (by rw [HQ.out]; omega)] at hx; cases hx)
            clear g11 hw11 em M10 O10 G10 D10 hcx10 hfz10 M9 O9 G9 D9 RA HT K2 K9 K33 hw9 hle9 hgd9 HTL D7 hcx7
            go_loopw [11] (fun v wr => ∃ j : Nat, j ≤ q ∧ v = .int .i64 j ∧ Hid (Bk wr (G + 2) 25 (ctxRow u (some ⟨g2, 0, none⟩) (q + 1) c2)) ∧ Hid (OwnD wr wp.heap.size (.slice (some ⟨g2, 0, none⟩) (q + 1) c2) (putD M ⟨dc, dn⟩ j)) ∧ Hid (∀ x ∈ M.drop j, Ltd ⟨dc, dn⟩ x) ∧ Hid (Bk wr gd 27 (DotV.row ⟨dc, dn⟩)) ∧ Hid (wp.grownBy wr (some (G + 2)))) (fun v _ => (intOf v).toNat)
            case atStart => exact ⟨q, Nat.le_refl _, rfl, M11, O11, HB0, D11, G11⟩
            case round =>
              clear M11 O11 HB0 D11 G11
              obtain ⟨j, hj, rfl, J1, J2, J3, J4, J5⟩ := hrel
              have hgw : G + 2 < wr.heap.size := J1.out.lt
              have hdw : gd < wr.heap.size := J4.out.lt
              have h2w : g2 < wr.heap.size := (J2.out.lt g2 rfl).2
              have CX := hidd_ (fun W (h : Below wr.heap.size wr W) => (h.cell (p := ⟨G + 2, 16, none⟩) hgw).trans ((J1.out.cell 16).trans (ctxRow_more u (some ⟨g2, 0, none⟩) (q + 1) c2 HU.out.1)))
              have CT := hidd_ (fun W (h : Below wr.heap.size wr W) => Bk.twod (show Bk W gd 27 #[.int .i64 dc, .int .i64 dn] from J4.out.below h J4.out.lt))
              by_cases hj0 : j = 0
              · subst hj0
                have d0 : decide ((0 : Int) < 0) = false := rfl
                have H3b := hidd_ (HPT.out 0 (Nat.zero_le _) HNO.out.1 HNO.out.2 J3.out (.inl rfl))
                clear CX CT
                go_upto_region 18 with fail
                refine region_quiet_in (C := fun W => Below wr.heap.size wr W) (by kernel_rfl) (by kernel_rfl) ((Below.refl _ _).drew) ?_
                repeat (first | go_big_quiet_skip | (go_big_quiet_want; (first
                  | (refine BigFrame.quiet_move _ rfl ?_; go_simp)
                  | (refine BigFrame.quiet_assign _ rfl ?_; go_simp)
                  | (refine quiet_run (.bool false) ?_ ?_; (focus (intro W hW; go_simp; done)); go_simp)); go_big_quiet_on))
                refine wpQuiet_nil ?_
                intro w12 hw12
                have J12 := hidd_ (J1.out.below hw12 hgw)
                have J22 := hidd_ (J2.out.below hw12 (Nat.le_refl _))
                have J52 := hidd_ (grown_of_below J5.out hw12)
                have LN := hidd_ (show (putD M ⟨dc, dn⟩ 0).length = q + 1 by rw [putD_len _ _ _ (Nat.zero_le _), HQ.out])
                clear hw12
                go_wp2
                go_roundw
                case rel => exact ⟨k + 1, some ⟨g2, 0, none⟩, c2, putD M ⟨dc, dn⟩ 0, by omega, by go_num, by rw [LN.out]; exact J12, by rw [LN.out]; exact J22, H3b, J52⟩
                case measure => simp [intOf]; omega
              · obtain ⟨i, rfl⟩ : ∃ i, j = i + 1 := ⟨j - 1, by omega⟩
                have d0 : decide ((0 : Int) < ((i + 1 : Nat) : Int)) = true := decide_eq_true (by omega)
                have d00 : decide ((0 : Int) < ((i : Int) + 1)) = true := decide_eq_true (by omega)
                have cy := J2.out.two i (by omega)
                have hgi : (putD M ⟨dc, dn⟩ (i + 1)).getD i ⟨0, 0⟩ = M.getD i ⟨0, 0⟩ := putD_before M ⟨dc, dn⟩ i (by rw [HQ.out]; omega)
                rw [hgi] at cy
                have HGI0 := hidd_ hgi
                obtain ⟨y, hy⟩ : ∃ y, M.getD i ⟨0, 0⟩ = y := ⟨_, rfl⟩
                rw [hy] at cy
                have HY := hidd_ hy
                have HGI := hidd_ (HGI0.out.trans hy)
                obtain ⟨yc, yn⟩ := y
                simp only at cy
                clear HGI0
                have CY := hidd_ (fun W (h : Below wr.heap.size wr W) => And.intro ((h.cell (p := ⟨g2, i * 2, none⟩) h2w).trans cy.1) ((h.cell (p := ⟨g2, i * 2 + 1, none⟩) h2w).trans cy.2))
                have e1 : IntKind.i64.wrap ((i : Int) + 1 - 1) = (i : Int) := by rw [IntWalk.i64_in _ (by omega)]; omega
                have e2 : IntKind.i64.wrap (i : Int) = (i : Int) := IntWalk.i64_in _ (by omega)
                have t1 : (0 : Int) ≤ (i : Int) := by omega
                have t2 : (i : Int) < (q : Int) + 1 := by omega
                have t3 : (i : Int) < ((q + 1 : Nat) : Int) := by omega
                have t4 : (0 : Int) ≤ (i : Int) + 1 := by omega
                have t5 : (i : Int) + 1 < (q : Int) + 1 := by omega
                have t6 : (i : Int) < (q : Int) := by omega
                have t7 : i < q := by omega
                have t8 : ((i : Int) + 1).toNat = i + 1 := by omega
                obtain ⟨b, hb⟩ : ∃ b, decide (Ltd ⟨dc, dn⟩ ⟨yc, yn⟩) = b := ⟨_, rfl⟩
                clear cy hgi hy
                obtain ⟨c1, hc1⟩ : ∃ x, decide (dc < yc) = x := ⟨_, rfl⟩
                obtain ⟨cq, hcq⟩ : ∃ x, decide (yc = dc) = x := ⟨_, rfl⟩
                obtain ⟨n1, hn1⟩ : ∃ x, decide (dn < yn) = x := ⟨_, rfl⟩
                have hcq2 : (yc == dc) = cq := by rw [← hcq]; rfl
                have HBB := hidd_ (show b = (c1 || (cq && n1)) by
                  rw [← hb, ← hc1, ← hcq, ← hn1]
                  unfold Ltd
                  by_cases h1 : dc < yc <;> by_cases h2 : yc = dc <;> by_cases h3 : dn < yn <;> simp [h1, h2, h3] <;> omega)
                have HBL := hidd_ hb
                clear hb
                cases c1
                · cases cq
                  · go_upto_region 18 with fail
                    refine region_quiet_in (C := fun W => Below wr.heap.size wr W) (by kernel_rfl) (by kernel_rfl) ((Below.refl _ _).drew) ?_
                    repeat (first | go_big_quiet_skip | (go_big_quiet_want; (first
                      | (refine BigFrame.quiet_move _ rfl ?_; go_simp)
                      | (refine BigFrame.quiet_assign _ rfl ?_; go_simp)
                      | (refine quiet_run (.pointer (some ⟨G + 2, 16, none⟩)) ?_ ?_; (focus (intro W hW; go_simp; done)); go_simp)
                      | (refine quiet_run (.slice (some ⟨g2, 0, none⟩) (q + 1) c2) ?_ ?_; (focus (intro W hW; have h := CX.out W hW; go_simp; done)); go_simp)
                      | (refine quiet_run (.int .i64 (i : Int)) ?_ ?_; (focus (intro W hW; go_simp; done)); go_simp)
                      | (refine quiet_run (.pointer (some ⟨g2, i * 2, none⟩)) ?_ ?_; (focus (intro W hW; go_simp; done)); go_simp)
                      | (refine quiet_run (.pointer (some ⟨g2, i * 2 + 1, none⟩)) ?_ ?_; (focus (intro W hW; go_simp; done)); go_simp)
                      | (refine quiet_run (.int .i64 yc) ?_ ?_; (focus (intro W hW; have h := (CY.out W hW).1; go_simp; done)); go_simp)
                      | (refine quiet_run (.int .i64 yn) ?_ ?_; (focus (intro W hW; have h := (CY.out W hW).2; go_simp; done)); go_simp)
                      | (refine quiet_run (.pointer (some ⟨gd, 0, none⟩)) ?_ ?_; (focus (intro W hW; go_simp; done)); go_simp)
                      | (refine quiet_run (.pointer (some ⟨gd, 1, none⟩)) ?_ ?_; (focus (intro W hW; go_simp; done)); go_simp)
                      | (refine quiet_run (.int .i64 dc) ?_ ?_; (focus (intro W hW; have h := (CT.out W hW).1; go_simp; done)); go_simp)
                      | (refine quiet_run (.int .i64 dn) ?_ ?_; (focus (intro W hW; have h := (CT.out W hW).2; go_simp; done)); go_simp)
                      | (refine quiet_run (.bool true) ?_ ?_; (focus (intro W hW; go_simp; done)); go_simp)
                      | (refine quiet_run (.bool false) ?_ ?_; (focus (intro W hW; go_simp; done)); go_simp)); go_big_quiet_on))
                    refine wpQuiet_nil ?_
                    intro w12 hw12
                    have J12 := hidd_ (J1.out.below hw12 hgw)
                    have J22 := hidd_ (J2.out.below hw12 (Nat.le_refl _))
                    have J52 := hidd_ (grown_of_below J5.out hw12)
                    have LN := hidd_ (show (putD M ⟨dc, dn⟩ (i + 1)).length = q + 1 by rw [putD_len _ _ _ (by rw [HQ.out]; exact hj), HQ.out])
                    have H3b := hidd_ (HPT.out (i + 1) (by rw [HQ.out]; exact hj) HNO.out.1 HNO.out.2 J3.out (.inr (by
                      rw [Nat.add_sub_cancel, HY.out]
                      exact of_decide_eq_false (HBL.out.trans HBB.out))))
                    clear hw12 CX CT CY
                    go_wp2
                    go_roundw
                    case rel => exact ⟨k + 1, some ⟨g2, 0, none⟩, c2, putD M ⟨dc, dn⟩ (i + 1), by omega, by go_num, by rw [LN.out]; exact J12, by rw [LN.out]; exact J22, H3b, J52⟩
                    case measure => simp [intOf]; omega
                  · cases n1
                    · go_upto_region 18 with fail
                      refine region_quiet_in (C := fun W => Below wr.heap.size wr W) (by kernel_rfl) (by kernel_rfl) ((Below.refl _ _).drew) ?_
                      repeat (first | go_big_quiet_skip | (go_big_quiet_want; (first
                        | (refine BigFrame.quiet_move _ rfl ?_; go_simp)
                        | (refine BigFrame.quiet_assign _ rfl ?_; go_simp)
                        | (refine quiet_run (.pointer (some ⟨G + 2, 16, none⟩)) ?_ ?_; (focus (intro W hW; go_simp; done)); go_simp)
                        | (refine quiet_run (.slice (some ⟨g2, 0, none⟩) (q + 1) c2) ?_ ?_; (focus (intro W hW; have h := CX.out W hW; go_simp; done)); go_simp)
                        | (refine quiet_run (.int .i64 (i : Int)) ?_ ?_; (focus (intro W hW; go_simp; done)); go_simp)
                        | (refine quiet_run (.pointer (some ⟨g2, i * 2, none⟩)) ?_ ?_; (focus (intro W hW; go_simp; done)); go_simp)
                        | (refine quiet_run (.pointer (some ⟨g2, i * 2 + 1, none⟩)) ?_ ?_; (focus (intro W hW; go_simp; done)); go_simp)
                        | (refine quiet_run (.int .i64 yc) ?_ ?_; (focus (intro W hW; have h := (CY.out W hW).1; go_simp; done)); go_simp)
                        | (refine quiet_run (.int .i64 yn) ?_ ?_; (focus (intro W hW; have h := (CY.out W hW).2; go_simp; done)); go_simp)
                        | (refine quiet_run (.pointer (some ⟨gd, 0, none⟩)) ?_ ?_; (focus (intro W hW; go_simp; done)); go_simp)
                        | (refine quiet_run (.pointer (some ⟨gd, 1, none⟩)) ?_ ?_; (focus (intro W hW; go_simp; done)); go_simp)
                        | (refine quiet_run (.int .i64 dc) ?_ ?_; (focus (intro W hW; have h := (CT.out W hW).1; go_simp; done)); go_simp)
                        | (refine quiet_run (.int .i64 dn) ?_ ?_; (focus (intro W hW; have h := (CT.out W hW).2; go_simp; done)); go_simp)
                        | (refine quiet_run (.bool true) ?_ ?_; (focus (intro W hW; go_simp; done)); go_simp)
                        | (refine quiet_run (.bool false) ?_ ?_; (focus (intro W hW; go_simp; done)); go_simp)); go_big_quiet_on))
                      refine wpQuiet_nil ?_
                      intro w12 hw12
                      have J12 := hidd_ (J1.out.below hw12 hgw)
                      have J22 := hidd_ (J2.out.below hw12 (Nat.le_refl _))
                      have J52 := hidd_ (grown_of_below J5.out hw12)
                      have LN := hidd_ (show (putD M ⟨dc, dn⟩ (i + 1)).length = q + 1 by rw [putD_len _ _ _ (by rw [HQ.out]; exact hj), HQ.out])
                      have H3b := hidd_ (HPT.out (i + 1) (by rw [HQ.out]; exact hj) HNO.out.1 HNO.out.2 J3.out (.inr (by
                        rw [Nat.add_sub_cancel, HY.out]
                        exact of_decide_eq_false (HBL.out.trans HBB.out))))
                      clear hw12 CX CT CY
                      go_wp2
                      go_roundw
                      case rel => exact ⟨k + 1, some ⟨g2, 0, none⟩, c2, putD M ⟨dc, dn⟩ (i + 1), by omega, by go_num, by rw [LN.out]; exact J12, by rw [LN.out]; exact J22, H3b, J52⟩
                      case measure => simp [intOf]; omega
                    · go_upto_region 18 with fail
                      refine region_quiet_in (C := fun W => Below wr.heap.size wr W) (by kernel_rfl) (by kernel_rfl) ((Below.refl _ _).drew) ?_
                      repeat (first | go_big_quiet_skip | (go_big_quiet_want; (first
                        | (refine BigFrame.quiet_move _ rfl ?_; go_simp)
                        | (refine BigFrame.quiet_assign _ rfl ?_; go_simp)
                        | (refine quiet_run (.pointer (some ⟨G + 2, 16, none⟩)) ?_ ?_; (focus (intro W hW; go_simp; done)); go_simp)
                        | (refine quiet_run (.slice (some ⟨g2, 0, none⟩) (q + 1) c2) ?_ ?_; (focus (intro W hW; have h := CX.out W hW; go_simp; done)); go_simp)
                        | (refine quiet_run (.int .i64 (i : Int)) ?_ ?_; (focus (intro W hW; go_simp; done)); go_simp)
                        | (refine quiet_run (.pointer (some ⟨g2, i * 2, none⟩)) ?_ ?_; (focus (intro W hW; go_simp; done)); go_simp)
                        | (refine quiet_run (.pointer (some ⟨g2, i * 2 + 1, none⟩)) ?_ ?_; (focus (intro W hW; go_simp; done)); go_simp)
                        | (refine quiet_run (.int .i64 yc) ?_ ?_; (focus (intro W hW; have h := (CY.out W hW).1; go_simp; done)); go_simp)
                        | (refine quiet_run (.int .i64 yn) ?_ ?_; (focus (intro W hW; have h := (CY.out W hW).2; go_simp; done)); go_simp)
                        | (refine quiet_run (.pointer (some ⟨gd, 0, none⟩)) ?_ ?_; (focus (intro W hW; go_simp; done)); go_simp)
                        | (refine quiet_run (.pointer (some ⟨gd, 1, none⟩)) ?_ ?_; (focus (intro W hW; go_simp; done)); go_simp)
                        | (refine quiet_run (.int .i64 dc) ?_ ?_; (focus (intro W hW; have h := (CT.out W hW).1; go_simp; done)); go_simp)
                        | (refine quiet_run (.int .i64 dn) ?_ ?_; (focus (intro W hW; have h := (CT.out W hW).2; go_simp; done)); go_simp)
                        | (refine quiet_run (.bool true) ?_ ?_; (focus (intro W hW; go_simp; done)); go_simp)
                        | (refine quiet_run (.bool false) ?_ ?_; (focus (intro W hW; go_simp; done)); go_simp)); go_big_quiet_on))
                      refine wpQuiet_nil ?_
                      intro w12 hw12
                      have J12 := hidd_ (J1.out.below hw12 hgw)
                      have J22 := hidd_ (J2.out.below hw12 (Nat.le_refl _))
                      have J42 := hidd_ (J4.out.below hw12 J4.out.lt)
                      have J52 := hidd_ (grown_of_below J5.out hw12)
                      have CX2 := hidd_ (fun W (h : Below w12.heap.size w12 W) => CX.out W (hw12.trans (h.mono hw12.size)))
                      have CY2 := hidd_ (fun W (h : Below w12.heap.size w12 W) => CY.out W (hw12.trans (h.mono hw12.size)))
                      have LN := hidd_ (show (putD M ⟨dc, dn⟩ (i + 1)).length = q + 1 by rw [putD_len _ _ _ (by rw [HQ.out]; exact hj), HQ.out])
                      have IDD := hidd_ (fun (d : DotV) => (show (Try.prog.info? 27).map (·.size) = some d.row.size from iD_))
                      have HLt := hidd_ (show Ltd ⟨dc, dn⟩ ⟨yc, yn⟩ from of_decide_eq_true (HBL.out.trans HBB.out))
                      have J3n := hidd_ (show ∀ x ∈ M.drop i, Ltd ⟨dc, dn⟩ x from by
                        have := drop_step (show 0 < i + 1 by omega) (by rw [HQ.out]; exact hj) J3.out (by rw [Nat.add_sub_cancel, HY.out]; exact HLt.out)
                        rwa [Nat.add_sub_cancel] at this)
                      have HST := hidd_ (show ((putD M ⟨dc, dn⟩ (i + 1)).set (i + 1) ⟨yc, yn⟩).set i ⟨dc, dn⟩ = putD M ⟨dc, dn⟩ i from by
                        have := putD_step (l := M) (d := ⟨dc, dn⟩) (show 0 < i + 1 by omega) (by rw [HQ.out]; exact hj)
                        rw [Nat.add_sub_cancel, putD_before M ⟨dc, dn⟩ i (by rw [HQ.out]; omega), HY.out] at this
                        exact this)
                      clear hw12 CX CT CY J1 J2 J4 J5 J3
                      have S0 : SwJ wp g2 gd G q c2 u ⟨dc, dn⟩ ⟨yc, yn⟩ (putD M ⟨dc, dn⟩ (i + 1)) i (fun _ => false) w12 := ⟨J22.out, J12.out, J42.out, J52.out, fun e => Bool.noConfusion e, fun e => Bool.noConfusion e⟩
                      clear CX2 CY2 J12 J22 J42 J52
                      go_upto_region 19 with fail
                      refine region_byJF [110, 111, 112, 113, 114, 115, 116, 117, 118, 119, 120, 121, 122, 123, 124, 125] (fun _ => True) (fun _ _ => True) (fun jj v _ => SwR g2 gd G q c2 i ⟨dc, dn⟩ ⟨yc, yn⟩ jj v) (fun D _ W => SwJ wp g2 gd G q c2 u ⟨dc, dn⟩ ⟨yc, yn⟩ (putD M ⟨dc, dn⟩ (i + 1)) i D W) (by kernel_rfl) (by kernel_rfl) (by kernel_rfl) (by kernel_rfl) (fun j v w w' hT hr => ?_) (fun j v w hlt hj _ => ?_) trivial ?_ S0.drew ?_
                      · exact hr
                      · rcases j with _ | _ | _ | _ | _ | _ | _ | _ | _ | _ | _ | _ | _ | _ | _ | _ | _ | _ | j
                        all_goals first
                          | (exfalso; simp [dstOf] at hj; done)
                          | trivial
                      · refine ⟨fun D a W hC hd hsz hf hv hJ hL hW K hK => ?_, fun D a W hC hd hsz hf hv hJ hL hW K hK => ?_, fun D a W hC hd hsz hf hv hJ hL hW K hK => ?_, fun D a W hC hd hsz hf hv hJ hL hW K hK => ?_, fun D a W hC hd hsz hf hv hJ hL hW K hK => ?_, fun D a W hC hd hsz hf hv hJ hL hW K hK => ?_, fun D a W hC hd hsz hf hv hJ hL hW K hK => ?_, fun D a W hC hd hsz hf hv hJ hL hW K hK => ?_, fun D a W hC hd hsz hf hv hJ hL hW K hK => ?_, fun D a W hC hd hsz hf hv hJ hL hW K hK => ?_, fun D a W hC hd hsz hf hv hJ hL hW K hK => ?_, fun D a W hC hd hsz hf hv hJ hL hW K hK => ?_, fun D a W hC hd hsz hf hv hJ hL hW K hK => ?_, fun D a W hC hd hsz hf hv hJ hL hW K hK => ?_, fun D a W hC hd hsz hf hv hJ hL hW K hK => ?_, fun D a W hC hd hsz hf hv hJ hL hW K hK => ?_, fun D a W hC hd hsz hf hv hJ hL hW K hK => ?_, fun D a W hC hd hsz hf hv hJ hL hW K hK => ?_, trivial⟩
                        · clear hsz
                          have e1 := slot_of (a := a) (s := 6) (v := .pointer (some ⟨G + 2, 0, none⟩)) (hf 6 (by kernel_rfl))
                          refine step_run (wanted_none rfl) (v := .pointer (some ⟨G + 2, 16, none⟩)) (w' := W) ?_ (hK _ _ trivial trivial rfl (hJ.same 0 (by decide)))
                          go_simp
                        · clear hsz
                          have e1 := slot_of (a := a) (s := 110) (v := .pointer (some ⟨G + 2, 16, none⟩)) (hv 0 (by kernel_rfl))
                          have hcc := hJ.head HU.out.1
                          refine step_run (wanted_none rfl) (v := .slice (some ⟨g2, 0, none⟩) (q + 1) c2) (w' := W) ?_ (hK _ _ trivial trivial rfl (hJ.same 1 (by decide)))
                          go_simp
                        · clear hsz
                          have e1 := slot_of (a := a) (s := 11) (v := .int .i64 ((i : Int) + 1)) (hf 11 (by kernel_rfl))
                          refine step_run (wanted_none rfl) (v := .int .i64 ((i : Int) + 1)) (w' := W) ?_ (hK _ _ trivial trivial rfl (hJ.same 2 (by decide)))
                          go_simp
                        · clear hsz
                          have e1 := slot_of (a := a) (s := 6) (v := .pointer (some ⟨G + 2, 0, none⟩)) (hf 6 (by kernel_rfl))
                          refine step_run (wanted_none rfl) (v := .pointer (some ⟨G + 2, 16, none⟩)) (w' := W) ?_ (hK _ _ trivial trivial rfl (hJ.same 3 (by decide)))
                          go_simp
                        · clear hsz
                          have e1 := slot_of (a := a) (s := 113) (v := .pointer (some ⟨G + 2, 16, none⟩)) (hv 3 (by kernel_rfl))
                          have hcc := hJ.head HU.out.1
                          refine step_run (wanted_none rfl) (v := .slice (some ⟨g2, 0, none⟩) (q + 1) c2) (w' := W) ?_ (hK _ _ trivial trivial rfl (hJ.same 4 (by decide)))
                          go_simp
                        · clear hsz
                          have e1 := slot_of (a := a) (s := 11) (v := .int .i64 ((i : Int) + 1)) (hf 11 (by kernel_rfl))
                          refine step_run (wanted_none rfl) (v := .int .i64 ((i : Int) + 1)) (w' := W) ?_ (hK _ _ trivial trivial rfl (hJ.same 5 (by decide)))
                          go_simp
                        · clear hsz
                          have e1 := slot_of (a := a) (s := 115) (v := .int .i64 ((i : Int) + 1)) (hv 5 (by kernel_rfl))
                          refine step_run (wanted_none rfl) (v := .int .i64 (i : Int)) (w' := W) ?_ (hK _ _ trivial trivial rfl (hJ.same 6 (by decide)))
                          go_simp
                        · clear hsz
                          have e1 := slot_of (a := a) (s := 6) (v := .pointer (some ⟨G + 2, 0, none⟩)) (hf 6 (by kernel_rfl))
                          refine step_run (wanted_none rfl) (v := .pointer (some ⟨G + 2, 16, none⟩)) (w' := W) ?_ (hK _ _ trivial trivial rfl (hJ.same 7 (by decide)))
                          go_simp
                        · clear hsz
                          have e1 := slot_of (a := a) (s := 117) (v := .pointer (some ⟨G + 2, 16, none⟩)) (hv 7 (by kernel_rfl))
                          have hcc := hJ.head HU.out.1
                          refine step_run (wanted_none rfl) (v := .slice (some ⟨g2, 0, none⟩) (q + 1) c2) (w' := W) ?_ (hK _ _ trivial trivial rfl (hJ.same 8 (by decide)))
                          go_simp
                        · clear hsz
                          have e1 := slot_of (a := a) (s := 11) (v := .int .i64 ((i : Int) + 1)) (hf 11 (by kernel_rfl))
                          refine step_run (wanted_none rfl) (v := .int .i64 ((i : Int) + 1)) (w' := W) ?_ (hK _ _ trivial trivial rfl (hJ.same 9 (by decide)))
                          go_simp
                        · clear hsz
                          have e1 := slot_of (a := a) (s := 119) (v := .int .i64 ((i : Int) + 1)) (hv 9 (by kernel_rfl))
                          refine step_run (wanted_none rfl) (v := .int .i64 (i : Int)) (w' := W) ?_ (hK _ _ trivial trivial rfl (hJ.same 10 (by decide)))
                          go_simp
                        · clear hsz
                          have e1 := slot_of (a := a) (s := 118) (v := .slice (some ⟨g2, 0, none⟩) (q + 1) c2) (hv 8 (by kernel_rfl))
                          have e2 := slot_of (a := a) (s := 120) (v := .int .i64 (i : Int)) (hv 10 (by kernel_rfl))
                          refine step_run (wanted_none rfl) (v := .pointer (some ⟨g2, i * 2, none⟩)) (w' := W) ?_ (hK _ _ trivial trivial rfl (hJ.same 11 (by decide)))
                          go_simp
                        · clear hsz
                          have hown := hJ.first hL
                          have h2 := hown.two i (by omega)
                          rw [HGI.out] at h2
                          refine step_load_sub (wanted_none rfl) 27 (.tmp 121) rfl g2 (i * 2) (eval_of (hv 11 (by kernel_rfl))) (DotV.row ⟨yc, yn⟩) (row_two h2.1 h2.2) _ Try.underlying27 rfl (IDD.out ⟨yc, yn⟩) ?_
                          exact hK _ _ trivial trivial rfl (hJ.same 12 (by decide))
                        · clear hsz
                          refine step_load_row rfl 27 (.tmp 10) rfl gd (eval_of (hf 10 (by kernel_rfl))) 27 (DotV.row ⟨dc, dn⟩) hJ.bx _ Try.underlying27 rfl (IDD.out ⟨dc, dn⟩) ?_
                          exact hK _ _ trivial trivial rfl (hJ.same 13 (by decide))
                        · clear hsz
                          have e1 := slot_of (a := a) (s := 111) (v := .slice (some ⟨g2, 0, none⟩) (q + 1) c2) (hv 1 (by kernel_rfl))
                          have e2 := slot_of (a := a) (s := 112) (v := .int .i64 ((i : Int) + 1)) (hv 2 (by kernel_rfl))
                          refine step_run (wanted_none rfl) (v := .pointer (some ⟨g2, (i + 1) * 2, none⟩)) (w' := W) ?_ (hK _ _ trivial trivial rfl (hJ.same 14 (by decide)))
                          go_simp
                        · clear hsz
                          have h12 := hW 12 (by kernel_rfl)
                          have hown := hJ.one hL
                          refine step_put_dot rfl (.tmp 124) (.tmp 122) rfl hown (i + 1) (by omega) (eval_of (hv 14 (by kernel_rfl))) ⟨yc, yn⟩ (eval_of (hv 12 (by kernel_rfl))) ?_
                          intro W2 k1 k2 k3
                          exact hK undef _ trivial trivial trivial (hJ.set1 hL h12 k2 k1 HG2.out.1 hG5 HG2.out.2)
                        · clear hsz
                          have e1 := slot_of (a := a) (s := 114) (v := .slice (some ⟨g2, 0, none⟩) (q + 1) c2) (hv 4 (by kernel_rfl))
                          have e2 := slot_of (a := a) (s := 116) (v := .int .i64 (i : Int)) (hv 6 (by kernel_rfl))
                          refine step_run (wanted_none rfl) (v := .pointer (some ⟨g2, i * 2, none⟩)) (w' := W) ?_ (hK _ _ trivial trivial rfl (hJ.same 16 (by decide)))
                          go_simp
                        · clear hsz
                          have h15 := hW 15 (by kernel_rfl)
                          have hown := hJ.two h15 hL
                          refine step_put_dot rfl (.tmp 125) (.tmp 123) rfl hown i (by omega) (eval_of (hv 16 (by kernel_rfl))) ⟨dc, dn⟩ (eval_of (hv 13 (by kernel_rfl))) ?_
                          intro W2 k1 k2 k3
                          exact hK undef _ trivial trivial trivial (hJ.set2 h15 k2 k1 HG2.out.1 hG5 HG2.out.2)
                      · intro f w15 hC hv L2 hL2 hJ2
                        obtain ⟨aE, hJ, hfr⟩ := hJ2
                        have h1 := hJ.done (hL2 17 (by decide))
                        rw [HST.out] at h1
                        have J25 := hidd_ h1
                        have J15 := hidd_ hJ.hd
                        have J45 := hidd_ hJ.bx
                        have J55 := hidd_ hJ.gr
                        simp only [framed, List.foldl_cons, List.foldl_nil, List.setIfInBounds_toArray, List.set_cons_succ, List.set_cons_zero]
                        clear hv hC hJ hfr hL2 h1
                        rename_i K hK
                        refine hK _ _ ?_
                        go_wp2
                        go_roundw
                        case rel => exact ⟨i, by omega, by go_num, J15, J25, J3n, J45, J55⟩
                        case measure => first | (simp [intOf]; done) | (simp [intOf]; omega)
                · go_upto_region 18 with fail
                  refine region_quiet_in (C := fun W => Below wr.heap.size wr W) (by kernel_rfl) (by kernel_rfl) ((Below.refl _ _).drew) ?_
                  repeat (first | go_big_quiet_skip | (go_big_quiet_want; (first
                    | (refine BigFrame.quiet_move _ rfl ?_; go_simp)
                    | (refine BigFrame.quiet_assign _ rfl ?_; go_simp)
                    | (refine quiet_run (.pointer (some ⟨G + 2, 16, none⟩)) ?_ ?_; (focus (intro W hW; go_simp; done)); go_simp)
                    | (refine quiet_run (.slice (some ⟨g2, 0, none⟩) (q + 1) c2) ?_ ?_; (focus (intro W hW; have h := CX.out W hW; go_simp; done)); go_simp)
                    | (refine quiet_run (.int .i64 (i : Int)) ?_ ?_; (focus (intro W hW; go_simp; done)); go_simp)
                    | (refine quiet_run (.pointer (some ⟨g2, i * 2, none⟩)) ?_ ?_; (focus (intro W hW; go_simp; done)); go_simp)
                    | (refine quiet_run (.pointer (some ⟨g2, i * 2 + 1, none⟩)) ?_ ?_; (focus (intro W hW; go_simp; done)); go_simp)
                    | (refine quiet_run (.int .i64 yc) ?_ ?_; (focus (intro W hW; have h := (CY.out W hW).1; go_simp; done)); go_simp)
                    | (refine quiet_run (.int .i64 yn) ?_ ?_; (focus (intro W hW; have h := (CY.out W hW).2; go_simp; done)); go_simp)
                    | (refine quiet_run (.pointer (some ⟨gd, 0, none⟩)) ?_ ?_; (focus (intro W hW; go_simp; done)); go_simp)
                    | (refine quiet_run (.pointer (some ⟨gd, 1, none⟩)) ?_ ?_; (focus (intro W hW; go_simp; done)); go_simp)
                    | (refine quiet_run (.int .i64 dc) ?_ ?_; (focus (intro W hW; have h := (CT.out W hW).1; go_simp; done)); go_simp)
                    | (refine quiet_run (.int .i64 dn) ?_ ?_; (focus (intro W hW; have h := (CT.out W hW).2; go_simp; done)); go_simp)
                    | (refine quiet_run (.bool true) ?_ ?_; (focus (intro W hW; go_simp; done)); go_simp)
                    | (refine quiet_run (.bool false) ?_ ?_; (focus (intro W hW; go_simp; done)); go_simp)); go_big_quiet_on))
                  refine wpQuiet_nil ?_
                  intro w12 hw12
                  have J12 := hidd_ (J1.out.below hw12 hgw)
                  have J22 := hidd_ (J2.out.below hw12 (Nat.le_refl _))
                  have J42 := hidd_ (J4.out.below hw12 J4.out.lt)
                  have J52 := hidd_ (grown_of_below J5.out hw12)
                  have CX2 := hidd_ (fun W (h : Below w12.heap.size w12 W) => CX.out W (hw12.trans (h.mono hw12.size)))
                  have CY2 := hidd_ (fun W (h : Below w12.heap.size w12 W) => CY.out W (hw12.trans (h.mono hw12.size)))
                  have LN := hidd_ (show (putD M ⟨dc, dn⟩ (i + 1)).length = q + 1 by rw [putD_len _ _ _ (by rw [HQ.out]; exact hj), HQ.out])
                  have IDD := hidd_ (fun (d : DotV) => (show (Try.prog.info? 27).map (·.size) = some d.row.size from iD_))
                  have HLt := hidd_ (show Ltd ⟨dc, dn⟩ ⟨yc, yn⟩ from of_decide_eq_true (HBL.out.trans HBB.out))
                  have J3n := hidd_ (show ∀ x ∈ M.drop i, Ltd ⟨dc, dn⟩ x from by
                    have := drop_step (show 0 < i + 1 by omega) (by rw [HQ.out]; exact hj) J3.out (by rw [Nat.add_sub_cancel, HY.out]; exact HLt.out)
                    rwa [Nat.add_sub_cancel] at this)
                  have HST := hidd_ (show ((putD M ⟨dc, dn⟩ (i + 1)).set (i + 1) ⟨yc, yn⟩).set i ⟨dc, dn⟩ = putD M ⟨dc, dn⟩ i from by
                    have := putD_step (l := M) (d := ⟨dc, dn⟩) (show 0 < i + 1 by omega) (by rw [HQ.out]; exact hj)
                    rw [Nat.add_sub_cancel, putD_before M ⟨dc, dn⟩ i (by rw [HQ.out]; omega), HY.out] at this
                    exact this)
                  clear hw12 CX CT CY J1 J2 J4 J5 J3
                  have S0 : SwJ wp g2 gd G q c2 u ⟨dc, dn⟩ ⟨yc, yn⟩ (putD M ⟨dc, dn⟩ (i + 1)) i (fun _ => false) w12 := ⟨J22.out, J12.out, J42.out, J52.out, fun e => Bool.noConfusion e, fun e => Bool.noConfusion e⟩
                  clear CX2 CY2 J12 J22 J42 J52
                  go_upto_region 19 with fail
                  refine region_byJF [110, 111, 112, 113, 114, 115, 116, 117, 118, 119, 120, 121, 122, 123, 124, 125] (fun _ => True) (fun _ _ => True) (fun jj v _ => SwR g2 gd G q c2 i ⟨dc, dn⟩ ⟨yc, yn⟩ jj v) (fun D _ W => SwJ wp g2 gd G q c2 u ⟨dc, dn⟩ ⟨yc, yn⟩ (putD M ⟨dc, dn⟩ (i + 1)) i D W) (by kernel_rfl) (by kernel_rfl) (by kernel_rfl) (by kernel_rfl) (fun j v w w' hT hr => ?_) (fun j v w hlt hj _ => ?_) trivial ?_ S0.drew ?_
                  · exact hr
                  · rcases j with _ | _ | _ | _ | _ | _ | _ | _ | _ | _ | _ | _ | _ | _ | _ | _ | _ | _ | j
                    all_goals first
                      | (exfalso; simp [dstOf] at hj; done)
                      | trivial
                  · refine ⟨fun D a W hC hd hsz hf hv hJ hL hW K hK => ?_, fun D a W hC hd hsz hf hv hJ hL hW K hK => ?_, fun D a W hC hd hsz hf hv hJ hL hW K hK => ?_, fun D a W hC hd hsz hf hv hJ hL hW K hK => ?_, fun D a W hC hd hsz hf hv hJ hL hW K hK => ?_, fun D a W hC hd hsz hf hv hJ hL hW K hK => ?_, fun D a W hC hd hsz hf hv hJ hL hW K hK => ?_, fun D a W hC hd hsz hf hv hJ hL hW K hK => ?_, fun D a W hC hd hsz hf hv hJ hL hW K hK => ?_, fun D a W hC hd hsz hf hv hJ hL hW K hK => ?_, fun D a W hC hd hsz hf hv hJ hL hW K hK => ?_, fun D a W hC hd hsz hf hv hJ hL hW K hK => ?_, fun D a W hC hd hsz hf hv hJ hL hW K hK => ?_, fun D a W hC hd hsz hf hv hJ hL hW K hK => ?_, fun D a W hC hd hsz hf hv hJ hL hW K hK => ?_, fun D a W hC hd hsz hf hv hJ hL hW K hK => ?_, fun D a W hC hd hsz hf hv hJ hL hW K hK => ?_, fun D a W hC hd hsz hf hv hJ hL hW K hK => ?_, trivial⟩
                    · clear hsz
                      have e1 := slot_of (a := a) (s := 6) (v := .pointer (some ⟨G + 2, 0, none⟩)) (hf 6 (by kernel_rfl))
                      refine step_run (wanted_none rfl) (v := .pointer (some ⟨G + 2, 16, none⟩)) (w' := W) ?_ (hK _ _ trivial trivial rfl (hJ.same 0 (by decide)))
                      go_simp
                    · clear hsz
                      have e1 := slot_of (a := a) (s := 110) (v := .pointer (some ⟨G + 2, 16, none⟩)) (hv 0 (by kernel_rfl))
                      have hcc := hJ.head HU.out.1
                      refine step_run (wanted_none rfl) (v := .slice (some ⟨g2, 0, none⟩) (q + 1) c2) (w' := W) ?_ (hK _ _ trivial trivial rfl (hJ.same 1 (by decide)))
                      go_simp
                    · clear hsz
                      have e1 := slot_of (a := a) (s := 11) (v := .int .i64 ((i : Int) + 1)) (hf 11 (by kernel_rfl))
                      refine step_run (wanted_none rfl) (v := .int .i64 ((i : Int) + 1)) (w' := W) ?_ (hK _ _ trivial trivial rfl (hJ.same 2 (by decide)))
                      go_simp
                    · clear hsz
                      have e1 := slot_of (a := a) (s := 6) (v := .pointer (some ⟨G + 2, 0, none⟩)) (hf 6 (by kernel_rfl))
                      refine step_run (wanted_none rfl) (v := .pointer (some ⟨G + 2, 16, none⟩)) (w' := W) ?_ (hK _ _ trivial trivial rfl (hJ.same 3 (by decide)))
                      go_simp
                    · clear hsz
                      have e1 := slot_of (a := a) (s := 113) (v := .pointer (some ⟨G + 2, 16, none⟩)) (hv 3 (by kernel_rfl))
                      have hcc := hJ.head HU.out.1
                      refine step_run (wanted_none rfl) (v := .slice (some ⟨g2, 0, none⟩) (q + 1) c2) (w' := W) ?_ (hK _ _ trivial trivial rfl (hJ.same 4 (by decide)))
                      go_simp
                    · clear hsz
                      have e1 := slot_of (a := a) (s := 11) (v := .int .i64 ((i : Int) + 1)) (hf 11 (by kernel_rfl))
                      refine step_run (wanted_none rfl) (v := .int .i64 ((i : Int) + 1)) (w' := W) ?_ (hK _ _ trivial trivial rfl (hJ.same 5 (by decide)))
                      go_simp
                    · clear hsz
                      have e1 := slot_of (a := a) (s := 115) (v := .int .i64 ((i : Int) + 1)) (hv 5 (by kernel_rfl))
                      refine step_run (wanted_none rfl) (v := .int .i64 (i : Int)) (w' := W) ?_ (hK _ _ trivial trivial rfl (hJ.same 6 (by decide)))
                      go_simp
                    · clear hsz
                      have e1 := slot_of (a := a) (s := 6) (v := .pointer (some ⟨G + 2, 0, none⟩)) (hf 6 (by kernel_rfl))
                      refine step_run (wanted_none rfl) (v := .pointer (some ⟨G + 2, 16, none⟩)) (w' := W) ?_ (hK _ _ trivial trivial rfl (hJ.same 7 (by decide)))
                      go_simp
                    · clear hsz
                      have e1 := slot_of (a := a) (s := 117) (v := .pointer (some ⟨G + 2, 16, none⟩)) (hv 7 (by kernel_rfl))
                      have hcc := hJ.head HU.out.1
                      refine step_run (wanted_none rfl) (v := .slice (some ⟨g2, 0, none⟩) (q + 1) c2) (w' := W) ?_ (hK _ _ trivial trivial rfl (hJ.same 8 (by decide)))
                      go_simp
                    · clear hsz
                      have e1 := slot_of (a := a) (s := 11) (v := .int .i64 ((i : Int) + 1)) (hf 11 (by kernel_rfl))
                      refine step_run (wanted_none rfl) (v := .int .i64 ((i : Int) + 1)) (w' := W) ?_ (hK _ _ trivial trivial rfl (hJ.same 9 (by decide)))
                      go_simp
                    · clear hsz
                      have e1 := slot_of (a := a) (s := 119) (v := .int .i64 ((i : Int) + 1)) (hv 9 (by kernel_rfl))
                      refine step_run (wanted_none rfl) (v := .int .i64 (i : Int)) (w' := W) ?_ (hK _ _ trivial trivial rfl (hJ.same 10 (by decide)))
                      go_simp
                    · clear hsz
                      have e1 := slot_of (a := a) (s := 118) (v := .slice (some ⟨g2, 0, none⟩) (q + 1) c2) (hv 8 (by kernel_rfl))
                      have e2 := slot_of (a := a) (s := 120) (v := .int .i64 (i : Int)) (hv 10 (by kernel_rfl))
                      refine step_run (wanted_none rfl) (v := .pointer (some ⟨g2, i * 2, none⟩)) (w' := W) ?_ (hK _ _ trivial trivial rfl (hJ.same 11 (by decide)))
                      go_simp
                    · clear hsz
                      have hown := hJ.first hL
                      have h2 := hown.two i (by omega)
                      rw [HGI.out] at h2
                      refine step_load_sub (wanted_none rfl) 27 (.tmp 121) rfl g2 (i * 2) (eval_of (hv 11 (by kernel_rfl))) (DotV.row ⟨yc, yn⟩) (row_two h2.1 h2.2) _ Try.underlying27 rfl (IDD.out ⟨yc, yn⟩) ?_
                      exact hK _ _ trivial trivial rfl (hJ.same 12 (by decide))
                    · clear hsz
                      refine step_load_row rfl 27 (.tmp 10) rfl gd (eval_of (hf 10 (by kernel_rfl))) 27 (DotV.row ⟨dc, dn⟩) hJ.bx _ Try.underlying27 rfl (IDD.out ⟨dc, dn⟩) ?_
                      exact hK _ _ trivial trivial rfl (hJ.same 13 (by decide))
                    · clear hsz
                      have e1 := slot_of (a := a) (s := 111) (v := .slice (some ⟨g2, 0, none⟩) (q + 1) c2) (hv 1 (by kernel_rfl))
                      have e2 := slot_of (a := a) (s := 112) (v := .int .i64 ((i : Int) + 1)) (hv 2 (by kernel_rfl))
                      refine step_run (wanted_none rfl) (v := .pointer (some ⟨g2, (i + 1) * 2, none⟩)) (w' := W) ?_ (hK _ _ trivial trivial rfl (hJ.same 14 (by decide)))
                      go_simp
                    · clear hsz
                      have h12 := hW 12 (by kernel_rfl)
                      have hown := hJ.one hL
                      refine step_put_dot rfl (.tmp 124) (.tmp 122) rfl hown (i + 1) (by omega) (eval_of (hv 14 (by kernel_rfl))) ⟨yc, yn⟩ (eval_of (hv 12 (by kernel_rfl))) ?_
                      intro W2 k1 k2 k3
                      exact hK undef _ trivial trivial trivial (hJ.set1 hL h12 k2 k1 HG2.out.1 hG5 HG2.out.2)
                    · clear hsz
                      have e1 := slot_of (a := a) (s := 114) (v := .slice (some ⟨g2, 0, none⟩) (q + 1) c2) (hv 4 (by kernel_rfl))
                      have e2 := slot_of (a := a) (s := 116) (v := .int .i64 (i : Int)) (hv 6 (by kernel_rfl))
                      refine step_run (wanted_none rfl) (v := .pointer (some ⟨g2, i * 2, none⟩)) (w' := W) ?_ (hK _ _ trivial trivial rfl (hJ.same 16 (by decide)))
                      go_simp
                    · clear hsz
                      have h15 := hW 15 (by kernel_rfl)
                      have hown := hJ.two h15 hL
                      refine step_put_dot rfl (.tmp 125) (.tmp 123) rfl hown i (by omega) (eval_of (hv 16 (by kernel_rfl))) ⟨dc, dn⟩ (eval_of (hv 13 (by kernel_rfl))) ?_
                      intro W2 k1 k2 k3
                      exact hK undef _ trivial trivial trivial (hJ.set2 h15 k2 k1 HG2.out.1 hG5 HG2.out.2)
                  · intro f w15 hC hv L2 hL2 hJ2
                    obtain ⟨aE, hJ, hfr⟩ := hJ2
                    have h1 := hJ.done (hL2 17 (by decide))
                    rw [HST.out] at h1
                    have J25 := hidd_ h1
                    have J15 := hidd_ hJ.hd
                    have J45 := hidd_ hJ.bx
                    have J55 := hidd_ hJ.gr
                    simp only [framed, List.foldl_cons, List.foldl_nil, List.setIfInBounds_toArray, List.set_cons_succ, List.set_cons_zero]
                    clear hv hC hJ hfr hL2 h1
                    rename_i K hK
                    refine hK _ _ ?_
                    go_wp2
                    go_roundw
                    case rel => exact ⟨i, by omega, by go_num, J15, J25, J3n, J45, J55⟩
                    case measure => first | (simp [intOf]; done) | (simp [intOf]; omega)
          · have hyes : dn ≤ u.getD (dc - 1).toNat 0 ∨ (⟨dc, dn⟩ : DotV) ∈ M := by
              have h := HRR.out
              cases l1
              · cases l2
                · cases h
                · exact .inr (of_decide_eq_true HL2.out)
              · exact .inl (of_decide_eq_true HL1.out)
            have H3b := hidd_ (HSK.out hyes)
            clear hyes HPT HL1 HL2 HRR
            go_wp2_with (first
              | (refine wpList_load_row rfl 25 (.tmp 6) rfl (G + 2) rfl 25 (ctxRow u A' q c') (0, 0) _ M6.out Try.underlying25 rfl IV.out ?_)
              | (refine wpList_load_row rfl 27 (.tmp 10) rfl gd rfl 27 #[.int .i64 dc, .int .i64 dn] (0, 0) _ D6.out Try.underlying27 rfl ID.out ?_)
              | (go_at_call 19; ((with_reducible refine ch.mono ?_); clear ch; rintro e w7 ⟨rfl, hb⟩; have M7 := hidd_ (M6.out.below hb M6.out.lt); have O7 := hidd_ (O6.out.below hb (Nat.le_refl _)); have G7 := hidd_ (grown_of_below G6.out hb); clear hb)))
            go_roundw
            case rel => exact ⟨k + 1, A', c', M, by omega, by go_num, by rw [HQ.out]; exact M7, by rw [HQ.out]; exact O7, H3b, G7⟩
            case measure => simp [intOf]; omega
        · have hkn : k = n := by omega
          have q1 : decide ((k : Int) < (n : Int)) = false := decide_eq_false (by omega)
          have q2 : decide (k < n) = false := decide_eq_false hlt
          have HRES := hidd_ (MoreR.res (show MoreR ms u ms.length M by rw [HN.out, ← hkn]; exact H3.out) KU.out HD.out (fun j hj => NE.out j (by rw [← HN.out]; exact hj)))
          have RZ := hidd_ (R5.out.grown H4.out (fun e => by injection e with e; omega))
          have hs5 : G + 3 ≤ wr.heap.size := Nat.le_trans hG5 H4.out.size
          obtain ⟨q, hq⟩ : ∃ q, M.length = q := ⟨_, rfl⟩
          rw [hq] at H1 H2 HRES
          have HQ := hidd_ hq
          have hcx := (H1.out.cell 16).trans (ctxRow_more u A' q c' HU.out.1)
          have RDM := hidd_ H2.out.rd.1
          have CP := hidd_ H2.out.cap
          have LT := hidd_ H2.out.lt
          have IZ := hidd_ (IX.out (List.replicate 16 0) (by simp) none 0 0)
          have IV := hidd_ (IX.out u HU.out.1 A' q c')
          have BE := hidd_ (fun W (hg : wr.grownBy W (some (G + 1))) => mk_end HG.out X5.out H4.out hG5 hg)
          have hq9 : q ≤ 900000 := by have := H3.out.2.2; omega
          clear hq hkn H3 H4 R5 KU NE
          by_cases hl : 32 < q
          · have d1 : decide ((32 : Int) < (q : Int)) = true := decide_eq_true (by omega)
            rw [if_pos hl, if_pos hl, if_pos hl] at HRES
            clear hl
            go_wp2_with (first
              | (refine wpList_built rfl 25 _ rfl (ctxRow (List.replicate 16 0) none 0 0) (by kernel_rfl) ?_)
              | (refine wpList_put_row rfl 25 _ _ rfl (G + 1) (ctxRow (List.replicate 16 0) none 0 0) rfl rfl 25 (ctxRow (List.replicate 16 0) none 0 0) RZ.out IZ.out rfl (ctxRow_one _ _ _ _) ?_; intro W9 k9 g9 s9))
            exact bodyPost_ret (results_cell_slotD Try.results47 _ _ (G + 1) rfl rfl (run_loadVar_row _ _ _ _ _ (0, 0) _ k9 Try.underlying25 rfl IZ.out)) rfl ⟨List.replicate 16 0, [], none, 0, 11, rfl, RdD.nil, fun y e => (by cases e), Nat.le_refl _, by omega, by simp, HRES.out, BE.out _ g9⟩
          · have d1 : decide ((32 : Int) < (q : Int)) = false := decide_eq_false (by omega)
            rw [if_neg hl, if_neg hl, if_neg hl] at HRES
            clear hl
            go_wp2_with (first
              | (refine wpList_load_row rfl 25 (.tmp 6) rfl (G + 2) rfl 25 (ctxRow u A' q c') (0, 0) _ H1.out Try.underlying25 rfl IV.out ?_)
              | (refine wpList_put_row rfl 25 _ _ rfl (G + 1) (ctxRow u A' q c') rfl rfl 25 (ctxRow (List.replicate 16 0) none 0 0) RZ.out IV.out (by rw [ctxRow_size _ _ _ _ HU.out.1]; rfl) (ctxRow_one _ _ _ _) ?_; intro W9 k9 g9 s9))
            refine bodyPost_ret (results_cell_slotD Try.results47 _ _ (G + 1) (v' := .int .i64 0) rfl rfl (run_loadVar_row _ _ _ _ _ (0, 0) _ k9 Try.underlying25 rfl IV.out)) rfl ⟨u, M, A', c', 0, by unfold TwoX; rw [HQ.out], ?_, fun y e => by subst e; have := (LT.out y.block rfl).1; have := X5.out.size; have := HG.out; omega, by rw [HQ.out]; exact CP.out.1, CP.out.2, HU.out.1, HRES.out, BE.out _ g9⟩
            exact (RDM.out.grownR (Nat.le_refl _) g9 (fun _ b off e => by subst e; have := (LT.out b rfl).1; omega)).more (by omega)
    · go_wp2
      go_loopw [7, 8] (fun v i wr => ∃ (b : Bool) (k : Nat) (u' : List Int), v = .bool b ∧ i = .int .i64 k ∧ k ≤ n ∧ Hid (Bk wr (G + 2) 25 (ctxRow u' none 0 0)) ∧ Hid (KpU up ms u') ∧ Hid (w3.grownBy wr (some (G + 2))) ∧ Hid (BmpR ms u u' k b)) (fun _ i _ => n - (intOf i).toNat)
      case atStart => exact ⟨false, 0, u, rfl, rfl, Nat.zero_le _, H1, H2, H3, hidd_ ⟨fun e => (by cases e), fun _ => ⟨rfl, fun j hj => by omega⟩⟩⟩
      case round =>
        obtain ⟨b, k, u', rfl, rfl, hk, I1, I2, I3, I4⟩ := hrel
        by_cases hlt : k < n
        · obtain ⟨bb, off, rfl, hbl, hcell⟩ := D3.out (by rw [HN.out]; omega)
          have hcd := hcell k (by rw [HN.out]; exact hlt)
          have hdm : ms.getD k ⟨0, 0⟩ ∈ ms := getD_mem (by rw [HN.out]; exact hlt)
          have hdk := HD.out _ hdm
          have HSK := hidd_ I4.out.skip
          have HBU := hidd_ (fun (e : (ms.getD k ⟨0, 0⟩).n = u'.getD ((ms.getD k ⟨0, 0⟩).c - 1).toNat 0 + 1) => And.intro (I4.out.bump I2.out.1 hdk e) (I2.out.bump hdk hdm e))
          obtain ⟨d, hd⟩ : ∃ d, ms.getD k ⟨0, 0⟩ = d := ⟨_, rfl⟩
          rw [hd] at hcd hdk HSK HBU
          obtain ⟨dc, dn⟩ := d
          obtain ⟨⟨d1, d2⟩, d3, d4⟩ : (1 ≤ dc ∧ dc ≤ 16) ∧ 1 ≤ dn ∧ dn ≤ 1099511627776 := of_decide_eq_true hdk
          obtain ⟨i, hi⟩ : ∃ i : Nat, dc - 1 = (i : Int) := ⟨(dc - 1).toNat, by omega⟩
          have hi16 : i < 16 := by omega
          have hui := I2.out.1.2 i
          obtain ⟨u0, hu0⟩ : ∃ z, u'.getD i 0 = z := ⟨_, rfl⟩
          simp only at HSK HBU hcd
          rw [show (dc - 1).toNat = i by omega] at HSK HBU
          rw [hu0] at HSK HBU hui
          have t0 : (0 : Int) ≤ (k : Int) := by omega
          have tn : (k : Int) < (n : Int) := by omega
          have e1 : IntKind.i64.wrap (dc - 1) = (i : Int) := by rw [IntWalk.i64_in _ (by omega)]; exact hi
          have e2 : IntKind.i64.wrap (i : Int) = (i : Int) := IntWalk.i64_in _ (by omega)
          have e3 : IntKind.i64.wrap (u0 + 1) = u0 + 1 := IntWalk.i64_in _ (by omega)
          have f1 : (0 : Int) ≤ (i : Int) := by omega
          have f2 : (i : Int) < 16 := by omega
          have hbw : bb < wr.heap.size := by have := I3.out.size; omega
          have hb3 : bb < w3.heap.size := by omega
          have hbne : some bb ≠ some (G + 2) := fun e => by injection e with e; omega
          have hcc : wr.cell? ⟨bb, off + k * 2, none⟩ = some (.int .i64 dc) := (World.cell?_of_block (I3.out.block bb hb3 hbne)).trans hcd.1
          have hcn : wr.cell? ⟨bb, off + k * 2 + 1, none⟩ = some (.int .i64 dn) := (World.cell?_of_block (I3.out.block bb hb3 hbne)).trans hcd.2
          have hcu := (I1.out.cell i).trans ((ctxRow_up u' none 0 0 i I2.out.1.1 hi16).trans (by rw [hu0]))
          have hg2 : G + 2 < wr.heap.size := I1.out.lt
          have CC := hidd_ (fun W (h : Below wr.heap.size wr W) => And.intro ((h.cell (p := ⟨bb, off + k * 2, none⟩) hbw).trans hcc) ((h.cell (p := ⟨bb, off + k * 2 + 1, none⟩) hbw).trans hcn))
          have CU := hidd_ (fun W (h : Below wr.heap.size wr W) => (h.cell (p := ⟨G + 2, i, none⟩) hg2).trans hcu)
          obtain ⟨eq, heq⟩ : ∃ b, decide (dn = u0 + 1) = b := ⟨_, rfl⟩
          have heq2 : (dn == u0 + 1) = eq := by rw [← heq]; rfl
          clear hcell hcd hdk hd hu0 hcc hcn hcu hdm
          go_upto_region 8 with fail
          refine region_quiet_in (C := fun W => Below wr.heap.size wr W) (by kernel_rfl) (by kernel_rfl) ((Below.refl _ _).drew) ?_
          repeat (first | go_big_quiet_skip | (go_big_quiet_want; (first
            | (refine BigFrame.quiet_move _ rfl ?_; go_simp)
            | (refine BigFrame.quiet_assign _ rfl ?_; go_simp)
            | (refine quiet_run (.pointer (some ⟨bb, off + k * 2, none⟩)) ?_ ?_; (focus (intro W hW; go_simp; done)); go_simp)
            | (refine quiet_run (.pointer (some ⟨bb, off + k * 2 + 1, none⟩)) ?_ ?_; (focus (intro W hW; go_simp; done)); go_simp)
            | (refine quiet_run (.pointer (some ⟨G + 2, 0, none⟩)) ?_ ?_; (focus (intro W hW; go_simp; done)); go_simp)
            | (refine quiet_run (.pointer (some ⟨G + 2, i, none⟩)) ?_ ?_; (focus (intro W hW; go_simp; done)); go_simp)
            | (refine quiet_run (.int .i64 dn) ?_ ?_; (focus (intro W hW; have h := (CC.out W hW).2; go_simp; done)); go_simp)
            | (refine quiet_run (.int .i64 dc) ?_ ?_; (focus (intro W hW; have h := (CC.out W hW).1; go_simp; done)); go_simp)
            | (refine quiet_run (.int .i64 (i : Int)) ?_ ?_; (focus (intro W hW; go_simp; done)); go_simp)
            | (refine quiet_run (.int .i64 u0) ?_ ?_; (focus (intro W hW; have h := CU.out W hW; go_simp; done)); go_simp)
            | (refine quiet_run (.int .i64 (u0 + 1)) ?_ ?_; (focus (intro W hW; go_simp; done)); go_simp)
            | (refine quiet_run (.bool eq) ?_ ?_; (focus (intro W hW; go_simp; done)); go_simp)); go_big_quiet_on))
          refine wpQuiet_nil ?_
          intro w7 hw7
          have I17 := hidd_ (I1.out.below hw7 hg2)
          have I37 := hidd_ (grown_of_below I3.out hw7)
          have CC7 := hidd_ (fun W (h : Below w7.heap.size w7 W) => CC.out W (hw7.trans (h.mono hw7.size)))
          clear hw7 CC CU I1 I3
          cases eq
          · have HNE := hidd_ (HSK.out (of_decide_eq_false heq))
            clear heq heq2
            go_wp2
            go_roundw
            case rel => exact ⟨b, k + 1, u', rfl, by go_num, by omega, I17, I2, I37, HNE⟩
            case measure => simp [intOf]; omega
          · have HB2 := hidd_ (HBU.out (of_decide_eq_true heq))
            clear heq heq2
            go_upto_region 9 with fail
            refine region_quiet_tail_lit 13 (by kernel_rfl) (by kernel_rfl) ?_
            simp only [List.take_succ_cons, List.take_zero]
            repeat (go_big_quiet_want; (first
              | (refine BigFrame.quiet_move _ rfl ?_; go_simp)
              | (refine quiet_run (.pointer (some ⟨bb, off + k * 2, none⟩)) ?_ ?_; (focus (intro W hW; go_simp; done)); go_simp)
              | (refine quiet_run (.pointer (some ⟨bb, off + k * 2 + 1, none⟩)) ?_ ?_; (focus (intro W hW; go_simp; done)); go_simp)
              | (refine quiet_run (.pointer (some ⟨G + 2, 0, none⟩)) ?_ ?_; (focus (intro W hW; go_simp; done)); go_simp)
              | (refine quiet_run (.pointer (some ⟨G + 2, i, none⟩)) ?_ ?_; (focus (intro W hW; go_simp; done)); go_simp)
              | (refine quiet_run (.int .i64 dn) ?_ ?_; (focus (intro W hW; obtain ⟨nq, rfl⟩ := hW; have h := (CC7.out w7 (Below.refl _ _)).2; go_simp; done)); go_simp)
              | (refine quiet_run (.int .i64 dc) ?_ ?_; (focus (intro W hW; obtain ⟨nq, rfl⟩ := hW; have h := (CC7.out w7 (Below.refl _ _)).1; go_simp; done)); go_simp)
              | (refine quiet_run (.int .i64 (i : Int)) ?_ ?_; (focus (intro W hW; go_simp; done)); go_simp)); go_big_quiet_on)
            refine wpQuiet_nil ?_
            intro w8 hw8
            obtain ⟨nq, rfl⟩ := hw8
            simp only [List.drop_succ_cons, List.drop_zero]
            have I18 : Hid (Bk (w7.drewN nq) (G + 2) 25 (ctxRow u' none 0 0)) := hidd_ I17.out
            have I38 := hidd_ (grown_of_below I37.out (below_drewN (Below.refl w7.heap.size w7) nq))
            generalize w7.drewN nq = w8 at *
            have hfz := I18.out.frozen i
            have hcz := (I18.out.cell i).trans (ctxRow_up u' none 0 0 i I2.out.1.1 hi16)
            have em := ctxRow_setup u' none 0 0 i dn I2.out.1.1 hi16
            clear CC7 I17 I37
            go_upto_region 10 with fail
            generalize hw9 : w8.setCell _ _ = w9
            have g9 : w8.grownBy w9 (some (G + 2)) := by rw [← hw9]; exact grown_cell _ _ _ _
            have M9 := hidd_ (show Bk w9 (G + 2) 25 (ctxRow (u'.set i dn) none 0 0) by rw [← hw9, ← em]; exact I18.out.set_ i _)
            have G9 := hidd_ (World.grownBy.trans I38.out g9)
            clear g9 hw9 em I18 I38 hfz hcz
            go_wp2
            go_roundw
            case rel => exact ⟨true, k + 1, u'.set i dn, rfl, by go_num, by omega, M9, hidd_ HB2.out.2, G9, hidd_ HB2.out.1⟩
            case measure => simp [intOf]; omega
        · have hkn : k = n := by omega
          have q1 : decide ((k : Int) < (n : Int)) = false := decide_eq_false (by omega)
          have q2 : decide (k < n) = false := decide_eq_false hlt
          have HM1 := hidd_ (mw40_eq I1.out I2.out.1.1)
          have HM0 := hidd_ (mw40_eq H1.out H2.out.1.1)
          have HKN := hidd_ hkn
          clear hkn
          go_wp2
          go_roundw
          case rel => exact ⟨b, u', rfl, I1, I2, I3, hidd_ (fun e j hj => by rw [(I4.out.2 e).1]; exact (I4.out.2 e).2 j (by have := HKN.out; omega))⟩
          case measure =>
            rw [HM1.out, HM0.out]
            cases b with
            | true => have := I4.out.1 rfl; simp only [flagN]; omega
            | false => rw [(I4.out.2 rfl).1]; simp only [flagN]; omega
end Go.Proofs.Ytjflmfmncepeeaa
