/-
  Proved: for all Asks and bytes EnvelopeSizes answers true: how long a sealed value is hangs on its class alone. No condition.
-/
import Derived.Test.YthbkbmckmoleiaaGreatDoorXX
namespace Go.Proofs.YthbkbmckmoleiaaGreatDoor.envelopeSizes
set_option maxRecDepth 100000
open Go.ChangeShapes Go.WideShapes Go.ChangeAt Go.RowKit
set_option linter.unusedVariables false
set_option linter.unusedSimpArgs false

theorem hid_ {p : Prop} (h : p) : Hid p := h
def K9 : List UInt8 := 9 :: zbytes 31
theorem set_mine {w W W' : World} {id : Bool} {v sp nm kn : Nat} {K : List UInt8} {N : List (List UInt8)} {L : List SealV} {F : List Nat} {k : Nat} (h : MineX w id v sp nm kn K N L F W) (hU : Untouched [k] W W') (hk : k ∉ F) (hw : w.heap.size ≤ k) : MineX w id v sp nm kn K N L F W' :=
  ⟨(VS.foot id v sp nm kn K N L).keep h.vs hU (fun j hj hm => by rw [List.mem_singleton.1 hm] at hj; exact hk hj), h.own, h.below.trans (hU.below (fun j hj => by rw [List.mem_singleton.1 hj]; exact hw) h.below.size)⟩
theorem rdf_next {w w' : World} {k : Nat} {F F' : List Nat} {A : Option Addr} {l : List UInt8} (h : RdF w (k :: F) A l) (hU : Untouched F w w') (hG : Grew w F F') : RdF w' (k :: F') A l :=
  h.keep ⟨hU.os, hU.tape, hU.output, hU.size, fun j hj hn => hU.block j hj (fun hm => hn (List.mem_cons_of_mem _ hm))⟩ (fun j hj => by
    rcases List.mem_cons.1 hj with e | hj
    · exact .inl (by rw [e]; exact List.mem_cons_self ..)
    · exact (hG j hj).imp (List.mem_cons_of_mem _) id)
theorem rdf_set {w w' : World} {k : Nat} {F : List Nat} {A : Option Addr} {l : List UInt8} (h : RdF w (k :: F) A l) (hU : Untouched [k] w w') : RdF w' (k :: F) A l :=
  h.keep ⟨hU.os, hU.tape, hU.output, hU.size, fun j hj hn => hU.block j hj (fun hm => hn (by rw [List.mem_singleton.1 hm]; exact List.mem_cons_self ..))⟩ (Grew.refl _ _)
theorem rdf_b {w w' : World} {F : List Nat} {A : Option Addr} {l : List UInt8} (h : RdF w F A l) (hB : Below w.heap.size w w') : RdF w' F A l := h.keep (Untouched.of_below hB) (Grew.refl _ _)
theorem rdf_tail {w : World} {k : Nat} {F : List Nat} {A : Option Addr} {l : List UInt8} (h : RdF w (k :: F) A l) : RdF w F A l := fun hn => by
  obtain ⟨b, off, e, hb, hr⟩ := h hn
  exact ⟨b, off, e, fun hm => hb (List.mem_cons_of_mem _ hm), hr⟩
theorem sL_yes (id : Bool) (K : List UInt8) (L : List SealV) (e c n : Int) (x b : List UInt8) (h1 : slOk e c n) (h2 : (c.toNat, n.toNat) ∉ L.map cn) : (sL id K L e c n x b).map cn = L.map cn ++ [(c.toNat, n.toNat)] := by
  unfold sL
  rw [if_pos ⟨h1, h2⟩]
  simp [cn]
theorem sB_yes (id : Bool) (K : List UInt8) (L : List SealV) (e c n : Int) (x b : List UInt8) (h1 : slOk e c n) (h2 : (c.toNat, n.toNat) ∉ L.map cn) : (sB id K L e c n x b).length = b.length + 16 := by
  unfold sB
  rw [if_pos ⟨h1, h2⟩, sO_len]
theorem esP64 (del : Bool) (u : List UInt8) (hu : u.length ≤ 59) : (esP del u).length = 64 := by
  rw [esP_len del u (by omega)]
  have := packB_len del u
  unfold clsS clsK
  rw [if_pos (by omega)]
  rfl
theorem hok_ (A : Option Addr) (l : List UInt8) (c : Nat) (z : Int) (h1 : 1 ≤ z) (h2 : z ≤ 3) (hl : l.length ≤ 50) : ({ e := 1, n := z, c := 1, d := 1, pa := A, pl := l, pc := c } : HeadV).Ok :=
  ⟨⟨Int.le_refl 1, by show (1 : Int) ≤ 1048576; omega⟩, ⟨h1, by show z ≤ 4611686018427387904; omega⟩, ⟨Int.le_refl 1, by show (1 : Int) ≤ 16; omega⟩, ⟨Int.le_refl 1, by show (1 : Int) ≤ 1099511627776; omega⟩, by show l.length ≤ 4096; omega⟩
/-- A cell of a head is set. -/
theorem HeadV.put1 (h : HeadV) (z : Int) : h.row.setIfInBounds 1 (.int .i64 z) = ({ h with n := z } : HeadV).row := rfl
set_option maxRecDepth 100000 in
set_option maxHeartbeats 16000000 in
theorem walk (w : World) (id : Bool) (q : AskV) (hq : q.Ok w w.heap.size) (Ao : Option Addr) (ol : List UInt8) (co : Nat) (hro : Rd w w.heap.size Ao ol) (hco : ol.length ≤ co) (hcom : co ≤ 9223372036854775807) (ht : Tab w) (hg1 : 2 < w.heap.size) (hpt : PTab w) (hg2 : 0 < w.heap.size) :
    Calls Tryz.prog 5 #[.bool id, .agg q.row, .slice Ao ol.length co] w fun e w' => e = .returned (.bool true) ∧ Below w.heap.size w w' := by
  have hzH := zeroH
  have hzE := zeroE
  obtain ⟨g, hg⟩ : ∃ g, w.heap.size = g := ⟨_, rfl⟩
  obtain ⟨w0, hw0⟩ : ∃ w0, w.alloc (.cells q.row 48) = w0 := ⟨_, rfl⟩
  have B0 := hid_ (show Below w.heap.size w w0 by rw [← hw0]; exact (Below.refl w.heap.size w).alloc (Nat.le_refl _) _)
  have Q0 := hid_ (show Bk w0 g 48 q.row by rw [← hw0, ← hg]; exact Bk.new w _ _)
  have HT := hid_ (tab_un (F := []) ht (Untouched.of_below B0.out) hg1 (fun hm => by cases hm))
  have HP := hid_ (ptab_un (F := []) hpt (Untouched.of_below B0.out) hg2 (fun hm => by cases hm))
  have g01 : 2 < w0.heap.size := Nat.lt_of_lt_of_le hg1 B0.out.size
  have g02 : 0 < w0.heap.size := Nat.lt_of_lt_of_le hg2 B0.out.size
  have HQ := hid_ (hq.below B0.out)
  have HO := hid_ ((hro.below B0.out).more B0.out.size)
  have S0 := hid_ B0.out.size
  have cv := two13_any id w0 K9 rfl
  have HKB := hid_ (show K9 = 9 :: zbytes 31 from rfl)
  obtain ⟨Pl, hPl⟩ : ∃ l, q.pl.take 50 = l := ⟨_, rfl⟩
  obtain ⟨Xl, hXl⟩ : ∃ l, q.vl.take 59 = l := ⟨_, rfl⟩
  obtain ⟨Yl, hYl⟩ : ∃ l, ol.take 59 = l := ⟨_, rfl⟩
  have PL := hid_ (show Pl.length ≤ 50 by rw [← hPl, List.length_take]; omega)
  have XL := hid_ (show Xl.length ≤ 59 by rw [← hXl, List.length_take]; omega)
  have YL := hid_ (show Yl.length ≤ 59 by rw [← hYl, List.length_take]; omega)
  have c1 : ∀ W : World, Rd W W.heap.size q.pa q.pl → Calls Tryz.prog 20 #[.slice q.pa q.pl.length q.pc, .int .i64 50] W (NewP W Pl.length Pl) := fun W hr => by
    have h := ecut_any W q.pa q.pl q.pl.length q.pc 50 Pl.length rfl (by rw [← hPl, List.length_take, Nat.min_comm]) (by omega) hr HQ.out.hp.1 HQ.out.hp.2
    rw [hPl] at h
    exact h
  have c2 : ∀ W : World, Rd W W.heap.size q.va q.vl → Calls Tryz.prog 20 #[.slice q.va q.vl.length q.vc, .int .i64 59] W (NewP W Xl.length Xl) := fun W hr => by
    have h := ecut_any W q.va q.vl q.vl.length q.vc 59 Xl.length rfl (by rw [← hXl, List.length_take, Nat.min_comm]) (by omega) hr HQ.out.hv.1 HQ.out.hv.2
    rw [hXl] at h
    exact h
  have c3 : ∀ W : World, Rd W W.heap.size Ao ol → Calls Tryz.prog 20 #[.slice Ao ol.length co, .int .i64 59] W (NewP W Yl.length Yl) := fun W hr => by
    have h := ecut_any W Ao ol ol.length co 59 Yl.length rfl (by rw [← hYl, List.length_take, Nat.min_comm]) (by omega) hr hco hcom
    rw [hYl] at h
    exact h
  generalize K9 = K at *
  clear ht hpt hq hro hPl hXl hYl
  go_enter Tryz.func5, Tryz.ntmps5
  go_upto_region 2 with (first
    | (refine wpList_built rfl 22 _ rfl (rowOf K) (by rw [HKB.out]; kernel_rfl) ?_)
    | (go_at_call 19; ((with_reducible refine cv.mono ?_); clear cv; rintro e w1 ⟨v, sp, nm, kn, rg, F, rfl, hv, hF, hb1, hb2, hb3, hb⟩; have M1 := hid_ (show MineX w0 id v sp nm kn K [] [] F w1 from ⟨hv, hF, hb⟩); have Q1 := hid_ (Q0.out.below hb Q0.out.lt); have k5 := (show w1.cell? ⟨g, 5, none⟩ = some (.slice q.pa q.pl.length q.pc) from Q1.out.cell 5); have cu := c1 w1 ((HQ.out.rp.below (hb.mono S0.out)).more (Nat.le_trans S0.out hb.size)); clear hv hF hb hb1 hb2 hb3)))
  go_upto_region 3 with (first
    | (go_at_call 20; ((with_reducible refine cu.mono ?_); clear cu; rintro e w2 ⟨A2, d2, rfl, hO, hB⟩; have M2 := hid_ (M1.out.then_ hB); have Q2 := hid_ (Q1.out.below hB Q1.out.lt); have P2 := hid_ (rdf_of (F' := w2.heap.size :: F) hO.rd.1 (fun a e hm => by have h1 := ownX hO a e; rcases List.mem_cons.1 hm with h2 | h2; (· omega); (· have := M1.out.lt _ h2; omega))); clear hO hB))
    | (refine wpList_put_row rfl 53 (.tmp 9) (.tmp 28) rfl w2.heap.size ({ e := 1, n := 1, c := 1, d := 1, pa := A2, pl := Pl, pc := d2 } : HeadV).row rfl rfl 53 hd0.row (Bk.new w2 _ _) (iHead _) rfl (head_one _) ?_; intro w3 k3 g3 s3; have B3 := mark_put w2 w3 w2.heap.size 53 hd0.row _ g3; have H3 := hid_ k3; have M3 := hid_ (M2.out.then_ B3); have Q3 := hid_ (Q2.out.below B3 Q2.out.lt); have P3 := hid_ (rdf_b P2.out B3); have n9 := hid_ (show w2.heap.size ∉ F from fun hm => absurd (M2.out.lt _ hm) (Nat.lt_irrefl w2.heap.size)); have own9 := hid_ (show w0.heap.size ≤ w2.heap.size from M2.out.below.size); clear k3 g3 s3 B3))
  clear hzH k5 M1 M2 Q1 Q2 P2
  generalize w2.heap.size = b9 at *
  have k6 : w3.cell? ⟨g, 6, none⟩ = some (.slice q.va q.vl.length q.vc) := Q3.out.cell 6
  have cu := c2 w3 ((HQ.out.rv.below (M3.out.below.mono S0.out)).more (Nat.le_trans S0.out M3.out.below.size))
  go_upto_region 4 with (first
    | (go_at_call 20; ((with_reducible refine cu.mono ?_); clear cu; rintro e w4 ⟨A4, d4, rfl, hO, hB⟩; have M4 := hid_ (M3.out.then_ hB); have Q4 := hid_ (Q3.out.below hB Q3.out.lt); have H4 := hid_ (H3.out.below hB H3.out.lt); have P4 := hid_ (rdf_b P3.out hB); have X4 := hid_ (rdf_of (F' := b9 :: F) hO.rd.1 (fun a e hm => by have h1 := ownX hO a e; rcases List.mem_cons.1 hm with h2 | h2; (· have := H3.out.lt; omega); (· have := M3.out.lt _ h2; omega))); have cu := c3 w4 ((HO.out.below M4.out.below).more M4.out.below.size); clear hO hB))
    | (go_at_call 20; ((with_reducible refine cu.mono ?_); clear cu; rintro e w5 ⟨A5, d5, rfl, hO, hB⟩; have M5 := hid_ (M4.out.then_ hB); have H5 := hid_ (H4.out.below hB H4.out.lt); have P5 := hid_ (rdf_b P4.out hB); have X5 := hid_ (rdf_b X4.out hB); have Y5 := hid_ (rdf_of (F' := b9 :: F) hO.rd.1 (fun a e hm => by have h1 := ownX hO a e; rcases List.mem_cons.1 hm with h2 | h2; (· have := H4.out.lt; omega); (· have := M4.out.lt _ h2; omega))); clear hO hB)))
  clear k6 M3 M4 Q3 Q4 H3 H4 P3 P4 X4 c1 c2 c3 Q0 HO HQ
  have HL0 := hid_ (show ([] : List SealV).map cn = [] from rfl)
  have LN0 := hid_ (show ([] : List (List UInt8)).length ≤ 0 ∧ ([] : List SealV).length ≤ 0 from ⟨Nat.le_refl _, Nat.le_refl _⟩)
  -- sealing 1
  have k1 := Lib.run_convert_bytes_const (P := Tryz.prog) w5 30 5 #[.int .u8 107] 1 1 Tryz.underlying30 Tryz.underlying5
  obtain ⟨g6, w6, hg6, hw6, b6, R6, S6⟩ := mark_world w5 [107] (1, 2)
  rw [show rowOf [107] = #[.int .u8 107] from rfl] at hw6
  rw [hg6] at k1
  have BB : Below w5.heap.size w5 w6 := hg6 ▸ b6
  have M6 := hid_ (M5.out.then_ BB)
  have H6 := hid_ (H5.out.below BB H5.out.lt)
  have P6 := hid_ (rdf_b P5.out BB)
  have X6 := hid_ (rdf_b X5.out BB)
  have Y6 := hid_ (rdf_b Y5.out BB)
  have hin : (1, 1) ∉ ([] : List SealV).map cn := by rw [HL0.out]; simp
  have hok : ({ e := 1, n := 1, c := 1, d := 1, pa := A2, pl := Pl, pc := d2 } : HeadV).Ok := hok_ A2 Pl d2 1 (by omega) (by omega) PL.out
  have cs := seal_yes M6.out.vs (some ⟨g6, 0, none⟩) 1 1 [107] rfl (by omega) (by omega) (Nat.le_refl _) (by omega) R6 { e := 1, n := 1, c := 1, d := 1, pa := A2, pl := Pl, pc := d2 } hok (rdf_tail P6.out) A4 Xl.length d4 Xl rfl (by have := XL.out; omega) (rdf_tail X6.out).rd false (by have := LN0.out; omega) (by have := LN0.out; omega) (M6.out.tab HT.out g01) (M6.out.glt g01) (M6.out.ptab HP.out g02) (M6.out.glt g02) (M6.out.gF g01) hin
  have SBL := sB_yes id K ([] : List SealV) 1 1 1 (esX id K ([] : List (List UInt8)) [107] { e := 1, n := 1, c := 1, d := 1, pa := A2, pl := Pl, pc := d2 }) (esP false Xl) (HeadV.slOk hok) hin
  rw [esP64 false Xl (XL.out)] at SBL
  have SLM := sL_yes id K ([] : List SealV) 1 1 1 (esX id K ([] : List (List UInt8)) [107] { e := 1, n := 1, c := 1, d := 1, pa := A2, pl := Pl, pc := d2 }) (esP false Xl) (HeadV.slOk hok) hin
  rw [HL0.out] at SLM
  obtain ⟨N1, hN1⟩ : ∃ x, bN id ([] : List (List UInt8)) [107] = x := ⟨_, rfl⟩
  obtain ⟨Kb1, hK1⟩ : ∃ x, bV id K ([] : List (List UInt8)) [107] = x := ⟨_, rfl⟩
  have KL1 := hid_ (show Kb1.length = 32 by rw [← hK1]; exact bV_len _ _ _ _)
  have NL := bN_len id ([] : List (List UInt8)) [107]
  unfold EsP at cs
  obtain ⟨L1, hL1⟩ : ∃ x, sL id K ([] : List SealV) 1 1 1 (esX id K ([] : List (List UInt8)) [107] { e := 1, n := 1, c := 1, d := 1, pa := A2, pl := Pl, pc := d2 }) (esP false Xl) = x := ⟨_, rfl⟩
  obtain ⟨S1_, hS1⟩ : ∃ x, sB id K ([] : List SealV) 1 1 1 (esX id K ([] : List (List UInt8)) [107] { e := 1, n := 1, c := 1, d := 1, pa := A2, pl := Pl, pc := d2 }) (esP false Xl) = x := ⟨_, rfl⟩
  simp only [hL1, hS1, hK1, hN1] at cs
  rw [hS1] at SBL
  rw [hL1] at SLM
  rw [hN1] at NL
  simp only [show S1_.length = 80 from SBL] at cs
  have HL1 := hid_ (show L1.map cn = [(1, 1)] from SLM)
  have LN1 := hid_ (show N1.length ≤ 1 ∧ L1.length ≤ 1 from ⟨by have := LN0.out; omega, by have h := congrArg List.length SLM; simp at h; omega⟩)
  clear SBL SLM NL hN1 hK1 hL1 hS1 hin hok BB b6 R6 S6
  go_upto_region 5 with (first
    | (refine wpList_load_row rfl 53 (.tmp 9) rfl b9 rfl 53 ({ e := 1, n := 1, c := 1, d := 1, pa := A2, pl := Pl, pc := d2 } : HeadV).row (0, 0) _ H6.out Tryz.underlying53 rfl (iHead _) ?_)
    | (go_at_call 21; ((with_reducible refine cs.mono ?_); clear cs; rintro e w7 ⟨pa1, pc1, sa1, sc1, F1, rfl, hcap, hpr, hsr, hV, hG, hU⟩; have M7 := hid_ (M6.out.next hV hG hU); have H7 := hid_ (bk_out H6.out n9.out hG hU); have P7 := hid_ (rdf_next P6.out hU hG); have X7 := hid_ (rdf_next X6.out hU hG); have Y7 := hid_ (rdf_next Y6.out hU hG); clear hV hG hU hpr hsr hcap))
    | (refine wpList_put_row rfl 55 (.tmp 12) (.tmp 41) rfl w7.heap.size (eRow Kb1 { e := 1, n := 1, c := 1, d := 1, pa := pa1, pl := Pl, pc := pc1 } sa1 80 sc1) rfl rfl 55 eRow0 (Bk.new w7 _ _) (iE _ KL1.out _ _ _ _) (by rw [eRow_size _ KL1.out]; exact eRow_z) (eRow_one _ _ _ _ _) ?_; intro w8 k8 g8 s8; have BB := mark_put w7 w8 w7.heap.size 55 eRow0 _ g8; have D8 := hid_ k8; have M8 := hid_ (M7.out.then_ BB); have H8 := hid_ (H7.out.1.below BB H7.out.1.lt); have P8 := hid_ (rdf_b P7.out BB); have X8 := hid_ (rdf_b X7.out BB); have Y8 := hid_ (rdf_b Y7.out BB); have nD := hid_ (show w7.heap.size ∉ F1 from fun hm => absurd (M7.out.lt _ hm) (Nat.lt_irrefl w7.heap.size)); clear k8 g8 s8 BB))
  clear k1 hw6 hg6 n9 M5 M6 H5 H6 P5 P6
  have n9 := hid_ H7.out.2
  have ltD := hid_ (show b9 < w7.heap.size from H7.out.1.lt)
  clear M7 H7 P7 X5 X6 X7 Y5 Y6 Y7
  generalize w7.heap.size = bD at *
  clear X8
  obtain ⟨w9, hw9⟩ : ∃ W, w8.setCell ⟨b9, 1, none⟩ (.int .i64 2) = W := ⟨_, rfl⟩
  have k1 := (head_cells H8.out).2.1
  have kf := H8.out.frozen 1
  have UU : Untouched [b9] w8 w9 := by rw [← hw9]; exact Untouched.set b9 1 (by simp) _
  have H9 := hid_ (show Bk w9 b9 53 ({ e := 1, n := 2, c := 1, d := 1, pa := A2, pl := Pl, pc := d2 } : HeadV).row by rw [← hw9]; exact H8.out.set_ 1 _)
  have M9 := hid_ (set_mine M8.out UU n9.out own9.out)
  have P9 := hid_ (rdf_set P8.out UU)
  have Y9 := hid_ (rdf_set Y8.out UU)
  have D9 := hid_ (D8.out.untouched UU (fun hm => by have h1 := List.mem_singleton.1 hm; have h2 := ltD.out; omega))
  clear UU
  go_upto_region 6 with fail
  clear k1 kf hw9 M8 H8 P8 Y8 D8
  -- sealing 2
  have k1 := Lib.run_convert_bytes_const (P := Tryz.prog) w9 30 5 #[.int .u8 111, .int .u8 116, .int .u8 104, .int .u8 101, .int .u8 114] 5 5 Tryz.underlying30 Tryz.underlying5
  obtain ⟨g10, w10, hg10, hw10, b10, R10, S10⟩ := mark_world w9 [111, 116, 104, 101, 114] (5, 6)
  rw [show rowOf [111, 116, 104, 101, 114] = #[.int .u8 111, .int .u8 116, .int .u8 104, .int .u8 101, .int .u8 114] from rfl] at hw10
  rw [hg10] at k1
  have BB : Below w9.heap.size w9 w10 := hg10 ▸ b10
  have M10 := hid_ (M9.out.then_ BB)
  have H10 := hid_ (H9.out.below BB H9.out.lt)
  have P10 := hid_ (rdf_b P9.out BB)
  have Y10 := hid_ (rdf_b Y9.out BB)
  have D10 := hid_ (D9.out.below BB D9.out.lt)
  have hin : (1, 2) ∉ L1.map cn := by rw [HL1.out]; simp
  have hok : ({ e := 1, n := 2, c := 1, d := 1, pa := A2, pl := Pl, pc := d2 } : HeadV).Ok := hok_ A2 Pl d2 2 (by omega) (by omega) PL.out
  have cs := seal_yes M10.out.vs (some ⟨g10, 0, none⟩) 5 5 [111, 116, 104, 101, 114] rfl (by omega) (by omega) (Nat.le_refl _) (by omega) R10 { e := 1, n := 2, c := 1, d := 1, pa := A2, pl := Pl, pc := d2 } hok (rdf_tail P10.out) A5 Yl.length d5 Yl rfl (by have := YL.out; omega) (rdf_tail Y10.out).rd false (by have := LN1.out; omega) (by have := LN1.out; omega) (M10.out.tab HT.out g01) (M10.out.glt g01) (M10.out.ptab HP.out g02) (M10.out.glt g02) (M10.out.gF g01) hin
  have SBL := sB_yes id K L1 1 1 2 (esX id K N1 [111, 116, 104, 101, 114] { e := 1, n := 2, c := 1, d := 1, pa := A2, pl := Pl, pc := d2 }) (esP false Yl) (HeadV.slOk hok) hin
  rw [esP64 false Yl (YL.out)] at SBL
  have SLM := sL_yes id K L1 1 1 2 (esX id K N1 [111, 116, 104, 101, 114] { e := 1, n := 2, c := 1, d := 1, pa := A2, pl := Pl, pc := d2 }) (esP false Yl) (HeadV.slOk hok) hin
  rw [HL1.out] at SLM
  obtain ⟨N2, hN2⟩ : ∃ x, bN id N1 [111, 116, 104, 101, 114] = x := ⟨_, rfl⟩
  obtain ⟨Kb2, hK2⟩ : ∃ x, bV id K N1 [111, 116, 104, 101, 114] = x := ⟨_, rfl⟩
  have KL2 := hid_ (show Kb2.length = 32 by rw [← hK2]; exact bV_len _ _ _ _)
  have NL := bN_len id N1 [111, 116, 104, 101, 114]
  unfold EsP at cs
  obtain ⟨L2, hL2⟩ : ∃ x, sL id K L1 1 1 2 (esX id K N1 [111, 116, 104, 101, 114] { e := 1, n := 2, c := 1, d := 1, pa := A2, pl := Pl, pc := d2 }) (esP false Yl) = x := ⟨_, rfl⟩
  obtain ⟨S2_, hS2⟩ : ∃ x, sB id K L1 1 1 2 (esX id K N1 [111, 116, 104, 101, 114] { e := 1, n := 2, c := 1, d := 1, pa := A2, pl := Pl, pc := d2 }) (esP false Yl) = x := ⟨_, rfl⟩
  simp only [hL2, hS2, hK2, hN2] at cs
  rw [hS2] at SBL
  rw [hL2] at SLM
  rw [hN2] at NL
  simp only [show S2_.length = 80 from SBL] at cs
  have HL2 := hid_ (show L2.map cn = [(1, 1), (1, 2)] from SLM)
  have LN2 := hid_ (show N2.length ≤ 2 ∧ L2.length ≤ 2 from ⟨by have := LN1.out; omega, by have h := congrArg List.length SLM; simp at h; omega⟩)
  clear SBL SLM NL hN2 hK2 hL2 hS2 hin hok BB b10 R10 S10
  go_upto_region 7 with (first
    | (refine wpList_load_row rfl 53 (.tmp 9) rfl b9 rfl 53 ({ e := 1, n := 2, c := 1, d := 1, pa := A2, pl := Pl, pc := d2 } : HeadV).row (0, 0) _ H10.out Tryz.underlying53 rfl (iHead _) ?_)
    | (go_at_call 21; ((with_reducible refine cs.mono ?_); clear cs; rintro e w11 ⟨pa2, pc2, sa2, sc2, F2, rfl, hcap, hpr, hsr, hV, hG, hU⟩; have M11 := hid_ (M10.out.next hV hG hU); have H11 := hid_ (bk_out H10.out n9.out hG hU); have P11 := hid_ (rdf_next P10.out hU hG); have Y11 := hid_ (rdf_next Y10.out hU hG); have D11 := hid_ (bk_out D10.out nD.out hG hU); clear hV hG hU hpr hsr hcap))
    | (refine wpList_put_row rfl 55 (.tmp 14) (.tmp 51) rfl w11.heap.size (eRow Kb2 { e := 1, n := 2, c := 1, d := 1, pa := pa2, pl := Pl, pc := pc2 } sa2 80 sc2) rfl rfl 55 eRow0 (Bk.new w11 _ _) (iE _ KL2.out _ _ _ _) (by rw [eRow_size _ KL2.out]; exact eRow_z) (eRow_one _ _ _ _ _) ?_; intro w12 k12 g12 s12; have BB := mark_put w11 w12 w11.heap.size 55 eRow0 _ g12; have E12 := hid_ k12; have M12 := hid_ (M11.out.then_ BB); have H12 := hid_ (H11.out.1.below BB H11.out.1.lt); have P12 := hid_ (rdf_b P11.out BB); have Y12 := hid_ (rdf_b Y11.out BB); have D12 := hid_ (D11.out.1.below BB D11.out.1.lt); have nE := hid_ (show w11.heap.size ∉ F2 from fun hm => absurd (M11.out.lt _ hm) (Nat.lt_irrefl w11.heap.size)); clear k12 g12 s12 BB))
  clear k1 hw10 hg10 n9 M9 M10 H9 H10 P9 P10
  have n9 := hid_ H11.out.2
  have nD_ := hid_ D11.out.2
  clear nD
  have nD := nD_
  clear nD_
  have ltE := hid_ (show b9 < w11.heap.size from H11.out.1.lt)
  clear M11 H11 P11 Y9 Y10 Y11 D9 D10 D11
  generalize w11.heap.size = bE at *
  clear Y12
  obtain ⟨w13, hw13⟩ : ∃ W, w12.setCell ⟨b9, 1, none⟩ (.int .i64 3) = W := ⟨_, rfl⟩
  have k1 := (head_cells H12.out).2.1
  have kf := H12.out.frozen 1
  have UU : Untouched [b9] w12 w13 := by rw [← hw13]; exact Untouched.set b9 1 (by simp) _
  have H13 := hid_ (show Bk w13 b9 53 ({ e := 1, n := 3, c := 1, d := 1, pa := A2, pl := Pl, pc := d2 } : HeadV).row by rw [← hw13]; exact H12.out.set_ 1 _)
  have M13 := hid_ (set_mine M12.out UU n9.out own9.out)
  have P13 := hid_ (rdf_set P12.out UU)
  have D13 := hid_ (D12.out.untouched UU (fun hm => by have h1 := List.mem_singleton.1 hm; have h2 := ltD.out; omega))
  have E13 := hid_ (E12.out.untouched UU (fun hm => by have h1 := List.mem_singleton.1 hm; have h2 := ltE.out; omega))
  clear UU
  go_upto_region 8 with fail
  clear k1 kf hw13 M12 H12 P12 D12 E12
  -- sealing 3
  have k1 := Lib.run_convert_bytes_const (P := Tryz.prog) w13 30 5 #[.int .u8 107] 1 1 Tryz.underlying30 Tryz.underlying5
  obtain ⟨g14, w14, hg14, hw14, b14, R14, S14⟩ := mark_world w13 [107] (1, 2)
  rw [show rowOf [107] = #[.int .u8 107] from rfl] at hw14
  rw [hg14] at k1
  have BB : Below w13.heap.size w13 w14 := hg14 ▸ b14
  have M14 := hid_ (M13.out.then_ BB)
  have H14 := hid_ (H13.out.below BB H13.out.lt)
  have P14 := hid_ (rdf_b P13.out BB)
  have D14 := hid_ (D13.out.below BB D13.out.lt)
  have E14 := hid_ (E13.out.below BB E13.out.lt)
  have hin : (1, 3) ∉ L2.map cn := by rw [HL2.out]; simp
  have hok : ({ e := 1, n := 3, c := 1, d := 1, pa := A2, pl := Pl, pc := d2 } : HeadV).Ok := hok_ A2 Pl d2 3 (by omega) (by omega) PL.out
  have cs := seal_yes M14.out.vs (some ⟨g14, 0, none⟩) 1 1 [107] rfl (by omega) (by omega) (Nat.le_refl _) (by omega) R14 { e := 1, n := 3, c := 1, d := 1, pa := A2, pl := Pl, pc := d2 } hok (rdf_tail P14.out) none 0 0 [] rfl (by omega) Rd.nil true (by have := LN2.out; omega) (by have := LN2.out; omega) (M14.out.tab HT.out g01) (M14.out.glt g01) (M14.out.ptab HP.out g02) (M14.out.glt g02) (M14.out.gF g01) hin
  have SBL := sB_yes id K L2 1 1 3 (esX id K N2 [107] { e := 1, n := 3, c := 1, d := 1, pa := A2, pl := Pl, pc := d2 }) (esP true []) (HeadV.slOk hok) hin
  rw [esP64 true [] (by simp)] at SBL
  have SLM := sL_yes id K L2 1 1 3 (esX id K N2 [107] { e := 1, n := 3, c := 1, d := 1, pa := A2, pl := Pl, pc := d2 }) (esP true []) (HeadV.slOk hok) hin
  rw [HL2.out] at SLM
  obtain ⟨N3, hN3⟩ : ∃ x, bN id N2 [107] = x := ⟨_, rfl⟩
  obtain ⟨Kb3, hK3⟩ : ∃ x, bV id K N2 [107] = x := ⟨_, rfl⟩
  have KL3 := hid_ (show Kb3.length = 32 by rw [← hK3]; exact bV_len _ _ _ _)
  have NL := bN_len id N2 [107]
  unfold EsP at cs
  obtain ⟨L3, hL3⟩ : ∃ x, sL id K L2 1 1 3 (esX id K N2 [107] { e := 1, n := 3, c := 1, d := 1, pa := A2, pl := Pl, pc := d2 }) (esP true []) = x := ⟨_, rfl⟩
  obtain ⟨S3_, hS3⟩ : ∃ x, sB id K L2 1 1 3 (esX id K N2 [107] { e := 1, n := 3, c := 1, d := 1, pa := A2, pl := Pl, pc := d2 }) (esP true []) = x := ⟨_, rfl⟩
  simp only [hL3, hS3, hK3, hN3] at cs
  rw [hS3] at SBL
  rw [hL3] at SLM
  rw [hN3] at NL
  simp only [show S3_.length = 80 from SBL] at cs
  have HL3 := hid_ (show L3.map cn = [(1, 1), (1, 2), (1, 3)] from SLM)
  have LN3 := hid_ (show N3.length ≤ 3 ∧ L3.length ≤ 3 from ⟨by have := LN2.out; omega, by have h := congrArg List.length SLM; simp at h; omega⟩)
  clear SBL SLM NL hN3 hK3 hL3 hS3 hin hok BB b14 R14 S14
  go_upto_region 9 with (first
    | (refine wpList_load_row rfl 53 (.tmp 9) rfl b9 rfl 53 ({ e := 1, n := 3, c := 1, d := 1, pa := A2, pl := Pl, pc := d2 } : HeadV).row (0, 0) _ H14.out Tryz.underlying53 rfl (iHead _) ?_)
    | (go_at_call 21; ((with_reducible refine cs.mono ?_); clear cs; rintro e w15 ⟨pa3, pc3, sa3, sc3, F3, rfl, hcap, hpr, hsr, hV, hG, hU⟩; have M15 := hid_ (M14.out.next hV hG hU); have H15 := hid_ (bk_out H14.out n9.out hG hU); have P15 := hid_ (rdf_next P14.out hU hG); have D15 := hid_ (bk_out D14.out nD.out hG hU); have E15 := hid_ (bk_out E14.out nE.out hG hU); clear hV hG hU hpr hsr hcap))
    | (refine wpList_put_row rfl 55 (.tmp 16) (.tmp 60) rfl w15.heap.size (eRow Kb3 { e := 1, n := 3, c := 1, d := 1, pa := pa3, pl := Pl, pc := pc3 } sa3 80 sc3) rfl rfl 55 eRow0 (Bk.new w15 _ _) (iE _ KL3.out _ _ _ _) (by rw [eRow_size _ KL3.out]; exact eRow_z) (eRow_one _ _ _ _ _) ?_; intro w16 k16 g16 s16; have BB := mark_put w15 w16 w15.heap.size 55 eRow0 _ g16; have G16 := hid_ k16; have M16 := hid_ (M15.out.then_ BB); have H16 := hid_ (H15.out.1.below BB H15.out.1.lt); have P16 := hid_ (rdf_b P15.out BB); have D16 := hid_ (D15.out.1.below BB D15.out.1.lt); have E16 := hid_ (E15.out.1.below BB E15.out.1.lt); have nG := hid_ (show w15.heap.size ∉ F3 from fun hm => absurd (M15.out.lt _ hm) (Nat.lt_irrefl w15.heap.size)); clear k16 g16 s16 BB))
  clear k1 hw14 hg14 n9 M13 M14 H13 H14 P13 P14
  have n9 := hid_ H15.out.2
  have nD_ := hid_ D15.out.2
  clear nD
  have nD := nD_
  clear nD_
  have nE_ := hid_ E15.out.2
  clear nE
  have nE := nE_
  clear nE_
  have ltG := hid_ (show b9 < w15.heap.size from H15.out.1.lt)
  clear M15 H15 P15 D13 D14 D15 E13 E14 E15
  generalize w15.heap.size = bG at *
  have cl := seals_env w16 (M16.out.tab HT.out g01) (M16.out.glt g01) (M16.out.ptab HP.out g02) (M16.out.glt g02)
  go_wp2_with (go_at_call 22; ((with_reducible refine cl.mono ?_); clear cl; rintro e w17 ⟨rfl, hB⟩; have M17 := hid_ (M16.out.then_ hB); have d5 := (env_cells KL1.out (D16.out.below hB D16.out.lt)).2.2.2.2; have e5 := (env_cells KL2.out (E16.out.below hB E16.out.lt)).2.2.2.2; have f5 := (env_cells KL3.out (G16.out.below hB G16.out.lt)).2.2.2.2; clear hB))
  go_ret
  exact ⟨rfl, B0.out.trans (M17.out.below.mono B0.out.size)⟩

theorem laid_metE (os : Os) : laidMet Tryz.prog [("casket/pad.sizes", Rows.laid_casket_pad_sizes), ("casket/sha2.roundWords", Rows.laid_casket_sha2_roundWords)] ((laidWorldE os).forCall (fun _ _ => 0) ⟨#[], #[.bool false, .agg #[.slice none 0 0, .int .i64 0, .int .i64 0, .int .i64 0, .int .i64 0, .slice none 0 0, .slice none 0 0, .bool false], .slice none 0 0], []⟩).memory :=
  laidMet_of_run' 8 (by kernel_rfl) (by kernel_rfl)

/-- What the walk gives, for every argument and every world in which the constants lie. -/
theorem contract (H : Type) (enc : TypeId × Value → H) (W : World) (base : Nat) (args : Array Value) (ds gs : List (DataW H)) (before : List MemPlace)
    (hval : ∀ (j : Nat) t v, Tryz.f5.params[j]? = some t → args[j]? = some v → Value.okWide Tryz.prog W .any base t v)
    (hW : DataW.Whole enc Tryz.prog Tryz.f5.params.toList Rows.envelopeSizesSpec.vars false W args.toList ds gs before) (hL : laidMetH Tryz.prog Rows.envelopeSizesRow.laid W) :
    Calls Tryz.prog 5 args W fun e W' => ∃ v, e = .returned v ∧ Rows.envelopeSizesSpec.post enc Tryz.prog Tryz.f5 false true false false W args v W' := by
  obtain ⟨⟨hpt, hg2⟩, ht, hg1⟩ := two_of hL
  have hW' := hW
  obtain ⟨p, q, hA0, hV, rfl, hfz, hnd⟩ := hW
  have hA : DataW.TrodAll enc Tryz.prog W 0 (fun _ => true) true Tryz.f5.params.toList args.toList ds p := hA0
  rw [Tryz.params5] at hA hval
  obtain ⟨v0, vs0, d0, ds0, p0, q0, hargs, rfl, rfl, h0, r0⟩ := trodAll_cons hA
  obtain ⟨v1, vs1, d1, ds1, p1, q1, rfl, rfl, rfl, h1, r1⟩ := trodAll_cons r0
  obtain ⟨v2, vs2, d2, ds2, p2, q2, rfl, rfl, rfl, h2, r2⟩ := trodAll_cons r1
  obtain ⟨rfl, rfl, rfl⟩ := trodAll_nil r2
  obtain rfl : args = #[v0, v1, v2] := by cases args; simp_all
  obtain ⟨rfl, rfl⟩ := trodVars_none hV
  obtain ⟨b0, rfl, rfl, rfl⟩ := open_bool Tryz.underlying4 (hval 0 4 v0 rfl rfl) h0
  obtain ⟨q, rfl, hq⟩ := open_ask (hval 1 48 v1 rfl rfl) h1
  obtain ⟨A2, l2, c2, rfl, hr2, hlc2, hcm2⟩ := open_bytes Tryz.underlying30 Tryz.underlying5 (by kernel_rfl) (hval 2 30 v2 rfl rfl) h2
  refine (walk W b0 q hq A2 l2 c2 hr2 hlc2 (by unfold maxLen at hcm2; omega) ht hg1 hpt hg2).mono fun e W' ⟨he, hg⟩ => ⟨_, he, ?_⟩
  exact law_post laidOut_ (of_decide_eq_true (by kernel_rfl)) rfl rfl Tryz.underlying4 rfl hW' hg

theorem reads (os : Os) {H : Type} (enc : TypeId × Value → H) : ∃ places, DataW.whole enc Tryz.prog ((laidWorldE os).forCall (fun _ _ => 0) ⟨#[], #[.bool false, .agg #[.slice none 0 0, .int .i64 0, .int .i64 0, .int .i64 0, .int .i64 0, .slice none 0 0, .slice none 0 0, .bool false], .slice none 0 0], []⟩).memory Tryz.f5.params.toList Rows.envelopeSizesSpec.vars false (#[.bool false, .agg #[.slice none 0 0, .int .i64 0, .int .i64 0, .int .i64 0, .int .i64 0, .slice none 0 0, .slice none 0 0, .bool false], .slice none 0 0] : Array Value).toList 8 = some ([.lit (.bool false), .agg [.nil, .lit (.int .i64 0), .lit (.int .i64 0), .agg [.lit (.int .i64 0), .lit (.int .i64 0)], .nil, .nil, .lit (.bool false)], .nil], [], places) :=
  ⟨[], by kernel_rfl⟩

set_option maxRecDepth 100000 in
theorem lifted (os : Os) (started : os.Started) (H : Type) (enc : TypeId × Value → H) (F : Stop.Interp) :
    ReturnsInHanded {} Tryz.checked os 5 .any ((OpenSpec.ofChange Rows.envelopeSizesSpec).preRow enc Tryz.prog Tryz.f5 Rows.envelopeSizesRow.domain false Rows.envelopeSizesRow.laid) (((OpenSpec.ofChange Rows.envelopeSizesSpec).at F).post enc Tryz.prog Tryz.f5 false true false false) := by
  obtain ⟨places, hx⟩ := reads os enc
  refine returnsInHanded_of_row (C := Tryz.checked) (s := OpenSpec.ofChange Rows.envelopeSizesSpec) own_ started (by kernel_rfl) Tryz.func5
    (witness_row_at (enc := enc) (C := Tryz.checked) false (laidWorldE os) #[.bool false, .agg #[.slice none 0 0, .int .i64 0, .int .i64 0, .int .i64 0, .int .i64 0, .slice none 0 0, .slice none 0 0, .bool false], .slice none 0 0] rfl (by kernel_rfl) (by kernel_rfl) (by kernel_rfl)
      (OpenSpec.preRow_of_cond 8 hx (by kernel_rfl) (fun k hk => by cases hk) (by kernel_rfl) (laid_metE os))) ?_
  intro W base args ds gs before hval hW _ _ _ hL _ _
  exact contract H enc W base args ds gs before hval hW hL

theorem said : Rows.EnvelopeSizesSaid :=
  OpenClaim.holds_of_cond 5 Tryz.f5 rfl rfl rfl rfl rfl rfl rfl ⟨rfl, rfl, rfl, rfl, rfl⟩ rfl rfl rfl rfl rfl (by kernel_rfl) Tryz.func5 (by kernel_rfl)
    (of_decide_eq_true (by kernel_rfl)) (by unfold Func.isWrapper; first | (rw [if_pos (by decide +kernel)]; kernel_rfl) | (rw [if_neg (by decide +kernel)]; exact ⟨rfl, rfl⟩))
    (fun os started H enc _ F => by rw [OpenClaim.pre_eq_preRow]; exact lifted os started H enc F)

/-- No parameter wants a stand-in; the program's own looks are off: what the card asks. -/
theorem plain (f : FuncId) (fn : Func) (hf : Tryz.pinned.checked.prog.funcNamed "casket/casketlaw13.EnvelopeSizes" = some f) (hfn : Tryz.pinned.checked.prog.funcs[f]? = some fn) :
    false = Tryz.pinned.checked.prog.looks [] ∧ ∀ (j : Nat) t, fn.params[j]? = some t → Tryz.pinned.checked.prog.wantsStandIn t = false := by
  obtain rfl : f = 5 := Option.some.inj ((show Tryz.prog.funcNamed "casket/casketlaw13.EnvelopeSizes" = some 5 by kernel_rfl).symm.trans hf) |>.symm
  obtain rfl : fn = Tryz.f5 := (Option.some.inj (Tryz.func5.symm.trans hfn)).symm
  refine ⟨by kernel_rfl, fun j t ht => ?_⟩
  rw [Tryz.params5] at ht
  have hm := Array.mem_of_getElem? ht
  simp only [List.mem_toArray, List.mem_cons, List.not_mem_nil, or_false] at hm
  rcases hm with rfl | rfl | rfl
  · exact (show Tryz.prog.wantsStandIn 4 = false by kernel_rfl)
  · exact (show Tryz.prog.wantsStandIn 48 = false by kernel_rfl)
  · exact (show Tryz.prog.wantsStandIn 30 = false by kernel_rfl)

/-- The card. -/
theorem proved : Rows.EnvelopeSizesCardSaid :=
  Claim7.holds_tied_plain_at .later [] _ _ _ _ said (fun _ h => by cases h) (by kernel_rfl) (fun _ h => by cases h) envelopeSizes_row_tie rfl ⟨rfl, rfl⟩ (by kernel_rfl) rfl plain (by kernel_rfl)
#print axioms proved
end Go.Proofs.YthbkbmckmoleiaaGreatDoor.envelopeSizes
