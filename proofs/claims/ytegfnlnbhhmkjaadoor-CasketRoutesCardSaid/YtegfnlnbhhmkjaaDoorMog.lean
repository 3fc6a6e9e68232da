/-
  msg.Write.
-/
import Derived.Test.YtegfnlnbhhmkjaaDoorMD
namespace Go.Proofs.YtegfnlnbhhmkjaaDoor
set_option maxRecDepth 100000
open Go.RowKit
set_option linter.unusedVariables false
set_option linter.unusedSimpArgs false

/-- A message's answer: its bytes, or that there are none. -/
def DnP (m : MgV) (A : Option Addr) (n c : Nat) (er : Int) (base : Nat) (w' : World) : Prop :=
  (MgOk m → er = 0 ∧ n = (mgB m).length ∧ Own8 w' base (.slice A n c) (mgB m)) ∧ (¬ MgOk m → er = 2 ∧ A = none ∧ n = 0 ∧ c = 0)
def WrP (m : MgV) (w : World) (e : Ending) (w' : World) : Prop := ∃ A n c er, e = .returned (.tuple #[.slice A n c, .int .i64 er]) ∧ DnP m A n c er w.heap.size w' ∧ Below w.heap.size w w'
theorem DnP.lower {m : MgV} {A : Option Addr} {n c : Nat} {er : Int} {base base' : Nat} {w' : World} (h : DnP m A n c er base w') (hb : base' ≤ base) : DnP m A n c er base' w' :=
  ⟨fun k => ⟨(h.1 k).1, (h.1 k).2.1, (h.1 k).2.2.lower hb⟩, h.2⟩
theorem mw_done {w2 W : World} {g b : Nat} {st : Option (List UInt8)} (m : MgV) (h : MwS w2 g st b W) (hst : st = bdS m (hdS m)) (hb : b ≤ 140737488355328) :
    Calls Tryd.prog 29 #[.pointer (some ⟨g, 0, none⟩)] W (WrP m W) := by
  obtain ⟨F, h1, _⟩ := h
  by_cases hok : MgOk m
  · rw [hst, wrS_some.2 ⟨hok, rfl⟩] at h1
    exact (done_yes W g _ _ b F h1 rfl hb).mono fun e w' ⟨A, c, he, ho, hB⟩ => ⟨A, _, c, 0, he, ⟨fun _ => ⟨rfl, rfl, ho⟩, fun hn => absurd hok hn⟩, hB⟩
  · rw [hst, wrS_none hok] at h1
    exact (done_no W g b F h1 hb).mono fun e w' ⟨he, hB⟩ => ⟨none, 0, 0, 2, he, ⟨fun hy => absurd hy hok, fun _ => ⟨rfl, rfl, rfl, rfl⟩⟩, hB⟩
theorem zOut (W : World) : (zeroValue 75).run Tryd.prog W = .ok (.agg #[.pointer none, .int .i64 0, .bool false, .bool false]) W := by kernel_rfl
/-- No list is greater than is reckoned with. -/
structure MgA.Few (q : MgA) : Prop where
  set : q.row.r.set.length ≤ 1048576
  ats : q.ats.length ≤ 100000
  digs : q.digs.length ≤ 100000
  rows : q.rows.length ≤ 1000
  sets : ∀ r ∈ q.rows, r.r.set.length ≤ 1048576
theorem RdG.rd1 {α : Type} {N : Enc α} {w w2 : World} {A : Option Addr} {l : List α} {B g : Nat} (h : RdG N w B A l) (hb : Below B w w2) (hB : B ≤ g) (hg : B ≤ w2.heap.size) : RdGF N w2 [g] A l :=
  (h.below hb).rdgf hg (fun k hk => by rw [List.mem_singleton.1 hk]; exact hB)
theorem Rd.rd1 {w w2 : World} {A : Option Addr} {l : List UInt8} {B g : Nat} (h : Rd w B A l) (hb : Below B w w2) (hB : B ≤ g) (hg : B ≤ w2.heap.size) : RdF w2 [g] A l :=
  (h.below hb).rdf hg (fun k hk => by rw [List.mem_singleton.1 hk]; exact hB)
set_option maxRecDepth 100000 in
set_option maxHeartbeats 16000000 in
theorem write_any (w : World) (q : MgA) (hq : q.Ok w w.heap.size) (hf : q.Few) :
    Calls Tryd.prog 8 #[.agg (mgC q).toArray] w (WrP q.v w) := by
  obtain ⟨kind, frm, ask, err, for_, level, ⟨⟨K, s⟩, sa, sc⟩, ats, aa, ac, digs, da, dc, rows, ra, rc⟩ := q
  obtain ⟨g, hg⟩ : ∃ g, w.heap.size = g := ⟨_, rfl⟩
  obtain ⟨w1, hw1⟩ : ∃ x, w.alloc (.cells (mgC ⟨kind, frm, ask, err, for_, level, ⟨⟨K, s⟩, sa, sc⟩, ats, aa, ac, digs, da, dc, rows, ra, rc⟩).toArray 45) = x := ⟨_, rfl⟩
  obtain ⟨w2, hw2⟩ : ∃ x, w1.alloc (.cells #[.pointer none, .int .i64 0, .bool false, .bool false] 75) = x := ⟨_, rfl⟩
  have M1 := show Bk w1 g 45 (mgC ⟨kind, frm, ask, err, for_, level, ⟨⟨K, s⟩, sa, sc⟩, ats, aa, ac, digs, da, dc, rows, ra, rc⟩).toArray by rw [← hw1, ← hg]; exact Bk.new w _ _
  have X1 := show Below g w w1 by rw [← hw1, ← hg]; exact (Below.refl _ _).alloc (Nat.le_refl _) _
  have S1 : w1.heap.size = g + 1 := by rw [← hw1, ← hg]; simp
  have b2 : Below w1.heap.size w1 w2 := by rw [← hw2]; exact (Below.refl _ _).alloc (Nat.le_refl _) _
  have S2 : w2.heap.size = g + 2 := by rw [← hw2]; simp [S1]
  have M2 := hidm_ (M1.below b2 M1.lt)
  have X2 := hidm_ (X1.trans (b2.mono (by omega)))
  have T0 := hidm_ (show MwS w2 (g + 1) (some []) 0 w2 from ⟨[g + 1], ⟨[], false, by rw [← S1, ← hw2]; exact OutF.zero w1, by simp, .inl ⟨rfl, rfl⟩⟩, Grew.refl _ _, Untouched.refl _ _⟩)
  rw [hg] at hq
  have KL := hidm_ (show K.length = 32 from hq.row.key)
  have HB := hidm_ (show ∀ st b W, MwS w2 (g + 1) st b W → Bk W g 45 (mgC ⟨kind, frm, ask, err, for_, level, ⟨⟨K, s⟩, sa, sc⟩, ats, aa, ac, digs, da, dc, rows, ra, rc⟩).toArray from fun st b W h => by
    obtain ⟨F, _, _, hU⟩ := h
    exact M2.out.untouched hU (by simp))
  have HX := hidm_ (show ∀ st b W, MwS w2 (g + 1) st b W → Below g w W from fun st b W h => by
    obtain ⟨F, _, _, hU⟩ := h
    exact X2.out.trans (hU.below (fun k hk => by rw [List.mem_singleton.1 hk]; omega) (by omega)))
  have C39 := hidm_ (show ∀ st b W, MwS w2 (g + 1) st b W → W.cell? ⟨g, 39, none⟩ = some (.slice aa ats.length ac) ∧ W.cell? ⟨g, 40, none⟩ = some (.slice da digs.length dc) ∧ W.cell? ⟨g, 41, none⟩ = some (.slice ra rows.length rc) from fun st b W h =>
    ⟨((HB.out st b W h).cell (39 + 0)).trans (mgC_hi _ KL.out 0), ((HB.out st b W h).cell (39 + 1)).trans (mgC_hi _ KL.out 1), ((HB.out st b W h).cell (39 + 2)).trans (mgC_hi _ KL.out 2)⟩)
  have CK := hidm_ (show ∀ st b W, MwS w2 (g + 1) st b W → ∀ j, j < (krC ⟨⟨K, s⟩, sa, sc⟩).toArray.size → W.cell? ⟨g, 6 + j, none⟩ = (krC ⟨⟨K, s⟩, sa, sc⟩).toArray[j]? from fun st b W h j hj =>
    ((HB.out st b W h).cell (6 + j)).trans (mgC_row _ KL.out j (by rw [List.size_toArray, krC_len _ KL.out] at hj; exact hj)))
  have CQ := hidm_ (show ∀ st b W, MwS w2 (g + 1) st b W → ∀ j, j < (rowOf K).size → W.cell? ⟨g, 6 + j, none⟩ = (rowOf K)[j]? from fun st b W h j hj =>
    (CK.out st b W h j (by rw [List.size_toArray, krC_len _ KL.out]; rw [rowOf_size] at hj; have := KL.out; omega)).trans (krC_key _ KL.out j (by rw [rowOf_size] at hj; have := KL.out; omega)))
  have RR := hidm_ (show RdF w2 [g + 1] sa s from hq.row.rd.rd1 X2.out (by omega) (by omega))
  have RA := hidm_ (show RdGF intE w2 [g + 1] aa ats from hq.ats.rd1 X2.out (by omega) (by omega))
  have RD := hidm_ (show RdGF digE w2 [g + 1] da digs from hq.digs.rd1 X2.out (by omega) (by omega))
  have RW := hidm_ (show RdGF krE w2 [g + 1] ra rows from hq.rows.rd1 X2.out (by omega) (by omega))
  have RK := hidm_ (show ∀ r ∈ rows, r.r.key.length = 32 ∧ RdF w2 [g + 1] r.sa r.r.set ∧ r.r.set.length ≤ 1048576 from fun r hr => ⟨(hq.rok r hr).key, (hq.rok r hr).rd.rd1 X2.out (by omega) (by omega), hf.sets r hr⟩)
  have D32 := hidm_ (show ∀ x ∈ digs, x.length = 32 from hq.d32)
  obtain ⟨nA, hnA⟩ : ∃ n, ats.length = n := ⟨_, rfl⟩
  obtain ⟨nD, hnD⟩ : ∃ n, digs.length = n := ⟨_, rfl⟩
  obtain ⟨nR, hnR⟩ : ∃ n, rows.length = n := ⟨_, rfl⟩
  obtain ⟨nS, hnS⟩ : ∃ n, s.length = n := ⟨_, rfl⟩
  have fA : nA ≤ 100000 := by rw [← hnA]; exact hf.ats
  have fD : nD ≤ 100000 := by rw [← hnD]; exact hf.digs
  have fR : nR ≤ 1000 := by rw [← hnR]; exact hf.rows
  have fS : nS ≤ 1048576 := by rw [← hnS]; exact hf.set
  simp only [hnA, hnD, hnR] at C39
  have HNA := hidm_ hnA
  have HND := hidm_ hnD
  have HNR := hidm_ hnR
  have HNS := hidm_ hnS
  have HG := hidm_ hg
  have i33 := hidm_ (i33m ⟨⟨K, s⟩, sa, sc⟩ KL.out)
  have i32 := hidm_ (show (Tryd.prog.info? 23).map (·.size) = some (rowOf K).size by rw [rowOf_size, KL.out]; kernel_rfl)
  have hz := zOut
  clear hq hf hnA hnD hnR hnS M1 X1 b2
  go_enter Tryd.func8, Tryd.ntmps8
  go_upto_region 2 with fail
  clear hw1 hw2 S1 hg hz
  have hc : w2.cell? ⟨g, 0, none⟩ = some (.int .i64 kind) := ((HB.out _ _ _ T0.out).cell 0).trans rfl
  have cc := mw_small T0.out kind 7 (by omega) (by omega)
  go_upto_region 3 with (go_at_call 21; ((with_reducible refine cc.mono ?_); clear cc; rintro e u1 ⟨rfl, hs⟩; have T1 := hidm_ hs; clear hs))
  clear hc T0
  have hc : u1.cell? ⟨g, 1, none⟩ = some (.int .i64 frm) := ((HB.out _ _ _ T1.out).cell 1).trans rfl
  have cc := mw_small T1.out frm 8 (by omega) (by omega)
  go_upto_region 4 with (go_at_call 21; ((with_reducible refine cc.mono ?_); clear cc; rintro e u2 ⟨rfl, hs⟩; have T2 := hidm_ hs; clear hs))
  clear hc T1
  have hc : u2.cell? ⟨g, 2, none⟩ = some (.int .i64 ask) := ((HB.out _ _ _ T2.out).cell 2).trans rfl
  have cc := mw_num T2.out ask 4611686018427387904 (by omega) (by omega)
  go_upto_region 5 with (go_at_call 22; ((with_reducible refine cc.mono ?_); clear cc; rintro e u3 ⟨rfl, hs⟩; have T3 := hidm_ hs; clear hs))
  clear hc T2
  have hc0 : u3.cell? ⟨g, 0, none⟩ = some (.int .i64 kind) := ((HB.out _ _ _ T3.out).cell 0).trans rfl
  have HQ := hidm_ (show (⟨kind, frm, ask, err, for_, level, ⟨K, s⟩, ats, digs, rows.map (·.r)⟩ : MgV) = MgA.v ⟨kind, frm, ask, err, for_, level, ⟨⟨K, s⟩, sa, sc⟩, ats, aa, ac, digs, da, dc, rows, ra, rc⟩ from rfl)
  have T3' := hidm_ (show MwS w2 (g + 1) (hdS (MgA.v ⟨kind, frm, ask, err, for_, level, ⟨⟨K, s⟩, sa, sc⟩, ats, aa, ac, digs, da, dc, rows, ra, rc⟩)) 10 u3 from T3.out)
  clear T3
  by_cases k1 : kind = 1
  case pos =>
    subst k1
    have hcr := CK.out _ _ _ T3'.out
    have cc := mw_row T3'.out ⟨⟨K, s⟩, sa, sc⟩ KL.out RR.out (by show s.length ≤ _; rw [HNS.out]; omega) (by show _ + s.length ≤ _; rw [HNS.out]; omega)
    go_wp2_with (first
      | (refine wpList_load_sub rfl 41 (.tmp 19) rfl g 6 rfl (krC ⟨⟨K, s⟩, sa, sc⟩).toArray hcr _ Tryd.underlying41 rfl i33.out ?_)
      | (go_at_call 23; ((with_reducible refine cc.mono ?_); clear cc; rintro e u4 ⟨rfl, hs⟩; have T4 := hidm_ hs; clear hs; have cd := mw_done (MgA.v ⟨1, frm, ask, err, for_, level, ⟨⟨K, s⟩, sa, sc⟩, ats, aa, ac, digs, da, dc, rows, ra, rc⟩) T4.out (by simp [bdS, MgA.v]) (by show _ + s.length ≤ _; rw [HNS.out]; omega)))
      | (go_at_call 29; ((with_reducible refine cd.mono ?_); clear cd; rintro e u9 ⟨A9, n9, c9, er9, rfl, hd9, hb9⟩; have D9 := hidm_ hd9; have B9 := hidm_ hb9; clear hd9 hb9)))
    go_ret2
    exact ⟨A9, n9, c9, er9, rfl, D9.out.lower (HX.out _ _ _ T4.out).size, by have h9 := HX.out _ _ _ T4.out; have h8 := HX.out _ _ _ T4.out; rw [← HG.out] at h9; exact h9.trans (B9.out.mono h8.size)⟩
  by_cases k4 : kind = 4
  case pos =>
    subst k4
    have hcr := CK.out _ _ _ T3'.out
    have cc := mw_row T3'.out ⟨⟨K, s⟩, sa, sc⟩ KL.out RR.out (by show s.length ≤ _; rw [HNS.out]; omega) (by show _ + s.length ≤ _; rw [HNS.out]; omega)
    go_wp2_with (first
      | (refine wpList_load_sub rfl 41 (.tmp 19) rfl g 6 rfl (krC ⟨⟨K, s⟩, sa, sc⟩).toArray hcr _ Tryd.underlying41 rfl i33.out ?_)
      | (go_at_call 23; ((with_reducible refine cc.mono ?_); clear cc; rintro e u4 ⟨rfl, hs⟩; have T4 := hidm_ hs; clear hs; have cd := mw_done (MgA.v ⟨4, frm, ask, err, for_, level, ⟨⟨K, s⟩, sa, sc⟩, ats, aa, ac, digs, da, dc, rows, ra, rc⟩) T4.out (by simp [bdS, MgA.v]) (by show _ + s.length ≤ _; rw [HNS.out]; omega)))
      | (go_at_call 29; ((with_reducible refine cd.mono ?_); clear cd; rintro e u9 ⟨A9, n9, c9, er9, rfl, hd9, hb9⟩; have D9 := hidm_ hd9; have B9 := hidm_ hb9; clear hd9 hb9)))
    go_ret2
    exact ⟨A9, n9, c9, er9, rfl, D9.out.lower (HX.out _ _ _ T4.out).size, by have h9 := HX.out _ _ _ T4.out; have h8 := HX.out _ _ _ T4.out; rw [← HG.out] at h9; exact h9.trans (B9.out.mono h8.size)⟩
  by_cases k2 : kind = 2
  case pos =>
    subst k2
    have hcz : u3.cell? ⟨g, 3, none⟩ = some (.int .i64 err) := ((HB.out _ _ _ T3'.out).cell 3).trans rfl
    have cc := mw_small T3'.out err 255 (by omega) (by omega)
    go_wp2_with (first
      | (go_at_call 21; ((with_reducible refine cc.mono ?_); clear cc; rintro e u4 ⟨rfl, hs⟩; have T4 := hidm_ hs; clear hs; have cd := mw_done (MgA.v ⟨2, frm, ask, err, for_, level, ⟨⟨K, s⟩, sa, sc⟩, ats, aa, ac, digs, da, dc, rows, ra, rc⟩) T4.out (by simp [bdS, MgA.v]) (by omega)))
      | (go_at_call 29; ((with_reducible refine cd.mono ?_); clear cd; rintro e u9 ⟨A9, n9, c9, er9, rfl, hd9, hb9⟩; have D9 := hidm_ hd9; have B9 := hidm_ hb9; clear hd9 hb9)))
    go_ret2
    exact ⟨A9, n9, c9, er9, rfl, D9.out.lower (HX.out _ _ _ T4.out).size, by have h9 := HX.out _ _ _ T4.out; have h8 := HX.out _ _ _ T4.out; rw [← HG.out] at h9; exact h9.trans (B9.out.mono h8.size)⟩
  by_cases k3 : kind = 3
  case pos =>
    subst k3
    have hcr := CQ.out _ _ _ T3'.out
    have cc := mw_fixed T3'.out K KL.out (by omega)
    go_wp2_with (first
      | (refine wpList_load_sub rfl 23 (.tmp 30) rfl g 6 rfl (rowOf K) hcr _ Tryd.underlying23 rfl i32.out ?_)
      | (go_at_call 24; ((with_reducible refine cc.mono ?_); clear cc; rintro e u4 ⟨rfl, hs⟩; have T4 := hidm_ hs; clear hs; have cd := mw_done (MgA.v ⟨3, frm, ask, err, for_, level, ⟨⟨K, s⟩, sa, sc⟩, ats, aa, ac, digs, da, dc, rows, ra, rc⟩) T4.out (by simp [bdS, MgA.v]) (by omega)))
      | (go_at_call 29; ((with_reducible refine cd.mono ?_); clear cd; rintro e u9 ⟨A9, n9, c9, er9, rfl, hd9, hb9⟩; have D9 := hidm_ hd9; have B9 := hidm_ hb9; clear hd9 hb9)))
    go_ret2
    exact ⟨A9, n9, c9, er9, rfl, D9.out.lower (HX.out _ _ _ T4.out).size, by have h9 := HX.out _ _ _ T4.out; have h8 := HX.out _ _ _ T4.out; rw [← HG.out] at h9; exact h9.trans (B9.out.mono h8.size)⟩
  by_cases k5 : kind = 5
  case pos =>
    subst k5
    have hcz : u3.cell? ⟨g, 4, none⟩ = some (.int .i64 for_) := ((HB.out _ _ _ T3'.out).cell 4).trans rfl
    have cc := mw_small T3'.out for_ 7 (by omega) (by omega)
    go_wp2_with (first
      | (refine wpList_load_sub rfl 41 (.tmp 38) rfl g 6 rfl (krC ⟨⟨K, s⟩, sa, sc⟩).toArray hcr _ Tryd.underlying41 rfl i33.out ?_)
      | (go_at_call 21; ((with_reducible refine cc.mono ?_); clear cc; rintro e u4 ⟨rfl, hs⟩; have T4 := hidm_ hs; clear hs; have hcr := CK.out _ _ _ T4.out; have cc := mw_row T4.out ⟨⟨K, s⟩, sa, sc⟩ KL.out RR.out (by show s.length ≤ _; rw [HNS.out]; omega) (by show _ + s.length ≤ _; rw [HNS.out]; omega)))
      | (go_at_call 23; ((with_reducible refine cc.mono ?_); clear cc; rintro e u5 ⟨rfl, hs⟩; have T5 := hidm_ hs; clear hs; have cd := mw_done (MgA.v ⟨5, frm, ask, err, for_, level, ⟨⟨K, s⟩, sa, sc⟩, ats, aa, ac, digs, da, dc, rows, ra, rc⟩) T5.out (by simp [bdS, MgA.v]) (by show _ + s.length ≤ _; rw [HNS.out]; omega)))
      | (go_at_call 29; ((with_reducible refine cd.mono ?_); clear cd; rintro e u9 ⟨A9, n9, c9, er9, rfl, hd9, hb9⟩; have D9 := hidm_ hd9; have B9 := hidm_ hb9; clear hd9 hb9)))
    go_ret2
    exact ⟨A9, n9, c9, er9, rfl, D9.out.lower (HX.out _ _ _ T5.out).size, by have h9 := HX.out _ _ _ T5.out; have h8 := HX.out _ _ _ T5.out; rw [← HG.out] at h9; exact h9.trans (B9.out.mono h8.size)⟩
  by_cases k6 : kind = 6
  case pos =>
    subst k6
    have hcz : u3.cell? ⟨g, 5, none⟩ = some (.int .i64 level) := ((HB.out _ _ _ T3'.out).cell 5).trans rfl
    have cc := mw_small T3'.out level 4 (by omega) (by omega)
    go_wp2_with (first
      | (go_at_call 21; ((with_reducible refine cc.mono ?_); clear cc; rintro e u4 ⟨rfl, hs⟩; have T4 := hidm_ hs; clear hs; have hca := (C39.out _ _ _ T4.out).1; have cc := mw_ats T4.out aa nA ac ats HNA.out RA.out fA (by omega)))
      | (go_at_call 25; ((with_reducible refine cc.mono ?_); clear cc; rintro e u5 ⟨rfl, hs⟩; have T5 := hidm_ hs; clear hs; have hcb := (C39.out _ _ _ T5.out).2.1; have cc := mw_digs T5.out da nD dc digs HND.out RD.out D32.out fD (by omega)))
      | (go_at_call 27; ((with_reducible refine cc.mono ?_); clear cc; rintro e u6 ⟨rfl, hs⟩; have T6 := hidm_ hs; clear hs; have cd := mw_done (MgA.v ⟨6, frm, ask, err, for_, level, ⟨⟨K, s⟩, sa, sc⟩, ats, aa, ac, digs, da, dc, rows, ra, rc⟩) T6.out (by simp [bdS, MgA.v, ← HNA.out, ← HND.out]) (by omega)))
      | (go_at_call 29; ((with_reducible refine cd.mono ?_); clear cd; rintro e u9 ⟨A9, n9, c9, er9, rfl, hd9, hb9⟩; have D9 := hidm_ hd9; have B9 := hidm_ hb9; clear hd9 hb9)))
    go_ret2
    exact ⟨A9, n9, c9, er9, rfl, D9.out.lower (HX.out _ _ _ T6.out).size, by have h9 := HX.out _ _ _ T6.out; have h8 := HX.out _ _ _ T6.out; rw [← HG.out] at h9; exact h9.trans (B9.out.mono h8.size)⟩
  by_cases k7 : kind = 7
  case pos =>
    subst k7
    have hca := (C39.out _ _ _ T3'.out).1
    have cc := mw_ats T3'.out aa nA ac ats HNA.out RA.out fA (by omega)
    go_wp2_with (first
      | (go_at_call 25; ((with_reducible refine cc.mono ?_); clear cc; rintro e u5 ⟨rfl, hs⟩; have T5 := hidm_ hs; clear hs; have hcb := (C39.out _ _ _ T5.out).2.2; have cc := mw_rows T5.out ra nR rc rows HNR.out RW.out RK.out (by omega) (by omega)))
      | (go_at_call 28; ((with_reducible refine cc.mono ?_); clear cc; rintro e u6 ⟨rfl, hs⟩; have T6 := hidm_ hs; clear hs; have cd := mw_done (MgA.v ⟨7, frm, ask, err, for_, level, ⟨⟨K, s⟩, sa, sc⟩, ats, aa, ac, digs, da, dc, rows, ra, rc⟩) T6.out (by simp [bdS, MgA.v, ← HNA.out, ← HNR.out, foldP_map]) (by omega)))
      | (go_at_call 29; ((with_reducible refine cd.mono ?_); clear cd; rintro e u9 ⟨A9, n9, c9, er9, rfl, hd9, hb9⟩; have D9 := hidm_ hd9; have B9 := hidm_ hb9; clear hd9 hb9)))
    go_ret2
    exact ⟨A9, n9, c9, er9, rfl, D9.out.lower (HX.out _ _ _ T6.out).size, by have h9 := HX.out _ _ _ T6.out; have h8 := HX.out _ _ _ T6.out; rw [← HG.out] at h9; exact h9.trans (B9.out.mono h8.size)⟩
  have d1 : decide (kind = 1) = false := decide_eq_false k1
  have d2 : decide (kind = 2) = false := decide_eq_false k2
  have d3 : decide (kind = 3) = false := decide_eq_false k3
  have d4 : decide (kind = 4) = false := decide_eq_false k4
  have d5 : decide (kind = 5) = false := decide_eq_false k5
  have d6 : decide (kind = 6) = false := decide_eq_false k6
  have d7 : decide (kind = 7) = false := decide_eq_false k7
  have q1 : (kind == 1) = false := by simpa using k1
  have q2 : (kind == 2) = false := by simpa using k2
  have q3 : (kind == 3) = false := by simpa using k3
  have q4 : (kind == 4) = false := by simpa using k4
  have q5 : (kind == 5) = false := by simpa using k5
  have q6 : (kind == 6) = false := by simpa using k6
  have q7 : (kind == 7) = false := by simpa using k7
  have NO := hidm_ (show ¬ MgOk (MgA.v ⟨kind, frm, ask, err, for_, level, ⟨⟨K, s⟩, sa, sc⟩, ats, aa, ac, digs, da, dc, rows, ra, rc⟩) from fun h => by
    have h1 := h.1
    have h2 : 1 ≤ kind ∧ kind ≤ 7 := h1
    omega)
  clear k1 k2 k3 k4 k5 k6 k7
  go_wp2
  go_ret2
  exact ⟨none, 0, 0, 2, rfl, ⟨fun h => absurd h NO.out, fun _ => ⟨rfl, rfl, rfl, rfl⟩⟩, by rw [HG.out]; exact HX.out _ _ _ T3'.out⟩
end Go.Proofs.YtegfnlnbhhmkjaaDoor
