/-
  casketlaw22.tame.
-/
import Derived.Test.YtnlipmcnpekifaaMotw
namespace Go.Proofs.Ytnlipmcnpekifaa
set_option maxRecDepth 100000
open Go.RowKit
set_option linter.unusedVariables false
set_option linter.unusedSimpArgs false

/-- A message of the document's whose rows are the call's own. -/
structure RmV.Own (w : World) (B : Nat) (q : RmV) : Prop where
  ats : OwnG intE 3 w B (.slice q.aa q.ats.length q.ac) q.ats
  digs : OwnG strE 9 w B (.slice q.da q.digs.length q.dc) q.digs
  rows : OwnG rrE 23 w B (.slice q.ra q.rows.length q.rc) q.rows
theorem RmV.Own.ok {w : World} {B : Nat} {q : RmV} (h : q.Own w B) : q.Ok w w.heap.size := ⟨h.ats.rd.1, h.digs.rd.1, h.rows.rd.1⟩
theorem RmV.Own.keep {w w' : World} {B : Nat} {q : RmV} (h : q.Own w B) {F : List Nat} (hu : Untouched F w w') (hF : ∀ k ∈ F, k < B) : q.Own w' B :=
  ⟨h.ats.keep hu (fun k hk hm => by have := hF k hm; have := (h.ats.lt k hk).1; omega), h.digs.keep hu (fun k hk hm => by have := hF k hm; have := (h.digs.lt k hk).1; omega), h.rows.keep hu (fun k hk hm => by have := hF k hm; have := (h.rows.lt k hk).1; omega)⟩
def TmP (q : RmV) (w : World) (e : Ending) (w' : World) : Prop := ∃ q' : RmV, e = .returned (.agg (rmC q')) ∧ q'.v = tm q.v ∧ q'.Own w' w.heap.size ∧ Below w.heap.size w w'
set_option maxRecDepth 100000 in
set_option maxHeartbeats 16000000 in
theorem tame_any (w : World) (q : RmV) (hq : q.Ok w w.heap.size) (hA : q.ats.length ≤ q.ac) (hD : q.digs.length ≤ 9223372036854775807) (hR : q.rows.length ≤ 9223372036854775807) :
    Calls Try.prog 6 #[.agg (rmC q)] w (TmP q w) := by
  obtain ⟨k, f, q, er, fo, lv, K, S, xs, A1, c1, ds, A2, c2, rs, A3, c3⟩ := q
  obtain ⟨g, hg⟩ : ∃ g, w.heap.size = g := ⟨_, rfl⟩
  obtain ⟨w1, hw1⟩ : ∃ x, w.alloc (.cells (rmC (⟨k, f, q, er, fo, lv, K, S, xs, A1, c1, ds, A2, c2, rs, A3, c3⟩ : RmV)) 28) = x := ⟨_, rfl⟩
  obtain ⟨w2, hw2⟩ : ∃ x, w1.alloc (.cells (rmC rmZ) 28) = x := ⟨_, rfl⟩
  have S1 : w1.heap.size = g + 1 := by rw [← hw1, ← hg]; simp
  have B1_ := show Below w.heap.size w w1 by rw [← hw1]; exact (Below.refl _ _).alloc (Nat.le_refl _) _
  have B2_ := show Below w1.heap.size w1 w2 by rw [← hw2]; exact (Below.refl _ _).alloc (Nat.le_refl _) _
  have T0 := hidm_ (show TmS w g (⟨k, f, q, er, fo, lv, K, S, xs, A1, c1, ds, A2, c2, rs, A3, c3⟩ : RmV) w2 by
    have h0 : Bk w1 g 28 (rmC (⟨k, f, q, er, fo, lv, K, S, xs, A1, c1, ds, A2, c2, rs, A3, c3⟩ : RmV)) := by rw [← hw1, ← hg]; exact Bk.new w _ _
    exact ⟨h0.below B2_ h0.lt, by rw [← hw2, ← S1]; exact Bk.new w1 _ _, by rw [← hg]; exact B1_.trans (B2_.mono (by omega))⟩)
  rw [hg] at hq
  have HQ := hidm_ hq
  have HG := hidm_ hg
  obtain ⟨nS, hnS⟩ : ∃ n, S.length = n := ⟨_, rfl⟩
  obtain ⟨mS, hmS⟩ : ∃ m, m = min nS 200 := ⟨_, rfl⟩
  have hm1 := fun W => run_min2 nS 200 mS hmS W
  rw [show ((200 : Nat) : Int) = 200 from rfl] at hm1
  have hs1 : (strOf S).size = nS := by rw [strOf_size, hnS]
  have hst := fun W => str_to S nS mS hnS (by omega) W
  have hTK := hidm_ (show S.take mS = S.take 200 by
    rw [hmS]
    rcases Nat.le_total nS 200 with h | h
    · rw [Nat.min_eq_left h, List.take_of_length_le (by omega), List.take_of_length_le (by omega)]
    · rw [Nat.min_eq_right h])
  rw [hTK.out] at hst
  obtain ⟨nA, hnA⟩ : ∃ n, xs.length = n := ⟨_, rfl⟩
  obtain ⟨nD, hnD⟩ : ∃ n, ds.length = n := ⟨_, rfl⟩
  obtain ⟨nR, hnR⟩ : ∃ n, rs.length = n := ⟨_, rfl⟩
  have HNA := hidm_ hnA
  have HND := hidm_ hnD
  have HNR := hidm_ hnR
  simp only [hnA] at hA
  simp only [hnD] at hD
  simp only [hnR] at hR
  have hz := zRm
  clear hq hnS hmS hnA hnD hnR B1_ B2_
  go_enter Try.func6, Try.ntmps6
  go_upto_region 1 with fail
  rename_i K9 hK9
  clear hw1 hw2 hg S1 hz
  refine region_byJF [7, 8, 9, 10, 11, 12, 13, 14, 15, 16, 17, 18, 19, 20, 21] (fun _ => True) (fun _ _ => True) (fun jR_ vR_ (wR_ : World) => (match jR_ with | 0 => vR_ = .pointer (some ⟨g, 6, none⟩) | 1 => vR_ = .pointer (some ⟨g, 6, none⟩) | 2 => vR_ = .string (strOf K) | 3 => vR_ = .string (strOf (pad32 K)) | 4 => vR_ = .pointer (some ⟨g, 6, none⟩) | 5 => vR_ = .pointer (some ⟨g, 7, none⟩) | 6 => vR_ = .string (strOf S) | 7 => vR_ = .pointer (some ⟨g, 6, none⟩) | 8 => vR_ = .pointer (some ⟨g, 7, none⟩) | 9 => vR_ = .string (strOf S) | 10 => vR_ = .int .i64 (nS : Int) | 11 => vR_ = .int .i64 (mS : Int) | 12 => vR_ = .string (strOf (S.take 200)) | 13 => vR_ = .agg (rr (pad32 K) (S.take 200)) | 14 => vR_ = .pointer (some ⟨g, 6, none⟩) | _ => True)) (fun D _ W => ChJ [3, 15] (TwC (TmS w g (⟨k, f, q, er, fo, lv, K, S, xs, A1, c1, ds, A2, c2, rs, A3, c3⟩ : RmV)) (TmS w g (⟨k, f, q, er, fo, lv, pad32 K, S.take 200, xs, A1, c1, ds, A2, c2, rs, A3, c3⟩ : RmV))) D W ∧ AllD 15 D) (by kernel_rfl) (by kernel_rfl) (by kernel_rfl) (by kernel_rfl) (fun j v w w' hT hr => hr) (fun j v w hlt hj _ => ?_) trivial ?_ ⟨ChJ.start (show TmS w g (⟨k, f, q, er, fo, lv, K, S, xs, A1, c1, ds, A2, c2, rs, A3, c3⟩ : RmV) _ from T0.out.low (below_drewN (Below.refl _ _) 1)), AllD.start _⟩ ?_
  · rcases j with _ | _ | _ | _ | _ | _ | _ | _ | _ | _ | _ | _ | _ | _ | _ | _ | j
    all_goals first
      | (exfalso; simp [dstOf] at hj; done)
      | trivial
  · refine ⟨fun D a9 W hC hd hsz hf hv hJ hL hW K8 hK => ?_, fun D a9 W hC hd hsz hf hv hJ hL hW K8 hK => ?_, fun D a9 W hC hd hsz hf hv hJ hL hW K8 hK => ?_, fun D a9 W hC hd hsz hf hv hJ hL hW K8 hK => ?_, fun D a9 W hC hd hsz hf hv hJ hL hW K8 hK => ?_, fun D a9 W hC hd hsz hf hv hJ hL hW K8 hK => ?_, fun D a9 W hC hd hsz hf hv hJ hL hW K8 hK => ?_, fun D a9 W hC hd hsz hf hv hJ hL hW K8 hK => ?_, fun D a9 W hC hd hsz hf hv hJ hL hW K8 hK => ?_, fun D a9 W hC hd hsz hf hv hJ hL hW K8 hK => ?_, fun D a9 W hC hd hsz hf hv hJ hL hW K8 hK => ?_, fun D a9 W hC hd hsz hf hv hJ hL hW K8 hK => ?_, fun D a9 W hC hd hsz hf hv hJ hL hW K8 hK => ?_, fun D a9 W hC hd hsz hf hv hJ hL hW K8 hK => ?_, fun D a9 W hC hd hsz hf hv hJ hL hW K8 hK => ?_, fun D a9 W hC hd hsz hf hv hJ hL hW K8 hK => ?_, trivial⟩
    · clear hsz
      have eS1_ := slot_of (a := a9) (s := 1) (v := .pointer (some ⟨g, 0, none⟩)) (hf 1 (by kernel_rfl))
      refine step_run (wanted_none rfl) (v := .pointer (some ⟨g, 6, none⟩)) (w' := W) ?_ (hK _ _ trivial trivial rfl (⟨hJ.1.same 0 (by decide), hJ.2.same 0 (by decide)⟩))
      go_simp
    · clear hsz
      have eS1_ := slot_of (a := a9) (s := 7) (v := .pointer (some ⟨g, 6, none⟩)) (hv 0 (by kernel_rfl))
      refine step_run (wanted_none rfl) (v := .pointer (some ⟨g, 6, none⟩)) (w' := W) ?_ (hK _ _ trivial trivial rfl (⟨hJ.1.same 1 (by decide), hJ.2.same 1 (by decide)⟩))
      go_simp
    · clear hsz
      have eS1_ := slot_of (a := a9) (s := 8) (v := .pointer (some ⟨g, 6, none⟩)) (hv 1 (by kernel_rfl))
      have hT := hJ.1.first (hJ.2.not (by decide) hL)
      have hc9 : W.cell? ⟨g, 6, none⟩ = some (.string (strOf K)) := (hT.m.cell 6).trans rfl
      refine step_run (wanted_none rfl) (v := .string (strOf K)) (w' := W) ?_ (hK _ _ trivial trivial rfl (⟨hJ.1.same 2 (by decide), hJ.2.same 2 (by decide)⟩))
      go_simp
    · clear hsz
      have eS1_ := slot_of (a := a9) (s := 9) (v := .string (strOf K)) (hv 2 (by kernel_rfl))
      obtain ⟨hS, hd⟩ := hJ.1.at_ 0 (by decide) hL (fun j hj e => by omega)
      refine step_callx 15 #[.string (strOf K)] (wanted_none rfl) (w' := W) ?_ ((wide_any W K).mono fun e W2 hh => ?_)
      · go_simp
      · obtain ⟨rfl, hB⟩ := hh
        exact ⟨_, rfl, hK _ _ trivial trivial rfl ⟨ChJ.next 0 (by decide) (by decide) hd (show TmS w g (⟨k, f, q, er, fo, lv, K, S, xs, A1, c1, ds, A2, c2, rs, A3, c3⟩ : RmV) W2 from TmS.low hS hB), hJ.2.same 3 (by decide)⟩⟩
    · clear hsz
      have eS1_ := slot_of (a := a9) (s := 1) (v := .pointer (some ⟨g, 0, none⟩)) (hf 1 (by kernel_rfl))
      refine step_run (wanted_none rfl) (v := .pointer (some ⟨g, 6, none⟩)) (w' := W) ?_ (hK _ _ trivial trivial rfl (⟨hJ.1.same 4 (by decide), hJ.2.same 4 (by decide)⟩))
      go_simp
    · clear hsz
      have eS1_ := slot_of (a := a9) (s := 11) (v := .pointer (some ⟨g, 6, none⟩)) (hv 4 (by kernel_rfl))
      refine step_run (wanted_none rfl) (v := .pointer (some ⟨g, 7, none⟩)) (w' := W) ?_ (hK _ _ trivial trivial rfl (⟨hJ.1.same 5 (by decide), hJ.2.same 5 (by decide)⟩))
      go_simp
    · clear hsz
      have eS1_ := slot_of (a := a9) (s := 12) (v := .pointer (some ⟨g, 7, none⟩)) (hv 5 (by kernel_rfl))
      have hT := hJ.1.first (hJ.2.not (by decide) hL)
      have hc9 : W.cell? ⟨g, 7, none⟩ = some (.string (strOf S)) := (hT.m.cell 7).trans rfl
      refine step_run (wanted_none rfl) (v := .string (strOf S)) (w' := W) ?_ (hK _ _ trivial trivial rfl (⟨hJ.1.same 6 (by decide), hJ.2.same 6 (by decide)⟩))
      go_simp
    · clear hsz
      have eS1_ := slot_of (a := a9) (s := 1) (v := .pointer (some ⟨g, 0, none⟩)) (hf 1 (by kernel_rfl))
      refine step_run (wanted_none rfl) (v := .pointer (some ⟨g, 6, none⟩)) (w' := W) ?_ (hK _ _ trivial trivial rfl (⟨hJ.1.same 7 (by decide), hJ.2.same 7 (by decide)⟩))
      go_simp
    · clear hsz
      have eS1_ := slot_of (a := a9) (s := 14) (v := .pointer (some ⟨g, 6, none⟩)) (hv 7 (by kernel_rfl))
      refine step_run (wanted_none rfl) (v := .pointer (some ⟨g, 7, none⟩)) (w' := W) ?_ (hK _ _ trivial trivial rfl (⟨hJ.1.same 8 (by decide), hJ.2.same 8 (by decide)⟩))
      go_simp
    · clear hsz
      have eS1_ := slot_of (a := a9) (s := 15) (v := .pointer (some ⟨g, 7, none⟩)) (hv 8 (by kernel_rfl))
      have hT := hJ.1.first (hJ.2.not (by decide) hL)
      have hc9 : W.cell? ⟨g, 7, none⟩ = some (.string (strOf S)) := (hT.m.cell 7).trans rfl
      refine step_run (wanted_none rfl) (v := .string (strOf S)) (w' := W) ?_ (hK _ _ trivial trivial rfl (⟨hJ.1.same 9 (by decide), hJ.2.same 9 (by decide)⟩))
      go_simp
    · clear hsz
      have eS1_ := slot_of (a := a9) (s := 16) (v := .string (strOf S)) (hv 9 (by kernel_rfl))
      refine step_run (wanted_none rfl) (v := .int .i64 (nS : Int)) (w' := W) ?_ (hK _ _ trivial trivial rfl (⟨hJ.1.same 10 (by decide), hJ.2.same 10 (by decide)⟩))
      go_simp
    · clear hsz
      have eS1_ := slot_of (a := a9) (s := 17) (v := .int .i64 (nS : Int)) (hv 10 (by kernel_rfl))
      refine step_run (wanted_none rfl) (v := .int .i64 (mS : Int)) (w' := W) ?_ (hK _ _ trivial trivial rfl (⟨hJ.1.same 11 (by decide), hJ.2.same 11 (by decide)⟩))
      go_simp
    · clear hsz
      have eS1_ := slot_of (a := a9) (s := 13) (v := .string (strOf S)) (hv 6 (by kernel_rfl))
      have eS2_ := slot_of (a := a9) (s := 18) (v := .int .i64 (mS : Int)) (hv 11 (by kernel_rfl))
      refine step_run (wanted_none rfl) (v := .string (strOf (S.take 200))) (w' := W) ?_ (hK _ _ trivial trivial rfl (⟨hJ.1.same 12 (by decide), hJ.2.same 12 (by decide)⟩))
      go_simp
    · clear hsz
      have eS1_ := slot_of (a := a9) (s := 10) (v := .string (strOf (pad32 K))) (hv 3 (by kernel_rfl))
      have eS2_ := slot_of (a := a9) (s := 19) (v := .string (strOf (S.take 200))) (hv 12 (by kernel_rfl))
      have eA_ := eval_of (a := a9) (s := 10) (v := .string (strOf (pad32 K))) (hv 3 (by kernel_rfl))
      have eB_ := eval_of (a := a9) (s := 19) (v := .string (strOf (S.take 200))) (hv 12 (by kernel_rfl))
      refine step_builtM (wanted_none rfl) 23 #[(0, .tmp 10), (1, .tmp 19)] rfl (rr (pad32 K) (S.take 200)) ?_ ?_
      · simp only [List.map_toArray, List.map_cons, List.map_nil, eA_, eB_]
        exact built_rr _ _
      · exact hK _ _ trivial trivial rfl (⟨hJ.1.same 13 (by decide), hJ.2.same 13 (by decide)⟩)
    · clear hsz
      have eS1_ := slot_of (a := a9) (s := 1) (v := .pointer (some ⟨g, 0, none⟩)) (hf 1 (by kernel_rfl))
      refine step_run (wanted_none rfl) (v := .pointer (some ⟨g, 6, none⟩)) (w' := W) ?_ (hK _ _ trivial trivial rfl (⟨hJ.1.same 14 (by decide), hJ.2.same 14 (by decide)⟩))
      go_simp
    · clear hsz
      have eS1_ := slot_of (a := a9) (s := 21) (v := .pointer (some ⟨g, 6, none⟩)) (hv 14 (by kernel_rfl))
      have eS2_ := slot_of (a := a9) (s := 20) (v := .agg (rr (pad32 K) (S.take 200))) (hv 13 (by kernel_rfl))
      obtain ⟨hS, hd⟩ := hJ.1.at_ 1 (by decide) hL (fun j hj e => by have hj0 : j = 0 := (by omega); subst hj0; exact hW 3 (by kernel_rfl))
      have hS : TmS w g (⟨k, f, q, er, fo, lv, K, S, xs, A1, c1, ds, A2, c2, rs, A3, c3⟩ : RmV) W := hS
      refine step_store_midM (wanted_none rfl) 23 (.tmp 21) (.tmp 20) rfl g 6 (eval_of (hv 14 (by kernel_rfl))) (rr (pad32 K) (S.take 200)) (eval_of (hv 13 (by kernel_rfl))) 28 (rmC (⟨k, f, q, er, fo, lv, K, S, xs, A1, c1, ds, A2, c2, rs, A3, c3⟩ : RmV)) hS.m (iRr _ _) (by show 6 + 2 ≤ 11; decide) (rr_ones _ _) ?_
      intro W2 k9 g9
      exact hK undef _ trivial trivial trivial ⟨ChJ.next 1 (by decide) (by decide) hd (show TmS w g (⟨k, f, q, er, fo, lv, pad32 K, S.take 200, xs, A1, c1, ds, A2, c2, rs, A3, c3⟩ : RmV) W2 from hS.put k9 (unt_put g9)), AllD.end_ (fun j hj => by rcases j with _ | _ | _ | _ | _ | _ | _ | _ | _ | _ | _ | _ | _ | _ | _ | j <;> first | omega | exact hW _ (by kernel_rfl))⟩
  · intro f9 w6 hC6 hv6 D6 hD6 hJ6
    obtain ⟨a6, hJ, _⟩ := hJ6
    have T1 := hidm_ (show TmS w g (⟨k, f, q, er, fo, lv, pad32 K, S.take 200, xs, A1, c1, ds, A2, c2, rs, A3, c3⟩ : RmV) w6 from hJ.1.last 1 (by decide) rfl (hD6 15 (by decide)))
    clear hv6 hD6 hC6 hJ
    simp only [framed, List.foldl_cons, List.foldl_nil, List.setIfInBounds_toArray, List.set_cons_succ, List.set_cons_zero]
    refine hK9 _ _ ?_
    clear hK9 hm1 hs1 hst T0
    obtain ⟨mA, hmA⟩ : ∃ m, m = min nA 260 := ⟨_, rfl⟩
    have hm1 := fun W => run_min2 nA 260 mA hmA W
    rw [show ((260 : Nat) : Int) = 260 from rfl] at hm1
    have LX := hidm_ (show (xs.take 260).length = mA by rw [List.length_take, HNA.out, hmA, Nat.min_comm])
    have mA2 : mA ≤ 260 := by omega
    have sl := fun W => slice_toI A1 nA c1 (mA : Int) mA rfl (by omega) W
    obtain ⟨w7, hw7⟩ : ∃ x, w6.alloc (.cells #[] 3) = x := ⟨_, rfl⟩
    have B7 := hidm_ (show Below w6.heap.size w6 w7 by rw [← hw7]; exact (Below.refl _ _).alloc (Nat.le_refl _) _)
    have T7 := hidm_ (T1.out.low B7.out)
    have O7 := hidm_ (show OwnG intE 3 w7 (g + 2) (.slice (some ⟨w6.heap.size, 0, none⟩) 0 0) [] from ⟨rfl, .inr ⟨w6.heap.size, 0, #[], rfl, T1.out.lt2, by rw [← hw7]; exact Bk.new w6 _ _, Nat.le_refl _, by decide, rfl, rfl⟩⟩)
    have RA := hidm_ (((HQ.out.ats.take 260).below T7.out.bel) : RdG intE w7 g A1 (xs.take 260))
    have hc7 : w7.cell? ⟨g, 8, none⟩ = some (.slice A1 nA c1) := by rw [← HNA.out]; exact (T7.out.m.cell 8).trans rfl
    clear hmA
    go_upto_region 3 with (refine wpList_appG rfl (.tmp 22) (.tmp 29) rfl Try.underlying24 infoInt O7.out rfl mA c1 rfl RA.out LX.out (by simp; omega) (by decide) T7.out.lt2 ?_; intro B1 d1 w8 k1 k2 k3; rw [show ([] : List Int).length + mA = mA by simp] at k1 k3 ⊢; have O8 := hidm_ k1; have T8 := hidm_ (T7.out.grow k2 (fun j hj => (O7.out.lt j hj).1)); have hcz := T8.out.m.cell 8; have hfz := T8.out.m.frozen 8; simp only [rmC, List.getElem?_toArray, List.getElem?_cons_zero, List.getElem?_cons_succ] at hcz; clear k1 k2 k3)
    generalize hu : w8.setCell _ _ = w9
    have UT := hidm_ (show Untouched [g] w8 w9 by rw [← hu]; exact Untouched.set g 8 (by simp) _)
    have T9 := hidm_ (show TmS w g (⟨k, f, q, er, fo, lv, pad32 K, S.take 200, xs.take 260, B1, d1, ds, A2, c2, rs, A3, c3⟩ : RmV) w9 from T8.out.put (by rw [← hu, ← LX.out]; exact T8.out.m.set_ 8 _) UT.out)
    have O9 := hidm_ (show OwnG intE 3 w9 (g + 2) (.slice B1 mA d1) (xs.take 260) from O8.out.keep UT.out (fun k hk hm => by have h9 := List.mem_singleton.1 hm; have := (O8.out.lt k hk).1; omega))
    clear hu UT hcz hfz T8 O8 O7 T7 B7 RA hm1 sl T1 hw7 hc7
    obtain ⟨mD, hmD⟩ : ∃ m, m = min nD 260 := ⟨_, rfl⟩
    have mD2 : mD ≤ 260 := by omega
    have mD3 : mD ≤ nD := by omega
    have HMD := hidm_ hmD
    clear hmD
    go_upto_region 5 with fail
    go_loopw [3, 4] (fun o i wr => ∃ (k' : Nat) (A' : Option Addr) (c' : Nat), k' ≤ mD ∧ i = .int .i64 k' ∧ o = .slice A' k' c' ∧ Hid (OwnG strE 9 wr (g + 2) (.slice A' k' c') ((ds.take k').map pad32)) ∧ Hid (OwnG intE 3 wr (g + 2) (.slice B1 mA d1) (xs.take 260)) ∧ Hid (TmS w g (⟨k, f, q, er, fo, lv, pad32 K, S.take 200, xs.take 260, B1, d1, ds, A2, c2, rs, A3, c3⟩ : RmV) wr)) (fun _ i _ => mD - (intOf i).toNat)
    case atStart => exact ⟨0, none, 0, Nat.zero_le _, rfl, rfl, hidm_ (OwnG.nil_ _ _ _), O9, T9⟩
    case round =>
      obtain ⟨kk, A', c', hk, rfl, rfl, HO, HA1, HT⟩ := hrel
      clear O9 T9
      have hc9 : wr.cell? ⟨g, 9, none⟩ = some (.slice A2 nD c2) := by rw [← HND.out]; exact (HT.out.m.cell 9).trans rfl
      have HML := hidm_ (show ((ds.take kk).map pad32).length = kk by rw [List.length_map, List.length_take, HND.out]; omega)
      by_cases hlt : kk < mD
      · have tl : (kk : Int) < (nD : Int) := by omega
        have tl2 : (kk : Int) < 260 := by omega
        have hlk : kk < ds.length := by rw [HND.out]; omega
        obtain ⟨bb, off, hA2x, hbl, hcb⟩ := HQ.out.digs (show 0 < ds.length by omega)
        have hA2 : A2 = some ⟨bb, off, none⟩ := hA2x
        clear hA2x
        obtain ⟨z, hz9⟩ : ∃ z, ds[kk] = z := ⟨_, rfl⟩
        have HR1 := hidm_ (show (ds.take (kk + 1)).map pad32 = (ds.take kk).map pad32 ++ [pad32 z] by rw [List.take_succ_eq_append_getElem hlk, hz9]; simp)
        have E1 : wr.cell? ⟨bb, off + kk, none⟩ = some (.string (strOf z)) := (HT.out.bel.cell (p := ⟨bb, _, none⟩) hbl).trans (by have hx := hcb kk hlk 0 (by decide); rw [hz9] at hx; rw [show off + kk = off + kk * 1 + 0 by omega]; exact hx)
        rw [hA2] at hc9
        have ci := wide_any wr z
        clear hz9 hcb hA2 hbl
        go_wp2_with (first
          | (go_at_call 15; ((with_reducible refine ci.mono ?_); clear ci; rintro e w5 ⟨rfl, hB⟩; have T5 := hidm_ (HT.out.low hB); have O5 := hidm_ (HO.out.below hB (Nat.le_refl _)); have A5 := hidm_ (HA1.out.below hB (Nat.le_refl _)); clear hB; obtain ⟨w6', hw6⟩ : ∃ x, w5.alloc (.cells #[.string (strOf (pad32 z))] 9) = x := ⟨_, rfl⟩; have B6 := hidm_ (show Below w5.heap.size w5 w6' by rw [← hw6]; exact (Below.refl _ _).alloc (Nat.le_refl _) _); have K6 := hidm_ (show Bk w6' w5.heap.size 9 (strE.c (pad32 z)).toArray by rw [← hw6]; exact Bk.new w5 _ _); have RA := hidm_ (RdG.of_block K6.out K6.out.lt); have O6 := hidm_ (O5.out.below B6.out (Nat.le_refl _)); have A6 := hidm_ (A5.out.below B6.out (Nat.le_refl _)); have T6 := hidm_ (T5.out.low B6.out)))
          | (refine wpList_appG rfl (.tmp 43) (.tmp 50) rfl Try.underlying25 infoStr O6.out rfl 1 1 rfl RA.out rfl (by have := HML.out; omega) (by decide) T6.out.lt2 ?_; intro A2' c2' w7' k1 k2 k3; rw [HML.out] at k1 k3 ⊢; have O7 := hidm_ k1; have T7 := hidm_ (T6.out.grow k2 (fun j hj => (O6.out.lt j hj).1)); have A7 := hidm_ (A6.out.kept k2 (own_apart A6.out O6.out (by decide))); clear k1 k2 k3))
        go_roundw
        case rel => exact ⟨kk + 1, A2', c2', by omega, by go_num, rfl, hidm_ (by rw [HR1.out]; exact O7.out), A7, T7⟩
        case measure => simp [intOf]; omega
      · obtain rfl : mD = kk := by omega
        have HF := hidm_ (show (ds.take mD).map pad32 = (ds.take 260).map pad32 by
          congr 1
          rcases Nat.le_total nD 260 with h | h
          · rw [List.take_of_length_le (by rw [HND.out]; have := HMD.out; omega), List.take_of_length_le (by rw [HND.out]; omega)]
          · rw [HMD.out, Nat.min_eq_right h])
        have HO2 := hidm_ (show OwnG strE 9 wr (g + 2) (.slice A' mD c') ((ds.take 260).map pad32) by rw [← HF.out]; exact HO.out)
        have HL2 := hidm_ (show ((ds.take 260).map pad32).length = mD by rw [← HF.out]; exact HML.out)
        have hfz := HT.out.m.frozen 9
        have tls : ¬ (mD : Int) < (nD : Int) ∨ ((mD : Int) < (nD : Int) ∧ ¬ (mD : Int) < 260) := by have := HMD.out; omega
        rcases tls with tl | ⟨tl, tl2⟩
        all_goals
          go_upto_region 9 with fail
          generalize hu : wr.setCell _ _ = wa
          have UT := hidm_ (show Untouched [g] wr wa by rw [← hu]; exact Untouched.set g 9 (by simp) _)
          have T10 := hidm_ (show TmS w g (⟨k, f, q, er, fo, lv, pad32 K, S.take 200, xs.take 260, B1, d1, (ds.take 260).map pad32, A', c', rs, A3, c3⟩ : RmV) wa from HT.out.put (by rw [← hu, ← HL2.out]; exact HT.out.m.set_ 9 _) UT.out)
          have OA10 := hidm_ (show OwnG intE 3 wa (g + 2) (.slice B1 mA d1) (xs.take 260) from HA1.out.keep UT.out (fun k hk hm => by have h9 := List.mem_singleton.1 hm; have := (HA1.out.lt k hk).1; omega))
          have OD10 := hidm_ (show OwnG strE 9 wa (g + 2) (.slice A' mD c') ((ds.take 260).map pad32) from HO2.out.keep UT.out (fun k hk hm => by have h9 := List.mem_singleton.1 hm; have := (HO2.out.lt k hk).1; omega))
          obtain ⟨mR, hmR⟩ : ∃ m, m = min nR 260 := ⟨_, rfl⟩
          have mR2 : mR ≤ 260 := by omega
          have mR3 : mR ≤ nR := by omega
          have HMR := hidm_ hmR
          clear hmR hu UT HO2 HO HA1 HT hc9 hfz HML HF tl
          go_upto_region 11 with fail
          go_loopw [5, 6] (fun o i wr => ∃ (k' : Nat) (A6 : Option Addr) (c6 : Nat), k' ≤ mR ∧ i = .int .i64 k' ∧ o = .slice A6 k' c6 ∧ Hid (OwnG rrE 23 wr (g + 2) (.slice A6 k' c6) ((rs.take k').map tmR)) ∧ Hid (OwnG intE 3 wr (g + 2) (.slice B1 mA d1) (xs.take 260)) ∧ Hid (OwnG strE 9 wr (g + 2) (.slice A' mD c') ((ds.take 260).map pad32)) ∧ Hid (TmS w g (⟨k, f, q, er, fo, lv, pad32 K, S.take 200, xs.take 260, B1, d1, (ds.take 260).map pad32, A', c', rs, A3, c3⟩ : RmV) wr)) (fun _ i _ => mR - (intOf i).toNat)
          case atStart => exact ⟨0, none, 0, Nat.zero_le _, rfl, rfl, hidm_ (OwnG.nil_ _ _ _), OA10, OD10, T10⟩
          case round =>
            obtain ⟨kk, A6, c6, hk, rfl, rfl, HO, HA1, HD1, HT⟩ := hrel
            clear OA10 OD10 T10
            have hc10 : wr.cell? ⟨g, 10, none⟩ = some (.slice A3 nR c3) := by rw [← HNR.out]; exact (HT.out.m.cell 10).trans rfl
            have HML := hidm_ (show ((rs.take kk).map tmR).length = kk by rw [List.length_map, List.length_take, HNR.out]; omega)
            by_cases hlt : kk < mR
            · have tl : (kk : Int) < (nR : Int) := by omega
              have tl2 : (kk : Int) < 260 := by omega
              have hlk : kk < rs.length := by rw [HNR.out]; omega
              go_upto_region 13 with fail
              rename_i K7 hK7
              obtain ⟨bb, off, hA3x, hbl, hcb⟩ := HQ.out.rows (show 0 < rs.length by omega)
              have hA3 : A3 = some ⟨bb, off, none⟩ := hA3x
              clear hA3x
              obtain ⟨z, hz9⟩ : ∃ z, rs[kk] = z := ⟨_, rfl⟩
              have HR1 := hidm_ (show (rs.take (kk + 1)).map tmR = (rs.take kk).map tmR ++ [(⟨pad32 z.key, z.set.take 60⟩ : KrV)] by rw [List.take_succ_eq_append_getElem hlk, hz9]; simp [tmR])
              have EK := hidm_ (show ∀ W, Below g w W → W.cell? ⟨bb, off + kk * 2, none⟩ = some (.string (strOf z.key)) from fun W h => (h.cell (p := ⟨bb, _, none⟩) hbl).trans (by have hx := hcb kk hlk 0 (by decide); rw [hz9] at hx; exact hx))
              have ES := hidm_ (show ∀ W, Below g w W → W.cell? ⟨bb, off + kk * 2 + 1, none⟩ = some (.string (strOf z.set)) from fun W h => (h.cell (p := ⟨bb, _, none⟩) hbl).trans (by have hx := hcb kk hlk 1 (by decide); rw [hz9] at hx; exact hx))
              obtain ⟨nz, hnz⟩ : ∃ n, z.set.length = n := ⟨_, rfl⟩
              obtain ⟨mz, hmz⟩ : ∃ m, m = min nz 60 := ⟨_, rfl⟩
              have hm1 := fun W => run_min2 nz 60 mz hmz W
              rw [show ((60 : Nat) : Int) = 60 from rfl] at hm1
              have hs1 : (strOf z.set).size = nz := by rw [strOf_size, hnz]
              have hst := fun W => str_to z.set nz mz hnz (by omega) W
              rw [show z.set.take mz = z.set.take 60 by
                rw [hmz]
                rcases Nat.le_total nz 60 with h | h
                · rw [Nat.min_eq_left h, List.take_of_length_le (by omega), List.take_of_length_le (by omega)]
                · rw [Nat.min_eq_right h]] at hst
              have TMS := hidm_ (show ∀ m W, (fun (m : Nat) (W : World) => match m with | 0 => Below wr.heap.size wr W | 1 => Below wr.heap.size wr W | 2 => Below wr.heap.size wr W | 3 => Below wr.heap.size wr W | _ => TmS w g (⟨k, f, q, er, fo, lv, pad32 K, S.take 200, xs.take 260, B1, d1, (ds.take 260).map pad32, A', c', rs, A3, c3⟩ : RmV) W ∧ OwnG intE 3 W (g + 2) (.slice B1 mA d1) (xs.take 260) ∧ OwnG strE 9 W (g + 2) (.slice A' mD c') ((ds.take 260).map pad32)) m W → TmS w g (⟨k, f, q, er, fo, lv, pad32 K, S.take 200, xs.take 260, B1, d1, (ds.take 260).map pad32, A', c', rs, A3, c3⟩ : RmV) W from fun m W h => by
                rcases m with _ | _ | _ | _ | m
                · exact HT.out.low h
                · exact HT.out.low h
                · exact HT.out.low h
                · exact HT.out.low h
                · exact h.1)
              clear hc10 hz9 hcb hbl hnz hmz
              refine region_byJF [65, 66, 67, 68, 69, 70, 71, 72, 73, 74, 75, 76, 77, 78, 79, 80, 81, 82, 83, 84, 85, 86, 87, 88, 89, 90, 5] (fun _ => True) (fun w w' => ∀ b, wr.heap.size ≤ b → b < w.heap.size → w'.heap[b]? = w.heap[b]?) (fun jR_ vR_ (wR_ : World) => (match jR_ with | 0 => vR_ = .slice A6 kk c6 | 1 => vR_ = .pointer (some ⟨g, 10, none⟩) | 2 => vR_ = .slice (some ⟨bb, off, none⟩) nR c3 | 3 => vR_ = .int .i64 (kk : Int) | 4 => vR_ = .pointer (some ⟨bb, off + kk * 2, none⟩) | 5 => vR_ = .pointer (some ⟨bb, off + kk * 2, none⟩) | 6 => vR_ = .string (strOf z.key) | 7 => vR_ = .string (strOf (pad32 z.key)) | 8 => vR_ = .pointer (some ⟨g, 10, none⟩) | 9 => vR_ = .slice (some ⟨bb, off, none⟩) nR c3 | 10 => vR_ = .int .i64 (kk : Int) | 11 => vR_ = .pointer (some ⟨bb, off + kk * 2, none⟩) | 12 => vR_ = .pointer (some ⟨bb, off + kk * 2 + 1, none⟩) | 13 => vR_ = .string (strOf z.set) | 14 => vR_ = .pointer (some ⟨g, 10, none⟩) | 15 => vR_ = .slice (some ⟨bb, off, none⟩) nR c3 | 16 => vR_ = .int .i64 (kk : Int) | 17 => vR_ = .pointer (some ⟨bb, off + kk * 2, none⟩) | 18 => vR_ = .pointer (some ⟨bb, off + kk * 2 + 1, none⟩) | 19 => vR_ = .string (strOf z.set) | 20 => vR_ = .int .i64 (nz : Int) | 21 => vR_ = .int .i64 (mz : Int) | 22 => vR_ = .string (strOf (z.set.take 60)) | 23 => vR_ = .agg #[.string (strOf (pad32 z.key)), .string (strOf (z.set.take 60))] | 24 => ∃ b, vR_ = .slice (some ⟨b, 0, none⟩) 1 1 ∧ wr.heap.size ≤ b ∧ Bk wR_ b 23 (rrE.c (⟨pad32 z.key, z.set.take 60⟩ : KrV)).toArray | _ => True)) (fun D a W => JAp [7, 23, 24, 25, 26] (fun (m : Nat) (W : World) => match m with | 0 => Below wr.heap.size wr W | 1 => Below wr.heap.size wr W | 2 => Below wr.heap.size wr W | 3 => Below wr.heap.size wr W | _ => TmS w g (⟨k, f, q, er, fo, lv, pad32 K, S.take 200, xs.take 260, B1, d1, (ds.take 260).map pad32, A', c', rs, A3, c3⟩ : RmV) W ∧ OwnG intE 3 W (g + 2) (.slice B1 mA d1) (xs.take 260) ∧ OwnG strE 9 W (g + 2) (.slice A' mD c') ((ds.take 260).map pad32)) 25 26 90 5 (fun (v : Value) (W : World) => ∃ A8 c8, v = .slice A8 (kk + 1) c8 ∧ OwnG rrE 23 W (g + 2) v ((rs.take kk).map tmR ++ [(⟨pad32 z.key, z.set.take 60⟩ : KrV)])) D a W) (by kernel_rfl) (by kernel_rfl) (by kernel_rfl) (by kernel_rfl) (fun j v w w' hT hr => (by rcases j with _ | _ | _ | _ | _ | _ | _ | _ | _ | _ | _ | _ | _ | _ | _ | _ | _ | _ | _ | _ | _ | _ | _ | _ | _ | _ | _ | j <;> first | exact hr | (obtain ⟨b, x1, x2, x3⟩ := hr; exact ⟨b, x1, x2, (hT b x2 x3.lt).trans x3⟩))) (fun j v w hlt hj _ => ?_) trivial ?_ ⟨ChJ.start (show Below wr.heap.size wr wr.drew from below_drewN (Below.refl _ _) 1), fun e => Bool.noConfusion e, fun e => Bool.noConfusion e⟩ ?_
              · rcases j with _ | _ | _ | _ | _ | _ | _ | _ | _ | _ | _ | _ | _ | _ | _ | _ | _ | _ | _ | _ | _ | _ | _ | _ | _ | _ | _ | j
                all_goals first
                  | (exfalso; simp [dstOf] at hj; done)
                  | trivial
              · refine ⟨fun D a9 W hC hd hsz hf hv hJ hL hW K8 hK => ?_, fun D a9 W hC hd hsz hf hv hJ hL hW K8 hK => ?_, fun D a9 W hC hd hsz hf hv hJ hL hW K8 hK => ?_, fun D a9 W hC hd hsz hf hv hJ hL hW K8 hK => ?_, fun D a9 W hC hd hsz hf hv hJ hL hW K8 hK => ?_, fun D a9 W hC hd hsz hf hv hJ hL hW K8 hK => ?_, fun D a9 W hC hd hsz hf hv hJ hL hW K8 hK => ?_, fun D a9 W hC hd hsz hf hv hJ hL hW K8 hK => ?_, fun D a9 W hC hd hsz hf hv hJ hL hW K8 hK => ?_, fun D a9 W hC hd hsz hf hv hJ hL hW K8 hK => ?_, fun D a9 W hC hd hsz hf hv hJ hL hW K8 hK => ?_, fun D a9 W hC hd hsz hf hv hJ hL hW K8 hK => ?_, fun D a9 W hC hd hsz hf hv hJ hL hW K8 hK => ?_, fun D a9 W hC hd hsz hf hv hJ hL hW K8 hK => ?_, fun D a9 W hC hd hsz hf hv hJ hL hW K8 hK => ?_, fun D a9 W hC hd hsz hf hv hJ hL hW K8 hK => ?_, fun D a9 W hC hd hsz hf hv hJ hL hW K8 hK => ?_, fun D a9 W hC hd hsz hf hv hJ hL hW K8 hK => ?_, fun D a9 W hC hd hsz hf hv hJ hL hW K8 hK => ?_, fun D a9 W hC hd hsz hf hv hJ hL hW K8 hK => ?_, fun D a9 W hC hd hsz hf hv hJ hL hW K8 hK => ?_, fun D a9 W hC hd hsz hf hv hJ hL hW K8 hK => ?_, fun D a9 W hC hd hsz hf hv hJ hL hW K8 hK => ?_, fun D a9 W hC hd hsz hf hv hJ hL hW K8 hK => ?_, fun D a9 W hC hd hsz hf hv hJ hL hW K8 hK => ?_, fun D a9 W hC hd hsz hf hv hJ hL hW K8 hK => ?_, fun D a9 W hC hd hsz hf hv hJ hL hW K8 hK => ?_, trivial⟩
                · clear hsz
                  have eS1_ := slot_of (a := a9) (s := 5) (v := .slice A6 kk c6) (hf 5 (by kernel_rfl))
                  have SJ0 := fun v : Value => hJ.same 0 65 (by decide) (by decide) (by decide) (by decide) (by decide) v
                  refine step_run (wanted_none rfl) (v := .slice A6 kk c6) (w' := W) ?_ (hK _ _ trivial (fun _ _ _ => rfl) rfl (SJ0 _))
                  go_simp
                · clear hsz
                  have eS1_ := slot_of (a := a9) (s := 1) (v := .pointer (some ⟨g, 0, none⟩)) (hf 1 (by kernel_rfl))
                  have SJ1 := fun v : Value => hJ.same 1 66 (by decide) (by decide) (by decide) (by decide) (by decide) v
                  refine step_run (wanted_none rfl) (v := .pointer (some ⟨g, 10, none⟩)) (w' := W) ?_ (hK _ _ trivial (fun _ _ _ => rfl) rfl (SJ1 _))
                  go_simp
                · clear hsz
                  have eS1_ := slot_of (a := a9) (s := 66) (v := .pointer (some ⟨g, 10, none⟩)) (hv 1 (by kernel_rfl))
                  have SJ2 := fun v : Value => hJ.same 2 67 (by decide) (by decide) (by decide) (by decide) (by decide) v
                  obtain ⟨m9, _, _, hS9⟩ := hJ.1
                  have hT := TMS.out m9 W hS9
                  have hc9 : W.cell? ⟨g, 10, none⟩ = some (.slice (some ⟨bb, off, none⟩) nR c3) := by rw [← hA3, ← HNR.out]; exact (hT.m.cell 10).trans rfl
                  refine step_run (wanted_none rfl) (v := .slice (some ⟨bb, off, none⟩) nR c3) (w' := W) ?_ (hK _ _ trivial (fun _ _ _ => rfl) rfl (SJ2 _))
                  go_simp
                · clear hsz
                  have eS1_ := slot_of (a := a9) (s := 6) (v := .int .i64 (kk : Int)) (hf 6 (by kernel_rfl))
                  have SJ3 := fun v : Value => hJ.same 3 68 (by decide) (by decide) (by decide) (by decide) (by decide) v
                  refine step_run (wanted_none rfl) (v := .int .i64 (kk : Int)) (w' := W) ?_ (hK _ _ trivial (fun _ _ _ => rfl) rfl (SJ3 _))
                  go_simp
                · clear hsz
                  have eS1_ := slot_of (a := a9) (s := 67) (v := .slice (some ⟨bb, off, none⟩) nR c3) (hv 2 (by kernel_rfl))
                  have eS2_ := slot_of (a := a9) (s := 68) (v := .int .i64 (kk : Int)) (hv 3 (by kernel_rfl))
                  have SJ4 := fun v : Value => hJ.same 4 69 (by decide) (by decide) (by decide) (by decide) (by decide) v
                  refine step_run (wanted_none rfl) (v := .pointer (some ⟨bb, off + kk * 2, none⟩)) (w' := W) ?_ (hK _ _ trivial (fun _ _ _ => rfl) rfl (SJ4 _))
                  go_simp
                · clear hsz
                  have eS1_ := slot_of (a := a9) (s := 69) (v := .pointer (some ⟨bb, off + kk * 2, none⟩)) (hv 4 (by kernel_rfl))
                  have SJ5 := fun v : Value => hJ.same 5 70 (by decide) (by decide) (by decide) (by decide) (by decide) v
                  refine step_run (wanted_none rfl) (v := .pointer (some ⟨bb, off + kk * 2, none⟩)) (w' := W) ?_ (hK _ _ trivial (fun _ _ _ => rfl) rfl (SJ5 _))
                  go_simp
                · clear hsz
                  have eS1_ := slot_of (a := a9) (s := 70) (v := .pointer (some ⟨bb, off + kk * 2, none⟩)) (hv 5 (by kernel_rfl))
                  have SJ6 := fun v : Value => hJ.same 6 71 (by decide) (by decide) (by decide) (by decide) (by decide) v
                  obtain ⟨m9, _, _, hS9⟩ := hJ.1
                  have hT := TMS.out m9 W hS9
                  have hc9 := EK.out W hT.bel
                  refine step_run (wanted_none rfl) (v := .string (strOf z.key)) (w' := W) ?_ (hK _ _ trivial (fun _ _ _ => rfl) rfl (SJ6 _))
                  go_simp
                · clear hsz
                  have eS1_ := slot_of (a := a9) (s := 71) (v := .string (strOf z.key)) (hv 6 (by kernel_rfl))
                  obtain ⟨hS, hd⟩ := hJ.1.at_ 0 (by decide) hL (fun j hj e => by omega)
                  have hS : Below wr.heap.size wr W := hS
                  refine step_callx 15 #[.string (strOf z.key)] (wanted_none rfl) (w' := W) ?_ ((wide_any W z.key).mono fun e W2 hh => ?_)
                  · go_simp
                  · obtain ⟨rfl, hB⟩ := hh
                    exact ⟨_, rfl, hK _ _ trivial (fun b h1 h2 => hB.block b h2) rfl ⟨ChJ.next 0 (by decide) (by decide) hd (show Below wr.heap.size wr W2 from hS.trans (hB.mono hS.size)), vacD ((hd 3 (by decide)).trans rfl) (by decide), vacD ((hd 4 (by decide)).trans rfl) (by decide)⟩⟩
                · clear hsz
                  have eS1_ := slot_of (a := a9) (s := 1) (v := .pointer (some ⟨g, 0, none⟩)) (hf 1 (by kernel_rfl))
                  have SJ8 := fun v : Value => hJ.same 8 73 (by decide) (by decide) (by decide) (by decide) (by decide) v
                  refine step_run (wanted_none rfl) (v := .pointer (some ⟨g, 10, none⟩)) (w' := W) ?_ (hK _ _ trivial (fun _ _ _ => rfl) rfl (SJ8 _))
                  go_simp
                · clear hsz
                  have eS1_ := slot_of (a := a9) (s := 73) (v := .pointer (some ⟨g, 10, none⟩)) (hv 8 (by kernel_rfl))
                  have SJ9 := fun v : Value => hJ.same 9 74 (by decide) (by decide) (by decide) (by decide) (by decide) v
                  obtain ⟨m9, _, _, hS9⟩ := hJ.1
                  have hT := TMS.out m9 W hS9
                  have hc9 : W.cell? ⟨g, 10, none⟩ = some (.slice (some ⟨bb, off, none⟩) nR c3) := by rw [← hA3, ← HNR.out]; exact (hT.m.cell 10).trans rfl
                  refine step_run (wanted_none rfl) (v := .slice (some ⟨bb, off, none⟩) nR c3) (w' := W) ?_ (hK _ _ trivial (fun _ _ _ => rfl) rfl (SJ9 _))
                  go_simp
                · clear hsz
                  have eS1_ := slot_of (a := a9) (s := 6) (v := .int .i64 (kk : Int)) (hf 6 (by kernel_rfl))
                  have SJ10 := fun v : Value => hJ.same 10 75 (by decide) (by decide) (by decide) (by decide) (by decide) v
                  refine step_run (wanted_none rfl) (v := .int .i64 (kk : Int)) (w' := W) ?_ (hK _ _ trivial (fun _ _ _ => rfl) rfl (SJ10 _))
                  go_simp
                · clear hsz
                  have eS1_ := slot_of (a := a9) (s := 74) (v := .slice (some ⟨bb, off, none⟩) nR c3) (hv 9 (by kernel_rfl))
                  have eS2_ := slot_of (a := a9) (s := 75) (v := .int .i64 (kk : Int)) (hv 10 (by kernel_rfl))
                  have SJ11 := fun v : Value => hJ.same 11 76 (by decide) (by decide) (by decide) (by decide) (by decide) v
                  refine step_run (wanted_none rfl) (v := .pointer (some ⟨bb, off + kk * 2, none⟩)) (w' := W) ?_ (hK _ _ trivial (fun _ _ _ => rfl) rfl (SJ11 _))
                  go_simp
                · clear hsz
                  have eS1_ := slot_of (a := a9) (s := 76) (v := .pointer (some ⟨bb, off + kk * 2, none⟩)) (hv 11 (by kernel_rfl))
                  have SJ12 := fun v : Value => hJ.same 12 77 (by decide) (by decide) (by decide) (by decide) (by decide) v
                  refine step_run (wanted_none rfl) (v := .pointer (some ⟨bb, off + kk * 2 + 1, none⟩)) (w' := W) ?_ (hK _ _ trivial (fun _ _ _ => rfl) rfl (SJ12 _))
                  go_simp
                · clear hsz
                  have eS1_ := slot_of (a := a9) (s := 77) (v := .pointer (some ⟨bb, off + kk * 2 + 1, none⟩)) (hv 12 (by kernel_rfl))
                  have SJ13 := fun v : Value => hJ.same 13 78 (by decide) (by decide) (by decide) (by decide) (by decide) v
                  obtain ⟨m9, _, _, hS9⟩ := hJ.1
                  have hT := TMS.out m9 W hS9
                  have hc9 := ES.out W hT.bel
                  refine step_run (wanted_none rfl) (v := .string (strOf z.set)) (w' := W) ?_ (hK _ _ trivial (fun _ _ _ => rfl) rfl (SJ13 _))
                  go_simp
                · clear hsz
                  have eS1_ := slot_of (a := a9) (s := 1) (v := .pointer (some ⟨g, 0, none⟩)) (hf 1 (by kernel_rfl))
                  have SJ14 := fun v : Value => hJ.same 14 79 (by decide) (by decide) (by decide) (by decide) (by decide) v
                  refine step_run (wanted_none rfl) (v := .pointer (some ⟨g, 10, none⟩)) (w' := W) ?_ (hK _ _ trivial (fun _ _ _ => rfl) rfl (SJ14 _))
                  go_simp
                · clear hsz
                  have eS1_ := slot_of (a := a9) (s := 79) (v := .pointer (some ⟨g, 10, none⟩)) (hv 14 (by kernel_rfl))
                  have SJ15 := fun v : Value => hJ.same 15 80 (by decide) (by decide) (by decide) (by decide) (by decide) v
                  obtain ⟨m9, _, _, hS9⟩ := hJ.1
                  have hT := TMS.out m9 W hS9
                  have hc9 : W.cell? ⟨g, 10, none⟩ = some (.slice (some ⟨bb, off, none⟩) nR c3) := by rw [← hA3, ← HNR.out]; exact (hT.m.cell 10).trans rfl
                  refine step_run (wanted_none rfl) (v := .slice (some ⟨bb, off, none⟩) nR c3) (w' := W) ?_ (hK _ _ trivial (fun _ _ _ => rfl) rfl (SJ15 _))
                  go_simp
                · clear hsz
                  have eS1_ := slot_of (a := a9) (s := 6) (v := .int .i64 (kk : Int)) (hf 6 (by kernel_rfl))
                  have SJ16 := fun v : Value => hJ.same 16 81 (by decide) (by decide) (by decide) (by decide) (by decide) v
                  refine step_run (wanted_none rfl) (v := .int .i64 (kk : Int)) (w' := W) ?_ (hK _ _ trivial (fun _ _ _ => rfl) rfl (SJ16 _))
                  go_simp
                · clear hsz
                  have eS1_ := slot_of (a := a9) (s := 80) (v := .slice (some ⟨bb, off, none⟩) nR c3) (hv 15 (by kernel_rfl))
                  have eS2_ := slot_of (a := a9) (s := 81) (v := .int .i64 (kk : Int)) (hv 16 (by kernel_rfl))
                  have SJ17 := fun v : Value => hJ.same 17 82 (by decide) (by decide) (by decide) (by decide) (by decide) v
                  refine step_run (wanted_none rfl) (v := .pointer (some ⟨bb, off + kk * 2, none⟩)) (w' := W) ?_ (hK _ _ trivial (fun _ _ _ => rfl) rfl (SJ17 _))
                  go_simp
                · clear hsz
                  have eS1_ := slot_of (a := a9) (s := 82) (v := .pointer (some ⟨bb, off + kk * 2, none⟩)) (hv 17 (by kernel_rfl))
                  have SJ18 := fun v : Value => hJ.same 18 83 (by decide) (by decide) (by decide) (by decide) (by decide) v
                  refine step_run (wanted_none rfl) (v := .pointer (some ⟨bb, off + kk * 2 + 1, none⟩)) (w' := W) ?_ (hK _ _ trivial (fun _ _ _ => rfl) rfl (SJ18 _))
                  go_simp
                · clear hsz
                  have eS1_ := slot_of (a := a9) (s := 83) (v := .pointer (some ⟨bb, off + kk * 2 + 1, none⟩)) (hv 18 (by kernel_rfl))
                  have SJ19 := fun v : Value => hJ.same 19 84 (by decide) (by decide) (by decide) (by decide) (by decide) v
                  obtain ⟨m9, _, _, hS9⟩ := hJ.1
                  have hT := TMS.out m9 W hS9
                  have hc9 := ES.out W hT.bel
                  refine step_run (wanted_none rfl) (v := .string (strOf z.set)) (w' := W) ?_ (hK _ _ trivial (fun _ _ _ => rfl) rfl (SJ19 _))
                  go_simp
                · clear hsz
                  have eS1_ := slot_of (a := a9) (s := 84) (v := .string (strOf z.set)) (hv 19 (by kernel_rfl))
                  have SJ20 := fun v : Value => hJ.same 20 85 (by decide) (by decide) (by decide) (by decide) (by decide) v
                  refine step_run (wanted_none rfl) (v := .int .i64 (nz : Int)) (w' := W) ?_ (hK _ _ trivial (fun _ _ _ => rfl) rfl (SJ20 _))
                  go_simp
                · clear hsz
                  have eS1_ := slot_of (a := a9) (s := 85) (v := .int .i64 (nz : Int)) (hv 20 (by kernel_rfl))
                  have SJ21 := fun v : Value => hJ.same 21 86 (by decide) (by decide) (by decide) (by decide) (by decide) v
                  refine step_run (wanted_none rfl) (v := .int .i64 (mz : Int)) (w' := W) ?_ (hK _ _ trivial (fun _ _ _ => rfl) rfl (SJ21 _))
                  go_simp
                · clear hsz
                  have eS1_ := slot_of (a := a9) (s := 78) (v := .string (strOf z.set)) (hv 13 (by kernel_rfl))
                  have eS2_ := slot_of (a := a9) (s := 86) (v := .int .i64 (mz : Int)) (hv 21 (by kernel_rfl))
                  have SJ22 := fun v : Value => hJ.same 22 87 (by decide) (by decide) (by decide) (by decide) (by decide) v
                  refine step_run (wanted_none rfl) (v := .string (strOf (z.set.take 60))) (w' := W) ?_ (hK _ _ trivial (fun _ _ _ => rfl) rfl (SJ22 _))
                  go_simp
                · clear hsz
                  have eS1_ := slot_of (a := a9) (s := 72) (v := .string (strOf (pad32 z.key))) (hv 7 (by kernel_rfl))
                  have eS2_ := slot_of (a := a9) (s := 87) (v := .string (strOf (z.set.take 60))) (hv 22 (by kernel_rfl))
                  obtain ⟨hS, hd⟩ := hJ.1.at_ 1 (by decide) hL (fun j hj e => by have hj0 : j = 0 := (by omega); subst hj0; exact hW 7 (by kernel_rfl))
                  have hS : Below wr.heap.size wr W := hS
                  have eA_ := eval_of (a := a9) (s := 72) (v := .string (strOf (pad32 z.key))) (hv 7 (by kernel_rfl))
                  have eB_ := eval_of (a := a9) (s := 87) (v := .string (strOf (z.set.take 60))) (hv 22 (by kernel_rfl))
                  refine step_builtM (wanted_none rfl) 23 #[(0, .tmp 72), (1, .tmp 87)] rfl #[.string (strOf (pad32 z.key)), .string (strOf (z.set.take 60))] ?_ ?_
                  · simp only [List.map_toArray, List.map_cons, List.map_nil, eA_, eB_]
                    exact built_rr _ _
                  · exact hK _ _ trivial (fun _ _ _ => rfl) rfl ⟨ChJ.next 1 (by decide) (by decide) hd (show Below wr.heap.size wr W from hS), vacD ((hd 3 (by decide)).trans rfl) (by decide), vacD ((hd 4 (by decide)).trans rfl) (by decide)⟩
                · clear hsz
                  have eS1_ := slot_of (a := a9) (s := 88) (v := .agg #[.string (strOf (pad32 z.key)), .string (strOf (z.set.take 60))]) (hv 23 (by kernel_rfl))
                  obtain ⟨hS, hd⟩ := hJ.1.at_ 2 (by decide) hL (fun j hj e => by have hj0 : j = 1 := (by omega); subst hj0; exact hW 23 (by kernel_rfl))
                  have hS : Below wr.heap.size wr W := hS
                  refine step_oneG rrE Try.underlying26 infoRr (by decide) (wanted_none rfl) (.tmp 88) rfl #[.string (strOf (pad32 z.key)), .string (strOf (z.set.take 60))] (eval_of (hv 23 (by kernel_rfl))) (⟨pad32 z.key, z.set.take 60⟩ : KrV) rfl ?_
                  exact hK _ _ trivial (fun b h1 h2 => ((Below.refl W.heap.size W).alloc (Nat.le_refl _) _).block b h2) ⟨W.heap.size, rfl, hS.size, Bk.new W _ _⟩ ⟨ChJ.next 2 (by decide) (by decide) hd (show Below wr.heap.size wr (W.alloc (.cells #[.string (strOf (pad32 z.key)), .string (strOf (z.set.take 60))] 23)) from hS.alloc hS.size _), vacD ((hd 3 (by decide)).trans rfl) (by decide), vacD ((hd 4 (by decide)).trans rfl) (by decide)⟩
                · skip
                  have eS1_ := slot_of (a := a9) (s := 65) (v := .slice A6 kk c6) (hv 0 (by kernel_rfl))
                  have hsz9 : 90 < a9.tmps.size := by rw [hsz]; exact (by decide : 90 < 94)
                  obtain ⟨hS, hd⟩ := hJ.1.at_ 3 (by decide) hL (fun j hj e => by have hj0 : j = 2 := (by omega); subst hj0; exact hW 24 (by kernel_rfl))
                  have hS : Below wr.heap.size wr W := hS
                  have OW := HO.out.below hS (Nat.le_refl _)
                  obtain ⟨b, h89, hb1, hb2⟩ := hv 24 (by kernel_rfl)
                  have hT := HT.out.low hS
                  have OA := HA1.out.below hS (Nat.le_refl _)
                  have OD := HD1.out.below hS (Nat.le_refl _)
                  refine step_appGg rfl (.tmp 65) (.tmp 89) rfl Try.underlying26 infoRr OW (eval_of (hv 0 (by kernel_rfl))) 1 1 (eval_of h89) (RdG.of_block (p := (⟨pad32 z.key, z.set.take 60⟩ : KrV)) hb2 hb2.lt) rfl (by rw [HML.out]; omega) (by decide) hT.lt2 ?_
                  intro A8 c8 W2 k1 k2 k3
                  rw [HML.out] at k1 k3 ⊢
                  exact hK _ _ trivial (fun b' h1 h2 => k2.block b' h2 (fun e => by have := (HO.out.lt b' e.symm).2; omega)) trivial ⟨ChJ.next 3 (by decide) (by decide) hd (show TmS w g (⟨k, f, q, er, fo, lv, pad32 K, S.take 200, xs.take 260, B1, d1, (ds.take 260).map pad32, A', c', rs, A3, c3⟩ : RmV) W2 ∧ OwnG intE 3 W2 (g + 2) (.slice B1 mA d1) (xs.take 260) ∧ OwnG strE 9 W2 (g + 2) (.slice A' mD c') ((ds.take 260).map pad32) from ⟨hT.grow k2 (fun j hj => (OW.lt j hj).1), OA.kept k2 (own_apart OA OW (by decide)), OD.kept k2 (own_apart OD OW (by decide))⟩), fun _ => ⟨A8, c8, put_eq a9 90 _ hsz9, by rw [put_eq a9 90 _ hsz9]; exact k1⟩, vacD ((hd 4 (by decide)).trans rfl) (by decide)⟩
                · skip
                  have hsz9 : 5 < a9.tmps.size := by rw [hsz]; exact (by decide : 5 < 94)
                  obtain ⟨hS, hd⟩ := hJ.1.at_ 4 (by decide) hL (fun j hj e => by have hj0 : j = 3 := (by omega); subst hj0; exact hW 25 (by kernel_rfl))
                  obtain ⟨A8, c8, h90, o90⟩ := hJ.2.1 (hW 25 (by kernel_rfl))
                  have eS90 := slot_of (a := a9) (s := 90) h90
                  refine step_run (wanted_none rfl) (v := .slice A8 (kk + 1) c8) (w' := W) ?_ (hK _ _ trivial (fun _ _ _ => rfl) trivial ⟨ChJ.next 4 (by decide) (by decide) hd hS, fun _ => ⟨A8, c8, (put_ne a9 5 90 _ (by decide)).trans h90, by rw [put_ne a9 5 90 _ (by decide)]; exact o90⟩, fun _ => ⟨A8, c8, put_eq a9 5 _ hsz9, by rw [put_eq a9 5 _ hsz9, ← h90]; exact o90⟩⟩)
                  go_simp
              · intro f9 w6 hC6 hv6 D6 hD6 hJ6
                obtain ⟨a6, hJ, hf6⟩ := hJ6
                obtain ⟨hT6, hA6, hD6x⟩ := (show TmS w g (⟨k, f, q, er, fo, lv, pad32 K, S.take 200, xs.take 260, B1, d1, (ds.take 260).map pad32, A', c', rs, A3, c3⟩ : RmV) w6 ∧ OwnG intE 3 w6 (g + 2) (.slice B1 mA d1) (xs.take 260) ∧ OwnG strE 9 w6 (g + 2) (.slice A' mD c') ((ds.take 260).map pad32) from hJ.1.last 4 (by decide) rfl (hD6 26 (by decide)))
                obtain ⟨A8, c8, e5, o5⟩ := hJ.2.2 (hD6 26 (by decide))
                rw [hf6 5] at e5 o5
                rw [e5] at o5
                have T6 := hidm_ hT6
                have A6_ := hidm_ hA6
                have D6_ := hidm_ hD6x
                have O6_ := hidm_ o5
                clear hv6 hD6 hC6 hJ hf6 hT6 hA6 hD6x o5
                simp only [framed, List.foldl_cons, List.foldl_nil, List.setIfInBounds_toArray, List.set_cons_succ, List.set_cons_zero]
                rw [e5]
                clear e5
                refine hK7 _ _ ?_
                clear hm1 hs1 hst hK7 hA3
                go_wp2
                go_roundw
                case rel => exact ⟨kk + 1, A8, c8, by omega, by go_num, rfl, hidm_ (by rw [HR1.out]; exact O6_.out), A6_, D6_, T6⟩
                case measure => simp [intOf]; omega
            · obtain rfl : mR = kk := by omega
              have HF := hidm_ (show (rs.take mR).map tmR = (rs.take 260).map tmR by
                congr 1
                rcases Nat.le_total nR 260 with h | h
                · rw [List.take_of_length_le (by rw [HNR.out]; have := HMR.out; omega), List.take_of_length_le (by rw [HNR.out]; omega)]
                · rw [HMR.out, Nat.min_eq_right h])
              have HO2 := hidm_ (show OwnG rrE 23 wr (g + 2) (.slice A6 mR c6) ((rs.take 260).map tmR) by rw [← HF.out]; exact HO.out)
              have HL3 := hidm_ (show ((rs.take 260).map tmR).length = mR by rw [← HF.out]; exact HML.out)
              have hfz := HT.out.m.frozen 10
              have tls : ¬ (mR : Int) < (nR : Int) ∨ ((mR : Int) < (nR : Int) ∧ ¬ (mR : Int) < 260) := by have := HMR.out; omega
              rcases tls with tl | ⟨tl, tl2⟩
              all_goals
                go_upto_region 15 with fail
                generalize hu : wr.setCell _ _ = wb
                have UT := hidm_ (show Untouched [g] wr wb by rw [← hu]; exact Untouched.set g 10 (by simp) _)
                have TZ := hidm_ (show TmS w g (⟨k, f, q, er, fo, lv, pad32 K, S.take 200, xs.take 260, B1, d1, (ds.take 260).map pad32, A', c', (rs.take 260).map tmR, A6, c6⟩ : RmV) wb from HT.out.put (by rw [← hu, ← HL3.out]; exact HT.out.m.set_ 10 _) UT.out)
                have OAZ := hidm_ (show OwnG intE 3 wb (g + 2) (.slice B1 mA d1) (xs.take 260) from HA1.out.keep UT.out (fun k hk hm => by have h9 := List.mem_singleton.1 hm; have := (HA1.out.lt k hk).1; omega))
                have ODZ := hidm_ (show OwnG strE 9 wb (g + 2) (.slice A' mD c') ((ds.take 260).map pad32) from HD1.out.keep UT.out (fun k hk hm => by have h9 := List.mem_singleton.1 hm; have := (HD1.out.lt k hk).1; omega))
                have ORZ := hidm_ (show OwnG rrE 23 wb (g + 2) (.slice A6 mR c6) ((rs.take 260).map tmR) from HO2.out.keep UT.out (fun k hk hm => by have h9 := List.mem_singleton.1 hm; have := (HO2.out.lt k hk).1; omega))
                clear hu UT hfz hc10 HO2 HO HA1 HD1 HT
                go_wp2_with (first
                  | (refine wpList_load_row rfl 28 (.tmp 1) rfl g rfl 28 (rmC (⟨k, f, q, er, fo, lv, pad32 K, S.take 200, xs.take 260, B1, d1, (ds.take 260).map pad32, A', c', (rs.take 260).map tmR, A6, c6⟩ : RmV)) (0, 0) _ TZ.out.m Try.underlying28 rfl (iRm _) ?_)
                  | (refine wpList_put_row rfl 28 (.tmp 2) (.tmp 93) rfl (g + 1) (rmC (⟨k, f, q, er, fo, lv, pad32 K, S.take 200, xs.take 260, B1, d1, (ds.take 260).map pad32, A', c', (rs.take 260).map tmR, A6, c6⟩ : RmV)) rfl rfl 28 (rmC rmZ) TZ.out.r0 (iRm _) rfl (rmC_one _) ?_; intro y9 k9 g9 s9; have Y9 := hidm_ k9; have UG := hidm_ (unt_put g9); clear k9 g9 s9))
                exact bodyPost_ret (results_cellM Try.results6 _ _ (g + 1) rfl (run_loadVar_row _ _ _ _ _ (0, 0) _ Y9.out Try.underlying28 rfl (iRm _))) rfl ⟨(⟨k, f, q, er, fo, lv, pad32 K, S.take 200, xs.take 260, B1, d1, (ds.take 260).map pad32, A', c', (rs.take 260).map tmR, A6, c6⟩ : RmV), rfl, rfl,
                  (by rw [HG.out]; exact ⟨by rw [show (⟨k, f, q, er, fo, lv, pad32 K, S.take 200, xs.take 260, B1, d1, (ds.take 260).map pad32, A', c', (rs.take 260).map tmR, A6, c6⟩ : RmV).ats.length = mA from LX.out]; exact (OAZ.out.keep UG.out (fun k hk hm => by have h9 := List.mem_singleton.1 hm; have := (OAZ.out.lt k hk).1; omega)).lower (by omega), by rw [show (⟨k, f, q, er, fo, lv, pad32 K, S.take 200, xs.take 260, B1, d1, (ds.take 260).map pad32, A', c', (rs.take 260).map tmR, A6, c6⟩ : RmV).digs.length = mD from HL2.out]; exact (ODZ.out.keep UG.out (fun k hk hm => by have h9 := List.mem_singleton.1 hm; have := (ODZ.out.lt k hk).1; omega)).lower (by omega), by rw [show (⟨k, f, q, er, fo, lv, pad32 K, S.take 200, xs.take 260, B1, d1, (ds.take 260).map pad32, A', c', (rs.take 260).map tmR, A6, c6⟩ : RmV).rows.length = mR from HL3.out]; exact (ORZ.out.keep UG.out (fun k hk hm => by have h9 := List.mem_singleton.1 hm; have := (ORZ.out.lt k hk).1; omega)).lower (by omega)⟩),
                  by rw [HG.out]; exact TZ.out.bel.trans (UG.out.below (fun k hk => by rw [List.mem_singleton.1 hk]; omega) (Nat.le_of_lt TZ.out.m.lt))⟩
end Go.Proofs.Ytnlipmcnpekifaa
