/-
  The document's Write of a message.
-/
import Derived.Test.YtnlipmcnpekifaaMpa
import Derived.Test.YtnlipmcnpekifaaMov
namespace Go.Proofs.Ytnlipmcnpekifaa
set_option maxRecDepth 100000
open Go.ChangeShapes Go.WideShapes Go.ChangeAt Go.RowKit
set_option linter.unusedVariables false
set_option linter.unusedSimpArgs false

def RwP (m : MgV) (w : World) (e : Ending) (w' : World) : Prop := (MgOk m → e = .returned (.tuple #[.string (strOf (mgB m)), .bool true])) ∧ (¬ MgOk m → e = .returned (.tuple #[.string (strOf []), .bool false])) ∧ Below w.heap.size w w'
set_option maxRecDepth 100000 in
set_option maxHeartbeats 16000000 in
theorem refwrite_any (w : World) (q : RmV) (hq : q.Ok w w.heap.size) (ht : Tame q.v) (hbd : MgBd q.v) : Calls Try.prog 9 #[.agg (rmC q)] w (RwP q.v w) := by
  obtain ⟨kd, fr, ak, er, fo, lv, K, S, xs, A1, c1, ds, A2, c2, rs, A3, c3⟩ := q
  obtain ⟨g, hg⟩ : ∃ g, w.heap.size = g := ⟨_, rfl⟩
  obtain ⟨w1, hw1⟩ : ∃ x, w.alloc (.cells (rmC (⟨kd, fr, ak, er, fo, lv, K, S, xs, A1, c1, ds, A2, c2, rs, A3, c3⟩ : RmV)) 28) = x := ⟨_, rfl⟩
  have B1 := hidm_ (show Below w.heap.size w w1 by rw [← hw1]; exact (Below.refl _ _).alloc (Nat.le_refl _) _)
  have S1 := hidm_ (show w1.heap.size = g + 1 by rw [← hw1, ← hg]; simp)
  have M1 := hidm_ (show Bk w1 g 28 (rmC (⟨kd, fr, ak, er, fo, lv, K, S, xs, A1, c1, ds, A2, c2, rs, A3, c3⟩ : RmV)) by rw [← hw1, ← hg]; exact Bk.new w _ _)
  have HQ := hidm_ ((hq.below B1.out).more B1.out.size)
  obtain ⟨nX, hnX⟩ : ∃ n, xs.length = n := ⟨_, rfl⟩
  obtain ⟨nD, hnD⟩ : ∃ n, ds.length = n := ⟨_, rfl⟩
  obtain ⟨nR, hnR⟩ : ∃ n, rs.length = n := ⟨_, rfl⟩
  have HNX := hidm_ hnX
  have HND := hidm_ hnD
  have HNR := hidm_ hnR
  have hX : nX ≤ 260 := by rw [← hnX]; exact ht.ats
  have hD : nD ≤ 260 := by rw [← hnD]; exact ht.digs
  have hR : nR ≤ 260 := by rw [← hnR]; exact ht.rows
  have HT := hidm_ ht
  have HBD := hidm_ hbd
  have LO := hidm_ (show ∀ W, Below w1.heap.size w1 W → W.cell? ⟨g, 0, none⟩ = some (.int .i64 kd) ∧ W.cell? ⟨g, 1, none⟩ = some (.int .i64 fr) ∧ W.cell? ⟨g, 2, none⟩ = some (.int .i64 ak) ∧ W.cell? ⟨g, 3, none⟩ = some (.int .i64 er) ∧ W.cell? ⟨g, 4, none⟩ = some (.int .i64 fo) ∧ W.cell? ⟨g, 5, none⟩ = some (.int .i64 lv) from fun W h => by
    have hb := M1.out.below h M1.out.lt
    exact ⟨(hb.cell 0).trans rfl, (hb.cell 1).trans rfl, (hb.cell 2).trans rfl, (hb.cell 3).trans rfl, (hb.cell 4).trans rfl, (hb.cell 5).trans rfl⟩)
  have HI := hidm_ (show ∀ W, Below w1.heap.size w1 W → W.cell? ⟨g, 6, none⟩ = some (.string (strOf K)) ∧ W.cell? ⟨g, 7, none⟩ = some (.string (strOf S)) ∧ W.cell? ⟨g, 8, none⟩ = some (.slice A1 nX c1) ∧ W.cell? ⟨g, 9, none⟩ = some (.slice A2 nD c2) ∧ W.cell? ⟨g, 10, none⟩ = some (.slice A3 nR c3) from fun W h => by
    have hb := M1.out.below h M1.out.lt
    rw [← hnX, ← hnD, ← hnR]
    exact ⟨(hb.cell 6).trans rfl, (hb.cell 7).trans rfl, (hb.cell 8).trans rfl, (hb.cell 9).trans rfl, (hb.cell 10).trans rfl⟩)
  have HG := hidm_ hg
  clear hq hnX hnD hnR ht hbd
  have ci1 := rin_any w1 kd 1 7
  have hBN : ¬ MgOk (RmV.v (⟨kd, fr, ak, er, fo, lv, K, S, xs, A1, c1, ds, A2, c2, rs, A3, c3⟩ : RmV)) → ∀ e w', e = .returned (.tuple #[.string (strOf []), .bool false]) → Below w1.heap.size w1 w' → RwP (RmV.v (⟨kd, fr, ak, er, fo, lv, K, S, xs, A1, c1, ds, A2, c2, rs, A3, c3⟩ : RmV)) w e w' := fun hn e w' he hb => ⟨fun h => absurd h hn, fun _ => he, B1.out.trans (hb.mono B1.out.size)⟩
  have HBN := hidm_ hBN
  clear hBN
  go_enter Try.func9, Try.ntmps9
  go_upto_region 1 with fail
  clear hw1 hg
  obtain ⟨l0, l1, l2, l3, l4, l5⟩ := LO.out w1 (Below.refl _ _)
  by_cases k1 : 1 ≤ kd ∧ kd ≤ 7
  case neg =>
    have e1 : decide (1 ≤ kd ∧ kd ≤ 7) = false := decide_eq_false k1
    have NO := hidm_ (show ¬ MgOk (RmV.v (⟨kd, fr, ak, er, fo, lv, K, S, xs, A1, c1, ds, A2, c2, rs, A3, c3⟩ : RmV)) from fun h => k1 h.1)
    rw [e1] at ci1
    clear k1 e1
    go_wp2_with (go_at_call 26; ((with_reducible refine ci1.mono ?_); clear ci1; rintro e wa ⟨rfl, hb⟩; have Ba := hidm_ hb; clear hb l0 l1 l2 l3 l4 l5; obtain ⟨l0, l1, l2, l3, l4, l5⟩ := LO.out wa Ba.out))
    go_ret2
    exact HBN.out NO.out _ _ rfl Ba.out
  have e1 : decide (1 ≤ kd ∧ kd ≤ 7) = true := decide_eq_true k1
  rw [e1] at ci1
  by_cases k2 : 0 ≤ fr ∧ fr ≤ 8
  case neg =>
    have e2 : decide (0 ≤ fr ∧ fr ≤ 8) = false := decide_eq_false k2
    have NO := hidm_ (show ¬ MgOk (RmV.v (⟨kd, fr, ak, er, fo, lv, K, S, xs, A1, c1, ds, A2, c2, rs, A3, c3⟩ : RmV)) from fun h => k2 h.2.1)
    have E2 := hidm_ e2
    clear k1 k2 e1 e2
    go_wp2_with (first
      | (go_at_call 26; ((with_reducible refine ci1.mono ?_); clear ci1; rintro e wa ⟨rfl, hb⟩; have Ba := hidm_ hb; have ci2 := rin_any wa fr 0 8; rw [E2.out] at ci2; clear hb l0 l1 l2 l3 l4 l5; obtain ⟨l0, l1, l2, l3, l4, l5⟩ := LO.out wa Ba.out))
      | (go_at_call 26; ((with_reducible refine ci2.mono ?_); clear ci2; rintro e wb ⟨rfl, hb⟩; have Bb := hidm_ (Ba.out.trans (hb.mono Ba.out.size)); clear hb l0 l1 l2 l3 l4 l5; obtain ⟨l0, l1, l2, l3, l4, l5⟩ := LO.out wb Bb.out)))
    go_ret2
    exact HBN.out NO.out _ _ rfl Bb.out
  have E2 := hidm_ (show decide (0 ≤ fr ∧ fr ≤ 8) = true from decide_eq_true k2)
  by_cases k3 : 0 ≤ ak ∧ ak ≤ 4611686018427387904
  case neg =>
    have E3 := hidm_ (show decide (0 ≤ ak ∧ ak ≤ 4611686018427387904) = false from decide_eq_false k3)
    have NO := hidm_ (show ¬ MgOk (RmV.v (⟨kd, fr, ak, er, fo, lv, K, S, xs, A1, c1, ds, A2, c2, rs, A3, c3⟩ : RmV)) from fun h => k3 h.2.2.1)
    clear k1 k2 k3 e1
    go_wp2_with (first
      | (go_at_call 26; ((with_reducible refine ci1.mono ?_); clear ci1; rintro e wa ⟨rfl, hb⟩; have Ba := hidm_ hb; have ci2 := rin_any wa fr 0 8; rw [E2.out] at ci2; clear hb l0 l1 l2 l3 l4 l5; obtain ⟨l0, l1, l2, l3, l4, l5⟩ := LO.out wa Ba.out))
      | (go_at_call 26; ((with_reducible refine ci2.mono ?_); clear ci2; rintro e wb ⟨rfl, hb⟩; have Bb := hidm_ (Ba.out.trans (hb.mono Ba.out.size)); have ci3 := rin_any wb ak 0 4611686018427387904; rw [E3.out] at ci3; clear hb l0 l1 l2 l3 l4 l5; obtain ⟨l0, l1, l2, l3, l4, l5⟩ := LO.out wb Bb.out))
      | (go_at_call 26; ((with_reducible refine ci3.mono ?_); clear ci3; rintro e wc ⟨rfl, hb⟩; have Bc := hidm_ (Bb.out.trans (hb.mono Bb.out.size)); clear hb l0 l1 l2 l3 l4 l5; obtain ⟨l0, l1, l2, l3, l4, l5⟩ := LO.out wc Bc.out)))
    go_ret2
    exact HBN.out NO.out _ _ rfl Bc.out
  have E3 := hidm_ (show decide (0 ≤ ak ∧ ak ≤ 4611686018427387904) = true from decide_eq_true k3)
  clear e1
  go_upto_region 3 with (first
    | (go_at_call 26; ((with_reducible refine ci1.mono ?_); clear ci1; rintro e wa ⟨rfl, hb⟩; have Ba := hidm_ hb; have ci2 := rin_any wa fr 0 8; rw [E2.out] at ci2; clear hb l0 l1 l2 l3 l4 l5; obtain ⟨l0, l1, l2, l3, l4, l5⟩ := LO.out wa Ba.out))
    | (go_at_call 26; ((with_reducible refine ci2.mono ?_); clear ci2; rintro e wb ⟨rfl, hb⟩; have Bb := hidm_ (Ba.out.trans (hb.mono Ba.out.size)); have ci3 := rin_any wb ak 0 4611686018427387904; rw [E3.out] at ci3; clear hb l0 l1 l2 l3 l4 l5; obtain ⟨l0, l1, l2, l3, l4, l5⟩ := LO.out wb Bb.out))
    | (go_at_call 26; ((with_reducible refine ci3.mono ?_); clear ci3; rintro e wc ⟨rfl, hb⟩; have Bc := hidm_ (Bb.out.trans (hb.mono Bb.out.size)); clear hb l0 l1 l2 l3 l4 l5)))
  clear Ba Bb E2 E3
  rename_i K9 hK9
  -- the head
  obtain ⟨sk, hsk⟩ : ∃ s, smallL kd = s := ⟨_, rfl⟩
  obtain ⟨sf, hsf⟩ : ∃ s, smallL fr = s := ⟨_, rfl⟩
  obtain ⟨sa, hsa⟩ : ∃ s, numL ak = s := ⟨_, rfl⟩
  have lk : sk.length ≤ 1 := by rw [← hsk]; exact small_le _
  have lf : sf.length ≤ 1 := by rw [← hsf]; exact small_le _
  have la : sa.length ≤ 8 := by rw [← hsa]; exact num_le _
  obtain ⟨H1, hH1⟩ : ∃ s, sk ++ sf = s := ⟨_, rfl⟩
  obtain ⟨HD, hHD⟩ : ∃ s, H1 ++ sa = s := ⟨_, rfl⟩
  have lH1 : H1.length ≤ 2 := by rw [← hH1, List.length_append]; omega
  have lHD : HD.length ≤ 10 := by rw [← hHD, List.length_append]; omega
  have ap1 := strOf_append sk sf
  rw [hH1] at ap1
  have ap2 := strOf_append H1 sa
  rw [hHD] at ap2
  have ad1 : (strOf sk).size + (strOf sf).size ≤ 9223372036854775807 := by rw [strOf_size, strOf_size]; omega
  have ad2 : (strOf H1).size + (strOf sa).size ≤ 9223372036854775807 := by rw [strOf_size, strOf_size]; omega
  have CNK : Hid (∀ W, Below w1.heap.size w1 W → Calls Try.prog 27 #[.int .i64 kd] W fun e w' => e = .returned (.string (strOf sk)) ∧ Below w1.heap.size w1 w') := hidm_ (fun W h => (refSmall_any W kd (by omega)).mono fun e w' hh => ⟨by rw [hh.1, hsk], h.trans (hh.2.mono h.size)⟩)
  have CNF : Hid (∀ W, Below w1.heap.size w1 W → Calls Try.prog 27 #[.int .i64 fr] W fun e w' => e = .returned (.string (strOf sf)) ∧ Below w1.heap.size w1 w') := hidm_ (fun W h => (refSmall_any W fr (by omega)).mono fun e w' hh => ⟨by rw [hh.1, hsf], h.trans (hh.2.mono h.size)⟩)
  have CNA : Hid (∀ W, Below w1.heap.size w1 W → Calls Try.prog 28 #[.int .i64 ak] W fun e w' => e = .returned (.string (strOf sa)) ∧ Below w1.heap.size w1 w') := hidm_ (fun W h => (refNum_any W ak (by omega)).mono fun e w' hh => ⟨by rw [hh.1, hsa], h.trans (hh.2.mono h.size)⟩)
  have HHD := hidm_ (show ∀ t, bodyB (RmV.v (⟨kd, fr, ak, er, fo, lv, K, S, xs, A1, c1, ds, A2, c2, rs, A3, c3⟩ : RmV)) = t → mgB (RmV.v (⟨kd, fr, ak, er, fo, lv, K, S, xs, A1, c1, ds, A2, c2, rs, A3, c3⟩ : RmV)) = HD ++ t from fun t h => by
    show smallL kd ++ (smallL fr ++ (numL ak ++ bodyB (RmV.v (⟨kd, fr, ak, er, fo, lv, K, S, xs, A1, c1, ds, A2, c2, rs, A3, c3⟩ : RmV)))) = _
    rw [h, ← hHD, ← hH1, ← hsk, ← hsf, ← hsa]
    simp)
  have HMO := hidm_ (show MgOk (RmV.v (⟨kd, fr, ak, er, fo, lv, K, S, xs, A1, c1, ds, A2, c2, rs, A3, c3⟩ : RmV)) ↔ BodyOk (RmV.v (⟨kd, fr, ak, er, fo, lv, K, S, xs, A1, c1, ds, A2, c2, rs, A3, c3⟩ : RmV)) from ⟨fun h => h.2.2.2, fun h => ⟨k1, k2, k3, h⟩⟩)
  have HYE := hidm_ (show ∀ t, mgB (RmV.v (⟨kd, fr, ak, er, fo, lv, K, S, xs, A1, c1, ds, A2, c2, rs, A3, c3⟩ : RmV)) = t → BodyOk (RmV.v (⟨kd, fr, ak, er, fo, lv, K, S, xs, A1, c1, ds, A2, c2, rs, A3, c3⟩ : RmV)) → ∀ e w', e = .returned (.tuple #[.string (strOf t), .bool true]) → Below w1.heap.size w1 w' → RwP (RmV.v (⟨kd, fr, ak, er, fo, lv, K, S, xs, A1, c1, ds, A2, c2, rs, A3, c3⟩ : RmV)) w e w' from fun t ht hk e w' he hb => ⟨fun _ => by rw [he, ht], fun h => absurd (HMO.out.2 hk) h, B1.out.trans (hb.mono B1.out.size)⟩)
  have LHD := hidm_ lHD
  clear hsk hsf hsa hH1 hHD lk lf la lH1 lHD k2 k3
  refine region_byJF [32, 33, 34, 35, 36, 37, 38, 39, 40, 41, 42, 4] (fun _ => True) (fun _ _ => True) (fun jR_ vR_ (wR_ : World) => (match jR_ with | 0 => vR_ = .pointer (some ⟨g, 0, none⟩) | 1 => vR_ = .int .i64 kd | 2 => vR_ = .string (strOf sk) | 3 => vR_ = .pointer (some ⟨g, 1, none⟩) | 4 => vR_ = .int .i64 fr | 5 => vR_ = .string (strOf sf) | 6 => vR_ = .string (strOf H1) | 7 => vR_ = .pointer (some ⟨g, 2, none⟩) | 8 => vR_ = .int .i64 ak | 9 => vR_ = .string (strOf sa) | 10 => vR_ = .string (strOf HD) | 11 => vR_ = .string (strOf HD) | _ => True)) (fun D _ W => Below w1.heap.size w1 W) (by kernel_rfl) (by kernel_rfl) (by kernel_rfl) (by kernel_rfl) (fun j v w w' hT hr => hr) (fun j v w hlt hj _ => ?_) trivial ?_ (Bc.out.trans (below_drewN (Below.refl _ _) 1)) ?_
  · rcases j with _ | _ | _ | _ | _ | _ | _ | _ | _ | _ | _ | _ | j
    all_goals first
      | (exfalso; simp [dstOf] at hj; done)
      | trivial
  · refine ⟨fun D a9 W hC hd hsz hf hv hJ hL hW K8 hK => ?_, fun D a9 W hC hd hsz hf hv hJ hL hW K8 hK => ?_, fun D a9 W hC hd hsz hf hv hJ hL hW K8 hK => ?_, fun D a9 W hC hd hsz hf hv hJ hL hW K8 hK => ?_, fun D a9 W hC hd hsz hf hv hJ hL hW K8 hK => ?_, fun D a9 W hC hd hsz hf hv hJ hL hW K8 hK => ?_, fun D a9 W hC hd hsz hf hv hJ hL hW K8 hK => ?_, fun D a9 W hC hd hsz hf hv hJ hL hW K8 hK => ?_, fun D a9 W hC hd hsz hf hv hJ hL hW K8 hK => ?_, fun D a9 W hC hd hsz hf hv hJ hL hW K8 hK => ?_, fun D a9 W hC hd hsz hf hv hJ hL hW K8 hK => ?_, fun D a9 W hC hd hsz hf hv hJ hL hW K8 hK => ?_, trivial⟩
    · clear hsz
      have eS1_ := slot_of (a := a9) (s := 1) (v := .pointer (some ⟨g, 0, none⟩)) (hf 1 (by kernel_rfl))
      refine step_run (wanted_none rfl) (v := .pointer (some ⟨g, 0, none⟩)) (w' := W) ?_ (hK _ _ trivial trivial rfl (hJ))
      go_simp
    · clear hsz
      have eS1_ := slot_of (a := a9) (s := 32) (v := .pointer (some ⟨g, 0, none⟩)) (hv 0 (by kernel_rfl))
      obtain ⟨l0, l1, l2, l3, l4, l5⟩ := LO.out W hJ
      refine step_run (wanted_none rfl) (v := .int .i64 kd) (w' := W) ?_ (hK _ _ trivial trivial rfl (hJ))
      go_simp
    · clear hsz
      have eS1_ := slot_of (a := a9) (s := 33) (v := .int .i64 kd) (hv 1 (by kernel_rfl))
      refine step_callx 27 #[.int .i64 kd] (wanted_none rfl) (w' := W) ?_ ((CNK.out W hJ).mono fun e W2 hh => ?_)
      · go_simp
      · obtain ⟨rfl, hB⟩ := hh
        exact ⟨_, rfl, hK _ _ trivial trivial rfl hB⟩
    · clear hsz
      have eS1_ := slot_of (a := a9) (s := 1) (v := .pointer (some ⟨g, 0, none⟩)) (hf 1 (by kernel_rfl))
      refine step_run (wanted_none rfl) (v := .pointer (some ⟨g, 1, none⟩)) (w' := W) ?_ (hK _ _ trivial trivial rfl (hJ))
      go_simp
    · clear hsz
      have eS1_ := slot_of (a := a9) (s := 35) (v := .pointer (some ⟨g, 1, none⟩)) (hv 3 (by kernel_rfl))
      obtain ⟨l0, l1, l2, l3, l4, l5⟩ := LO.out W hJ
      refine step_run (wanted_none rfl) (v := .int .i64 fr) (w' := W) ?_ (hK _ _ trivial trivial rfl (hJ))
      go_simp
    · clear hsz
      have eS1_ := slot_of (a := a9) (s := 36) (v := .int .i64 fr) (hv 4 (by kernel_rfl))
      refine step_callx 27 #[.int .i64 fr] (wanted_none rfl) (w' := W) ?_ ((CNF.out W hJ).mono fun e W2 hh => ?_)
      · go_simp
      · obtain ⟨rfl, hB⟩ := hh
        exact ⟨_, rfl, hK _ _ trivial trivial rfl hB⟩
    · clear hsz
      have eS1_ := slot_of (a := a9) (s := 34) (v := .string (strOf sk)) (hv 2 (by kernel_rfl))
      have eS2_ := slot_of (a := a9) (s := 37) (v := .string (strOf sf)) (hv 5 (by kernel_rfl))
      refine step_run (wanted_none rfl) (v := .string (strOf H1)) (w' := W) ?_ (hK _ _ trivial trivial rfl (hJ))
      go_simp
    · clear hsz
      have eS1_ := slot_of (a := a9) (s := 1) (v := .pointer (some ⟨g, 0, none⟩)) (hf 1 (by kernel_rfl))
      refine step_run (wanted_none rfl) (v := .pointer (some ⟨g, 2, none⟩)) (w' := W) ?_ (hK _ _ trivial trivial rfl (hJ))
      go_simp
    · clear hsz
      have eS1_ := slot_of (a := a9) (s := 39) (v := .pointer (some ⟨g, 2, none⟩)) (hv 7 (by kernel_rfl))
      obtain ⟨l0, l1, l2, l3, l4, l5⟩ := LO.out W hJ
      refine step_run (wanted_none rfl) (v := .int .i64 ak) (w' := W) ?_ (hK _ _ trivial trivial rfl (hJ))
      go_simp
    · clear hsz
      have eS1_ := slot_of (a := a9) (s := 40) (v := .int .i64 ak) (hv 8 (by kernel_rfl))
      refine step_callx 28 #[.int .i64 ak] (wanted_none rfl) (w' := W) ?_ ((CNA.out W hJ).mono fun e W2 hh => ?_)
      · go_simp
      · obtain ⟨rfl, hB⟩ := hh
        exact ⟨_, rfl, hK _ _ trivial trivial rfl hB⟩
    · clear hsz
      have eS1_ := slot_of (a := a9) (s := 38) (v := .string (strOf H1)) (hv 6 (by kernel_rfl))
      have eS2_ := slot_of (a := a9) (s := 41) (v := .string (strOf sa)) (hv 9 (by kernel_rfl))
      refine step_run (wanted_none rfl) (v := .string (strOf HD)) (w' := W) ?_ (hK _ _ trivial trivial rfl (hJ))
      go_simp
    · clear hsz
      have eS1_ := slot_of (a := a9) (s := 42) (v := .string (strOf HD)) (hv 10 (by kernel_rfl))
      refine step_run (wanted_none rfl) (v := .string (strOf HD)) (w' := W) ?_ (hK _ _ trivial trivial rfl (hJ))
      go_simp
  · intro f9 w7 hC6 hv6 D6 hD6 hJ6
    obtain ⟨a6, hJ, _⟩ := hJ6
    have e4 : f9 4 = .string (strOf HD) := hv6 11 (by decide)
    have B7 := hidm_ hJ
    clear hv6 hD6 hC6 hJ
    simp only [framed, List.foldl_cons, List.foldl_nil, List.setIfInBounds_toArray, List.set_cons_succ, List.set_cons_zero]
    rw [e4]
    clear e4
    refine hK9 _ _ ?_
    clear hK9 CNK CNF CNA ap1 ap2 ad1 ad2 Bc
    obtain ⟨l0, l1, l2, l3, l4, l5⟩ := LO.out w7 B7.out
    obtain ⟨l6, l7, l8, l9, l10⟩ := HI.out w7 B7.out
    have hkk : kd = 1 ∨ kd = 2 ∨ kd = 3 ∨ kd = 4 ∨ kd = 5 ∨ kd = 6 ∨ kd = 7 := by omega
    clear k1
    rcases hkk with rfl | rfl | rfl | rfl | rfl | rfl | rfl
    · have hS200 : S.length ≤ 200 := HT.out.set
      have hK32 : K.length = 32 := HT.out.k32.1
      obtain ⟨rb, hrb⟩ : ∃ x, krB ⟨K, S⟩ = x := ⟨_, rfl⟩
      have lrb : rb.length ≤ 236 := by rw [← hrb]; unfold krB bytB; rw [List.length_append, List.length_append, highB_len]; simp only; omega
      have crw : Calls Try.prog 29 #[.agg #[.string (strOf K), .string (strOf S)]] w7 fun e w' => e = .returned (.tuple #[.string (strOf rb), .bool true]) ∧ Below w7.heap.size w7 w' := (rrow_any w7 K S (by omega) (by omega)).mono fun e w' hh => ⟨by rw [hh.1, hrb, decide_eq_true (show S.length ≤ 1048576 by omega)], hh.2⟩
      have lhd := LHD.out
      have ap5 := strOf_append HD rb
      have ad5 : (strOf HD).size + (strOf rb).size ≤ 9223372036854775807 := by rw [strOf_size, strOf_size]; omega
      have HRB := hidm_ hrb
      have OK5 := hidm_ hS200
      clear hrb hS200 hK32 lrb lhd
      go_wp2_with (go_at_call 29; ((with_reducible refine crw.mono ?_); clear crw; rintro e w8 ⟨rfl, hb⟩; have B8 := hidm_ (B7.out.trans (hb.mono B7.out.size)); clear hb l0 l1 l2 l3 l4 l5 l6 l7 l8 l9 l10; obtain ⟨l0, l1, l2, l3, l4, l5⟩ := LO.out w8 B8.out; obtain ⟨l6, l7, l8, l9, l10⟩ := HI.out w8 B8.out))
      go_ret2
      exact HYE.out _ (HHD.out _ (by show bodyB _ = rb; unfold bodyB; rw [if_pos (show (RmV.v (⟨1, fr, ak, er, fo, lv, K, S, xs, A1, c1, ds, A2, c2, rs, A3, c3⟩ : RmV)).kind = 1 ∨ (RmV.v (⟨1, fr, ak, er, fo, lv, K, S, xs, A1, c1, ds, A2, c2, rs, A3, c3⟩ : RmV)).kind = 4 from .inl rfl)]; exact HRB.out)) (by unfold BodyOk; rw [if_pos (show (RmV.v (⟨1, fr, ak, er, fo, lv, K, S, xs, A1, c1, ds, A2, c2, rs, A3, c3⟩ : RmV)).kind = 1 ∨ (RmV.v (⟨1, fr, ak, er, fo, lv, K, S, xs, A1, c1, ds, A2, c2, rs, A3, c3⟩ : RmV)).kind = 4 from .inl rfl)]; show S.length ≤ 1048576; have := OK5.out; omega) _ _ rfl B8.out
    · obtain ⟨sv, hsv⟩ : ∃ x, smallL er = x := ⟨_, rfl⟩
      have lsv : sv.length ≤ 1 := by rw [← hsv]; exact small_le _
      have HBZ := hidm_ (show er ≤ 9223372036854775807 from HBD.out.err)
      obtain ⟨d, hd⟩ : ∃ d, decide (0 ≤ er ∧ er ≤ 255) = d := ⟨_, rfl⟩
      have HDD := hidm_ hd
      have CS5 : Hid (∀ W, Below w1.heap.size w1 W → Calls Try.prog 27 #[.int .i64 er] W fun e w' => e = .returned (.string (strOf sv)) ∧ Below w1.heap.size w1 w') := hidm_ (fun W h => (refSmall_any W er HBZ.out).mono fun e w' hh => ⟨by rw [hh.1, hsv], h.trans (hh.2.mono h.size)⟩)
      have CI5 : Hid (∀ W, Below w1.heap.size w1 W → Calls Try.prog 26 #[.int .i64 er, .int .i64 0, .int .i64 255] W fun e w' => e = .returned (.bool d) ∧ Below w1.heap.size w1 w') := hidm_ (fun W h => (rin_any W er 0 255).mono fun e w' hh => ⟨by rw [hh.1, hd], h.trans (hh.2.mono h.size)⟩)
      have HBY := hidm_ (show bodyB (RmV.v (⟨2, fr, ak, er, fo, lv, K, S, xs, A1, c1, ds, A2, c2, rs, A3, c3⟩ : RmV)) = sv by rw [← hsv]; rfl)
      have HOK5 := hidm_ (show BodyOk (RmV.v (⟨2, fr, ak, er, fo, lv, K, S, xs, A1, c1, ds, A2, c2, rs, A3, c3⟩ : RmV)) ↔ (0 ≤ er ∧ er ≤ 255) from ⟨fun h => h, fun h => h⟩)
      have lhd := LHD.out
      have ap5 := strOf_append HD sv
      have ad5 : (strOf HD).size + (strOf sv).size ≤ 9223372036854775807 := by rw [strOf_size, strOf_size]; omega
      clear lhd hsv lsv hd
      go_upto_region 14 with fail
      rename_i K8 hK8
      refine region_byJF [75, 76, 77, 78, 79, 80, 81, 82, 4, 5] (fun _ => True) (fun _ _ => True) (fun jR_ vR_ (wR_ : World) => (match jR_ with | 0 => vR_ = .string (strOf HD) | 1 => vR_ = .pointer (some ⟨g, 3, none⟩) | 2 => vR_ = .int .i64 er | 3 => vR_ = .string (strOf sv) | 4 => vR_ = .string (strOf (HD ++ sv)) | 5 => vR_ = .pointer (some ⟨g, 3, none⟩) | 6 => vR_ = .int .i64 er | 7 => vR_ = .bool d | 8 => vR_ = .string (strOf (HD ++ sv)) | 9 => vR_ = .bool d | _ => True)) (fun D _ W => Below w1.heap.size w1 W) (by kernel_rfl) (by kernel_rfl) (by kernel_rfl) (by kernel_rfl) (fun j v w w' hT hr => hr) (fun j v w hlt hj _ => ?_) trivial ?_ (B7.out.trans (below_drewN (Below.refl _ _) 1)) ?_
      · rcases j with _ | _ | _ | _ | _ | _ | _ | _ | _ | _ | j
        all_goals first
          | (exfalso; simp [dstOf] at hj; done)
          | trivial
      · refine ⟨fun D a9 W hC hd hsz hf hv hJ hL hW K8 hK => ?_, fun D a9 W hC hd hsz hf hv hJ hL hW K8 hK => ?_, fun D a9 W hC hd hsz hf hv hJ hL hW K8 hK => ?_, fun D a9 W hC hd hsz hf hv hJ hL hW K8 hK => ?_, fun D a9 W hC hd hsz hf hv hJ hL hW K8 hK => ?_, fun D a9 W hC hd hsz hf hv hJ hL hW K8 hK => ?_, fun D a9 W hC hd hsz hf hv hJ hL hW K8 hK => ?_, fun D a9 W hC hd hsz hf hv hJ hL hW K8 hK => ?_, fun D a9 W hC hd hsz hf hv hJ hL hW K8 hK => ?_, fun D a9 W hC hd hsz hf hv hJ hL hW K8 hK => ?_, trivial⟩
        · clear hsz
          have eS1_ := slot_of (a := a9) (s := 4) (v := .string (strOf HD)) (hf 4 (by kernel_rfl))
          refine step_run (wanted_none rfl) (v := .string (strOf HD)) (w' := W) ?_ (hK _ _ trivial trivial rfl (hJ))
          go_simp
        · clear hsz
          have eS1_ := slot_of (a := a9) (s := 1) (v := .pointer (some ⟨g, 0, none⟩)) (hf 1 (by kernel_rfl))
          refine step_run (wanted_none rfl) (v := .pointer (some ⟨g, 3, none⟩)) (w' := W) ?_ (hK _ _ trivial trivial rfl (hJ))
          go_simp
        · clear hsz
          have eS1_ := slot_of (a := a9) (s := 76) (v := .pointer (some ⟨g, 3, none⟩)) (hv 1 (by kernel_rfl))
          obtain ⟨l0, l1, l2, l3, l4, l5⟩ := LO.out W hJ
          refine step_run (wanted_none rfl) (v := .int .i64 er) (w' := W) ?_ (hK _ _ trivial trivial rfl (hJ))
          go_simp
        · clear hsz
          have eS1_ := slot_of (a := a9) (s := 77) (v := .int .i64 er) (hv 2 (by kernel_rfl))
          refine step_callx 27 #[.int .i64 er] (wanted_none rfl) (w' := W) ?_ ((CS5.out W hJ).mono fun e W2 hh => ?_)
          · go_simp
          · obtain ⟨rfl, hB⟩ := hh
            exact ⟨_, rfl, hK _ _ trivial trivial rfl hB⟩
        · clear hsz
          have eS1_ := slot_of (a := a9) (s := 75) (v := .string (strOf HD)) (hv 0 (by kernel_rfl))
          have eS2_ := slot_of (a := a9) (s := 78) (v := .string (strOf sv)) (hv 3 (by kernel_rfl))
          refine step_run (wanted_none rfl) (v := .string (strOf (HD ++ sv))) (w' := W) ?_ (hK _ _ trivial trivial rfl (hJ))
          go_simp
        · clear hsz
          have eS1_ := slot_of (a := a9) (s := 1) (v := .pointer (some ⟨g, 0, none⟩)) (hf 1 (by kernel_rfl))
          refine step_run (wanted_none rfl) (v := .pointer (some ⟨g, 3, none⟩)) (w' := W) ?_ (hK _ _ trivial trivial rfl (hJ))
          go_simp
        · clear hsz
          have eS1_ := slot_of (a := a9) (s := 80) (v := .pointer (some ⟨g, 3, none⟩)) (hv 5 (by kernel_rfl))
          obtain ⟨l0, l1, l2, l3, l4, l5⟩ := LO.out W hJ
          refine step_run (wanted_none rfl) (v := .int .i64 er) (w' := W) ?_ (hK _ _ trivial trivial rfl (hJ))
          go_simp
        · clear hsz
          have eS1_ := slot_of (a := a9) (s := 81) (v := .int .i64 er) (hv 6 (by kernel_rfl))
          refine step_callx 26 #[.int .i64 er, .int .i64 0, .int .i64 255] (wanted_none rfl) (w' := W) ?_ ((CI5.out W hJ).mono fun e W2 hh => ?_)
          · go_simp
          · obtain ⟨rfl, hB⟩ := hh
            exact ⟨_, rfl, hK _ _ trivial trivial rfl hB⟩
        · clear hsz
          have eS1_ := slot_of (a := a9) (s := 79) (v := .string (strOf (HD ++ sv))) (hv 4 (by kernel_rfl))
          refine step_run (wanted_none rfl) (v := .string (strOf (HD ++ sv))) (w' := W) ?_ (hK _ _ trivial trivial rfl (hJ))
          go_simp
        · clear hsz
          have eS1_ := slot_of (a := a9) (s := 82) (v := .bool d) (hv 7 (by kernel_rfl))
          refine step_run (wanted_none rfl) (v := .bool d) (w' := W) ?_ (hK _ _ trivial trivial rfl (hJ))
          go_simp
      · intro f9 w8 hC6 hv6 D6 hD6 hJ6
        obtain ⟨a6, hJ, _⟩ := hJ6
        have e2 : f9 4 = .string (strOf (HD ++ sv)) := hv6 8 (by decide)
        have e3 : f9 5 = .bool d := hv6 9 (by decide)
        have B8 := hidm_ hJ
        clear hv6 hD6 hC6 hJ
        simp only [framed, List.foldl_cons, List.foldl_nil, List.setIfInBounds_toArray, List.set_cons_succ, List.set_cons_zero]
        rw [e2, e3]
        clear e2 e3
        refine hK8 _ _ ?_
        clear hK8
        cases d
        · go_wp2
          go_ret2
          exact HBN.out (fun h => (fun h => of_decide_eq_false HDD.out (HOK5.out.1 h)) (HMO.out.1 h)) _ _ rfl B8.out
        · go_wp2
          go_ret2
          exact HYE.out _ (HHD.out _ (HBY.out)) (HOK5.out.2 (of_decide_eq_true HDD.out)) _ _ rfl B8.out
    · have hK32 : K.length = 32 := HT.out.k32.1
      have HBY := hidm_ (show bodyB (RmV.v (⟨3, fr, ak, er, fo, lv, K, S, xs, A1, c1, ds, A2, c2, rs, A3, c3⟩ : RmV)) = K from rfl)
      have lhd := LHD.out
      have ap5 := strOf_append HD K
      have ad5 : (strOf HD).size + (strOf K).size ≤ 9223372036854775807 := by rw [strOf_size, strOf_size]; omega
      clear hK32 lhd
      go_wp2
      go_ret2
      exact HYE.out _ (HHD.out _ (HBY.out)) (trivial) _ _ rfl B7.out
    · have hS200 : S.length ≤ 200 := HT.out.set
      have hK32 : K.length = 32 := HT.out.k32.1
      obtain ⟨rb, hrb⟩ : ∃ x, krB ⟨K, S⟩ = x := ⟨_, rfl⟩
      have lrb : rb.length ≤ 236 := by rw [← hrb]; unfold krB bytB; rw [List.length_append, List.length_append, highB_len]; simp only; omega
      have crw : Calls Try.prog 29 #[.agg #[.string (strOf K), .string (strOf S)]] w7 fun e w' => e = .returned (.tuple #[.string (strOf rb), .bool true]) ∧ Below w7.heap.size w7 w' := (rrow_any w7 K S (by omega) (by omega)).mono fun e w' hh => ⟨by rw [hh.1, hrb, decide_eq_true (show S.length ≤ 1048576 by omega)], hh.2⟩
      have lhd := LHD.out
      have ap5 := strOf_append HD rb
      have ad5 : (strOf HD).size + (strOf rb).size ≤ 9223372036854775807 := by rw [strOf_size, strOf_size]; omega
      have HRB := hidm_ hrb
      have OK5 := hidm_ hS200
      clear hrb hS200 hK32 lrb lhd
      go_wp2_with (go_at_call 29; ((with_reducible refine crw.mono ?_); clear crw; rintro e w8 ⟨rfl, hb⟩; have B8 := hidm_ (B7.out.trans (hb.mono B7.out.size)); clear hb l0 l1 l2 l3 l4 l5 l6 l7 l8 l9 l10; obtain ⟨l0, l1, l2, l3, l4, l5⟩ := LO.out w8 B8.out; obtain ⟨l6, l7, l8, l9, l10⟩ := HI.out w8 B8.out))
      go_ret2
      exact HYE.out _ (HHD.out _ (by show bodyB _ = rb; unfold bodyB; rw [if_pos (show (RmV.v (⟨4, fr, ak, er, fo, lv, K, S, xs, A1, c1, ds, A2, c2, rs, A3, c3⟩ : RmV)).kind = 1 ∨ (RmV.v (⟨4, fr, ak, er, fo, lv, K, S, xs, A1, c1, ds, A2, c2, rs, A3, c3⟩ : RmV)).kind = 4 from .inr rfl)]; exact HRB.out)) (by unfold BodyOk; rw [if_pos (show (RmV.v (⟨4, fr, ak, er, fo, lv, K, S, xs, A1, c1, ds, A2, c2, rs, A3, c3⟩ : RmV)).kind = 1 ∨ (RmV.v (⟨4, fr, ak, er, fo, lv, K, S, xs, A1, c1, ds, A2, c2, rs, A3, c3⟩ : RmV)).kind = 4 from .inr rfl)]; show S.length ≤ 1048576; have := OK5.out; omega) _ _ rfl B8.out
    · have hS200 : S.length ≤ 200 := HT.out.set
      have hK32 : K.length = 32 := HT.out.k32.1
      obtain ⟨rb, hrb⟩ : ∃ x, krB ⟨K, S⟩ = x := ⟨_, rfl⟩
      have lrb : rb.length ≤ 236 := by rw [← hrb]; unfold krB bytB; rw [List.length_append, List.length_append, highB_len]; simp only; omega
      have crw : Calls Try.prog 29 #[.agg #[.string (strOf K), .string (strOf S)]] w7 fun e w' => e = .returned (.tuple #[.string (strOf rb), .bool true]) ∧ Below w7.heap.size w7 w' := (rrow_any w7 K S (by omega) (by omega)).mono fun e w' hh => ⟨by rw [hh.1, hrb, decide_eq_true (show S.length ≤ 1048576 by omega)], hh.2⟩
      obtain ⟨sv, hsv⟩ : ∃ x, smallL fo = x := ⟨_, rfl⟩
      have lsv : sv.length ≤ 1 := by rw [← hsv]; exact small_le _
      obtain ⟨X5, hX5⟩ : ∃ x, sv ++ rb = x := ⟨_, rfl⟩
      have lX5 : X5.length ≤ 237 := by rw [← hX5, List.length_append]; omega
      have ap6 := strOf_append sv rb
      rw [hX5] at ap6
      have ad6 : (strOf sv).size + (strOf rb).size ≤ 9223372036854775807 := by rw [strOf_size, strOf_size]; omega
      have HBY := hidm_ (show bodyB (RmV.v (⟨5, fr, ak, er, fo, lv, K, S, xs, A1, c1, ds, A2, c2, rs, A3, c3⟩ : RmV)) = X5 by rw [← hX5, ← hsv, ← hrb]; rfl)
      have HSV := hidm_ hsv
      obtain ⟨d, hd⟩ : ∃ d, decide (0 ≤ fo ∧ fo ≤ 7) = d := ⟨_, rfl⟩
      have HDD := hidm_ hd
      have HFO := hidm_ (show fo ≤ 9223372036854775807 from HBD.out.for_)
      have HOK5 := hidm_ (show BodyOk (RmV.v (⟨5, fr, ak, er, fo, lv, K, S, xs, A1, c1, ds, A2, c2, rs, A3, c3⟩ : RmV)) ↔ (0 ≤ fo ∧ fo ≤ 7) from ⟨fun h => h.1, fun h => ⟨h, show S.length ≤ 1048576 by omega⟩⟩)
      have lhd := LHD.out
      have ap5 := strOf_append HD X5
      have ad5 : (strOf HD).size + (strOf X5).size ≤ 9223372036854775807 := by rw [strOf_size, strOf_size]; omega
      clear hrb hS200 hK32 lrb lhd hsv lsv hX5 lX5 hd
      cases d
      all_goals
        go_wp2_with (first
          | (go_at_call 29; ((with_reducible refine crw.mono ?_); clear crw; rintro e w8 ⟨rfl, hb⟩; have B8 := hidm_ (B7.out.trans (hb.mono B7.out.size)); clear hb l0 l1 l2 l3 l4 l5 l6 l7 l8 l9 l10; obtain ⟨l0, l1, l2, l3, l4, l5⟩ := LO.out w8 B8.out; obtain ⟨l6, l7, l8, l9, l10⟩ := HI.out w8 B8.out; have cs5 := refSmall_any w8 fo HFO.out; rw [HSV.out] at cs5))
          | (go_at_call 27; ((with_reducible refine cs5.mono ?_); clear cs5; rintro e w9 ⟨rfl, hb⟩; have B9 := hidm_ (B8.out.trans (hb.mono B8.out.size)); clear hb l0 l1 l2 l3 l4 l5 l6 l7 l8 l9 l10; obtain ⟨l0, l1, l2, l3, l4, l5⟩ := LO.out w9 B9.out; have ci5 := rin_any w9 fo 0 7; rw [HDD.out] at ci5))
          | (go_at_call 26; ((with_reducible refine ci5.mono ?_); clear ci5; rintro e wa ⟨rfl, hb⟩; have Ba := hidm_ (B9.out.trans (hb.mono B9.out.size)); clear hb l0 l1 l2 l3 l4 l5)))
        go_ret2
      · exact HBN.out (fun h => (fun h => of_decide_eq_false HDD.out (HOK5.out.1 h)) (HMO.out.1 h)) _ _ rfl Ba.out
      · exact HYE.out _ (HHD.out _ (HBY.out)) (HOK5.out.2 (of_decide_eq_true HDD.out)) _ _ rfl Ba.out
    · obtain ⟨sv, hsv⟩ : ∃ x, smallL lv = x := ⟨_, rfl⟩
      have lsv : sv.length ≤ 1 := by rw [← hsv]; exact small_le _
      have HBZ := hidm_ (show lv ≤ 9223372036854775807 from HBD.out.level)
      obtain ⟨d, hd⟩ : ∃ d, decide (0 ≤ lv ∧ lv ≤ 4) = d := ⟨_, rfl⟩
      have HDD := hidm_ hd
      have CS5 : Hid (∀ W, Below w1.heap.size w1 W → Calls Try.prog 27 #[.int .i64 lv] W fun e w' => e = .returned (.string (strOf sv)) ∧ Below w1.heap.size w1 w') := hidm_ (fun W h => (refSmall_any W lv HBZ.out).mono fun e w' hh => ⟨by rw [hh.1, hsv], h.trans (hh.2.mono h.size)⟩)
      have CI5 : Hid (∀ W, Below w1.heap.size w1 W → Calls Try.prog 26 #[.int .i64 lv, .int .i64 0, .int .i64 4] W fun e w' => e = .returned (.bool d) ∧ Below w1.heap.size w1 w') := hidm_ (fun W h => (rin_any W lv 0 4).mono fun e w' hh => ⟨by rw [hh.1, hd], h.trans (hh.2.mono h.size)⟩)
      obtain ⟨sn, hsn⟩ : ∃ x, smallL (nD : Int) = x := ⟨_, rfl⟩
      have lsn : sn.length ≤ 1 := by rw [← hsn]; exact small_le _
      have CSN : Hid (∀ W, Below w1.heap.size w1 W → Calls Try.prog 27 #[.int .i64 (nD : Int)] W fun e w' => e = .returned (.string (strOf sn)) ∧ Below w1.heap.size w1 w') := hidm_ (fun W h => (refSmall_any W (nD : Int) (by omega)).mono fun e w' hh => ⟨by rw [hh.1, hsn], h.trans (hh.2.mono h.size)⟩)
      obtain ⟨e5, he5⟩ : ∃ d, decide ((nD : Int) ≤ 255) = d := ⟨_, rfl⟩
      have HE5 := hidm_ (show e5 = true ↔ nD ≤ 255 by rw [← he5, decide_eq_true_iff]; omega)
      have cl : Calls Try.prog 30 #[.slice A1 nX c1] w7 _ := rlist_any w7 xs A1 nX c1 HNX.out (by omega) ((HQ.out.ats.below B7.out).more B7.out.size) HBD.out.ats
      obtain ⟨lx, hlx⟩ : ∃ x, lstB xs = x := ⟨_, rfl⟩
      have llx : lx.length ≤ 2081 := by
        rw [← hlx]
        unfold lstB
        rw [List.length_append]
        have h1 := small_le (xs.length : Int)
        have h2 := flatN_le xs
        have h3 := HNX.out
        omega
      have HLX := hidm_ hlx
      clear hlx
      have lhd := LHD.out
      obtain ⟨X1, hX1⟩ : ∃ x, HD ++ sv = x := ⟨_, rfl⟩
      have lX1 : X1.length ≤ 11 := by rw [← hX1, List.length_append]; omega
      have ap5 := strOf_append HD sv
      rw [hX1] at ap5
      have ad5 : (strOf HD).size + (strOf sv).size ≤ 9223372036854775807 := by rw [strOf_size, strOf_size]; omega
      obtain ⟨X2, hX2⟩ : ∃ x, X1 ++ lx = x := ⟨_, rfl⟩
      have lX2 : X2.length ≤ 2092 := by rw [← hX2, List.length_append]; omega
      have ap6 := strOf_append X1 lx
      rw [hX2] at ap6
      have ad6 : (strOf X1).size + (strOf lx).size ≤ 9223372036854775807 := by rw [strOf_size, strOf_size]; omega
      obtain ⟨X3, hX3⟩ : ∃ x, X2 ++ sn = x := ⟨_, rfl⟩
      have lX3 : X3.length ≤ 2093 := by rw [← hX3, List.length_append]; omega
      have ap7 := strOf_append X2 sn
      rw [hX3] at ap7
      have ad7 : (strOf X2).size + (strOf sn).size ≤ 9223372036854775807 := by rw [strOf_size, strOf_size]; omega
      have LX3 := hidm_ lX3
      have HBX := hidm_ (show mgB (RmV.v (⟨6, fr, ak, er, fo, lv, K, S, xs, A1, c1, ds, A2, c2, rs, A3, c3⟩ : RmV)) = X3 ++ ds.flatMap id by
        rw [HHD.out (smallL lv ++ (cntB numL xs ++ cntB id ds)) rfl, ← hX3, ← hX2, ← hX1, ← hsv, ← HLX.out, ← hsn, ← HND.out]
        unfold lstB cntB
        simp only [List.append_assoc])
      have HOK6 := hidm_ (show BodyOk (RmV.v (⟨6, fr, ak, er, fo, lv, K, S, xs, A1, c1, ds, A2, c2, rs, A3, c3⟩ : RmV)) ↔ (0 ≤ lv ∧ lv ≤ 4) ∧ lstOk xs ∧ nD ≤ 255 by
        rw [← HND.out]
        exact Iff.rfl)
      clear hX1 hX2 hX3 hsv hsn lsv lsn hd llx lhd lX3
      go_upto_region 19 with (go_at_call 30; ((with_reducible refine cl.mono ?_); clear cl; rintro e w8 ⟨b, rfl, hbk, hb⟩; rw [HLX.out]; have HBK := hidm_ hbk; have B8 := hidm_ (B7.out.trans (hb.mono B7.out.size)); clear hb hbk l0 l1 l2 l3 l4 l5 l6 l7 l8 l9 l10))
      clear HBZ
      cases b
      case' true =>
        cases d
        case' true =>
          refine region_quiet_in (C := (fun W => Below w1.heap.size w1 W)) (by kernel_rfl) (by kernel_rfl) (Below.drew B8.out) ?_
          go_big_quiet_want
          refine BigFrame.quiet_move _ rfl ?_
          go_simp
          go_big_quiet_on
          go_big_quiet_want
          refine quiet_run (.pointer (some ⟨g, 5, none⟩)) ?_ ?_
          · intro W hW
            go_simp
          go_simp
          go_big_quiet_on
          go_big_quiet_want
          refine quiet_run (.int .i64 lv) ?_ ?_
          · intro W hW
            obtain ⟨l0, l1, l2, l3, l4, l5⟩ := LO.out W hW
            go_simp
          go_simp
          go_big_quiet_on
          go_big_quiet_want
          refine quiet_call (.string (strOf sv)) 27 #[.int .i64 lv] ?_ (CS5.out) ?_
          · intro W
            go_simp
          go_simp
          go_big_quiet_on
          go_big_quiet_want
          refine quiet_run (.string (strOf X1)) ?_ ?_
          · intro W hW
            go_simp
          go_simp
          go_big_quiet_on
          go_big_quiet_want
          refine BigFrame.quiet_move _ rfl ?_
          go_simp
          go_big_quiet_on
          go_big_quiet_want
          refine quiet_run (.string (strOf X2)) ?_ ?_
          · intro W hW
            go_simp
          go_simp
          go_big_quiet_on
          go_big_quiet_want
          refine BigFrame.quiet_move _ rfl ?_
          go_simp
          go_big_quiet_on
          go_big_quiet_want
          refine BigFrame.quiet_move _ rfl ?_
          go_simp
          go_big_quiet_on
          go_big_quiet_want
          refine quiet_run (.pointer (some ⟨g, 5, none⟩)) ?_ ?_
          · intro W hW
            go_simp
          go_simp
          go_big_quiet_on
          go_big_quiet_want
          refine quiet_run (.int .i64 lv) ?_ ?_
          · intro W hW
            obtain ⟨l0, l1, l2, l3, l4, l5⟩ := LO.out W hW
            go_simp
          go_simp
          go_big_quiet_on
          go_big_quiet_want
          refine quiet_call (.bool true) 26 #[.int .i64 lv, .int .i64 0, .int .i64 4] ?_ (CI5.out) ?_
          · intro W
            go_simp
          go_simp
          go_big_quiet_on
          go_big_quiet_want
          refine quiet_run (.bool true) ?_ ?_
          · intro W hW
            go_simp
          go_simp
          go_big_quiet_on
          go_big_quiet_want
          refine BigFrame.quiet_move _ rfl ?_
          go_simp
          go_big_quiet_on
          go_big_quiet_want
          refine quiet_run (.pointer (some ⟨g, 9, none⟩)) ?_ ?_
          · intro W hW
            go_simp
          go_simp
          go_big_quiet_on
          go_big_quiet_want
          refine quiet_run (.slice A2 nD c2) ?_ ?_
          · intro W hW
            obtain ⟨l6, l7, l8, l9, l10⟩ := HI.out W hW
            go_simp
          go_simp
          go_big_quiet_on
          go_big_quiet_want
          refine quiet_run (.int .i64 (nD : Int)) ?_ ?_
          · intro W hW
            go_simp
          go_simp
          go_big_quiet_on
          go_big_quiet_want
          refine quiet_run (.bool e5) ?_ ?_
          · intro W hW
            go_simp
          go_simp
          go_big_quiet_on
          go_big_quiet_want
          refine quiet_run (.bool e5) ?_ ?_
          · intro W hW
            go_simp
          go_simp
          go_big_quiet_on
          go_big_quiet_want
          refine BigFrame.quiet_assign _ rfl ?_
          go_simp
          go_big_quiet_on
          go_big_quiet_want
          refine BigFrame.quiet_assign _ rfl ?_
          go_simp
          go_big_quiet_on
          refine wpQuiet_nil ?_
          intro w9 hw9
          have HOKB := hidm_ (show e5 = true ↔ BodyOk (RmV.v (⟨6, fr, ak, er, fo, lv, K, S, xs, A1, c1, ds, A2, c2, rs, A3, c3⟩ : RmV)) from by rw [HOK6.out, HE5.out]; exact ⟨fun h => ⟨of_decide_eq_true HDD.out, HBK.out.1 rfl, h⟩, fun h => h.2.2⟩)
          generalize e5 = okz at *
        case' false =>
          refine region_quiet_in (C := (fun W => Below w1.heap.size w1 W)) (by kernel_rfl) (by kernel_rfl) (Below.drew B8.out) ?_
          go_big_quiet_want
          refine BigFrame.quiet_move _ rfl ?_
          go_simp
          go_big_quiet_on
          go_big_quiet_want
          refine quiet_run (.pointer (some ⟨g, 5, none⟩)) ?_ ?_
          · intro W hW
            go_simp
          go_simp
          go_big_quiet_on
          go_big_quiet_want
          refine quiet_run (.int .i64 lv) ?_ ?_
          · intro W hW
            obtain ⟨l0, l1, l2, l3, l4, l5⟩ := LO.out W hW
            go_simp
          go_simp
          go_big_quiet_on
          go_big_quiet_want
          refine quiet_call (.string (strOf sv)) 27 #[.int .i64 lv] ?_ (CS5.out) ?_
          · intro W
            go_simp
          go_simp
          go_big_quiet_on
          go_big_quiet_want
          refine quiet_run (.string (strOf X1)) ?_ ?_
          · intro W hW
            go_simp
          go_simp
          go_big_quiet_on
          go_big_quiet_want
          refine BigFrame.quiet_move _ rfl ?_
          go_simp
          go_big_quiet_on
          go_big_quiet_want
          refine quiet_run (.string (strOf X2)) ?_ ?_
          · intro W hW
            go_simp
          go_simp
          go_big_quiet_on
          go_big_quiet_want
          refine BigFrame.quiet_move _ rfl ?_
          go_simp
          go_big_quiet_on
          go_big_quiet_want
          refine BigFrame.quiet_move _ rfl ?_
          go_simp
          go_big_quiet_on
          go_big_quiet_want
          refine quiet_run (.pointer (some ⟨g, 5, none⟩)) ?_ ?_
          · intro W hW
            go_simp
          go_simp
          go_big_quiet_on
          go_big_quiet_want
          refine quiet_run (.int .i64 lv) ?_ ?_
          · intro W hW
            obtain ⟨l0, l1, l2, l3, l4, l5⟩ := LO.out W hW
            go_simp
          go_simp
          go_big_quiet_on
          go_big_quiet_want
          refine quiet_call (.bool false) 26 #[.int .i64 lv, .int .i64 0, .int .i64 4] ?_ (CI5.out) ?_
          · intro W
            go_simp
          go_simp
          go_big_quiet_on
          go_big_quiet_want
          refine quiet_run (.bool false) ?_ ?_
          · intro W hW
            go_simp
          go_simp
          go_big_quiet_on
          go_big_quiet_want
          refine BigFrame.quiet_move _ rfl ?_
          go_simp
          go_big_quiet_on
          go_big_quiet_skip
          go_big_quiet_skip
          go_big_quiet_skip
          go_big_quiet_skip
          go_big_quiet_want
          refine quiet_run (.bool false) ?_ ?_
          · intro W hW
            go_simp
          go_simp
          go_big_quiet_on
          go_big_quiet_want
          refine BigFrame.quiet_assign _ rfl ?_
          go_simp
          go_big_quiet_on
          go_big_quiet_want
          refine BigFrame.quiet_assign _ rfl ?_
          go_simp
          go_big_quiet_on
          refine wpQuiet_nil ?_
          intro w9 hw9
          have HOKB := hidm_ (show false = true ↔ BodyOk (RmV.v (⟨6, fr, ak, er, fo, lv, K, S, xs, A1, c1, ds, A2, c2, rs, A3, c3⟩ : RmV)) from by rw [HOK6.out]; exact ⟨fun h => (by cases h), fun h => absurd h.1 (of_decide_eq_false HDD.out)⟩)
          obtain ⟨okz, hokz⟩ : ∃ x, false = x := ⟨_, rfl⟩
          rw [hokz] at HOKB
          have HZ := hidm_ hokz
          clear hokz
      case' false =>
        refine region_quiet_in (C := (fun W => Below w1.heap.size w1 W)) (by kernel_rfl) (by kernel_rfl) (Below.drew B8.out) ?_
        go_big_quiet_want
        refine BigFrame.quiet_move _ rfl ?_
        go_simp
        go_big_quiet_on
        go_big_quiet_want
        refine quiet_run (.pointer (some ⟨g, 5, none⟩)) ?_ ?_
        · intro W hW
          go_simp
        go_simp
        go_big_quiet_on
        go_big_quiet_want
        refine quiet_run (.int .i64 lv) ?_ ?_
        · intro W hW
          obtain ⟨l0, l1, l2, l3, l4, l5⟩ := LO.out W hW
          go_simp
        go_simp
        go_big_quiet_on
        go_big_quiet_want
        refine quiet_call (.string (strOf sv)) 27 #[.int .i64 lv] ?_ (CS5.out) ?_
        · intro W
          go_simp
        go_simp
        go_big_quiet_on
        go_big_quiet_want
        refine quiet_run (.string (strOf X1)) ?_ ?_
        · intro W hW
          go_simp
        go_simp
        go_big_quiet_on
        go_big_quiet_want
        refine BigFrame.quiet_move _ rfl ?_
        go_simp
        go_big_quiet_on
        go_big_quiet_want
        refine quiet_run (.string (strOf X2)) ?_ ?_
        · intro W hW
          go_simp
        go_simp
        go_big_quiet_on
        go_big_quiet_want
        refine BigFrame.quiet_move _ rfl ?_
        go_simp
        go_big_quiet_on
        go_big_quiet_want
        refine BigFrame.quiet_move _ rfl ?_
        go_simp
        go_big_quiet_on
        go_big_quiet_skip
        go_big_quiet_skip
        go_big_quiet_skip
        go_big_quiet_want
        refine quiet_run (.bool false) ?_ ?_
        · intro W hW
          go_simp
        go_simp
        go_big_quiet_on
        go_big_quiet_want
        refine BigFrame.quiet_move _ rfl ?_
        go_simp
        go_big_quiet_on
        go_big_quiet_skip
        go_big_quiet_skip
        go_big_quiet_skip
        go_big_quiet_skip
        go_big_quiet_want
        refine quiet_run (.bool false) ?_ ?_
        · intro W hW
          go_simp
        go_simp
        go_big_quiet_on
        go_big_quiet_want
        refine BigFrame.quiet_assign _ rfl ?_
        go_simp
        go_big_quiet_on
        go_big_quiet_want
        refine BigFrame.quiet_assign _ rfl ?_
        go_simp
        go_big_quiet_on
        refine wpQuiet_nil ?_
        intro w9 hw9
        have HOKB := hidm_ (show false = true ↔ BodyOk (RmV.v (⟨6, fr, ak, er, fo, lv, K, S, xs, A1, c1, ds, A2, c2, rs, A3, c3⟩ : RmV)) from by rw [HOK6.out]; exact ⟨fun h => (by cases h), fun h => by have := HBK.out.2 h.2.1; cases this⟩)
        obtain ⟨okz, hokz⟩ : ∃ x, false = x := ⟨_, rfl⟩
        rw [hokz] at HOKB
        have HZ := hidm_ hokz
        clear hokz
      all_goals
        have B9 := hidm_ hw9
        clear hw9 B8
        obtain ⟨l6, l7, l8, l9, l10⟩ := HI.out w9 B9.out
        have cs7 := CSN.out w9 B9.out
        clear CS5 CI5 HDD ap5 ad5 ap6 ad6
        go_upto_region 22 with (go_at_call 27; ((with_reducible refine cs7.mono ?_); clear cs7; rintro e wa ⟨rfl, hb⟩; have Ba := hidm_ hb; clear hb l6 l7 l8 l9 l10))
        clear ap7 ad7 CSN lX1 lX2
        go_loopw [4, 10] (fun s i wr => ∃ (k : Nat) (t : List UInt8), k ≤ nD ∧ i = .int .i64 k ∧ s = .string (strOf t) ∧ Hid (t = X3 ++ (ds.take k).flatMap id) ∧ Hid (Below w1.heap.size w1 wr)) (fun _ i _ => nD - (intOf i).toNat)
        case atStart => exact ⟨0, X3, Nat.zero_le _, rfl, rfl, hidm_ (by simp), Ba⟩
        case round =>
          obtain ⟨k, t, hk, rfl, rfl, HTT, HW⟩ := hrel
          clear Ba
          obtain ⟨l6, l7, l8, l9, l10⟩ := HI.out wr HW.out
          by_cases hlt : k < nD
          · have tl : (k : Int) < (nD : Int) := by omega
            have hlk : k < ds.length := by rw [HND.out]; exact hlt
            obtain ⟨bb, off, hA0, hbl, hcb⟩ := HQ.out.digs (show 0 < ds.length by omega)
            have hA : A2 = some ⟨bb, off, none⟩ := hA0
            clear hA0
            rw [hA] at l9
            obtain ⟨z, hz⟩ : ∃ z, ds[k] = z := ⟨_, rfl⟩
            have hcz : wr.cell? ⟨bb, off + k, none⟩ = some (.string (strOf z)) := (HW.out.cell (p := ⟨bb, _, none⟩) hbl).trans (by have hx := hcb k hlk 0 (by decide); rw [hz] at hx; rw [show off + k = off + k * 1 + 0 by omega]; exact hx)
            have hzl : z.length = 32 := HT.out.k32.2.1 z (by rw [← hz]; exact List.getElem_mem hlk)
            have htl : t.length ≤ 2094 + 260 * 32 := by
              rw [HTT.out, List.length_append]
              have h1 := flatB_le id 32 (ds.take k) (fun x hx => Nat.le_of_eq (HT.out.k32.2.1 x (List.mem_of_mem_take hx)))
              have h2 := LX3.out
              have h3 : (ds.take k).length * 32 ≤ 260 * 32 := Nat.mul_le_mul_right _ (by rw [List.length_take]; omega)
              omega
            have HTN := hidm_ (show t ++ z = X3 ++ (ds.take (k + 1)).flatMap id by rw [List.take_succ_eq_append_getElem hlk, hz, List.flatMap_append, HTT.out]; simp)
            have ap8 := strOf_append t z
            have ad8 : (strOf t).size + (strOf z).size ≤ 9223372036854775807 := by rw [strOf_size, strOf_size]; omega
            clear hcb hz hA hzl htl hlk
            go_wp2
            go_roundw
            case rel => exact ⟨k + 1, t ++ z, by omega, by go_num, rfl, HTN, HW⟩
            case measure => simp [intOf]; omega
          · have tl : ¬ (k : Int) < (nD : Int) := by omega
            obtain rfl : nD = k := by omega
            have HMM := hidm_ (show mgB (RmV.v (⟨6, fr, ak, er, fo, lv, K, S, xs, A1, c1, ds, A2, c2, rs, A3, c3⟩ : RmV)) = t by rw [HTT.out, ← HND.out, List.take_length]; exact HBX.out)
            cases okz
            · first
                | (have hno : ¬ MgOk (RmV.v (⟨6, fr, ak, er, fo, lv, K, S, xs, A1, c1, ds, A2, c2, rs, A3, c3⟩ : RmV)) := fun h => by have := HOKB.out.2 (HMO.out.1 h); cases this)
              go_wp2
              go_ret2
              exact HBN.out hno _ _ rfl HW.out
            · first
                | (exact absurd HZ.out (by decide))
                | (go_wp2; go_ret2; exact HYE.out _ HMM.out (HOKB.out.1 (by trivial)) _ _ rfl HW.out)
    · obtain ⟨sn, hsn⟩ : ∃ x, smallL (nR : Int) = x := ⟨_, rfl⟩
      have lsn : sn.length ≤ 1 := by rw [← hsn]; exact small_le _
      have CSN : Hid (∀ W, Below w1.heap.size w1 W → Calls Try.prog 27 #[.int .i64 (nR : Int)] W fun e w' => e = .returned (.string (strOf sn)) ∧ Below w1.heap.size w1 w') := hidm_ (fun W h => (refSmall_any W (nR : Int) (by omega)).mono fun e w' hh => ⟨by rw [hh.1, hsn], h.trans (hh.2.mono h.size)⟩)
      obtain ⟨e5, he5⟩ : ∃ d, decide ((nR : Int) ≤ 255) = d := ⟨_, rfl⟩
      have HE5 := hidm_ (show e5 = true ↔ nR ≤ 255 by rw [← he5, decide_eq_true_iff]; omega)
      have cl : Calls Try.prog 30 #[.slice A1 nX c1] w7 _ := rlist_any w7 xs A1 nX c1 HNX.out (by omega) ((HQ.out.ats.below B7.out).more B7.out.size) HBD.out.ats
      obtain ⟨lx, hlx⟩ : ∃ x, lstB xs = x := ⟨_, rfl⟩
      have llx : lx.length ≤ 2081 := by
        rw [← hlx]
        unfold lstB
        rw [List.length_append]
        have h1 := small_le (xs.length : Int)
        have h2 := flatN_le xs
        have h3 := HNX.out
        omega
      have HLX := hidm_ hlx
      clear hlx
      have lhd := LHD.out
      obtain ⟨X1, hX1⟩ : ∃ x, HD ++ lx = x := ⟨_, rfl⟩
      have lX1 : X1.length ≤ 2091 := by rw [← hX1, List.length_append]; omega
      have ap5 := strOf_append HD lx
      rw [hX1] at ap5
      have ad5 : (strOf HD).size + (strOf lx).size ≤ 9223372036854775807 := by rw [strOf_size, strOf_size]; omega
      obtain ⟨X2, hX2⟩ : ∃ x, X1 ++ sn = x := ⟨_, rfl⟩
      have lX2 : X2.length ≤ 2092 := by rw [← hX2, List.length_append]; omega
      have ap6 := strOf_append X1 sn
      rw [hX2] at ap6
      have ad6 : (strOf X1).size + (strOf sn).size ≤ 9223372036854775807 := by rw [strOf_size, strOf_size]; omega
      have LX2 := hidm_ lX2
      have HBX := hidm_ (show mgB (RmV.v (⟨7, fr, ak, er, fo, lv, K, S, xs, A1, c1, ds, A2, c2, rs, A3, c3⟩ : RmV)) = X2 ++ rs.flatMap krB by
        rw [HHD.out (cntB numL xs ++ cntB krB rs) rfl, ← hX2, ← hX1, ← HLX.out, ← hsn, ← HNR.out]
        unfold lstB cntB
        simp only [List.append_assoc])
      have HOK6 := hidm_ (show BodyOk (RmV.v (⟨7, fr, ak, er, fo, lv, K, S, xs, A1, c1, ds, A2, c2, rs, A3, c3⟩ : RmV)) ↔ lstOk xs ∧ nR ≤ 255 by
        rw [← HNR.out]
        exact ⟨fun h => ⟨h.1, h.2.1⟩, fun h => ⟨h.1, h.2, fun r hr => by have := HT.out.sets r hr; omega⟩⟩)
      clear hX1 hX2 hsn lsn llx lhd lX2
      go_upto_region 27 with (go_at_call 30; ((with_reducible refine cl.mono ?_); clear cl; rintro e w8 ⟨b, rfl, hbk, hb⟩; rw [HLX.out]; have HBK := hidm_ hbk; have B8 := hidm_ (B7.out.trans (hb.mono B7.out.size)); clear hb hbk l0 l1 l2 l3 l4 l5 l6 l7 l8 l9 l10))
      cases b
      case' true =>
        refine region_quiet_in (C := (fun W => Below w1.heap.size w1 W)) (by kernel_rfl) (by kernel_rfl) (Below.drew B8.out) ?_
        go_big_quiet_want
        refine BigFrame.quiet_move _ rfl ?_
        go_simp
        go_big_quiet_on
        go_big_quiet_want
        refine BigFrame.quiet_move _ rfl ?_
        go_simp
        go_big_quiet_on
        go_big_quiet_want
        refine quiet_run (.string (strOf X1)) ?_ ?_
        · intro W hW
          go_simp
        go_simp
        go_big_quiet_on
        go_big_quiet_want
        refine quiet_run (.pointer (some ⟨g, 10, none⟩)) ?_ ?_
        · intro W hW
          go_simp
        go_simp
        go_big_quiet_on
        go_big_quiet_want
        refine quiet_run (.slice A3 nR c3) ?_ ?_
        · intro W hW
          obtain ⟨l6, l7, l8, l9, l10⟩ := HI.out W hW
          go_simp
        go_simp
        go_big_quiet_on
        go_big_quiet_want
        refine quiet_run (.int .i64 (nR : Int)) ?_ ?_
        · intro W hW
          go_simp
        go_simp
        go_big_quiet_on
        go_big_quiet_want
        refine quiet_call (.string (strOf sn)) 27 #[.int .i64 (nR : Int)] ?_ (CSN.out) ?_
        · intro W
          go_simp
        go_simp
        go_big_quiet_on
        go_big_quiet_want
        refine quiet_run (.string (strOf X2)) ?_ ?_
        · intro W hW
          go_simp
        go_simp
        go_big_quiet_on
        go_big_quiet_want
        refine BigFrame.quiet_move _ rfl ?_
        go_simp
        go_big_quiet_on
        go_big_quiet_want
        refine BigFrame.quiet_move _ rfl ?_
        go_simp
        go_big_quiet_on
        go_big_quiet_want
        refine quiet_run (.pointer (some ⟨g, 10, none⟩)) ?_ ?_
        · intro W hW
          go_simp
        go_simp
        go_big_quiet_on
        go_big_quiet_want
        refine quiet_run (.slice A3 nR c3) ?_ ?_
        · intro W hW
          obtain ⟨l6, l7, l8, l9, l10⟩ := HI.out W hW
          go_simp
        go_simp
        go_big_quiet_on
        go_big_quiet_want
        refine quiet_run (.int .i64 (nR : Int)) ?_ ?_
        · intro W hW
          go_simp
        go_simp
        go_big_quiet_on
        go_big_quiet_want
        refine quiet_run (.bool e5) ?_ ?_
        · intro W hW
          go_simp
        go_simp
        go_big_quiet_on
        go_big_quiet_want
        refine quiet_run (.bool e5) ?_ ?_
        · intro W hW
          go_simp
        go_simp
        go_big_quiet_on
        go_big_quiet_want
        refine BigFrame.quiet_assign _ rfl ?_
        go_simp
        go_big_quiet_on
        go_big_quiet_want
        refine BigFrame.quiet_assign _ rfl ?_
        go_simp
        go_big_quiet_on
        refine wpQuiet_nil ?_
        intro w9 hw9
        have HOKB := hidm_ (show e5 = true ↔ BodyOk (RmV.v (⟨7, fr, ak, er, fo, lv, K, S, xs, A1, c1, ds, A2, c2, rs, A3, c3⟩ : RmV)) from by rw [HOK6.out, HE5.out]; exact ⟨fun h => ⟨HBK.out.1 rfl, h⟩, fun h => h.2⟩)
        generalize e5 = okz at *
      case' false =>
        refine region_quiet_in (C := (fun W => Below w1.heap.size w1 W)) (by kernel_rfl) (by kernel_rfl) (Below.drew B8.out) ?_
        go_big_quiet_want
        refine BigFrame.quiet_move _ rfl ?_
        go_simp
        go_big_quiet_on
        go_big_quiet_want
        refine BigFrame.quiet_move _ rfl ?_
        go_simp
        go_big_quiet_on
        go_big_quiet_want
        refine quiet_run (.string (strOf X1)) ?_ ?_
        · intro W hW
          go_simp
        go_simp
        go_big_quiet_on
        go_big_quiet_want
        refine quiet_run (.pointer (some ⟨g, 10, none⟩)) ?_ ?_
        · intro W hW
          go_simp
        go_simp
        go_big_quiet_on
        go_big_quiet_want
        refine quiet_run (.slice A3 nR c3) ?_ ?_
        · intro W hW
          obtain ⟨l6, l7, l8, l9, l10⟩ := HI.out W hW
          go_simp
        go_simp
        go_big_quiet_on
        go_big_quiet_want
        refine quiet_run (.int .i64 (nR : Int)) ?_ ?_
        · intro W hW
          go_simp
        go_simp
        go_big_quiet_on
        go_big_quiet_want
        refine quiet_call (.string (strOf sn)) 27 #[.int .i64 (nR : Int)] ?_ (CSN.out) ?_
        · intro W
          go_simp
        go_simp
        go_big_quiet_on
        go_big_quiet_want
        refine quiet_run (.string (strOf X2)) ?_ ?_
        · intro W hW
          go_simp
        go_simp
        go_big_quiet_on
        go_big_quiet_want
        refine BigFrame.quiet_move _ rfl ?_
        go_simp
        go_big_quiet_on
        go_big_quiet_want
        refine BigFrame.quiet_move _ rfl ?_
        go_simp
        go_big_quiet_on
        go_big_quiet_skip
        go_big_quiet_skip
        go_big_quiet_skip
        go_big_quiet_skip
        go_big_quiet_want
        refine quiet_run (.bool false) ?_ ?_
        · intro W hW
          go_simp
        go_simp
        go_big_quiet_on
        go_big_quiet_want
        refine BigFrame.quiet_assign _ rfl ?_
        go_simp
        go_big_quiet_on
        go_big_quiet_want
        refine BigFrame.quiet_assign _ rfl ?_
        go_simp
        go_big_quiet_on
        refine wpQuiet_nil ?_
        intro w9 hw9
        have HOKB := hidm_ (show false = true ↔ BodyOk (RmV.v (⟨7, fr, ak, er, fo, lv, K, S, xs, A1, c1, ds, A2, c2, rs, A3, c3⟩ : RmV)) from by rw [HOK6.out]; exact ⟨fun h => (by cases h), fun h => by have := HBK.out.2 h.1; cases this⟩)
        obtain ⟨okz, hokz⟩ : ∃ x, false = x := ⟨_, rfl⟩
        rw [hokz] at HOKB
        have HZ := hidm_ hokz
        clear hokz
      all_goals
        have B9 := hidm_ hw9
        clear hw9 B8
        clear CSN ap5 ad5 ap6 ad6 lX1
        go_upto_region 29 with fail
        go_loopw [4, 5, 13] (fun s o i wr => ∃ (k : Nat) (t : List UInt8), k ≤ nR ∧ i = .int .i64 k ∧ s = .string (strOf t) ∧ o = .bool okz ∧ Hid (t = X2 ++ (rs.take k).flatMap krB) ∧ Hid (Below w1.heap.size w1 wr)) (fun _ _ i _ => nR - (intOf i).toNat)
        case atStart => exact ⟨0, X2, Nat.zero_le _, rfl, rfl, by first | rfl | rw [← HZ.out], hidm_ (by simp), B9⟩
        case round =>
          obtain ⟨k, t, hk, rfl, rfl, rfl, HTT, HW⟩ := hrel
          clear B9
          obtain ⟨l6, l7, l8, l9, l10⟩ := HI.out wr HW.out
          by_cases hlt : k < nR
          · have tl : (k : Int) < (nR : Int) := by omega
            have hlk : k < rs.length := by rw [HNR.out]; exact hlt
            obtain ⟨bb, off, hA0, hbl, hcb⟩ := HQ.out.rows (show 0 < rs.length by omega)
            have hA : A3 = some ⟨bb, off, none⟩ := hA0
            clear hA0
            rw [hA] at l10
            obtain ⟨z, hz⟩ : ∃ z, rs[k] = z := ⟨_, rfl⟩
            have hc0 : wr.cell? ⟨bb, off + k * 2, none⟩ = some (.string (strOf z.key)) := (HW.out.cell (p := ⟨bb, _, none⟩) hbl).trans (by have hx := hcb k hlk 0 (by decide); rw [hz] at hx; exact hx)
            have hc1 : wr.cell? ⟨bb, off + k * 2 + 1, none⟩ = some (.string (strOf z.set)) := (HW.out.cell (p := ⟨bb, _, none⟩) hbl).trans (by have hx := hcb k hlk 1 (by decide); rw [hz] at hx; exact hx)
            have hzm : z ∈ rs := by rw [← hz]; exact List.getElem_mem hlk
            have hzk : z.key.length = 32 := HT.out.k32.2.2 z hzm
            have hzs : z.set.length ≤ 60 := HT.out.sets z hzm
            have hall : ∀ x ∈ rs, (krB x).length ≤ 96 := fun x hx => by
              have := HT.out.k32.2.2 x hx; have := HT.out.sets x hx
              unfold krB bytB
              rw [List.length_append, List.length_append, highB_len]
              omega
            have htl : t.length ≤ 2094 + 260 * 96 := by
              rw [HTT.out, List.length_append]
              have h1 := flatB_le krB 96 (rs.take k) (fun x hx => hall x (List.mem_of_mem_take hx))
              have h2 := LX2.out
              have h3 : (rs.take k).length * 96 ≤ 260 * 96 := Nat.mul_le_mul_right _ (by rw [List.length_take]; omega)
              omega
            have hzl := hall z hzm
            have crw : Calls Try.prog 29 #[.agg #[.string (strOf z.key), .string (strOf z.set)]] wr fun e w' => e = .returned (.tuple #[.string (strOf (krB z)), .bool true]) ∧ Below wr.heap.size wr w' := (rrow_any wr z.key z.set (by omega) (by omega)).mono fun e w' hh => ⟨by rw [hh.1, decide_eq_true (show z.set.length ≤ 1048576 by omega)], hh.2⟩
            have HTN := hidm_ (show t ++ krB z = X2 ++ (rs.take (k + 1)).flatMap krB by rw [List.take_succ_eq_append_getElem hlk, hz, List.flatMap_append, HTT.out]; simp)
            obtain ⟨zb, hzb⟩ : ∃ x, krB z = x := ⟨_, rfl⟩
            rw [hzb] at crw HTN hzl
            have ap8 := strOf_append t zb
            have ad8 : (strOf t).size + (strOf zb).size ≤ 9223372036854775807 := by rw [strOf_size, strOf_size]; omega
            clear hcb hz hA hzm hzk hzs hall htl hzl hlk hzb
            cases okz
            all_goals
              go_wp2_with (go_at_call 29; ((with_reducible refine crw.mono ?_); clear crw; rintro e wa ⟨rfl, hb⟩; have Ba := hidm_ (HW.out.trans (hb.mono HW.out.size)); clear hb))
              go_roundw
              case rel => exact ⟨k + 1, t ++ zb, by omega, by go_num, rfl, rfl, HTN, Ba⟩
              case measure => simp [intOf]; omega
          · have tl : ¬ (k : Int) < (nR : Int) := by omega
            obtain rfl : nR = k := by omega
            have HMM := hidm_ (show mgB (RmV.v (⟨7, fr, ak, er, fo, lv, K, S, xs, A1, c1, ds, A2, c2, rs, A3, c3⟩ : RmV)) = t by rw [HTT.out, ← HNR.out, List.take_length]; exact HBX.out)
            cases okz
            · have hno : ¬ MgOk (RmV.v (⟨7, fr, ak, er, fo, lv, K, S, xs, A1, c1, ds, A2, c2, rs, A3, c3⟩ : RmV)) := fun h => by have := HOKB.out.2 (HMO.out.1 h); cases this
              go_wp2
              go_ret2
              exact HBN.out hno _ _ rfl HW.out
            · first
                | (exact absurd HZ.out (by decide))
                | (go_wp2; go_ret2; exact HYE.out _ HMM.out (HOKB.out.1 (by trivial)) _ _ rfl HW.out)
end Go.Proofs.Ytnlipmcnpekifaa
